import PyProof.Rows.All
import Wide.All
import OpenK.AllK
import Wide.FinOn
import Lean
import PyProof.EqAt
import PyProof.EqKinds
import PyProof.TupleCall
import PyProof.P3Eq
import PyProof.P3In
import PyProof.NeData
import PyProof.FitsBits
import PySem.Challenge.RW_leadtimes_k36_leaders_of_races
noncomputable section
set_option compiler.extract_closed false
set_option Elab.async false
set_option linter.all false
set_option maxRecDepth 100000
namespace L2
open PySem PySem.Spec PyProof.Rows
abbrev Key:=Sum Int Str
noncomputable def a6J:Key→Value→Bool
 | .inl k,v=>Value.isInt k v
 | .inr x,v=>Value.isStrOf x v
noncomputable def aPG (w:World):Key→Int
 | .inl k=>hashInt k
 | .inr x=>hashStr w x
theorem cM:∀{k:Key} {v:Value},a6J k v=true→(∃ i t,k=Sum.inl i∧v=Value.int i t)∨(∃ x t,k=Sum.inr x∧v=Value.str x t)
 | .inl i,v,h=>by
  obtain⟨t,e⟩:=Value.isInt_shape (k:=i) (v:=v) h;exact .inl ⟨i,t,rfl,e⟩
 | .inr x,v,h=>by
  obtain⟨t,e⟩:=Value.isStrOf_shape (x:=x) (v:=v) h;exact .inr ⟨x,t,rfl,e⟩
theorem aAY (i:Int)(t:Tok):a6J (.inl i) (.int i t)=true:=by simp[a6J,Value.isInt]
theorem aB9 (x:Str)(t:Tok):a6J (.inr x) (.str x t)=true:=by simp[a6J,Value.isStrOf]
theorem aJ7 (a b:Int):decide ((Sum.inl a:Key)=Sum.inl b)=(a==b):=by
 by_cases e:a=b
 ·subst e; simp
 ·have h:¬(Sum.inl a:Key)=Sum.inl b:=fun q=>e (Sum.inl.inj q);rw[decide_eq_false h];exact(beq_eq_false_iff_ne.mpr e).symm
theorem aLF (a b:Str):decide ((Sum.inr a:Key)=Sum.inr b)=decide (a=b):=by
 by_cases e:a=b
 ·subst e; simp
 ·have h:¬(Sum.inr a:Key)=Sum.inr b:=fun q=>e (Sum.inr.inj q);rw[decide_eq_false h,decide_eq_false e]
theorem aJH (a:Int)(b:Str):decide ((Sum.inl a:Key)=Sum.inr b)=false:=decide_eq_false (fun q=>nomatch q)
theorem aK5 (a:Str)(b:Int):decide ((Sum.inr a:Key)=Sum.inl b)=false:=decide_eq_false (fun q=>nomatch q)
noncomputable def dJ (prog:Program)(w:World):PySem.KeyKind prog w Key where
 is:=a6J
 hash:=aPG w
 inj:=fun v a b ha hb=>by
  rcases cM ha with⟨i,t,rfl,rfl⟩|⟨x,t,rfl,rfl⟩
  ·rcases cM hb with⟨j,u,rfl,e⟩|⟨y,u,rfl,e⟩
   ·injection e with e1 _; rw[e1]
   ·exact nomatch e
  ·rcases cM hb with⟨j,u,rfl,e⟩|⟨y,u,rfl,e⟩
   ·exact nomatch e
   ·injection e with e1 _; rw[e1]
 byValue:=fun k v h=>by
  rcases cM h with⟨i,t,rfl,rfl⟩|⟨x,t,rfl,rfl⟩<;>rfl
 pyHash:=fun hv h=>by
  rcases cM hv with⟨i,t,rfl,rfl⟩|⟨x,t,rfl,rfl⟩
  ·exact wpAny_pyHash_int h
  ·exact wpAny_pyHash_str h
 eqBool:=fun hu hv h=>by
  rcases cM hu with⟨i,t,rfl,rfl⟩|⟨x,t,rfl,rfl⟩
  ·rcases cM hv with⟨j,u,rfl,rfl⟩|⟨y,u,rfl,rfl⟩
   ·rw[aJ7] at h; exact wpAny_eqBool_int h
   ·rw[aJH] at h; exact SeqAt.EqAt.int_str i t y u _ _ _ _ h
  ·rcases cM hv with⟨j,u,rfl,rfl⟩|⟨y,u,rfl,rfl⟩
   ·rw[aK5] at h; exact SeqAt.EqAt.str_int x t j u _ _ _ _ h
   ·rw[aLF] at h; exact wpAny_eqBool_str h
 «strs»:=fun k x t v h=>by
  rcases cM h with⟨i,u,rfl,e⟩|⟨y,u,rfl,e⟩
  ·exact nomatch e
  ·injection e with e1 _;subst e1
   cases v<;>rfl
theorem tZ (prog:Program)(w:World)(k:Key)(v:Value):(dJ prog w).is k v=a6J k v:=rfl
theorem a72 (prog:Program)(w:World)(i:Int)(t:Tok):(dJ prog w).is (.inl i) (.int i t)=true:=aAY i t
theorem a65 (prog:Program)(w:World)(x:Str)(t:Tok):(dJ prog w).is (.inr x) (.str x t)=true:=aB9 x t
end L2
namespace L2
open PySem PySem.Spec PyProof.Rows
inductive V where
 | non|bl (b:Bool)|int (i:Int)|str (x:Str)|byt (b:Array UInt8)|flt (b:UInt64)|ref (a:Addr)|ty (n:String)
 deriving DecidableEq
noncomputable def RelV:V→Value→Prop
 | .non,u=>u=Value.none
 | .bl b,u=>u=Value.bool b
 | .int i,u=>∃ t,u=Value.int i t
 | .str x,u=>∃ t,u=Value.str x t
 | .byt b,u=>∃ t,u=Value.bytes b t
 | .flt b,u=>∃ t,u=Value.float b t
 | .ref a,u=>u=Value.ref a
 | .ty n,u=>u=Value.type n
abbrev Vals:List V→List Value→Prop:=Paired RelV
theorem Vals.length {xs:List V}{us:List Value}(r:Vals xs us):xs.length=us.length:=Paired.length r
theorem Vals.get:∀{xs:List V} {us:List Value} {i:Nat} {x:V},Vals xs us→xs[i]?=some x→∃ u,us[i]?=some u∧RelV x u
 | _,_,_,_,.nil,e=>by simp at e
 | _,_,0,_,.cons r _,e=>by simp at e; subst e; exact⟨_,rfl,r⟩
 | _,_,i+1,x,.cons _ t,e=>by
  obtain⟨u,h1,h2⟩:=Vals.get (i:=i) (x:=x) t (by simpa using e);exact⟨u,by simpa using h1,h2⟩
theorem Vals.set {x:V}{u:Value}(r:RelV x u):∀{xs:List V} {us:List Value} (i:Nat),Vals xs us→Vals (xs.set i x) (us.set i u)
 | _,_,_,.nil=>.nil
 | _,_,0,.cons _ t=>.cons r t
 | _,_,i+1,.cons q t=>.cons q (Vals.set r i t)
theorem Vals.append:∀{xs ys:List V} {us ws:List Value},Vals xs us→Vals ys ws→Vals (xs++ys) (us++ws):=by
 intro xs ys us ws h q
 induction h with
 | nil=>exact q
 | cons r t ih=>exact .cons r ih
theorem Vals.take:∀{xs:List V} {us:List Value} (n:Nat),Vals xs us→Vals (xs.take n) (us.take n)
 | _,_,0,_=>.nil
 | _,_,_+1,.nil=>.nil
 | _,_,n+1,.cons r t=>.cons r (Vals.take n t)
theorem Vals.drop:∀{xs:List V} {us:List Value} (n:Nat),Vals xs us→Vals (xs.drop n) (us.drop n)
 | _,_,0,r=>r
 | _,_,_+1,.nil=>.nil
 | _,_,n+1,.cons _ t=>Vals.drop n t
noncomputable def RelO:Option V→Option Value→Prop
 | some v,some u=>RelV v u
 | none,none=>True
 | _,_=>False
noncomputable def KV {κ:Type}:List (κ×V)→List (κ×Value)→Prop:=Paired fun(p:κ×V) (q:κ×Value)=>p.1=q.1∧RelV p.2 q.2
noncomputable def kV:Key→V
 | .inl i=>.int i
 | .inr x=>.str x
inductive HO where
 | lst (xs:List V)
 | tup (xs:List V)
 | dK (kvs:List (Key×V))|dT (kvs:List (List Key×V))
 | set (S:Int→Bool) (n:Nat)
 | ins (C dx:Addr) (fs:List (Str×V))
 | own (x:Addr)
 | xd (fs:List (Str×V))
 | met (f x:Addr)
 | rng (lo hi:Int)
 | frz (o:Obj) (u:HO)
 | tbl (ps:Array Value)
 | ext (φ:Heap→Prop)
abbrev Hp:=Addr→Option HO
noncomputable def upd (H:Hp)(a:Addr)(o:HO):Hp:=fun b=>if b=a then some o else H b
theorem bA {H:Hp}{a:Addr}{o:HO}:upd H a o a=some o:=by unfold upd; rw[if_pos rfl]
theorem aY {H:Hp}{a b:Addr}{o:HO}(h:b≠a):upd H a o b=H b:=by unfold upd; rw[if_neg h]
theorem a9F {H:Hp}{a b:Addr}{o u:HO}(h:H a=some o)(h':H b=some u)(d:o≠u):a≠b:=by
 intro e; subst e; rw[h] at h'; exact d (Option.some.inj h')
theorem bJ {H:Hp}{a b:Addr}{o:HO}(h:H a=some o)(h':H b=none):a≠b:=by
 intro e; subst e; rw[h] at h'; cases h'
section
variable (P:Program)(w:World)
noncomputable def ObjOk (H:Hp)(h:Heap)(a:Addr):HO→Prop
 | .lst xs=>xs.length≤sizeLine∧∃(its:List Value) (n:Nat),Vals xs its∧h.get? a=some { cls:=.type "list", data:=.seq its.toArray n }
 | .tup xs=>xs.length≤sizeLine∧∃ its:List Value,Vals xs its∧IsTup h a its.toArray
 | .dK kvs=>kvs.length≤sizeLine∧(a==sysModules)=false∧∃ vs,KV kvs vs∧h.DictOf (dJ P w) a vs
 | .dT kvs=>kvs.length≤sizeLine∧(a==sysModules)=false∧∃ xs:List (List Key×Addr×Value),
   Paired (fun(p:List Key×V) (q:List Key×Addr×Value)=>p.1=q.1∧H q.2.1=some (.tup (p.1.map kV))∧RelV p.2 q.2.2) kvs xs ∧
   ∃ o es ep,h.get? a=some o∧o.ExactDict∧o.data=.dict es ep∧es.toList=xs.map (entryOfKey (tupleKind (dJ P w)))∧(xs.map (·.1)).Nodup
 | .set S n=>h.SetOf (intKind P w) a S n
 | .ins C dx fs=>H dx=some (.own a)∧fs.length≤1000∧dx≠a∧h.get? a=some (PySem.W.instObj C dx) ∧
   ∃ mA,h.Ns1 dx mA∧(∀ f,RelO (fs.lookup f) (mA f))∧PySem.Within mA (fs.map (·.1))
 | .own _=>∃ o,h.get? a=some o
 | .xd fs=>∃ mA,h.Ns1 a mA∧∀ f,RelO (fs.lookup f) (mA f)
 | .rng lo hi=>∃ t u v,h.get? a=some { cls:=.type "range", data:=.fields #[.int lo t,.int hi u,.int 1 v] }
 | .frz o u=>h.get? a=some o∧ObjOk H h a u
 | .tbl ps=>h.get? a=some { cls:=.none,data:=.fields ps }
 | .met f x=>h.get? a=some (PySem.W.methodObj (.ref f) (.ref x))
 | .ext φ=>φ h∧(∃ o,h.get? a=some o)∧∀ h1 h2:Heap,φ h1→(∀ o,h1.get? a=some o→h2.get? a=some o)→φ h2
noncomputable def HOk (H:Hp)(h:Heap):Prop:=∀ a o,H a=some o→ObjOk P w H h a o
end
section
variable {P:Program}{w:World}{H H':Hp}{h h':Heap}{a:Addr}{o:HO}
theorem ObjOk.lt (x:ObjOk P w H h a o):a<h.objs.size:=by
 cases o with
 | lst xs=>obtain⟨_,_,_,_,e⟩:=x; exact Heap.lt_size e
 | tup xs=>obtain⟨_,_,_,p⟩:=x; exact p.lt
 | dK kvs=>obtain⟨_,_,_,_,o,_,_,e,_⟩:=x; exact Heap.lt_size e
 | dT kvs=>obtain⟨_,_,_,_,o,_,_,e,_⟩:=x; exact Heap.lt_size e
 | set S n=>obtain⟨o,_,_,_,e,_⟩:=x; exact Heap.lt_size e
 | ins C dx fs=>obtain⟨_,_,_,e,_⟩:=x; exact Heap.lt_size e
 | own y=>obtain⟨_,e⟩:=x; exact Heap.lt_size e
 | xd fs=>obtain⟨_,⟨_,_,_,e,_⟩,_⟩:=x; exact Heap.lt_size e
 | rng lo hi=>obtain⟨_,_,_,e⟩:=x; exact Heap.lt_size e
 | frz ob u=>obtain⟨e,_⟩:=x; exact Heap.lt_size e
 | tbl ps=>exact Heap.lt_size (show h.get? a=some _ from x)
 | met f y=>exact Heap.lt_size (show h.get? a=some _ from x)
 | ext φ=>obtain⟨_,⟨_,e⟩,_⟩:=x; exact Heap.lt_size e
theorem Paired.mapP {α β:Type}{F G:α→β→Prop}:∀{l₁:List α} {l₂:List β},Paired F l₁ l₂→(∀ a b,F a b→G a b)→Paired G l₁ l₂:=by
 intro l₁ l₂ h f
 induction h with
 | nil=>exact .nil
 | cons r t ih=>exact .cons (f _ _ r) ih
theorem Paired.imp' {α β:Type}{F G:α→β→Prop}(f:∀ a b,F a b→G a b){l₁:List α}{l₂:List β}(r:Paired F l₁ l₂):Paired G l₁ l₂:=Paired.mapP r f
theorem ObjOk.stay (x:ObjOk P w H h a o)(k:∀ b u,(b=a∨H b=some (.own a))→h.get? b=some u→h'.get? b=some u)
  (ho:∀ b,H b=some (.own a)→H' b=some (.own a)) (ht:∀ b xs,H b=some (.tup xs)→H' b=some (.tup xs)):ObjOk P w H' h' a o:=by
 induction o with
 | lst xs=>obtain⟨z,its,n,r,e⟩:=x; exact⟨z,its,n,r,k _ _ (.inl rfl) e⟩
 | tup xs=>obtain⟨z,its,r,ob,e,c⟩:=x; exact⟨z,its,r,ob,k _ _ (.inl rfl) e,c⟩
 | dK kvs=>obtain⟨z,y,vs,r,ob,es,ep,e,c⟩:=x; exact⟨z,y,vs,r,ob,es,ep,k _ _ (.inl rfl) e,c⟩
 | dT kvs=>
  obtain⟨z,y,xs,r,ob,es,ep,e,c⟩:=x;exact⟨z,y,xs,Paired.mapP r fun p q z=>⟨z.1,ht _ _ z.2.1,z.2.2⟩,ob,es,ep,k _ _ (.inl rfl) e,c⟩
 | set S n=>obtain⟨ob,es,ep,t,e,c⟩:=x; exact⟨ob,es,ep,t,k _ _ (.inl rfl) e,c⟩
 | ins C dx fs=>
  obtain⟨d,z,ne,e,mA,⟨od,es,ep,e2,c⟩,r⟩:=x;exact⟨ho _ d,z,ne,k _ _ (.inl rfl) e,mA,⟨od,es,ep,k _ _ (.inr d) e2,c⟩,r⟩
 | own y=>obtain⟨ob,e⟩:=x; exact⟨ob,k _ _ (.inl rfl) e⟩
 | xd fs=>obtain⟨mA,⟨od,es,ep,e,c⟩,r⟩:=x; exact⟨mA,⟨od,es,ep,k _ _ (.inl rfl) e,c⟩,r⟩
 | rng lo hi=>obtain⟨t,u,v,e⟩:=x; exact⟨t,u,v,k _ _ (.inl rfl) e⟩
 | frz ob u ih=>obtain⟨e,q⟩:=x; exact⟨k _ _ (.inl rfl) e,ih q⟩
 | tbl ps=>
  have e:h.get? a=some { cls:=.none,data:=.fields ps }:=x;show h'.get? a=some { cls:=.none,data:=.fields ps };exact k a _ (.inl rfl) e
 | met f y=>
  have e:h.get? a=some (PySem.W.methodObj (.ref f) (.ref y)):=x;show h'.get? a=some (PySem.W.methodObj (.ref f) (.ref y));exact k a _ (.inl rfl) e
 | ext φ=>obtain⟨p,⟨o,e⟩,st⟩:=x; exact⟨st _ _ p fun o q=>k _ _ (.inl rfl) q,⟨o,k _ _ (.inl rfl) e⟩,st⟩
theorem HOk.lt (x:HOk P w H h)(e:H a=some o):a<h.objs.size:=(x a o e).lt
theorem HOk.fresh (x:HOk P w H h)(e:h.objs.size≤a):H a=none:=by
 cases q:H a with
 | none=>rfl
 | some u=>exact absurd (Nat.lt_of_lt_of_le (x.lt q) e) (Nat.lt_irrefl _)
theorem HOk.kept (x:HOk P w H h)(k:∀ b u,h.get? b=some u→h'.get? b=some u):HOk P w H h':=fun a o e=>
 (x a o e).stay (fun b u _ q=>k b u q) (fun _ q=>q) fun _ _ q=>q
theorem HOk.laid (x:HOk P w H h)(k:∀ b u,h.get? b=some u→h'.get? b=some u)(hp:h.objs.size≤a)(new:ObjOk P w (upd H a o) h' a o):HOk P w (upd H a o) h':=fun b u e=>by
 have hn:=x.fresh hp
 by_cases hb:b=a
 ·subst hb; rw[bA] at e; cases e; exact new
 ·rw[aY hb] at e;exact(x b u e).stay (fun c v _ q=>k c v q) (fun c q=>by rw[aY (bJ q hn)]; exact q) fun c xs q=>by rw[aY (bJ q hn)]; exact q
end
noncomputable def Rd (H:Hp)(a:Addr)(u:HO):Prop:=H a=some u∨∃ o,H a=some (.frz o u)
theorem Rd.ok {P:Program}{w:World}{H:Hp}{h:Heap}{a:Addr}{u:HO}(r:Rd H a u)(x:HOk P w H h):ObjOk P w H h a u:=by
 rcases r with r|⟨o,r⟩
 ·exact x a u r
 ·obtain⟨_,q⟩:=x a _ r;exact q
noncomputable def Mut:Option HO→Prop
 | some (.lst _)=>True
 | some (.dK _)=>True
 | some (.dT _)=>True
 | some (.set _ _)=>True
 | some (.ins _ _ _)=>True
 | some (.ext _)=>True
 | _=>False
section
variable {P:Program}{w:World}{H:Hp}{h h':Heap}{x e:Addr}{o':HO}
theorem HOk.write (ok:HOk P w H h)(mu:Mut (H x))(he:e=x∨H e=some (.own x))(k:∀ b u,b≠e→h.get? b=some u→h'.get? b=some u)(heo:∃ u,h'.get? e=some u)
  (new:ObjOk P w (upd H x o') h' x o'):HOk P w (upd H x o') h':=fun b u q=>by
 have nown:∀ c y,H c=some (.own y)→c≠x:=fun c y r z=>by subst z; rw[r] at mu; exact mu
 have ntup:∀ c xs,H c=some (.tup xs)→c≠x:=fun c xs r z=>by subst z; rw[r] at mu; exact mu
 by_cases hb:b=x
 ·subst hb; rw[bA] at q; cases q; exact new
 ·rw[aY hb] at q
  by_cases hbe:b=e
  ·have q':H b=some (.own x):=by
    rcases he with z|z
    ·exact absurd (hbe.trans z) hb
    ·rw[hbe]; exact z
   rw[q] at q'; cases q';obtain⟨v,hv⟩:=heo;exact⟨v,by rw[hbe]; exact hv⟩
  ·refine(ok b u q).stay (fun c v hc r=>k c v ?_ r) (fun c r=>by rw[aY (nown c b r)]; exact r) fun c xs r=>by rw[aY (ntup c xs r)]; exact r
   rcases hc with rfl|hc
   ·exact hbe
   ·rintro rfl;rcases he with z|z
    ·exact nown c b hc z
    ·rw[hc] at z; cases z; exact hb rfl
end
structure Un (fs ex:List Addr)(H H':Hp)(h h':Heap):Prop where
 keep:∀ b o,h.get? b=some o→H b=none→b∉fs→b∉ex→h'.get? b=some o
 slot:∀ b o,h.get? b=some o→H b=none→b∈fs→b∉ex→∃ sl,h'.get? b=some { o with slots:=sl }
 free:∀ b o,h.get? b=some o→H b=none→b∉ex→H' b=none
 there:∀ b o,h.get? b=some o→b∉ex→∃ o',h'.get? b=some o'
 tups:∀ b xs,H b=some (.tup xs)→H' b=some (.tup xs)
 frzs:∀ b o u,H b=some (.frz o u)→H' b=some (.frz o u)
 tbls:∀ b ps,H b=some (.tbl ps)→∃ more,H' b=some (.tbl (ps++more))
section
variable {fs fs' ex ex':List Addr}{H H1 H2:Hp}{h h1 h2 h':Heap}{a x e:Addr}{o:HO}
theorem Un.any (u:Un fs ex H H1 h h1){b:Addr}{ob:Obj}(q:h.get? b=some ob)(n:H b=none)(hx:b∉ex):∃ sl,h1.get? b=some { ob with slots:=sl }:=by
 by_cases hb:b∈fs
 ·exact u.slot b ob q n hb hx
 ·exact⟨ob.slots,u.keep b ob q n hb hx⟩
theorem Un.kept (k:∀ b u,h.get? b=some u→h'.get? b=some u):Un fs ex H H h h':=
 ⟨fun b ob q _ _ _=>k b ob q,fun b ob q _ _ _=>⟨ob.slots,k b ob q⟩,fun _ _ _ n _=>n,fun b ob q _=>⟨ob,k b ob q⟩,fun _ _ q=>q,fun _ _ _ q=>q,fun _ ps q=>⟨#[],by rw[q]; simp⟩⟩
theorem Un.refl:Un fs ex H H h h:=Un.kept fun _ _ q=>q
theorem Un.laid (k:∀ b u,h.get? b=some u→h'.get? b=some u)(hp:h.objs.size≤a)(hn:H a=none):Un fs ex H (upd H a o) h h' where
 keep:=fun b u q _ _ _=>k b u q
 slot:=fun b u q _ _ _=>⟨u.slots,k b u q⟩
 free:=fun b u q n _=>by rw[aY (Nat.ne_of_lt (Nat.lt_of_lt_of_le (Heap.lt_size q) hp))]; exact n
 there:=fun b u q _=>⟨u,k b u q⟩
 tups:=fun b xs q=>by rw[aY (bJ q hn)]; exact q
 frzs:=fun b u xs q=>by rw[aY (bJ q hn)]; exact q
 tbls:=fun b ps q=>⟨#[],by rw[aY (bJ q hn),q]; simp⟩
theorem Un.write (mu:Mut (H x))(he:e=x∨H e=some (.own x))(k:∀ b u,b≠e→h.get? b=some u→h'.get? b=some u)(heo:∃ u,h'.get? e=some u):Un fs ex H (upd H x o) h h':=by
 have hx:∀ b,H b=none→b≠x:=fun b n z=>by subst z; rw[n] at mu; exact mu
 have hb:∀ b,H b=none→b≠e:=fun b n z=>by
  subst z;rcases he with r|r
  ·exact hx b n r
  ·rw[n] at r; cases r
 have hm:∀ b u,H b=some u→¬Mut (some u)→b≠x:=fun b u q nm z=>by subst z; rw[q] at mu; exact nm mu
 refine⟨fun b u q n _ _=>k b u (hb b n) q,fun b u q n _ _=>⟨u.slots,k b u (hb b n) q⟩,fun b u q n _=>by rw[aY (hx b n)]; exact n,fun b u q _=>?_,
  fun b xs q=>by rw[aY (hm b _ q fun z=>z)]; exact q,fun b u xs q=>by rw[aY (hm b _ q fun z=>z)]; exact q,fun b ps q=>⟨#[],by rw[aY (hm b _ q fun z=>z),q]; simp⟩⟩
 by_cases hbe:b=e
 ·subst hbe; exact heo
 ·exact⟨u,k b u hbe q⟩
end
noncomputable def trk (h:Heap)(H:Hp):List Addr:=(List.range h.objs.size).filter fun a=>(H a).isSome
noncomputable def aE0 (h:Heap)(H:Hp):Heap:=PySem.W.hideAll h (trk h H)
theorem aAV (h:Heap)(H:Hp):(aE0 h H).objs.size=h.objs.size:=PySem.W.hideAll_size _ _
theorem aF9 {h:Heap}{H:Hp}{b:Addr}{o:Obj}(e:h.get? b=some o)(n:H b=none):(aE0 h H).get? b=some o:=
 PySem.W.hideAll_get _ e fun hm=>by
  have q:(H b).isSome=true:=(List.mem_filter.mp hm).2;rw[n] at q; simp at q
theorem aGS {h:Heap}{H:Hp}{b:Addr}{o:Obj}(e:(aE0 h H).get? b=some o):h.get? b=some o∧H b=none:=by
 have e':h.get? b=some o:=PySem.W.of_hideAll (trk h H) e;refine⟨e',?_⟩
 cases q:H b with
 | none=>rfl
 | some x=>
  have hm:b∈trk h H:=List.mem_filter.mpr ⟨List.mem_range.mpr (Heap.lt_size e'),by simp[q]⟩;have z:(aE0 h H).get? b=none:=PySem.W.hideAll_none (trk h H) hm;rw[z] at e; cases e
end L2
namespace L2
open PySem PySem.Spec PyProof.Rows
structure Mod (K:PySem.W.Frag)(mg:Str→Option Value)(base:Heap):Prop where
 kin:K.In base
 glob:base.Ns mainGlobals mg
 blt:∃ mb,base.Ns builtinsNs mb∧∀ x:Str,x ≠ "__name__" → mb x=bootBuiltins x
 nolimit:base.NoLimit
structure Cx where
 prog:Program
 w:World
 K:PySem.W.Frag
 mg:Str→Option Value
 base:Heap
 A:Around
 N:List Str
 s₀:Shared
 H₀:Hp
 env:Env
 outer:List Env
 stack:List Env
 ex:List Addr
 fn:Str→Bool
 calm:Bool
 pn:List (Addr×Obj)
 xe:Value→Shared→Prop
noncomputable def frs (l:List Env):List Addr:=l.filterMap (·.frame)
abbrev Cx.fs (X:Cx):List Addr:=frs X.outer
noncomputable def Vis (sc:Scope)(x:Str):Prop:=sc.names.lookup x=some .local∨sc.names.lookup x=some .cell∨sc.names.lookup x=some .free
noncomputable def Loc (sc:Scope)(x:Str):Prop:=sc.names.lookup x=some .local∨sc.names.lookup x=some .cell
noncomputable def Look (env:Env)(h:Heap)(m:Str→Option Value)(x:Str)(u:Value):Prop:=
 (env.kindOf x=some .local∧m x=some u)∨((env.kindOf x=some .cell∨env.kindOf x=some .free)∧∃ c,env.cells.lookup x=some c∧h.IsCell c (some u))
structure Cx.Ok (X:Cx):Prop where
 mod:Mod X.K X.mg X.base
 kind:X.env.scope.kind=.function
 glob:X.env.globals=mainGlobals
 blt:X.env.builtins=builtinsNs
 above:X.s₀.heap.objs.size≤X.env.locals
 inj:∀ x y c,X.env.cells.lookup x=some c→X.env.cells.lookup y=some c→x=y
 has:∀ x,(X.env.kindOf x=some .cell∨X.env.kindOf x=some .free)→∃ c,X.env.cells.lookup x=some c
 cab:∀ x c,X.fn x=true→X.env.cells.lookup x=some c→X.s₀.heap.objs.size≤c
 hd:X.calm=true→X.A.handled=none
 frames:X.A.frames=some X.stack
 stk:X.stack=X.outer∨(X.stack=X.env::X.outer∧X.env.frame=some X.env.locals)
 exf:∀ b∈X.ex,b≠X.env.locals∧∀ x c,X.env.cells.lookup x=some c→c≠b
 bs:∀ b o,X.base.get? b=some o→X.s₀.heap.get? b=some o∧X.H₀ b=none
 bsz:X.base.objs.size≤X.s₀.heap.objs.size
 noex:∀ b o,X.base.get? b=some o→b∉X.ex
 exfs:∀ b∈X.ex,b∉X.fs
 funs:X.s₀.heap.FunFrames X.base X.outer
 frf:∀ b∈X.fs,X.H₀ b=none
structure Inv (X:Cx)(pins:List (Addr×Obj))(σ:List (Option V))(H:Hp)(s:Shared):Prop where
 ok:X.Ok
 os:s.os=X.s₀.os
 bare:AllBare s.gens
 base:Un X.fs X.ex X.H₀ H X.s₀.heap s.heap
 loc:∃ m,s.heap.Ns X.env.locals m∧∀(i:Nat) (x:Str) (v:V),X.N[i]?=some x→σ[i]?=some (some v)→Vis X.env.scope x→∃ u,RelV v u∧Look X.env s.heap m x u
 cell:∀ x c,X.env.cells.lookup x=some c→∃ v,s.heap.IsCell c v
 free:H X.env.locals=none
 freeC:∀ x c,X.env.cells.lookup x=some c→H c=none
 pin:∀ p∈X.pn++pins,s.heap.get? p.1=some p.2∧H p.1=none∧p.1≠X.env.locals∧p.1∉X.fs∧∀ v,p.2.data≠.cell v
 hok:HOk X.prog X.w H s.heap
 len:σ.length=X.N.length
section
variable {X:Cx}{pins:List (Addr×Obj)}{σ:List (Option V)}{H H':Hp}{s:Shared}{h':Heap}
theorem Cx.Ok.nofr (ok:X.Ok){b:Addr}{o:Obj}(e:X.base.get? b=some o):b∉X.fs:=fun hb=>by
 have:=(ok.funs.mem hb).1;rw[e] at this; cases this
theorem Inv.bs (I:Inv X pins σ H s):∀ b o,X.base.get? b=some o→s.heap.get? b=some o∧H b=none:=fun b o e=>
 ⟨I.base.keep b o (I.ok.bs b o e).1 (I.ok.bs b o e).2 (I.ok.nofr e) (I.ok.noex b o e),I.base.free b o (I.ok.bs b o e).1 (I.ok.bs b o e).2 (I.ok.noex b o e)⟩
theorem Inv.bk (I:Inv X pins σ H s):∀ b o,X.base.get? b=some o→s.heap.get? b=some o:=fun b o e=>(I.bs b o e).1
theorem Inv.mod (I:Inv X pins σ H s):Mod X.K X.mg X.base:=I.ok.mod
theorem Inv.kIn (I:Inv X pins σ H s):X.K.In s.heap:=I.ok.mod.kin.keeps I.bk
theorem Inv.fr (I:Inv X pins σ H s):∃ m,Fr X.base X.env.locals s.heap m:=
 let ⟨m,hn,_⟩:=I.loc
 ⟨m,hn,I.bk,Nat.le_trans I.ok.bsz I.ok.above⟩
theorem Inv.lt (I:Inv X pins σ H s):X.env.locals<s.heap.objs.size:=let ⟨_,hn,_⟩:=I.loc; hn.lt
theorem Inv.sz (I:Inv X pins σ H s):X.s₀.heap.objs.size≤s.heap.objs.size:=Nat.le_trans I.ok.above (Nat.le_of_lt I.lt)
theorem Inv.nofs (I:Inv X pins σ H s){a:Addr}(h:s.heap.objs.size≤a):a∉X.fs:=fun hb=>by
 obtain⟨_,o,ho,_⟩:=I.ok.funs.mem hb;exact absurd (Nat.lt_of_lt_of_le (Heap.lt_size ho) (Nat.le_trans I.sz h)) (Nat.lt_irrefl _)
theorem Inv.cne (I:Inv X pins σ H s):∀ x c,X.env.cells.lookup x=some c→c≠X.env.locals:=fun x c e z=>by
 obtain⟨v,o,ho,hd⟩:=I.cell x c e;obtain⟨m,⟨o',es,ep,ho',hd',_⟩,_⟩:=I.loc;rw[z,ho'] at ho; cases ho; rw[hd'] at hd; cases hd
theorem Inv.funs (I:Inv X pins σ H s):s.heap.FunFrames X.base X.outer:=by
 have all:∀(l:List Env),(∀ b∈frs l,b∈X.fs)→X.s₀.heap.FunFrames X.base l→s.heap.FunFrames X.base l:=by
  intro l
  induction l with
  | nil=>intro _ _; trivial
  | cons env r ih=>
   intro hs hl;obtain⟨hk,⟨L,o,hf,hn,ho,hd⟩,hr⟩:=hl;have hL:L∈X.fs:=hs L (by unfold frs; rw[List.filterMap_cons,hf]; exact List.mem_cons_self);obtain⟨sl,e⟩:=I.base.slot L o ho (I.ok.frf L hL) hL fun z=>I.ok.exfs L z hL;exact⟨hk,⟨L,_,hf,hn,e,hd⟩,ih (fun b hb=>hs b (by unfold frs; rw[List.filterMap_cons,hf]; exact List.mem_cons_of_mem _ hb)) hr⟩
 exact all X.outer (fun _ hb=>hb) I.ok.funs
theorem Inv.stack (I:Inv X pins σ H s):s.heap.FunFrames X.base X.stack:=by
 rcases I.ok.stk with e|⟨e,hf⟩
 ·rw[e]; exact I.funs
 ·rw[e];obtain⟨m,hn,_⟩:=I.loc;refine .cons (by rw[I.ok.kind]; decide) hf hn ?_ I.funs;exact Heap.get?_none_of_le (Nat.le_trans I.ok.bsz I.ok.above)
theorem Inv.stkSub (I:Inv X pins σ H s):∀ b∈frs X.stack,b∈X.env.locals::X.fs:=fun b hb=>by
 rcases I.ok.stk with e|⟨e,hf⟩
 ·rw[e] at hb; exact List.mem_cons_of_mem _ hb
 ·rw[e] at hb;unfold frs at hb;rw[List.filterMap_cons,hf] at hb;exact hb
theorem Inv.stkFree (I:Inv X pins σ H s):∀ b∈frs X.stack,H b=none:=fun b hb=>by
 rcases List.mem_cons.mp (I.stkSub b hb) with e|hb
 ·rw[e]; exact I.free
 ·obtain⟨_,o,ho,_⟩:=I.ok.funs.mem hb;exact I.base.free b o ho (I.ok.frf b hb) fun z=>I.ok.exfs b z hb
theorem Inv.step {g':Array GenState}{t':Nat}{d':Drawn}{ch:List Addr}(I:Inv X pins σ H s)
  (hch:∀ b∈ch,(b∈X.ex∨X.s₀.heap.objs.size≤b)∧b≠X.env.locals∧(∀ x c,X.env.cells.lookup x=some c→c≠b)∧∀ p∈X.pn++pins,p.1≠b)
  (keep:∀ b o,b≠X.env.locals→b∉X.fs→b∉ch→s.heap.get? b=some o→H b=none→h'.get? b=some o)
  (slot:∀ b o,b≠X.env.locals→b∈X.fs→b∉ch→s.heap.get? b=some o→H b=none→∃ sl,h'.get? b=some { o with slots:=sl }) (free:∀ b o,b∉ch→s.heap.get? b=some o→H b=none→H' b=none)
  (there:∀ b o,b∉ch→s.heap.get? b=some o→∃ o',h'.get? b=some o')
  (tups:∀ b xs,H b=some (.tup xs)→H' b=some (.tup xs)) (frzs:∀ b o u,H b=some (.frz o u)→H' b=some (.frz o u)) (tbls:∀ b ps,H b=some (.tbl ps)→∃ more,H' b=some (.tbl (ps++more)))
  (ns:∀ m,s.heap.Ns X.env.locals m→h'.Ns X.env.locals m) (hok:HOk X.prog X.w H' h') (hg:AllBare g') :
  Inv X pins σ H' { s with heap:=h',gens:=g',drawn:=d',toks:=t' }:=by
 have neL:∀ b o,X.s₀.heap.get? b=some o→b≠X.env.locals:=fun b o e=>Nat.ne_of_lt (Nat.lt_of_lt_of_le (Heap.lt_size e) I.ok.above);have neC:∀ b o,X.s₀.heap.get? b=some o→b∉X.ex→b∉ch:=fun b o e hx hb=>by
  rcases(hch b hb).1 with z|z
  ·exact hx z
  ·exact absurd (Nat.lt_of_lt_of_le (Heap.lt_size e) z) (Nat.lt_irrefl _)
 have cellK:∀ x c,X.env.cells.lookup x=some c→∀ v,s.heap.IsCell c v→h'.IsCell c v:=fun x c e v ⟨o,ho,hd⟩=>by
  have nch:c∉ch:=fun z=>(hch c z).2.2.1 x c e rfl
  by_cases hc:c∈X.fs
  ·obtain⟨sl,q⟩:=slot c o (I.cne x c e) hc nch ho (I.freeC x c e);exact⟨_,q,hd⟩
  ·exact⟨o,keep c o (I.cne x c e) hc nch ho (I.freeC x c e),hd⟩
 refine⟨I.ok,I.os,hg,⟨fun b o e n hb hx=>?_,fun b o e n hb hx=>?_,fun b o e n hx=>?_,fun b o e hx=>?_,fun b xs e=>tups b xs (I.base.tups b xs e),fun b o xs e=>frzs b o xs (I.base.frzs b o xs e),fun b ps e=>?_⟩,?_,fun x c e=>?_,?_,fun x c e=>?_,fun p hp=>?_,hok,I.len⟩
 ·exact keep b o (neL b o e) hb (neC b o e hx) (I.base.keep b o e n hb hx) (I.base.free b o e n hx)
 ·obtain⟨sl,e1⟩:=I.base.slot b o e n hb hx;obtain⟨sl',e2⟩:=slot b _ (neL b o e) hb (neC b o e hx) e1 (I.base.free b o e n hx);exact⟨sl',e2⟩
 ·obtain⟨o',e1⟩:=I.base.there b o e hx;exact free b o' (neC b o e hx) e1 (I.base.free b o e n hx)
 ·obtain⟨o',e1⟩:=I.base.there b o e hx;exact there b o' (neC b o e hx) e1
 ·obtain⟨m1,e1⟩:=I.base.tbls b ps e;obtain⟨m2,e2⟩:=tbls b _ e1;exact⟨m1++m2,by rw[e2,Array.append_assoc]⟩
 ·obtain⟨m,hn,hl⟩:=I.loc;refine⟨m,ns m hn,fun i x v e1 e2 e3=>?_⟩;obtain⟨u,r,l⟩:=hl i x v e1 e2 e3;refine⟨u,r,?_⟩;rcases l with l|⟨k,c,e,z⟩
  ·exact .inl l
  ·exact .inr ⟨k,c,e,cellK x c e _ z⟩
 ·obtain⟨v,z⟩:=I.cell x c e;exact⟨v,cellK x c e v z⟩
 ·obtain⟨m,⟨o,_,_,ho,_⟩,_⟩:=I.loc;exact free _ o (fun z=>(hch _ z).2.1 rfl) ho I.free
 ·obtain⟨v,o,ho,hd⟩:=I.cell x c e;exact free c o (fun z=>(hch c z).2.2.1 x c e rfl) ho (I.freeC x c e)
 ·obtain⟨e,n,ne,nf,d⟩:=I.pin p hp;have nch:p.1∉ch:=fun z=>(hch p.1 z).2.2.2 p hp rfl;exact⟨keep p.1 p.2 ne nf nch e n,free p.1 p.2 nch e n,ne,nf,d⟩
theorem Inv.un {t':Nat}(I:Inv X pins σ H s)(u:Un X.fs [] H H' s.heap h')(hok:HOk X.prog X.w H' h'):Inv X pins σ H' { s with heap:=h',toks:=t' }:=by
 obtain⟨m,⟨o,es,ep,ho,r⟩,_⟩:=id I.loc;obtain⟨sl,hL⟩:=u.any ho I.free (by simp);exact I.step (g':=s.gens) (d':=s.drawn) (ch:=[]) (fun _ z=>nomatch z) (fun b o _ hb _ e n=>u.keep b o e n hb (by simp)) (fun b o _ hb _ e n=>u.slot b o e n hb (by simp)) (fun b o _ e n=>u.free b o e n (by simp)) (fun b o _ e=>u.there b o e (by simp)) u.tups u.frzs u.tbls (fun m' hm=>by
  obtain⟨o',es',ep',ho',r'⟩:=hm;rw[ho] at ho'; cases ho';exact⟨_,es',ep',hL,r'⟩) hok I.bare
theorem Inv.call {g':Array GenState}{t':Nat}{d':Drawn}{ch:List Addr}(I:Inv X pins σ H s)(u:Un (frs X.stack) ch H H' s.heap h')(hok:HOk X.prog X.w H' h')(hg:AllBare g')
  (hch:∀ b∈ch,(b∈X.ex∨X.s₀.heap.objs.size≤b)∧b≠X.env.locals∧(∀ x c,X.env.cells.lookup x=some c→c≠b)∧∀ p∈X.pn++pins,p.1≠b) :
  Inv X pins σ H' { s with heap:=h',gens:=g',drawn:=d',toks:=t' }:=by
 obtain⟨m,⟨o,es,ep,ho,r⟩,_⟩:=id I.loc;obtain⟨sl,hL⟩:=u.any ho I.free fun z=>(hch _ z).2.1 rfl;exact I.step (ch:=ch) hch (fun b o hL hb hc e n=>u.keep b o e n (fun z=>(List.mem_cons.mp (I.stkSub b z)).elim hL hb) hc) (fun b o _ _ hc e n=>u.any e n hc) (fun b o hc e n=>u.free b o e n hc) (fun b o hc e=>u.there b o e hc) u.tups u.frzs u.tbls (fun m' hm=>by
  obtain⟨o',es',ep',ho',r'⟩:=hm;rw[ho] at ho'; cases ho';exact⟨_,es',ep',hL,r'⟩) hok hg
theorem Inv.turned {t':Nat}{it:Addr}(I:Inv X pins σ H s)(k:∀ b o,b≠it→s.heap.get? b=some o→h'.get? b=some o)(hn:H it=none)(hL:it≠X.env.locals)
  (h1:it∈X.ex∨X.s₀.heap.objs.size≤it) (h2:∀ x c,X.env.cells.lookup x=some c→c≠it) (h3:∀ p∈X.pn++pins,p.1≠it):Inv X pins σ H { s with heap:=h',toks:=t' }:=by
 have nit:∀ b u,H b=some u→b≠it:=fun b u e z=>by rw[z,hn] at e; cases e
 refine I.step (g':=s.gens) (d':=s.drawn) (ch:=[it]) (fun b hb=>?_) (fun b o _ _ hc e _=>k b o (fun z=>hc (by simp[z])) e) (fun b o _ _ hc e _=>⟨o.slots,k b o (fun z=>hc (by simp[z])) e⟩) (fun _ _ _ _ n=>n)
  (fun b o hc e=>⟨o,k b o (fun z=>hc (by simp[z])) e⟩) (fun _ _ e=>e) (fun _ _ _ e=>e) (fun b ps e=>⟨#[],by rw[e]; simp⟩) (fun m hm=>?_) (fun b u e=>?_) I.bare
 ·have e:b=it:=by simpa using hb
  subst e;exact⟨h1,hL,h2,h3⟩
 ·obtain⟨o,es,ep,ho,r⟩:=hm;exact⟨o,es,ep,k _ o (Ne.symm hL) ho,r⟩
 ·refine(I.hok b u e).stay (fun c v hc q=>k c v ?_ q) (fun _ q=>q) fun _ _ q=>q;rcases hc with z|z
  ·rw[z]; exact nit b u e
  ·exact nit c _ z
theorem Inv.tok (I:Inv X pins σ H s)(t:Nat):Inv X pins σ H { s with toks:=t }:=I.un (h':=s.heap) (t':=t) Un.refl I.hok
theorem Inv.kept {t':Nat}(I:Inv X pins σ H s)(k:∀ b u,s.heap.get? b=some u→h'.get? b=some u):Inv X pins σ H { s with heap:=h',toks:=t' }:=I.un (Un.kept k) (I.hok.kept k)
theorem Inv.laid {a:Addr}{o:HO}{t':Nat}(I:Inv X pins σ H s)(k:∀ b u,s.heap.get? b=some u→h'.get? b=some u)(hp:s.heap.objs.size≤a)(new:ObjOk X.prog X.w (upd H a o) h' a o) :
  Inv X pins σ (upd H a o) { s with heap:=h',toks:=t' }:=I.un (Un.laid k hp (I.hok.fresh hp)) (I.hok.laid k hp new)
theorem Inv.write {x e:Addr}{o:HO}{t':Nat}(I:Inv X pins σ H s)(mu:Mut (H x))(he:e=x∨H e=some (.own x))(k:∀ b u,b≠e→s.heap.get? b=some u→h'.get? b=some u)(heo:∃ u,h'.get? e=some u)
  (new:ObjOk X.prog X.w (upd H x o) h' x o):Inv X pins σ (upd H x o) { s with heap:=h',toks:=t' }:=I.un (Un.write mu he k heo) (I.hok.write mu he k heo new)
theorem Inv.weak {σ':List (Option V)}(I:Inv X pins σ H s)(hl:σ'.length=σ.length)(w:∀(i:Nat) v,σ'[i]?=some (some v)→σ[i]?=some (some v)):Inv X pins σ' H s:=
 ⟨I.ok,I.os,I.bare,I.base,let ⟨m,hn,hl'⟩:=I.loc; ⟨m,hn,fun i x v e1 e2 e3=>hl' i x v e1 (w i v e2) e3⟩,I.cell,I.free,I.freeC,I.pin,I.hok,hl.trans I.len⟩
theorem Inv.pins_of {pins':List (Addr×Obj)}(I:Inv X pins σ H s)(h:∀ p∈pins',s.heap.get? p.1=some p.2∧H p.1=none∧p.1≠X.env.locals∧p.1∉X.fs∧∀ v,p.2.data≠.cell v):Inv X pins' σ H s:=
 ⟨I.ok,I.os,I.bare,I.base,I.loc,I.cell,I.free,I.freeC,fun p hp=>(List.mem_append.mp hp).elim (fun z=>I.pin p (List.mem_append_left _ z)) (h p),I.hok,I.len⟩
theorem a84 {N:List Str}(hN:N.Nodup){i j:Nat}{x:Str}(a:N[i]?=some x)(b:N[j]?=some x):i=j:=by
 obtain⟨h1,e1⟩:=List.getElem?_eq_some_iff.mp a;obtain⟨h2,e2⟩:=List.getElem?_eq_some_iff.mp b;exact(List.getElem_inj hN).mp (e1.trans e2.symm)
theorem aDA {M:Model}{A:Around}{E:Value→Shared→Prop}{i:Nat}{x:Str}{v:V}{u:Value}{Q:Unit→Shared→Prop}(I:Inv X pins σ H s)(hN:X.N.Nodup)(hi:X.N[i]?=some x)(hx:Loc X.env.scope x)(r:RelV v u)
  (h:∀ s',Inv X pins (σ.set i (some v)) H s'→(∃ a,Heap.SameBut a s.heap s'.heap∧(a=X.env.locals∨X.env.cells.lookup x=some a))→Q () s') (hf:X.fn x=true∨X.env.scope.names.lookup x=some .local:=by first|exact .inl rfl|exact .inr rfl|assumption):wpAny M A (storeName X.env x u) Q E s:=by
 obtain⟨m,hn,hl⟩:=id I.loc;have hcls:(X.env.scope.kind==.class||(X.env.scope.kind==.module&&X.env.locals != X.env.globals))=false:=by rw[I.ok.kind]; rfl
 have hiσ:i<σ.length:=by rw[I.len]; exact(List.getElem?_eq_some_iff.mp hi).1
 have cne:=I.cne;have tracked:∀{a:Addr} {h':Heap},(∃ o,s.heap.get? a=some o∧H a=none)→Heap.SameBut a s.heap h'→HOk X.prog X.w H h':=fun{a h'} ha hs b ob e=>by
  obtain⟨_,_,hfree⟩:=ha;refine(I.hok b ob e).stay (fun c w' hc q=>(hs.2 c ?_).trans q) (fun _ q=>q) fun _ _ q=>q;rintro rfl;rcases hc with rfl|hc
  ·rw[hfree] at e; cases e
  ·rw[hfree] at hc; cases hc
 rcases hx with hk|hk
 ·refine wpAny_storeName_local hk hn (fun h' hn' hs=>?_) hcls;obtain⟨oL,_,_,hoL,_⟩:=id hn;refine h _ ⟨I.ok,I.os,I.bare,⟨fun b o e n hb hx=>?_,fun b o e n hb hx=>?_,I.base.free,fun b o e hx=>?_,I.base.tups,I.base.frzs,I.base.tbls⟩,⟨_,hn',fun j y v' e1 e2 e3=>?_⟩,fun y c e=>?_,I.free,I.freeC,fun p hp=>?_,tracked ⟨oL,hoL,I.free⟩ hs,by simpa using I.len⟩ ⟨_,hs,.inl rfl⟩
  ·exact(hs.2 b (Nat.ne_of_lt (Nat.lt_of_lt_of_le (Heap.lt_size e) I.ok.above))).trans (I.base.keep b o e n hb hx)
  ·obtain⟨sl,e1⟩:=I.base.slot b o e n hb hx;exact⟨sl,(hs.2 b (Nat.ne_of_lt (Nat.lt_of_lt_of_le (Heap.lt_size e) I.ok.above))).trans e1⟩
  ·obtain⟨o',e1⟩:=I.base.there b o e hx;exact⟨o',(hs.2 b (Nat.ne_of_lt (Nat.lt_of_lt_of_le (Heap.lt_size e) I.ok.above))).trans e1⟩
  ·by_cases hj:j=i
   ·subst hj;rw[hi] at e1; cases e1;rw[List.getElem?_set_self hiσ] at e2
    cases e2
    exact⟨u,r,.inl ⟨hk,by simp⟩⟩
   ·rw[List.getElem?_set_ne (Ne.symm hj)] at e2;obtain⟨u',r',q⟩:=hl j y v' e1 e2 e3;refine⟨u',r',?_⟩;rcases q with⟨k,e⟩|⟨k,c,e,z⟩
    ·refine .inl ⟨k,?_⟩;have:y≠x:=fun e=>hj (a84 hN e1 (e▸hi));simp[this,e]
    ·exact .inr ⟨k,c,e,z.sameBut hs (cne y c e)⟩
  ·obtain⟨w',z⟩:=I.cell y c e;exact⟨w',z.sameBut hs (cne y c e)⟩
  ·obtain⟨e,n,ne,nf,d⟩:=I.pin p hp;exact⟨(hs.2 p.1 ne).trans e,n,ne,nf,d⟩
 ·have hfn:X.fn x=true:=by
   rcases hf with z|z
   ·exact z
   ·rw[z] at hk; cases hk
  obtain⟨c,hc⟩:=I.ok.has x (.inl hk);obtain⟨w',z⟩:=I.cell x c hc;refine wpAny_storeName_cell I.ok.kind hk hc z (fun h' hc' hs=>?_);obtain⟨oc,hoc,hocd⟩:=id z;refine h { s with heap:=h' } ⟨I.ok,I.os,I.bare,⟨fun b o e n hb hx=>?_,fun b o e n hb hx=>?_,I.base.free,fun b o e hx=>?_,I.base.tups,I.base.frzs,I.base.tbls⟩,⟨m,hn.sameBut hs (Ne.symm (cne x c hc)),fun j y v' e1 e2 e3=>?_⟩,fun y c' e=>?_,I.free,I.freeC,fun p hp=>?_,tracked ⟨oc,hoc,I.freeC x c hc⟩ hs,by simpa using I.len⟩ ⟨c,hs,.inr hc⟩
  ·exact(hs.2 b (Nat.ne_of_lt (Nat.lt_of_lt_of_le (Heap.lt_size e) (I.ok.cab x c hfn hc)))).trans (I.base.keep b o e n hb hx)
  ·obtain⟨sl,e1⟩:=I.base.slot b o e n hb hx;exact⟨sl,(hs.2 b (Nat.ne_of_lt (Nat.lt_of_lt_of_le (Heap.lt_size e) (I.ok.cab x c hfn hc)))).trans e1⟩
  ·obtain⟨o',e1⟩:=I.base.there b o e hx;exact⟨o',(hs.2 b (Nat.ne_of_lt (Nat.lt_of_lt_of_le (Heap.lt_size e) (I.ok.cab x c hfn hc)))).trans e1⟩
  ·by_cases hj:j=i
   ·subst hj;rw[hi] at e1; cases e1;rw[List.getElem?_set_self hiσ] at e2
    cases e2
    exact⟨u,r,.inr ⟨.inl hk,c,hc,hc'⟩⟩
   ·rw[List.getElem?_set_ne (Ne.symm hj)] at e2;obtain⟨u',r',q⟩:=hl j y v' e1 e2 e3;refine⟨u',r',?_⟩;rcases q with q|⟨k,c',e,z'⟩
    ·exact .inl q
    ·refine .inr ⟨k,c',e,z'.sameBut hs ?_⟩;rintro rfl;exact hj (a84 hN e1 (I.ok.inj _ _ _ e hc▸hi))
  ·by_cases hcc:c'=c
   ·subst hcc; exact⟨_,hc'⟩
   ·obtain⟨w2,z2⟩:=I.cell y c' e;exact⟨w2,z2.sameBut hs hcc⟩
  ·obtain⟨e,n,ne,nf,d⟩:=I.pin p hp;refine⟨(hs.2 p.1 ?_).trans e,n,ne,nf,d⟩;intro q;rw[q,hoc] at e;have q':oc=p.2:=Option.some.inj e;exact d w' (by rw[← q']; exact hocd)
theorem w5 {M:Model}{A:Around}{E:Value→Shared→Prop}{i:Nat}{x:Str}{v:V}{u:Value}{Q:Unit→Shared→Prop}(I:Inv X pins σ H s)(hN:X.N.Nodup)(hi:X.N[i]?=some x)(hx:Loc X.env.scope x)(r:RelV v u)
  (h:∀ s',Inv X pins (σ.set i (some v)) H s'→Q () s') (hf:X.fn x=true∨X.env.scope.names.lookup x=some .local:=by first|exact .inl rfl|exact .inr rfl|assumption):wpAny M A (storeName X.env x u) Q E s:=
 aDA I hN hi hx r (fun s' I' _=>h s' I') hf
theorem Inv.call' {s':Shared}{ch:List Addr}(I:Inv X pins σ H s)(ho:s'.os=s.os)(u:Un (frs X.stack) ch H H' s.heap s'.heap)(hok:HOk X.prog X.w H' s'.heap)(hg:AllBare s'.gens)
  (hch:∀ b∈ch,(b∈X.ex∨X.s₀.heap.objs.size≤b)∧b≠X.env.locals∧(∀ x c,X.env.cells.lookup x=some c→c≠b)∧∀ p∈X.pn++pins,p.1≠b):Inv X pins σ H' s':=by
 obtain⟨h',g',d',t',o'⟩:=s';have e:o'=s.os:=ho;subst e;exact I.call (g':=g') (t':=t') (d':=d') u hok hg hch
end
abbrev XK:=Value→Option Addr→Hp→Prop
abbrev St:=List (Option V)
abbrev VK:=V→Hp→Prop
abbrev TE:=St→Hp→VK→Prop
abbrev TT:=St→Hp→(Bool→Hp→Prop)→Prop
abbrev TA:=St→Hp→(List V→Hp→Prop)→Prop
structure Ends where
 nx:St→Hp→Prop
 rt:VK
 bk:St→Hp→Prop:=fun _ _=>False
 ct:St→Hp→Prop:=fun _ _=>False
abbrev TS:=Ends→St→Hp→Prop
noncomputable def EP (X:Cx)(pins:List (Addr×Obj))(σ:St)(Q:VK)(u:Value)(s':Shared):Prop:=∃ v H',Inv X pins σ H' s'∧RelV v u∧Q v H'
noncomputable def TP (X:Cx)(pins:List (Addr×Obj))(σ:St)(Q:Bool→Hp→Prop)(b:Bool)(s':Shared):Prop:=∃ H',Inv X pins σ H' s'∧Q b H'
noncomputable def AP (X:Cx)(pins:List (Addr×Obj))(σ:St)(Q:List V→Hp→Prop)(us:List Value)(s':Shared):Prop:=∃ vs H',Inv X pins σ H' s'∧Vals vs us∧Q vs H'
noncomputable def SP (X:Cx)(pins:List (Addr×Obj))(D:Ends)(f:Flow)(s':Shared):Prop:=
 match f with
 | .next=>∃ σ' H',Inv X pins σ' H' s'∧D.nx σ' H'
 | .brk=>∃ σ' H',Inv X pins σ' H' s'∧D.bk σ' H'
 | .cont=>∃ σ' H',Inv X pins σ' H' s'∧D.ct σ' H'
 | .ret u=>∃ v σ' H',Inv X pins σ' H' s'∧RelV v u∧D.rt v H'
noncomputable def PE (X:Cx)(e:Expr)(t:TE):Prop:=
 ∀(pins:List (Addr×Obj)) (s:Shared) (σ:St) (H:Hp) (Q:VK),Inv X pins σ H s→t σ H Q→wpAny (model X.prog X.w) X.A (eval e X.env) (EP X pins σ Q) X.xe s
noncomputable def PT (X:Cx)(e:Expr)(t:TT):Prop:=
 ∀(pins:List (Addr×Obj)) (s:Shared) (σ:St) (H:Hp) (Q:Bool→Hp→Prop),Inv X pins σ H s→t σ H Q→wpAny (model X.prog X.w) X.A (isTrue e X.env (eval e X.env)) (TP X pins σ Q) X.xe s
noncomputable def PW (X:Cx)(e:Expr)(t:TT):Prop:=
 ∀(whole:Sem Value) (pins:List (Addr×Obj)) (s:Shared) (σ:St) (H:Hp) (Q:Bool→Hp→Prop),Inv X pins σ H s→t σ H Q→wpAny (model X.prog X.w) X.A (isTrue e X.env whole) (TP X pins σ Q) X.xe s
theorem PW.pt {X:Cx}{e:Expr}{t:TT}(h:PW X e t):PT X e t:=h _
noncomputable def PA (X:Cx)(es:List Expr)(t:TA):Prop:=
 ∀(pos:Pos) (pins:List (Addr×Obj)) (s:Shared) (σ:St) (H:Hp) (Q:List V→Hp→Prop),Inv X pins σ H s→t σ H Q→wpAny (model X.prog X.w) X.A (spliced (backTo pos (starEach es X.env))) (AP X pins σ Q) X.xe s
noncomputable def PS (X:Cx)(st:Stmt)(t:TS):Prop:=
 ∀(pins:List (Addr×Obj)) (s:Shared) (σ:St) (H:Hp) (D:Ends),Inv X pins σ H s→t D σ H→wpAny (model X.prog X.w) X.A (exec st X.env) (SP X pins D) X.xe s
noncomputable def PSs (X:Cx)(st:List Stmt)(t:TS):Prop:=
 ∀(pins:List (Addr×Obj)) (s:Shared) (σ:St) (H:Hp) (D:Ends),Inv X pins σ H s→t D σ H→wpAny (model X.prog X.w) X.A (execs st X.env) (SP X pins D) X.xe s
theorem thn {α:Type}{t:Sem α}{Q Q':α→Shared→Prop}{M:Model}{A:Around}{E:Value→Shared→Prop}{s:Shared}(h:wpAny M A t Q E s)(hQ:∀ a s,Q a s→Q' a s):wpAny M A t Q' E s:=wpAny_mono h hQ fun _ _ x=>x
end L2
namespace L2
open PySem PySem.Spec PyProof.Rows
section
variable {X:Cx}
theorem bin {a b:Expr}{ta tb:TE}(ha:PE X a ta)(hb:PE X b tb){pins:List (Addr×Obj)}{s:Shared}{σ:St}{H:Hp}{R:V→V→Hp→Prop}(I:Inv X pins σ H s)(h:ta σ H fun x H1=>tb σ H1 fun y H2=>R x y H2)
  {α:Type} {Q:α→Shared→Prop} {f:Value→Value→Sem α}
  (hf:∀ v u s2 x y H2,Inv X pins σ H2 s2→RelV x v→RelV y u→R x y H2→wpAny (model X.prog X.w) X.A (f v u) Q X.xe s2) :
  wpAny (model X.prog X.w) X.A (eval a X.env) (fun v s₁=>wpAny (model X.prog X.w) X.A (eval b X.env) (fun u s₂=>wpAny (model X.prog X.w) X.A (f v u) Q X.xe s₂) X.xe s₁) X.xe s:=by
 refine thn (ha pins s σ H _ I h) fun v s1 ⟨x,H1,I1,r1,q1⟩=>?_;refine thn (hb pins s1 σ H1 _ I1 q1) fun u s2 ⟨y,H2,I2,r2,q2⟩=>?_;exact hf v u s2 x y H2 I2 r1 r2 q2
noncomputable def vZ (i:Nat):TE:=fun σ H Q=>∃ v,σ[i]?=some (some v)∧Q v H
noncomputable def tC (v:V):TE:=fun _ H Q=>Q v H
theorem aJ8 {i:Nat}{x:Str}{pos:Pos}(hN:X.N[i]?=some x)(hv:Vis X.env.scope x)(hd:(x==("__debug__" : Str))=false:=by decide)(hcd:(x==("__classdict__" : Str))=false:=by decide):PE X (.Name x pos) (vZ i):=by
 intro pins s σ H Q I h;obtain⟨v,e,h⟩:=h;obtain⟨m,hn,hl⟩:=I.loc;obtain⟨u,r,l⟩:=hl i x v hN e hv;have fin:EP X pins σ Q u s:=⟨v,H,I,r,h⟩;rcases l with⟨hk,hm⟩|⟨hk,c,hc,hcell⟩
 ·exact wpAny_Name (wpAny_loadName_local I.ok.kind hk hn hm fin) hd
 ·rcases hk with hk|hk
  ·exact wpAny_Name (wpAny_loadName_cell I.ok.kind hk hc hcell fin) hd
  ·exact wpAny_Name (wpAny_loadName_free I.ok.kind hk hc hcell fin hcd) hd
theorem aC {i j pos}:PE X (.Constant (.int i) j pos) (tC (.int i)):=fun _ _ _ H _ I h=>wpAny_Constant_int ⟨.int i,H,I.tok _,⟨_,rfl⟩,h⟩
theorem aE2 {b j pos}:PE X (.Constant (.bool b) j pos) (tC (.bl b)):=fun _ _ _ H _ I h=>Constant_bool ⟨.bl b,H,I,rfl,h⟩
theorem eV {j pos}:PE X (.Constant .none j pos) (tC .non):=fun _ _ _ H _ I h=>Constant_none ⟨.non,H,I,rfl,h⟩
theorem nU {x j pos}:PE X (.Constant (.str x) j pos) (tC (.str x)):=fun _ _ _ H _ I h=>Calls.Constant_str ⟨.str x,H,I.tok _,⟨_,rfl⟩,h⟩
noncomputable def Gl (X:Cx)(x:Str):Prop:=X.env.kindOf x=some .globalImplicit
theorem aCG {E:Value→Shared→Prop}{pins:List (Addr×Obj)}{s:Shared}{σ:St}{H:Hp}{x:Str}{u:Value}{pos:Pos}{Q:Value→Shared→Prop}(I:Inv X pins σ H s)(hg:Gl X x)(hm:X.mg x=some u)(h:Q u s)
  (hd:(x==("__debug__" : Str))=false:=by decide):wpAny (model X.prog X.w) X.A (eval (.Name x pos) X.env) Q E s:=
 Calls.Name_function_global I.ok.kind hg (Calls.loadGlobal_global (by rw[I.ok.glob]; exact I.mod.glob.keeps I.bk) hm h) hd
theorem a07 {E:Value→Shared→Prop}{pins:List (Addr×Obj)}{s:Shared}{σ:St}{H:Hp}{x:Str}{u:Value}{pos:Pos}{Q:Value→Shared→Prop}(I:Inv X pins σ H s)(hg:Gl X x)(hm:X.mg x=none)(hv:bootBuiltins x=some u)(h:Q u s)
  (hn:x ≠ "__name__" := by decide) (hd:(x==("__debug__" : Str))=false:=by decide):wpAny (model X.prog X.w) X.A (eval (.Name x pos) X.env) Q E s:=by
 obtain⟨mb,h1,h2⟩:=I.mod.blt;exact Calls.Name_function_global I.ok.kind hg (Calls.loadGlobal_builtin (by rw[I.ok.glob]; exact I.mod.glob.keeps I.bk) hm (by rw[I.ok.blt]; exact h1.keeps I.bk) ((h2 x hn).trans hv) h) hd
theorem xU {x:Str}{v:V}{u:Value}{pos:Pos}(hg:Gl X x)(hm:X.mg x=none)(hv:bootBuiltins x=some u)(r:RelV v u)(hn:x ≠ "__name__" := by decide)(hd:(x==("__debug__" : Str))=false:=by decide):PE X (.Name x pos) (tC v):=
 fun _ _ _ H _ I h=>a07 I hg hm hv ⟨v,H,I,r,h⟩ hn hd
variable {a b:Expr}{ta tb:TE}{pos:Pos}
noncomputable def PC (X:Cx)(op:CmpOp)(a b:Expr)(t:TE):Prop:=
 ∀(pins:List (Addr×Obj)) (s:Shared) (σ:St) (H:Hp) (Q:VK),Inv X pins σ H s→t σ H Q →
  wpAny (model X.prog X.w) X.A (eval a X.env) (fun v s₁=>wpAny (model X.prog X.w) X.A (eval b X.env) (fun u s₂=>wpAny (model X.prog X.w) X.A (compareOp op v u) (EP X pins σ Q) X.xe s₂) X.xe s₁) X.xe s
noncomputable def tB (t:TE):TT:=fun σ H Q=>t σ H fun x H1=>∃ c,x=.bl c∧Q c H1
theorem aOX {op:CmpOp}{t:TE}(h:PC X op a b t)(h1:behindInMarks op b=false:=by first|exact nobehind _ (by decide) (by decide)|rfl):PT X (.Compare a [op] [b] pos) (tB t):=by
 intro pins s σ H Q I hw;refine wpAny_isTrue_Compare1 (thn (h pins s σ H _ I hw) fun v s1 h1=>thn h1 fun u s2 h2=>thn h2 fun c s3 ⟨x,H1,I1,r1,q1⟩=>?_) h1;obtain⟨d,rfl,q⟩:=q1
 cases r1
 exact wpAny_truthy_bool ⟨H1,I1,q⟩
theorem gF {e:Expr}{t:TE}(h:PE X e t)(he:∀ whole,isTrue e X.env whole=(do let v←whole; standAt e.pos; holding [v] (truthy v)):=by intro _; rfl):PT X e (tB t):=by
 intro pins s σ H Q I hw;refine isTrue_plain (thn (h pins s σ H _ I hw) fun v s1 ⟨x,H1,I1,r1,q1⟩=>?_) (he _);obtain⟨d,rfl,q⟩:=q1
 cases r1
 exact wpAny_truthy_bool ⟨H1,I1,q⟩
variable {tA tB':TT}{rest:List Expr}
noncomputable def aP1 (t u:TT):TT:=fun σ H Q=>t σ H fun c H1=>if c=true then u σ H1 Q else Q false H1
noncomputable def tOr (t u:TT):TT:=fun σ H Q=>t σ H fun c H1=>if c=true then Q true H1 else u σ H1 Q
noncomputable def aON (t:TT):TT:=fun σ H Q=>t σ H fun c H1=>Q (!c) H1
theorem uI (ha:PT X a tA):PW X (.BoolOp .And [a] pos) tA:=by
 intro wh pins s σ H Q I h;refine isTrue_and (thn (ha pins s σ H Q I h) fun c s1 e=>?_)
 cases c with
 | true=>exact isTrue_and_nil e
 | false=>exact e
theorem v6 (ha:PT X a tA):PW X (.BoolOp .Or [a] pos) tA:=by
 intro wh pins s σ H Q I h;refine isTrue_or (thn (ha pins s σ H Q I h) fun c s1 e=>?_)
 cases c with
 | false=>exact isTrue_or_nil e
 | true=>exact e
theorem yH (ha:PT X a tA)(hb:PW X (.BoolOp .And (b::rest) pos) tB'):PW X (.BoolOp .And (a::b::rest) pos) (aP1 tA tB'):=by
 intro wh pins s σ H Q I h;refine isTrue_and (thn (ha pins s σ H _ I h) fun c s1 ⟨H1,I1,q1⟩=>?_)
 cases c with
 | true=>exact hb wh pins s1 σ H1 Q I1 q1
 | false=>exact⟨H1,I1,q1⟩
theorem zA (ha:PT X a tA)(hb:PW X (.BoolOp .Or (b::rest) pos) tB'):PW X (.BoolOp .Or (a::b::rest) pos) (tOr tA tB'):=by
 intro wh pins s σ H Q I h;refine isTrue_or (thn (ha pins s σ H _ I h) fun c s1 ⟨H1,I1,q1⟩=>?_)
 cases c with
 | true=>exact⟨H1,I1,q1⟩
 | false=>exact hb wh pins s1 σ H1 Q I1 q1
theorem a0I (ha:PT X a tA):PT X (.UnaryOp .Not a pos) (aON tA):=by
 intro pins s σ H Q I h;exact isTrue_not (ha pins s σ H (fun c H1=>Q (!c) H1) I h)
noncomputable def aKN (ta tb:TE):TE:=fun σ H Q=>ta σ H fun x H1=>∃ c,x=.bl c∧if c=true then tb σ H1 Q else Q (.bl false) H1
noncomputable def aJQ (ta:TE):TE:=fun σ H Q=>ta σ H fun x H1=>∃ c,x=.bl c∧Q (.bl (!c)) H1
theorem aBB {op}{t:TE}(h:PE X a t):PE X (.BoolOp op [a] pos) t:=fun pins s σ H Q I hw=>BoolOp_one (h pins s σ H Q I hw)
theorem aB5 (ha:PE X a ta)(hb:PE X (.BoolOp .And (b::rest) pos) tb):PE X (.BoolOp .And (a::b::rest) pos) (aKN ta tb):=by
 intro pins s σ H Q I h;refine BoolOp_and (thn (ha pins s σ H _ I h) fun v s1 ⟨x,H1,I1,r1,q1⟩=>?_);obtain⟨c,rfl,q1⟩:=q1
 cases r1
 refine wpAny_truthy_bool ?_
 cases c with
 | true=>exact hb pins s1 σ H1 Q I1 q1
 | false=>exact⟨.bl false,H1,I1,rfl,q1⟩
theorem aLB (ha:PE X a ta):PE X (.UnaryOp .Not a pos) (aJQ ta):=by
 intro pins s σ H Q I h;refine UnaryOp_ (thn (ha pins s σ H _ I h) fun v s1 ⟨x,H1,I1,r1,q1⟩=>?_);obtain⟨c,rfl,q1⟩:=q1
 cases r1
 exact not_of (wpAny_truthy_bool ⟨.bl (!c),H1,I1,rfl,q1⟩)
noncomputable def tIf (t:TT)(ta tb:TE):TE:=fun σ H Q=>t σ H fun c H1=>if c=true then ta σ H1 Q else tb σ H1 Q
theorem a8J {c:Expr}(hc:PT X c tA)(ha:PE X a ta)(hb:PE X b tb):PE X (.IfExp c a b pos) (tIf tA ta tb):=by
 intro pins s σ H Q I h;refine wpAny_IfExp (thn (hc pins s σ H _ I h) fun d s1 ⟨H1,I1,q1⟩=>?_)
 cases d with
 | true=>exact ha pins s1 σ H1 Q I1 q1
 | false=>exact hb pins s1 σ H1 Q I1 q1
end
end L2
namespace L2
open PySem PySem.Spec PyProof.Rows
noncomputable def SqL (K:PySem.W.Frag)(H:Hp)(a:Addr)(xs:List V):Prop:=
 Rd H a (.lst xs) ∨
  ∃(o:Obj) (its:Array Value) (n:Nat),K.lookup a=some o∧o.cls=.type "list" ∧ o.dict=none∧o.data=.seq its n∧its.size≤sizeLine∧Vals xs its.toList
noncomputable def SqT (K:PySem.W.Frag)(H:Hp)(a:Addr)(xs:List V):Prop:=
 Rd H a (.tup xs) ∨
  ∃(o:Obj) (its:Array Value) (n:Nat),K.lookup a=some o∧o.cls=.type "tuple" ∧ o.data=.seq its n∧its.size≤sizeLine∧Vals xs its.toList
noncomputable def aP9:Value→Option V
 | .none=>some .non
 | .bool b=>some (.bl b)
 | .int i _=>some (.int i)
 | .str x _=>some (.str x)
 | .bytes b _=>some (.byt b)
 | .float b _=>some (.flt b)
 | .ref a=>some (.ref a)
 | .type n=>some (.ty n)
 | _=>none
theorem RelV.abs {x:V}{u:Value}(r:RelV x u):aP9 u=some x:=by
 cases x with
 | non=>cases r; rfl
 | bl _=>cases r; rfl
 | int _=>obtain⟨t,rfl⟩:=r; rfl
 | str _=>obtain⟨t,rfl⟩:=r; rfl
 | byt _=>obtain⟨t,rfl⟩:=r; rfl
 | flt _=>obtain⟨t,rfl⟩:=r; rfl
 | ref _=>cases r; rfl
 | ty _=>cases r; rfl
theorem RelV.inj {x y:V}{u:Value}(r:RelV x u)(q:RelV y u):x=y:=Option.some.inj (r.abs.symm.trans q.abs)
theorem Vals.inj:∀{xs ys:List V} {us:List Value},Vals xs us→Vals ys us→xs=ys:=by
 intro xs ys us h
 induction h generalizing ys with
 | nil=>intro q; cases q; rfl
 | cons r t ih=>intro q; cases q with|cons r' t'=>rw[r.inj r',ih t']
section
variable {X:Cx}{pins:List (Addr×Obj)}{σ:St}{H:Hp}{s:Shared}{a:Addr}{xs ys:List V}
theorem SqL.of {K:PySem.W.Frag}(h:H a=some (.lst xs)):SqL K H a xs:=.inl (.inl h)
theorem SqT.of {K:PySem.W.Frag}(h:H a=some (.tup xs)):SqT K H a xs:=.inl (.inl h)
theorem Inv.list (I:Inv X pins σ H s)(h:SqL X.K H a xs):∃ its:List Value,Vals xs its∧PlainL s.heap a its.toArray∧xs.length≤sizeLine:=by
 rcases h with h|⟨o,its,n,hk,hc,hd,hs,hz,r⟩
 ·obtain⟨z,its,n,r,e⟩:=h.ok I.hok;exact⟨its,r,⟨_,n,e,rfl,rfl,rfl⟩,z⟩
 ·refine⟨its.toList,r,⟨o,n,I.kIn a o hk,hc,hd,by simpa using hs⟩,?_⟩;have e:=r.length;simp only[Array.length_toList] at e;omega
theorem Inv.tuple (I:Inv X pins σ H s)(h:SqT X.K H a xs):∃ its:List Value,Vals xs its∧IsTup s.heap a its.toArray∧xs.length≤sizeLine:=by
 rcases h with h|⟨o,its,n,hk,hc,hs,hz,r⟩
 ·obtain⟨z,its,r,p⟩:=h.ok I.hok;exact⟨its,r,p,z⟩
 ·refine⟨its.toList,r,⟨o,I.kIn a o hk,hc,n,by simpa using hs⟩,?_⟩;have e:=r.length;simp only[Array.length_toList] at e;omega
theorem Inv.list_inj (I:Inv X pins σ H s)(h:SqL X.K H a xs)(h':SqL X.K H a ys):xs=ys:=by
 obtain⟨its,r,⟨o,n,e,_,_,d⟩,_⟩:=I.list h;obtain⟨its',r',⟨o',n',e',_,_,d'⟩,_⟩:=I.list h';rw[e] at e'; cases e';rw[d] at d';injection d' with d1 _;have:its=its':=by simpa using congrArg Array.toList d1
 subst this;exact r.inj r'
end
abbrev Cx.wish (X:Cx)(E:Value→Shared→Prop):Cx:={ X with xe:=E }
abbrev Cx.nox (X:Cx):Cx:=X.wish fun _ _=>False
theorem Cx.Ok.wish {X:Cx}(ok:X.Ok)(E:Value→Shared→Prop):(X.wish E).Ok:=
 ⟨ok.mod,ok.kind,ok.glob,ok.blt,ok.above,ok.inj,ok.has,ok.cab,ok.hd,ok.frames,ok.stk,ok.exf,ok.bs,ok.bsz,ok.noex,ok.exfs,ok.funs,ok.frf⟩
theorem Cx.Ok.unwish {X:Cx}{E:Value→Shared→Prop}(ok:(X.wish E).Ok):X.Ok:=
 ⟨ok.mod,ok.kind,ok.glob,ok.blt,ok.above,ok.inj,ok.has,ok.cab,ok.hd,ok.frames,ok.stk,ok.exf,ok.bs,ok.bsz,ok.noex,ok.exfs,ok.funs,ok.frf⟩
section
variable {X:Cx}{pins:List (Addr×Obj)}{σ:St}{H:Hp}{s:Shared}{E:Value→Shared→Prop}
theorem Inv.wish (I:Inv X pins σ H s)(E:Value→Shared→Prop):Inv (X.wish E) pins σ H s:=⟨I.ok.wish E,I.os,I.bare,I.base,I.loc,I.cell,I.free,I.freeC,I.pin,I.hok,I.len⟩
theorem Inv.unwish (I:Inv (X.wish E) pins σ H s):Inv X pins σ H s:=⟨I.ok.unwish,I.os,I.bare,I.base,I.loc,I.cell,I.free,I.freeC,I.pin,I.hok,I.len⟩
theorem SP.unwish {D:Ends}{f:Flow}{s':Shared}(h:SP (X.wish E) pins D f s'):SP X pins D f s':=by
 cases f with
 | next=>obtain⟨σ',H',I,q⟩:=h; exact⟨σ',H',I.unwish,q⟩
 | brk=>obtain⟨σ',H',I,q⟩:=h; exact⟨σ',H',I.unwish,q⟩
 | cont=>obtain⟨σ',H',I,q⟩:=h; exact⟨σ',H',I.unwish,q⟩
 | ret u=>obtain⟨v,σ',H',I,r,q⟩:=h; exact⟨v,σ',H',I.unwish,r,q⟩
theorem PSs.nox {st:List Stmt}{t:TS}(h:PSs X.nox st t):PSs X st t:=fun pins s σ H D I hw=>
 wpAny_mono (h pins s σ H D (I.wish _) hw) (fun _ _ q=>q.unwish) fun _ _ z=>False.elim z
end
section
variable {X:Cx}{st:Stmt}{rest:List Stmt}{t u:TS}{e:Expr}{te:TE}{pos:Pos}
noncomputable def aJ0:TS:=fun D σ H=>D.nx σ H
noncomputable def aOY (t u:TS):TS:=fun D σ H=>t { D with nx:=u D } σ H
theorem bR:PSs X [] aJ0:=fun _ _ σ H _ I h=>wpAny_execs_nil ⟨σ,H,I,h⟩
theorem aG (h1:PS X st t)(h2:PSs X rest u):PSs X (st::rest) (aOY t u):=by
 intro pins s σ H D I h;refine wpAny_execs_cons (thn (h1 pins s σ H { D with nx:=u D } I h) fun f s1 q=>?_)
 cases f with
 | next=>
  obtain⟨σ',H',I',q⟩:=q;exact h2 pins s1 σ' H' D I' q
 | ret v=>exact q
 | brk=>exact q
 | cont=>exact q
theorem aL (h1:PS X st t):PSs X [st] t:=by
 intro pins s σ H D I h;refine wpAny_execs_cons (thn (h1 pins s σ H D I h) fun f s1 q=>?_)
 cases f with
 | next=>exact wpAny_execs_nil q
 | ret v=>exact q
 | brk=>exact q
 | cont=>exact q
theorem Inv.quiet {pins:List (Addr×Obj)}{σ:St}{H:Hp}{s:Shared}(I:Inv X pins σ H s):interactive X.env=false:=by simp[interactive,I.ok.kind]
noncomputable def aBR (te:TE):TS:=fun D σ H=>te σ H fun _ H1=>D.nx σ H1
theorem gU (he:PE X e te)(hs:swapsWith e none pos.line X.env=pure false:=by rfl):PS X (.Expr e pos) (aBR te):=by
 intro pins s σ H D I h;exact wpAny_Expr_any (thn (he pins s σ H _ I h) fun v s1 ⟨x,H1,I1,r1,q1⟩=>⟨σ,H1,I1,q1⟩) I.quiet hs
noncomputable def aN2 (te:TE):TS:=fun D σ H=>te σ H D.rt
theorem bF (he:PE X e te):PS X (.Return (some e) pos) (aN2 te):=by
 intro pins s σ H D I h;exact wpAny_Return_some (thn (he pins s σ H _ I h) fun v s1 ⟨x,H1,I1,r1,q1⟩=>⟨x,σ,H1,I1,r1,q1⟩)
noncomputable def aOF (c:TT)(t u:TS):TS:=fun D σ H=>c σ H fun b H1=>if b=true then t D σ H1 else u D σ H1
theorem cW {c:Expr}{a b:List Stmt}{tc:TT}(hc:PT X c tc)(ha:PSs X a t)(hb:PSs X b u):PS X (.If c a b pos) (aOF tc t u):=by
 intro pins s σ H D I h;refine wpAny_If (thn (hc pins s σ H _ I h) fun d s1 ⟨H1,I1,q1⟩=>?_)
 cases d with
 | true=>exact ha pins s1 σ H1 D I1 q1
 | false=>exact hb pins s1 σ H1 D I1 q1
noncomputable def aGI:TS:=fun _ _ _=>False
theorem aFD:PS X st aGI:=fun _ _ _ _ _ _ h=>h.elim
end
abbrev TG:=V→St→Hp→(St→Hp→Prop)→Prop
abbrev TGs:=List V→St→Hp→(St→Hp→Prop)→Prop
noncomputable def PG (X:Cx)(target:Expr)(t:TG):Prop:=
 ∀(pins:List (Addr×Obj)) (s:Shared) (σ:St) (H:Hp) (v:V) (u:Value) (Q:St→Hp→Prop),Inv X pins σ H s→RelV v u→t v σ H Q →
  wpAny (model X.prog X.w) X.A (assign target X.env u) (fun _ s'=>∃ σ' H',Inv X pins σ' H' s'∧Q σ' H') X.xe s
noncomputable def PGs (X:Cx)(ts:List Expr)(t:TGs):Prop:=
 ∀(pins:List (Addr×Obj)) (s:Shared) (σ:St) (H:Hp) (vs:List V) (us:List Value) (Q:St→Hp→Prop),Inv X pins σ H s→Vals vs us→t vs σ H Q →
  wpAny (model X.prog X.w) X.A (assignInOrder ((assignEach ts X.env).map (·.2)) us) (fun _ s'=>∃ σ' H',Inv X pins σ' H' s'∧Q σ' H') X.xe s
abbrev aNR:=V→V→V→Hp→(Hp→Prop)→Prop
noncomputable def aP7 (X:Cx)(t:aNR):Prop:=
 ∀(pins:List (Addr×Obj)) (s:Shared) (σ:St) (H:Hp) (o i v:V) (ov iv u:Value) (Q:Hp→Prop),Inv X pins σ H s→RelV o ov→RelV i iv→RelV v u→t o i v H Q →
  wpAny (model X.prog X.w) X.A (setItem ov iv u) (fun _ s'=>∃ H',Inv X pins σ H' s'∧Q H') X.xe s
section
variable {X:Cx}{pos:Pos}
noncomputable def aBI (i:Nat):TG:=fun v σ H Q=>Q (σ.set i (some v)) H
theorem dB {i:Nat}{x:Str}(hN:X.N.Nodup)(hi:X.N[i]?=some x)(hx:Loc X.env.scope x)(hf:X.fn x=true∨X.env.scope.names.lookup x=some .local:=by first|exact .inl rfl|exact .inr rfl|assumption):PG X (.Name x pos) (aBI i):=by
 intro pins s σ H v u Q I r h;exact wpAny_assign_Name (w5 I hN hi hx r (fun s' I'=>⟨_,H,I',h⟩) hf)
noncomputable def aP0:TGs:=fun vs σ H Q=>vs=[]∧Q σ H
noncomputable def aJR (t:TG)(u:TGs):TGs:=fun vs σ H Q=>∃ v r,vs=v::r∧t v σ H fun σ' H'=>u r σ' H' Q
theorem aBT:PGs X [] aP0:=by
 intro pins s σ H vs us Q I r h;obtain⟨e,h⟩:=h;subst e
 cases r
 exact assignInOrder_nil ⟨σ,H,I,h⟩
theorem vX {e:Expr}{es:List Expr}{t:TG}{u:TGs}(h1:PG X e t)(h2:PGs X es u)
  (hs:(assignEach (e::es) X.env).map (·.2)=assign e X.env::(assignEach es X.env).map (·.2):=by rfl):PGs X (e::es) (aJR t u):=by
 intro pins s σ H vs us Q I r h;obtain⟨v,vr,e1,h⟩:=h;subst e1
 cases r with
 | cons r rr=>
  rw[hs];refine assignInOrder_cons (thn (h1 pins s σ H _ _ _ I r h) fun _ s1 ⟨σ1,H1,I1,q1⟩=>?_);exact h2 pins s1 σ1 H1 _ _ Q I1 rr q1
noncomputable def aOH (K:PySem.W.Frag)(n:Nat)(t:TGs):TG:=fun v σ H Q=>∃ a xs,v=.ref a∧SqT K H a xs∧xs.length=n∧t xs σ H Q
theorem aG1 {es:List Expr}{k:Nat}{t:TGs}{n:Nat}(hc:X.calm=true)(h:PGs X es t)
  (hn:(assignEach es X.env).length=n:=by rfl) (hst:(assignEach es X.env).findIdx? (·.1)=none:=by rfl):PG X (.Tuple es k pos) (aOH X.K n t):=by
 intro pins s σ H v u Q I r hw;obtain⟨a,xs,e1,hq,hl,hw⟩:=hw;subst e1
 cases r
 obtain⟨its,rv,ht,hz⟩:=I.tuple hq;refine assign_Tuple_tuple (I.ok.hd hc) ht (by simp[hn,←hl,rv.length]) hst fun h' hx=>?_;have I1:Inv X pins σ H { s with heap:=h' }:=I.kept (t':=s.toks) fun b o e=>hx b o (Nat.ne_of_lt (Heap.lt_size e)) e;exact h pins _ σ H xs _ Q I1 (by simpa using rv) hw
noncomputable def aPD (to ti:TE)(t:aNR):TG:=fun v σ H Q=>to σ H fun o H1=>ti σ H1 fun i H2=>t o i v H2 fun H3=>Q σ H3
theorem aCH {o i:Expr}{to ti:TE}{t:aNR}(ho:PE X o to)(hi:PE X i ti)(hs:aP7 X t)
  (ha:∀ v,assign (.Subscript o i pos) X.env v=(do
   let ov←holding [v] (eval o X.env)
   let iv←holding [v,ov] (eval i X.env)
   standAt pos
   holding [v,ov,iv] (setItem ov iv v)
   release [v,ov,iv] []):=by intro _; rfl):PG X (.Subscript o i pos) (aPD to ti t):=by
 intro pins s σ H v u Q I r h;rw[ha];refine wpAny_bind (wpAny_holding (thn (ho pins s σ H _ I h) fun ov s1 ⟨x,H1,I1,r1,q1⟩=>?_));refine wpAny_bind (wpAny_holding (thn (hi pins s1 σ H1 _ I1 q1) fun iv s2 ⟨y,H2,I2,r2,q2⟩=>?_));refine wpAny_bind (wpAny_standAt (wpAny_bind (wpAny_holding (thn (hs pins s2 σ H2 x y v ov iv u _ I2 r1 r2 r q2) fun _ s3 ⟨H3,I3,q3⟩=>?_))));exact wpAny_release ⟨σ,H3,I3,q3⟩
noncomputable def aLA (te:TE)(g:TG):TS:=fun D σ H=>te σ H fun x H1=>g x σ H1 D.nx
theorem a8O {tg e:Expr}{te:TE}{g:TG}(he:PE X e te)(hg:PG X tg g)(hs:swapsWithSole [tg] e pos.line X.env=pure false:=by rfl)(hw:swappedStores [tg] e X.env=pure none:=by rfl)
  (h1:(assignEach [tg] X.env).map (·.2)=[assign tg X.env]:=by rfl):PS X (.Assign [tg] e pos) (aLA te g):=by
 intro pins s σ H D I h;refine wpAny_Assign_stores (thn (he pins s σ H _ I h) fun v s1 ⟨x,H1,I1,r1,q1⟩=>?_) hs hw;rw[h1];exact thn (hg pins s1 σ H1 x v _ I1 r1 q1) fun _ s2 q=>q
theorem aZ {i:Nat}{x:Str}{e:Expr}{te:TE}{pos':Pos}(hN:X.N.Nodup)(hi:X.N[i]?=some x)(hx:Loc X.env.scope x)(he:PE X e te)(hs:swapsWith e (some (.Name x pos')) pos.line X.env=pure false:=by rfl)(hf:X.fn x=true∨X.env.scope.names.lookup x=some .local:=by first|exact .inl rfl|exact .inr rfl|assumption) :
  PS X (.Assign [.Name x pos'] e pos) (aLA te (aBI i)):=by
 intro pins s σ H D I h;refine wpAny_Assign_Name (thn (he pins s σ H _ I h) fun v s1 ⟨y,H1,I1,r1,q1⟩=>?_) hs;exact w5 I1 hN hi hx r1 (fun s2 I2=>⟨_,H1,I2,q1⟩) hf
noncomputable def aOA (i j:Nat)(ta:TA):TS:=fun D σ H=>ta σ H fun vs H1=>∃ v w,vs=[v,w]∧D.nx ((σ.set i (some v)).set j (some w)) H1
theorem aJ6 {i j:Nat}{x y:Str}{a b:Expr}{ta:TA}{px py pt:Pos}{kt k2 pt2}(hc:X.calm=true)(hN:X.N.Nodup)(hi:X.N[i]?=some x)(hj:X.N[j]?=some y)(hij:i≠j)
  (hx:X.env.scope.names.lookup x=some .local) (hy:X.env.scope.names.lookup y=some .local) (ha:PA X [a,b] ta)
  (hw:swappedStores [.Tuple [.Name x px,.Name y py] kt pt] (.Tuple [a,b] k2 pt2) X.env=pure (some [x,y]))
  (hs:swapsWithSole [.Tuple [.Name x px,.Name y py] kt pt] (.Tuple [a,b] k2 pt2) pos.line X.env=pure false:=by rfl) :
  PS X (.Assign [.Tuple [.Name x px,.Name y py] kt pt] (.Tuple [a,b] k2 pt2) pos) (aOA i j ta):=by
 intro pins s σ H D I h;rw[exec_Assign_arm];refine wpAny_bind (wpAny_standAt ?_);rw[hs];refine wpAny_bind (wpAny_pure ?_);rw[if_neg (by decide)];refine wpAny_bind (Tuple_ (thn (ha _ pins s σ H _ I h) fun us s1 ⟨vs,H1,I1,r1,q1⟩=>?_));obtain⟨v,w,e1,q1⟩:=q1;subst e1;obtain⟨u1,u2,rfl,rv,rw'⟩:∃ u1 u2,us=[u1,u2]∧RelV v u1∧RelV w u2:=by
  cases r1 with
  | cons p q=>
   cases q with
   | cons p' q'=>
    cases q'
    exact⟨_,_,rfl,p,p'⟩
 refine wpAny_newObj_type ?_ (by show 2≤sizeLine; decide);have I2:Inv X pins σ H1 { s1 with heap:=s1.heap.push { cls:=.type "tuple", data:=.seq [u1,u2].toArray } }:=I1.kept (t':=s1.toks) fun b o e=>Heap.get?_push_of_some _ e;rw[hw];refine wpAny_bind (wpAny_pure ?_);show wpAny (model X.prog X.w) X.A (do rule "assign.swapped-stores"; let items←unpackItems (.ref s1.heap.objs.size) 2 none; assignInOrder [fun v=>bindName X.env y v,fun v=>bindName X.env x v] items.reverse; pure Flow.next) _ _ _;refine wpAny_bind (wpAny_rule (wpAny_bind (unpackItems_tuple (items:=#[u1,u2]) (I.ok.hd hc) (IsTup.new s1.heap _) fun h' hx'=>?_)));have I3:=I2.kept (h':=h') (t':=s1.toks) fun b o e=>hx' b o (Nat.ne_of_lt (Heap.lt_size e)) e;show wpAny _ _ (assignInOrder [fun v=>bindName X.env y v,fun v=>bindName X.env x v] [u2,u1] >>= fun _=>pure Flow.next) _ _ _;refine wpAny_bind (assignInOrder_cons (wpAny_bindName (w5 I3 hN hj (.inl hy) rw' (fun s2 I4=>?_) (.inr hy))));refine assignInOrder_cons (wpAny_bindName (w5 I4 hN hi (.inl hx) rv (fun s3 I5=>assignInOrder_nil (wpAny_pure ?_)) (.inr hx)));rw[List.set_comm _ _ (Ne.symm hij)] at I5;exact⟨_,H1,I5,q1⟩
end
section
variable {X:Cx}{pos:Pos}
noncomputable def aFX (c:TT)(tb:TS):TS:=fun D σ H=>∃ W:Nat→St→Hp→Prop,(∃ m,W m σ H)∧∀ m σ H,W m σ H →
 c σ H fun b H1=>if b=true then ∃ N:St→Hp→Prop,(∀ σ' H',N σ' H'→∃ m',m'<m∧W m' σ' H')∧tb { D with nx:=N,ct:=N,bk:=D.nx } σ H1 else D.nx σ H1
theorem wG {c:Expr}{body:List Stmt}{tc:TT}{tb:TS}(hp:PassesOwn (model X.prog X.w) X.A X.env X.xe)(hc:PT X c tc)(hb:PSs X body tb):PS X (.While c body [] pos) (aFX tc tb):=by
 intro pins s σ H D I h;obtain⟨W,⟨m0,w0⟩,turn⟩:=h;refine wpAny_While (codeAny_whileLoop (fun n s'=>∃ σ' H',Inv X pins σ' H' s'∧W n σ' H') ?_ m0 ⟨σ,H,I,w0⟩);rintro n s1 ⟨σ1,H1,I1,w1⟩;refine wpAny_passesOwn hp (thn (hc pins s1 σ1 H1 _ I1 (turn n σ1 H1 w1)) fun b s2 ⟨H2,I2,q2⟩=>?_)
 cases b with
 | true=>
  obtain⟨N,hN,q2⟩:=q2;rw[if_pos rfl];refine wpAny_passesOwn hp (thn (hb pins s2 σ1 H2 _ I2 q2) fun f s3 q3=>?_)
  cases f with
  | next=>
   obtain⟨σ3,H3,I3,n3⟩:=q3;obtain⟨m',hm,w3⟩:=hN σ3 H3 n3;exact⟨m',hm,σ3,H3,I3,w3⟩
  | cont=>
   obtain⟨σ3,H3,I3,n3⟩:=q3;obtain⟨m',hm,w3⟩:=hN σ3 H3 n3;exact⟨m',hm,σ3,H3,I3,w3⟩
  | brk=>exact q3
  | ret v=>exact q3
 | false=>
  rw[if_neg Bool.false_ne_true];exact wpAny_execs_nil ⟨σ1,H2,I2,q2⟩
end
structure It where
 go:Nat→Hp→Prop
 yld:Nat→Hp→V→Hp→Prop
 stop:Nat→Hp→Prop
noncomputable def aA5 (X:Cx)(pins:List (Addr×Obj))(H:Hp)(b:Addr):Prop:=
 H b=none∧b≠X.env.locals∧b∉X.fs∧(b∈X.ex∨X.s₀.heap.objs.size≤b)∧(∀ x c,X.env.cells.lookup x=some c→c≠b)∧∀ p∈X.pn++pins,p.1≠b
theorem Inv.fpOk {X:Cx}{pins:List (Addr×Obj)}{σ:St}{H H':Hp}{s:Shared}{b:Addr}(I:Inv X pins σ H s)(hb:s.heap.objs.size≤b)(hn:H' b=none):aA5 X pins H' b:=by
 refine⟨hn,Nat.ne_of_gt (Nat.lt_of_lt_of_le I.lt hb),I.nofs hb,.inr (Nat.le_trans I.sz hb),fun x c e z=>?_,fun p hp z=>?_⟩
 ·obtain⟨v,q⟩:=I.cell x c e;exact absurd (Nat.lt_of_lt_of_le q.lt (by rw[z]; exact hb)) (Nat.lt_irrefl _)
 ·exact absurd (Nat.lt_of_lt_of_le (Heap.lt_size (I.pin p hp).1) (by rw[z]; exact hb)) (Nat.lt_irrefl _)
structure Turn (P:Program)(w:World)(K:PySem.W.Frag)(tg:Expr)(J:It)(fp:List Addr)(it:Addr)(tn:Nat→Heap→Prop):Prop where
 mem:it∈fp
 obj:∀ i h,tn i h→∀ b∈fp,∃ o,h.get? b=some o∧∀ v,o.data≠.cell v
 keep:∀ i h h',tn i h→(∀ b∈fp,∀ o,h.get? b=some o→h'.get? b=some o)→tn i h'
 item:∀(X:Cx),X.prog=P→X.w=w→X.K=K→X.calm=true→∀(i:Nat) (pins:List (Addr×Obj)) (s:Shared) (σ:St) (H:Hp) (E:Value→Shared→Prop),Inv X pins σ H s→(∀ b∈fp,aA5 X pins H b)→tn i s.heap→J.go i H →
  wpAny (model P w) X.A (pyNext (.ref it)) (fun r s1=>∃ u,r=some u ∧
   wpAny (model P w) X.A (letOwnedTupleGo tg (.ref it) u) (fun _ s2=>∃ x H',Inv X pins σ H' s2∧RelV x u∧J.yld i H x H'∧tn (i+1) s2.heap∧∀ b∈fp,H' b=none) E s1) E s
 done:∀(X:Cx),X.prog=P→X.w=w→X.K=K→X.calm=true→∀(i:Nat) (pins:List (Addr×Obj)) (s:Shared) (σ:St) (H:Hp) (E:Value→Shared→Prop),Inv X pins σ H s→(∀ b∈fp,aA5 X pins H b)→tn i s.heap→J.stop i H →
  wpAny (model P w) X.A (pyNext (.ref it)) (fun r s1=>r=none∧Inv X pins σ H s1) E s
 self:∀(A:Around) (i:Nat) (s:Shared) (Q:Value→Shared→Prop) (E:Value→Shared→Prop),tn i s.heap→Q (.ref it) s→wpAny (model P w) A (pyIter (.ref it)) Q E s
abbrev TI:=St→Hp→(It→Hp→Prop)→Prop
noncomputable def PIE (X:Cx)(pins:List (Addr×Obj))(σ:St)(tg:Expr)(R:It→Hp→Prop)(itv:Value)(s2:Shared):Prop:=
 ∃(it:Addr) (fp:List Addr) (tn:Nat→Heap→Prop) (J:It) (H':Hp),itv=.ref it∧Inv X pins σ H' s2∧Turn X.prog X.w X.K tg J fp it tn∧tn 0 s2.heap∧(∀ b∈fp,aA5 X pins H' b)∧R J H'
noncomputable def PI (X:Cx)(tg iter:Expr)(wi:TI):Prop:=
 ∀(pins:List (Addr×Obj)) (s:Shared) (σ:St) (H:Hp) (R:It→Hp→Prop),Inv X pins σ H s→wi σ H R →
  wpAny (model X.prog X.w) X.A (eval iter X.env) (fun v s1=>wpAny (model X.prog X.w) X.A (pyIter v) (PIE X pins σ tg R) X.xe s1) X.xe s
theorem aH1 {M:Model}{A:Around}{E:Value→Shared→Prop}{s:Shared}{tg:Expr}{it:Addr}{u:Value}{o:Obj}{n:String}{vs:Array Value}{Q:Unit→Shared→Prop}(ho:s.heap.get? it=some o)(hc:o.cls=.type n)(hd:o.data=.fields vs)
    (hn:["enumerate", "zip", "dict_itemiterator", "dict_reverseitemiterator", "odict_iterator", "itertools.zip_longest", "itertools.pairwise"].contains n=false) (hQ:Q () s):wpAny M A (letOwnedTupleGo tg (.ref it) u) Q E s:=by
  unfold letOwnedTupleGo
  cases tg<;>first
    | exact wpAny_pure hQ
    | (cases u<;>first
        | exact wpAny_pure hQ
        | (refine wpAny_bind (wpAny_load ho ?_)
           rw[hc,hd];show wpAny M A (if (["enumerate", "zip", "dict_itemiterator", "dict_reverseitemiterator", "odict_iterator", "itertools.zip_longest", "itertools.pairwise"].contains n&&vs[0]?==some (rawInt _))=true then _ else _) Q E s;rw[if_neg (by intro h; rw[hn,Bool.false_and] at h; cases h)];exact wpAny_pure hQ))
noncomputable def Itl (K:PySem.W.Frag)(a:Addr):It:=
 ⟨fun i H=>∃ xs x,SqL K H a xs∧xs[i]?=some x,fun i H x H'=>H'=H∧∀ xs,SqL K H a xs→xs[i]?=some x,fun i H=>∃ xs,SqL K H a xs∧xs.length≤i⟩
noncomputable def Itr (lo:Int)(n:Nat):It:=⟨fun i _=>i<n,fun i H x H'=>H'=H∧x=.int (lo+i),fun i _=>n≤i⟩
theorem aCZ {P:Program}{w:World}{K:PySem.W.Frag}{tg:Expr}(a it:Addr):Turn P w K tg (Itl K a) [it] it (fun i h=>h.IsListIter it a i) where
 mem:=by simp
 obj:=fun i h st b hb=>by
  have e:b=it:=by simpa using hb
  subst e;obtain⟨o,e,c,d⟩:=st;exact⟨o,e,fun v z=>by rw[d] at z; cases z⟩
 keep:=fun i h h' st k=>st.at fun o e=>k it (by simp) o e
 item:=by
  intro X hP hw hK hc i pins s σ H E I hf st hg;subst hP hw hK;obtain⟨xs,x,hq,hx⟩:=hg;obtain⟨its,rv,p,hz⟩:=I.list hq;obtain⟨u,hu,ru⟩:=rv.get hx;obtain⟨f0,f1,f2,f3,f4,f5⟩:=hf it (by simp);refine wpAny_pyNext_list_item st p.isList (x:=u) (by simpa using hu) fun h' st' sb=>?_;have I1:Inv X pins σ H { s with heap:=h' }:=I.turned (t':=s.toks) (fun b o hb e=>(sb.2 b hb).trans e) f0 f1 f3 f4 f5;obtain⟨o,e,c,d⟩:=id st';exact⟨u,rfl,aH1 (s:={ s with heap:=h' }) e c d (by decide) ⟨x,H,I1,ru,⟨rfl,fun ys hy=>by rw[I.list_inj hy hq]; exact hx⟩,st',fun b hb=>(hf b hb).1⟩⟩
 done:=by
  intro X hP hw hK hc i pins s σ H E I hf st hg;subst hP hw hK;obtain⟨xs,hq,hx⟩:=hg;obtain⟨its,rv,p,hz⟩:=I.list hq;obtain⟨f0,f1,f2,f3,f4,f5⟩:=hf it (by simp);have hl:=rv.length;exact wpAny_pyNext_list_end (I.ok.hd hc) st p.isList (by simp; omega) fun h' eb=>⟨rfl,I.turned (t':=s.toks) (fun b o hb e=>eb b o hb e) f0 f1 f3 f4 f5⟩
 self:=fun _ _ _ _ _ st h=>wpAny_pyIter_listiter st h
theorem a9S {P:Program}{w:World}{K:PySem.W.Frag}{tg:Expr}(it:Addr)(lo:Int)(n:Nat):Turn P w K tg (Itr lo n) [it] it (fun i h=>IsRangeIter h it (lo+(i:Nat)*1) ((n:Int)-(i:Nat)) 1) where
 mem:=by simp
 obj:=fun i h st b hb=>by
  have e:b=it:=by simpa using hb
  subst e;exact⟨_,st,fun v z=>by
   have z':Data.fields _=Data.cell v:=z
   cases z'⟩
 keep:=fun i h h' st k=>k it (by simp) _ st
 item:=by
  intro X hP hw hK hc i pins s σ H E I hf st hg;subst hP hw hK;obtain⟨f0,f1,f2,f3,f4,f5⟩:=hf it (by simp);have W:=Walks.range (prog:=X.prog) (w:=X.w) (I.ok.hd hc) it lo 1 n;refine W.item i s _ _ hg st fun v h' tk hv st' kk=>?_;obtain⟨t,rfl⟩:=hv;have I1:Inv X pins σ H { s with heap:=h',toks:=tk }:=I.turned (fun b o hb e=>kk b o (by simpa using hb) e) f0 f1 f3 f4 f5;refine⟨_,rfl,aH1 (s:={ s with heap:=h',toks:=tk }) (n := "range_iterator") st' rfl rfl (by decide) ⟨.int (lo+i),H,I1,⟨t,?_⟩,⟨rfl,rfl⟩,st',fun b hb=>(hf b hb).1⟩⟩;rw[Int.mul_one]
 done:=by
  intro X hP hw hK hc i pins s σ H E I hf st hg;subst hP hw hK;obtain⟨f0,f1,f2,f3,f4,f5⟩:=hf it (by simp);exact wpAny_pyNext_range_end (I.ok.hd hc) st (by have:n≤i:=hg; omega) fun h' eb=>⟨rfl,I.turned (t':=s.toks) (fun b o hb e=>eb b o hb e) f0 f1 f3 f4 f5⟩
 self:=fun _ _ _ _ _ st h=>wpAny_pyIter_rangeiter st h
end L2
namespace L2
open PySem PySem.Spec PyProof.Rows
section
variable {X:Cx}{tg:Expr}
noncomputable def aLI (K:PySem.W.Frag)(tl:TE):TI:=fun σ H R=>tl σ H fun x H1=>∃ a,x=.ref a∧(∃ xs,SqL K H1 a xs)∧R (Itl K a) H1
theorem jD {l:Expr}{tl:TE}(hl:PE X l tl):PI X tg l (aLI X.K tl):=by
 intro pins s σ H R I h;refine thn (hl pins s σ H _ I h) fun v s1 ⟨x,H1,I1,r1,q1⟩=>?_;obtain⟨a,e,⟨xs,hq⟩,q⟩:=q1;subst e
 cases r1
 obtain⟨its,rv,p,hz⟩:=I1.list hq;refine wpAny_pyIter_list p.isList ?_;refine⟨s1.heap.objs.size,[s1.heap.objs.size],_,_,H1,rfl,I1.kept (t':=s1.toks) fun b o e=>Heap.get?_push_of_some _ e,aCZ a _,⟨_,Heap.get?_push_size _ rfl,rfl,rfl⟩,fun b hb=>?_,q⟩;have e:b=s1.heap.objs.size:=by simpa using hb
 subst e;exact I1.fpOk (Nat.le_refl _) (I1.hok.fresh (Nat.le_refl _))
theorem a8B {pins:List (Addr×Obj)}{σ:St}{H:Hp}{s:Shared}{R:It→Hp→Prop}{E:Value→Shared→Prop}{lo hi:Int}{t u v:Tok}{tk:Nat}(I:Inv X pins σ H s)(h1 : -(2^62)≤lo)(h2:lo<2^62)(h3 : -(2^62)≤hi)(h4:hi<2^62)
  (q:R (Itr lo (hi-lo).toNat) H):wpAny (model X.prog X.w) X.A (pyIter (.ref s.heap.objs.size)) (PIE X pins σ tg R) E { s with heap:=s.heap.push { cls:=.type "range", data:=.fields #[.int lo t,.int hi u,.int 1 v] },toks:=tk }:=by
 refine wpAny_pyIter_range (IsRange.new ..) (small_one h1 h2 h3 h4) ?_;have I1:Inv X pins σ H { s with heap:=s.heap.push { cls:=.type "range", data:=.fields #[.int lo t,.int hi u,.int 1 v] },toks:=tk }:=I.kept fun b o e=>Heap.get?_push_of_some _ e;refine⟨(s.heap.push { cls:=.type "range", data:=.fields #[.int lo t,.int hi u,.int 1 v] }).objs.size,[(s.heap.push { cls:=.type "range", data:=.fields #[.int lo t,.int hi u,.int 1 v] }).objs.size],_,_,H,rfl,
  I1.kept (t':=tk) fun b o e=>Heap.get?_push_of_some _ e,a9S _ lo (hi-lo).toNat,?_,fun b hb=>?_,q⟩
 ·have e1:lo+((0:Nat):Int)*1=lo:=by simp
  have e2:(((hi-lo).toNat:Nat):Int)-((0:Nat):Int)=Builtin.Range.rangeSize lo hi 1:=by rw[rangeSize_one]; split<;>omega
  show IsRangeIter _ _ (lo+((0:Nat):Int)*1) ((((hi-lo).toNat:Nat):Int)-((0:Nat):Int)) 1;rw[e1,e2];exact Heap.get?_push_size _ rfl
 ·have e:b=(s.heap.push { cls:=.type "range", data:=.fields #[.int lo t,.int hi u,.int 1 v] }).objs.size:=by simpa using hb
  subst e;exact I1.fpOk (Nat.le_refl _) (I1.hok.fresh (Nat.le_refl _))
noncomputable def aJL (ta:TA):TI:=fun σ H R=>ta σ H fun vs H1=>∃ j:Int,vs=[.int j] ∧ -(2^62)≤j∧j<2^62∧R (Itr 0 j.toNat) H1
noncomputable def aL5 (ta:TA):TI:=fun σ H R=>ta σ H fun vs H1=>∃ i j:Int,vs=[.int i,.int j]∧(-(2^62)≤i∧i<2^62 ∧ -(2^62)≤j∧j<2^62)∧R (Itr i (j-i).toNat) H1
theorem yO {a:Expr}{ta:TA}{p pos:Pos}(hg:Gl X "range")(hm:X.mg "range" = none)(ha:PA X [a] ta)(hs:starEach [a] X.env=[(false,eval a X.env)]:=by rfl):PI X tg (.Call (.Name "range" p) [a] [] pos) (aJL ta):=by
 intro pins s σ H R I h;refine Call_ (a07 I hg hm boot_range (PyProof.Rows.callWith_type1 (thn (ha pos pins s σ H _ I h) fun us s1 ⟨vs,H1,I1,r1,q1⟩=>?_) hs rfl));obtain⟨j,e,q1,q2,q⟩:=q1;subst e
 cases r1 with
 | cons r rr=>
  cases rr
  obtain⟨t,rfl⟩:=r;exact call_range_1 (a8B I1 (by omega) (by omega) q1 q2 (by simpa using q))
theorem aDU {a b:Expr}{ta:TA}{p pos:Pos}(hg:Gl X "range")(hm:X.mg "range" = none)(ha:PA X [a,b] ta)(hs:starEach [a,b] X.env=[(false,eval a X.env),(false,eval b X.env)]:=by rfl)(hs2:starEach [b] X.env=[(false,eval b X.env)]:=by rfl) :
  PI X tg (.Call (.Name "range" p) [a,b] [] pos) (aL5 ta):=by
 intro pins s σ H R I h;refine Call_ (a07 I hg hm boot_range (PyProof.Rows.callWith_type1 (thn (ha pos pins s σ H _ I h) fun us s1 ⟨vs,H1,I1,r1,q1⟩=>?_) (by rw[hs,hs2]) (by rw[hs2]; rfl)));obtain⟨i,j,e,⟨q1,q2,q3,q4⟩,q⟩:=q1;subst e
 cases r1 with
 | cons r rr=>
  cases rr with
  | cons r' rr=>
   cases rr
   obtain⟨t,rfl⟩:=r;obtain⟨t',rfl⟩:=r';exact call_range_2 (a8B I1 q1 q2 q3 q4 q)
noncomputable def aOT (wi:TI)(g:TG)(tb:TS):TS:=fun D σ H=>wi σ H fun J H1=>∃ W:Nat→Nat→St→Hp→Prop,(∃ m,W 0 m σ H1)∧∀ i m σ H,W i m σ H →
 (J.stop i H∧D.nx σ H)∨(J.go i H∧∃ N:St→Hp→Prop,(∀ σ' H',N σ' H'→∃ m',m'<m∧W (i+1) m' σ' H')∧∀ x H',J.yld i H x H'→g x σ H' fun σ2 H2=>tb { D with nx:=N,ct:=N,bk:=D.nx } σ2 H2)
noncomputable def a4E (fp:List Addr)(h:Heap):List (Addr×Obj):=fp.filterMap fun b=>(h.get? b).map fun o=>(b,o)
theorem pU {fp:List Addr}{h:Heap}{b:Addr}{o:Obj}(hb:b∈fp)(e:h.get? b=some o):(b,o)∈a4E fp h:=List.mem_filterMap.mpr ⟨b,hb,by rw[e]; rfl⟩
theorem aBG {fp:List Addr}{h:Heap}{p:Addr×Obj}(hp:p∈a4E fp h):p.1∈fp∧h.get? p.1=some p.2:=by
 obtain⟨b,hb,e⟩:=List.mem_filterMap.mp hp
 cases q:h.get? b with
 | none=>rw[q] at e; cases e
 | some o=>
  rw[q] at e;have e':(b,o)=p:=Option.some.inj e;subst e';exact⟨hb,q⟩
theorem Inv.pinned {pins:List (Addr×Obj)}{σ:St}{H:Hp}{s:Shared}{fp:List Addr}(I:Inv X pins σ H s)(hf:∀ b∈fp,aA5 X pins H b)(ho:∀ b∈fp,∃ o,s.heap.get? b=some o∧∀ v,o.data≠.cell v):Inv X (pins++a4E fp s.heap) σ H s:=
 I.pins_of fun p hp=>(List.mem_append.mp hp).elim (fun z=>I.pin p (List.mem_append_right _ z)) fun z=>by
  obtain⟨hb,e⟩:=aBG z;obtain⟨f0,f1,f2,_⟩:=hf p.1 hb;obtain⟨o,e',d⟩:=ho p.1 hb;rw[e] at e'; cases e';exact⟨e,f0,f1,f2,d⟩
theorem Inv.unpinned {pins pl:List (Addr×Obj)}{σ:St}{H:Hp}{s:Shared}(I:Inv X (pins++pl) σ H s):Inv X pins σ H s:=I.pins_of fun p hp=>I.pin p (List.mem_append_right _ (List.mem_append_left _ hp))
theorem jH {iter:Expr}{body:List Stmt}{wi:TI}{g:TG}{tb:TS}{pos:Pos}(hp:PassesOwn (model X.prog X.w) X.A X.env X.xe)(hc:X.calm=true)(hi:PI X tg iter wi)(hg:PG X tg g)(hb:PSs X body tb)
  (hs:∀ x,foldedSetIterable iter X.env x=pure x:=by intro _; rfl):PS X (.For tg iter body [] pos) (aOT wi g tb):=by
 intro pins s σ H D I h;refine wpAny_For (thn (hi pins s σ H _ I h) fun v s1 h1=>thn h1 fun itv s2 h2=>?_) hs;obtain⟨it,fp,tn,J,H2,e,I2,T,st2,f2,W,⟨m0,w0⟩,turn⟩:=h2;subst e;have stat:∀{H':Hp},(∀ b∈fp,H' b=none)→∀ b∈fp,aA5 X pins H' b:=fun hn b hb=>⟨hn b hb,(f2 b hb).2⟩;refine codeAny_forLoop_any (fun n s'=>∃ i σ' H',Inv X pins σ' H' s'∧tn i s'.heap∧(∀ b∈fp,H' b=none)∧W i n σ' H') ?_ m0 ⟨0,σ,H2,I2,st2,fun b hb=>(f2 b hb).1,w0⟩;rintro n s3 ⟨i,σ3,H3,I3,st3,fr3,w3⟩;rcases turn i n σ3 H3 w3 with⟨stop,qn⟩|⟨go,N,hN,step⟩
 ·refine wpAny_passesOwn hp (thn (T.done X rfl rfl rfl hc i pins s3 σ3 H3 X.xe I3 (stat fr3) st3 stop) fun r s4 ⟨hr,I4⟩=>?_);subst hr;exact wpAny_execs_nil ⟨σ3,H3,I4,qn⟩
 ·refine wpAny_passesOwn hp (thn (T.item X rfl rfl rfl hc i pins s3 σ3 H3 X.xe I3 (stat fr3) st3 go) fun r s4 ⟨u,hr,h4⟩=>?_);subst hr;refine wpAny_passesOwn hp (thn h4 fun _ s5 ⟨x,H5,I5,r5,y5,st5,fr5⟩=>?_);have I5':=I5.pinned (stat fr5) (T.obj _ _ st5);refine wpAny_passesOwn hp (thn (hg _ s5 σ3 H5 x u _ I5' r5 (step x H5 y5)) fun _ s6 ⟨σ6,H6,I6,q6⟩=>?_);refine wpAny_passesOwn hp (thn (hb _ s6 σ6 H6 _ I6 q6) fun f s7 q7=>?_);have again:∀{σ7:St} {H7:Hp},Inv X (pins++a4E fp s5.heap) σ7 H7 s7→N σ7 H7→∃ m,m<n∧∃ i σ' H',Inv X pins σ' H' s7∧tn i s7.heap∧(∀ b∈fp,H' b=none)∧W i m σ' H':=fun{σ7 H7} I7 n7=>by
   obtain⟨m',hm,w7⟩:=hN σ7 H7 n7;refine⟨m',hm,i+1,σ7,H7,I7.unpinned,T.keep _ _ _ st5 fun b hb o e=>(I7.pin (b,o) (List.mem_append_right _ (List.mem_append_right _ (pU hb e)))).1,fun b hb=>?_,w7⟩;obtain⟨o,e,d⟩:=T.obj _ _ st5 b hb;exact(I7.pin (b,o) (List.mem_append_right _ (List.mem_append_right _ (pU hb e)))).2.1
  cases f with
  | next=>obtain⟨σ7,H7,I7,n7⟩:=q7; exact again I7 n7
  | cont=>obtain⟨σ7,H7,I7,n7⟩:=q7; exact again I7 n7
  | brk=>obtain⟨σ7,H7,I7,q7⟩:=q7; exact⟨σ7,H7,I7.unpinned,q7⟩
  | ret v=>obtain⟨x7,σ7,H7,I7,r7,q7⟩:=q7; exact⟨x7,σ7,H7,I7.unpinned,r7,q7⟩
end
end L2
namespace L2
open PySem PySem.Spec PyProof.Rows
abbrev R2:=V→V→Hp→VK→Prop
noncomputable def OpR (X:Cx)(f:Value→Value→Sem Value)(r:R2):Prop:=
 ∀(pins:List (Addr×Obj)) (s:Shared) (σ:St) (H:Hp) (x y:V) (v u:Value) (Q:VK),Inv X pins σ H s→RelV x v→RelV y u→r x y H Q →
  wpAny (model X.prog X.w) X.A (f v u) (EP X pins σ Q) X.xe s
noncomputable def UnR (X:Cx)(f:Value→Sem Value)(r:V→Hp→VK→Prop):Prop:=
 ∀(pins:List (Addr×Obj)) (s:Shared) (σ:St) (H:Hp) (x:V) (v:Value) (Q:VK),Inv X pins σ H s→RelV x v→r x H Q →
  wpAny (model X.prog X.w) X.A (f v) (EP X pins σ Q) X.xe s
noncomputable def a2F (X:Cx)(f:Value)(r:List V→Hp→VK→Prop):Prop:=
 ∀(pins:List (Addr×Obj)) (s:Shared) (σ:St) (H:Hp) (xs:List V) (us:List Value) (Q:VK),Inv X pins σ H s→Vals xs us→r xs H Q →
  wpAny (model X.prog X.w) X.A (call f us) (EP X pins σ Q) X.xe s
noncomputable def tOp (r:R2)(ta tb:TE):TE:=fun σ H Q=>ta σ H fun x H1=>tb σ H1 fun y H2=>r x y H2 Q
noncomputable def tUn (r:V→Hp→VK→Prop)(ta:TE):TE:=fun σ H Q=>ta σ H fun x H1=>r x H1 Q
noncomputable def rI (C:Int→Int→Prop)(g:Int→Int→V):R2:=fun x y H Q=>∃ i j,x=.int i∧y=.int j∧C i j∧Q (g i j) H
noncomputable def rI0 (g:Int→Int→V):R2:=fun x y H Q=>∃ i j,x=.int i∧y=.int j∧Q (g i j) H
noncomputable def rU (g:Int→V):V→Hp→VK→Prop:=fun x H Q=>∃ i,x=.int i∧Q (g i) H
section
variable {X:Cx}{a b c:Expr}{ta tb tc:TE}{pos:Pos}
theorem aMI (ha:PE X a ta)(hb:PE X b tb){pins:List (Addr×Obj)}{s:Shared}{σ:St}{H:Hp}{R:V→V→Hp→Prop}(I:Inv X pins σ H s)
  (h:ta σ H fun x H1=>tb σ H1 fun y H2=>R x y H2) {Q:Value→Shared→Prop} {f:Value→Value→Sem Value}
  (hf:∀ v u s2 x y H2,Inv X pins σ H2 s2→RelV x v→RelV y u→R x y H2→wpAny (model X.prog X.w) X.A (f v u) Q X.xe s2) :
  wpAny (model X.prog X.w) X.A (eval a X.env) (fun v s₁=>wpAny (model X.prog X.w) X.A (eval b X.env) (fun u s₂=>wpAny (model X.prog X.w) X.A (f v u) Q X.xe s₂) X.xe s₁) X.xe s:=by
 refine thn (ha pins s σ H _ I h) fun v s1 ⟨x,H1,I1,r1,q1⟩=>?_;refine thn (hb pins s1 σ H1 _ I1 q1) fun u s2 ⟨y,H2,I2,r2,q2⟩=>?_;exact hf v u s2 x y H2 I2 r1 r2 q2
theorem bU {op:Operator}{r:R2}(ho:OpR X (binaryOp op) r)(ha:PE X a ta)(hb:PE X b tb):PE X (.BinOp a op b pos) (tOp r ta tb):=by
 intro pins s σ H Q I h;exact wpAny_BinOp (aMI ha hb I h fun v u s2 x y H2 I2 rx ry q=>ho pins s2 σ H2 x y v u Q I2 rx ry q)
theorem a7H {op:UnaryOp}{r:V→Hp→VK→Prop}(ho:UnR X (unaryOp op) r)(ha:PE X a ta):PE X (.UnaryOp op a pos) (tUn r ta):=by
 intro pins s σ H Q I h;exact UnaryOp_ (thn (ha pins s σ H _ I h) fun v s1 ⟨x,H1,I1,r1,q1⟩=>ho pins s1 σ H1 x v Q I1 r1 q1)
theorem opI {f:Value→Value→Sem Value}{C:Int→Int→Prop}{g:Int→Int→Int}
  (rule:∀(i j:Int) (t u:Tok) (s:Shared) (Q:Value→Shared→Prop) (E:Value→Shared→Prop),C i j→Q (.int (g i j) s.toks) { s with toks:=s.toks+1 }→wpAny (model X.prog X.w) X.A (f (.int i t) (.int j u)) Q E s) :
  OpR X f (rI C fun i j=>.int (g i j)):=by
 intro pins s σ H x y v u Q I rx ry h;obtain⟨i,j,rfl,rfl,hc,q⟩:=h;obtain⟨t,rfl⟩:=rx;obtain⟨t',rfl⟩:=ry;exact rule i j t t' s _ _ hc ⟨.int (g i j),H,I.tok _,⟨_,rfl⟩,q⟩
theorem aOK {f:Value→Value→Sem Value}{g:Int→Int→Int}
  (rule:∀(i j:Int) (t u:Tok) (s:Shared) (Q:Value→Shared→Prop) (E:Value→Shared→Prop),Q (.int (g i j) s.toks) { s with toks:=s.toks+1 }→wpAny (model X.prog X.w) X.A (f (.int i t) (.int j u)) Q E s) :
  OpR X f (rI0 fun i j=>.int (g i j)):=by
 intro pins s σ H x y v u Q I rx ry h;obtain⟨i,j,rfl,rfl,q⟩:=h;obtain⟨t,rfl⟩:=rx;obtain⟨t',rfl⟩:=ry;exact rule i j t t' s _ _ ⟨.int (g i j),H,I.tok _,⟨_,rfl⟩,q⟩
theorem aM1 {f:Value→Value→Sem Value}{g:Int→Int→Bool}
  (rule:∀(i j:Int) (t u:Tok) (s:Shared) (Q:Value→Shared→Prop) (E:Value→Shared→Prop),Q (.bool (g i j)) s→wpAny (model X.prog X.w) X.A (f (.int i t) (.int j u)) Q E s) :
  OpR X f (rI0 fun i j=>.bl (g i j)):=by
 intro pins s σ H x y v u Q I rx ry h;obtain⟨i,j,rfl,rfl,q⟩:=h;obtain⟨t,rfl⟩:=rx;obtain⟨t',rfl⟩:=ry;exact rule i j t t' s _ _ ⟨.bl (g i j),H,I,rfl,q⟩
noncomputable def aOB (i j:Int):Prop:=0<j∧j<1073741824
noncomputable def aOE (i j:Int):Prop:=0≤j∧j≤1000000∧i.natAbs<2^64
noncomputable def CMul (i j:Int):Prop:=(-(2^64)<i∧i<2^64)∨(-(2^64)<j∧j<2^64)
theorem CMul.ok {i j:Int}(h:CMul i j):IntMulOk i j:=by
 rcases h with⟨h1,h2⟩|⟨h1,h2⟩
 ·exact .of_left (intBits_le_64 h1 h2)
 ·exact .of_right (intBits_le_64 h1 h2)
theorem gD:OpR X (binaryOp .Add) (rI0 fun i j=>.int (i+j)):=aOK fun _ _ _ _ _ _ _ q=>add_int q
theorem a0C:OpR X (binaryOp .Sub) (rI0 fun i j=>.int (i-j)):=aOK fun _ _ _ _ _ _ _ q=>sub_int q
theorem a8M:OpR X (binaryOp .Mult) (rI CMul fun i j=>.int (i*j)):=opI fun _ _ _ _ _ _ _ hc q=>mul_int q hc.ok
theorem aAU:OpR X (binaryOp .FloorDiv) (rI aOB fun i j=>.int (i/j)):=opI fun i j _ _ _ _ _ hc q=>by
 have h1:(0:Int)<j:=hc.1;have h2:j<1073741824:=hc.2;exact floordiv_int (by omega) (by rw[Int.fdiv_eq_ediv_of_nonneg i (by omega)]; exact q) (.inl (PyProof.noPylong_small (by omega)))
theorem qI:OpR X (binaryOp .Mod) (rI (fun _ j=>0<j) fun i j=>.int (i%j)):=opI fun i j _ _ _ _ _ hc q=>by
 have h1:(0:Int)<j:=hc;exact mod_int' (by omega) (by rw[Int.fmod_eq_emod_of_nonneg i (by omega)]; exact q)
theorem aIY:OpR X (binaryOp .Pow) (rI aOE fun i j=>.int (i^j.toNat)):=opI fun _ _ _ _ _ _ _ hc q=>pow_int_small hc.1 hc.2.1 hc.2.2 q
theorem unI {f:Value→Sem Value}{g:Int→Int}
  (rule:∀(i:Int) (t:Tok) (s:Shared) (Q:Value→Shared→Prop) (E:Value→Shared→Prop),Q (.int (g i) s.toks) { s with toks:=s.toks+1 }→wpAny (model X.prog X.w) X.A (f (.int i t)) Q E s) :
  UnR X f (rU fun i=>.int (g i)):=by
 intro pins s σ H x v Q I rx h;obtain⟨i,rfl,q⟩:=h;obtain⟨t,rfl⟩:=rx;exact rule i t s _ _ ⟨.int (g i),H,I.tok _,⟨_,rfl⟩,q⟩
theorem wL:UnR X (unaryOp .USub) (rU fun i=>.int (-i)):=unI fun _ _ _ _ _ q=>neg_int q
end
noncomputable def aPO:V→V→Bool
 | .non,.non=>true|.non,.int _=>true|.int _,.non=>true|.non,.bl _=>true|.bl _,.non=>true|.non,.str _=>true|.str _,.non=>true
 | .int _,.int _=>true|.bl _,.bl _=>true|.str _,.str _=>true|.byt _,.byt _=>true
 | .int _,.str _=>true|.str _,.int _=>true|.bl _,.str _=>true|.str _,.bl _=>true
 | _,_=>false
noncomputable def rEq:R2:=fun x y H Q=>aPO x y=true∧Q (.bl (decide (x=y))) H
theorem aHB {i j:Int}:decide (V.int i=V.int j)=(i==j):=by
 rw[Bool.eq_iff_iff];simp
theorem aKO {i j:Bool}:decide (V.bl i=V.bl j)=(i==j):=by
 rw[Bool.eq_iff_iff];simp
theorem aH3 {i j:Str}:decide (V.str i=V.str j)=(i==j):=by
 rw[Bool.eq_iff_iff];simp
theorem aHT {i j:Array UInt8}:decide (V.byt i=V.byt j)=(i.toList==j.toList):=by
 rw[Bool.eq_iff_iff]
 cases i
 cases j
 simp
section
variable {X:Cx}{a b c:Expr}{ta tb tc:TE}{pos:Pos}
theorem iT {pins:List (Addr×Obj)}{σ:St}{H:Hp}{s:Shared}{Q:VK}{k k':Bool}(I:Inv X pins σ H s)(q:Q (.bl k) H)(e:k=k'):EP X pins σ Q (.bool k') s:=by
 subst e;exact⟨.bl k,H,I,rfl,q⟩
theorem aMB:OpR X (compareOp .Eq) rEq:=by
 intro pins s σ H x y v u Q I rx ry h;obtain⟨hs,q⟩:=h
 cases x with
 | non=>
  cases rx
  cases y with
  | non=>cases ry; exact PySem.EqNone.eq_none_none (iT I q (by simp))
  | bl j=>cases ry; exact PySem.EqNone.eq_none_bool (iT I q (by simp))
  | int j=>obtain⟨t',rfl⟩:=ry; exact PySem.EqNone.eq_none_int (iT I q (by simp))
  | str j=>obtain⟨t',rfl⟩:=ry; exact PySem.EqNone.eq_none_str (iT I q (by simp))
  | _=>exact absurd (show false=true from hs) Bool.false_ne_true
 | bl i=>
  cases rx
  cases y with
  | non=>cases ry; exact PySem.EqNone.eq_bool_none (iT I q (by simp))
  | bl j=>cases ry; exact eq_bool (iT I q aKO)
  | str j=>obtain⟨t',rfl⟩:=ry; exact PySem.EqMixed.eq_bool_str (iT I q (by simp))
  | _=>exact absurd (show false=true from hs) Bool.false_ne_true
 | int i=>
  obtain⟨t,rfl⟩:=rx
  cases y with
  | non=>cases ry; exact PySem.EqNone.eq_int_none (iT I q (by simp))
  | int j=>obtain⟨t',rfl⟩:=ry; exact eq_int (iT I q aHB)
  | str j=>obtain⟨t',rfl⟩:=ry; exact PySem.EqMixed.eq_int_str (iT I q (by simp))
  | _=>exact absurd (show false=true from hs) Bool.false_ne_true
 | str i=>
  obtain⟨t,rfl⟩:=rx
  cases y with
  | non=>cases ry; exact PySem.EqNone.eq_str_none (iT I q (by simp))
  | bl j=>cases ry; exact PySem.EqMixed.eq_str_bool (iT I q (by simp))
  | int j=>obtain⟨t',rfl⟩:=ry; exact PySem.EqMixed.eq_str_int (iT I q (by simp))
  | str j=>obtain⟨t',rfl⟩:=ry; exact eq_str (iT I q aH3)
  | _=>exact absurd (show false=true from hs) Bool.false_ne_true
 | byt i=>
  obtain⟨t,rfl⟩:=rx
  cases y with
  | byt j=>obtain⟨t',rfl⟩:=ry; exact PySem.W.eq_bytes (iT I q aHT)
  | _=>exact absurd (show false=true from hs) Bool.false_ne_true
 | _=>cases y<;>exact absurd (show false=true from hs) Bool.false_ne_true
theorem sE:OpR X (compareOp .Lt) (rI0 fun i j=>.bl (decide (i<j))):=aM1 fun _ _ _ _ _ _ _ q=>lt_int q
theorem aGY:OpR X (compareOp .Gt) (rI0 fun i j=>.bl (decide (j<i))):=aM1 fun _ _ _ _ _ _ _ q=>gt_int q
theorem aM5:OpR X (compareOp .GtE) (rI0 fun i j=>.bl (decide (j≤i))):=aM1 fun _ _ _ _ _ _ _ q=>ge_int q
theorem aB7:OpR X (compareOp .Is) (fun x y H Q=>y=.non∧Q (.bl (decide (x=.non))) H):=by
 intro pins s σ H x y v u Q I rx ry h;obtain⟨rfl,q⟩:=h
 cases ry
 refine is_none_gen (iT I q ?_)
 cases x<;>first
  | (cases rx; rfl)
  | (obtain⟨t,rfl⟩:=rx; rfl)
theorem a6D:OpR X (compareOp .IsNot) (fun x y H Q=>y=.non∧Q (.bl (!decide (x=.non))) H):=by
 intro pins s σ H x y v u Q I rx ry h;obtain⟨rfl,q⟩:=h
 cases ry
 refine isnot_none_gen (iT I q ?_)
 cases x<;>first
  | (cases rx; rfl)
  | (obtain⟨t,rfl⟩:=rx; rfl)
theorem bM (b:Expr){op:CmpOp}(h:op≠.In:=by decide)(h2:op≠.NotIn:=by decide):behindInMarks op b=false:=by
 have e1:(op==CmpOp.In)=false:=by cases op<;>first|rfl|exact absurd rfl h
 have e2:(op==CmpOp.NotIn)=false:=by cases op<;>first|rfl|exact absurd rfl h2
 cases b<;>simp[behindInMarks,e1,e2]
theorem kW {op:CmpOp}{r:R2}(ho:OpR X (compareOp op) r)(ha:PE X a ta)(hb:PE X b tb)(hm:behindInMarks op b=false):PE X (.Compare a [op] [b] pos) (tOp r ta tb):=by
 intro pins s σ H Q I h;exact wpAny_Compare1 (aMI ha hb I h fun v u s2 x y H2 I2 rx ry q=>ho pins s2 σ H2 x y v u Q I2 rx ry q) hm
noncomputable def aJG (t:TE):TT:=fun σ H Q=>t σ H fun x H'=>∃ k,x=.bl k∧Q k H'
theorem bD {op:CmpOp}{r:R2}(ho:OpR X (compareOp op) r)(ha:PE X a ta)(hb:PE X b tb)(hm:behindInMarks op b=false):PT X (.Compare a [op] [b] pos) (aJG (tOp r ta tb)):=by
 intro pins s σ H Q I h;refine wpAny_isTrue_Compare1 (thn (ha pins s σ H _ I h) fun v s1 ⟨x,H1,I1,r1,q1⟩=>thn (hb pins s1 σ H1 _ I1 q1) fun u s2 ⟨y,H2,I2,r2,q2⟩=>
  thn (ho pins s2 σ H2 x y v u _ I2 r1 r2 q2) fun c s3 ⟨z,H3,I3,r3,k,e,q3⟩=>?_) hm
 subst e
 cases r3
 exact wpAny_truthy_bool ⟨H3,I3,q3⟩
theorem a3C:(sizeLine:Nat)<2^63:=by rw[sizeLine_eq]; decide
theorem vals1 {x:V}{us:List Value}(r:Vals [x] us):∃ u,us=[u]∧RelV x u:=by
 cases r with
 | cons r1 r2=>cases r2; exact⟨_,rfl,r1⟩
theorem vals2 {x y:V}{us:List Value}(r:Vals [x,y] us):∃ u w',us=[u,w']∧RelV x u∧RelV y w':=by
 cases r with
 | cons r1 r2=>
  cases r2 with
  | cons r3 r4=>cases r4; exact⟨_,_,rfl,r1,r3⟩
theorem sJ:a2F X (.builtin "abs") (fun xs H Q=>∃ i,xs=[.int i]∧Q (.int (if i<0 then -i else i)) H):=by
 intro pins s σ H xs us Q I r h;obtain⟨i,rfl,q⟩:=h;obtain⟨u,rfl,t,rfl⟩:=vals1 r;exact call_abs_int fun u tk=>⟨.int (if i<0 then -i else i),H,I.tok _,⟨_,rfl⟩,q⟩
theorem tQ:a2F X (.type "int") (fun xs H Q=>(∃ i,xs=[.int i]∧Q (.int i) H)∨∃ k,xs=[.bl k]∧Q (.int (if k then 1 else 0)) H):=by
 intro pins s σ H xs us Q I r h;rcases h with⟨i,rfl,q⟩|⟨k,rfl,q⟩
 ·obtain⟨u,rfl,t,rfl⟩:=vals1 r;exact call_int_int ⟨.int i,H,I,⟨_,rfl⟩,q⟩
 ·obtain⟨u,rfl,r1⟩:=vals1 r
  cases r1
  exact call_int_bool ⟨.int (if k then 1 else 0),H,I.tok _,⟨_,rfl⟩,q⟩
end
end L2
namespace L2
open PySem PySem.Spec PyProof.Rows
structure ObjM (h:Heap)(x dx C:Addr)(mA:Str→Option Value):Prop where
 obj:h.get? x=some (PySem.W.instObj C dx)
 ns:h.Ns1 dx mA
 ne:dx≠x
theorem aA7 {h:Heap}{dx:Addr}{mA:Str→Option Value}(n:h.Ns1 dx mA):∃ od,h.get? dx=some od∧∀ name,PySem.W.lookIn name od=some (mA name):=by
 obtain⟨o,es,ep,ho,hd,hk,_,hm⟩:=n;refine⟨o,ho,fun name=>?_⟩;have e:=hm name;unfold nsFind findBy at e;rw[← Array.find?_toList] at e;unfold PySem.W.lookIn;rw[hd];dsimp only
 split
 ·rename_i y q
  rw[q] at e;exact congrArg some e
 ·rename_i q
  rw[q] at e;have a:es.toList.any (·.refKey)=false:=by
   rw[List.any_eq_false];intro y hy;obtain⟨z,t,hkey⟩:=hk y (Array.mem_toList_iff.mp hy);simp[DictEntry.refKey,hkey]
  have a':¬es.toList.any (·.refKey)=true:=by rw[a]; exact Bool.false_ne_true
  rw[if_neg a'];exact congrArg some e
theorem ObjM.look {h:Heap}{x dx C:Addr}{mA:Str→Option Value}(I:ObjM h x dx C mA):∃ od,PySem.W.InstAt h x (PySem.W.instObj C dx) C (some od)∧∀ name,PySem.W.lookIn name od=some (mA name):=
 let ⟨od,ho,hl⟩:=aA7 I.ns
 ⟨od,⟨I.obj,rfl,rfl,ho⟩,hl⟩
section
variable {prog:Program}{w:World}{A:Around}{E:Value→Shared→Prop}{s:Shared}{K:PySem.W.Frag}{x dx C f:Addr}{mA:Str→Option Value}{name:Str}{v:Value}
theorem aI5 {expr:Bool}{Q:Value→Shared→Prop}(X:K.In s.heap)(I:ObjM s.heap x dx C mA)(hg:PySem.W.plainGet K C name=true)(hh:PySem.W.hasDictIn K C=true)
  (ha:PySem.W.findIn K (.ref C) name=some none) (hv:mA name=some v) (hv':PySem.W.handedIn v=true) (h:Q v { s with toks:=s.toks+1 }) :
  wpAny (model prog w) A (getAttr (.ref x) name expr) Q E s:=by
 obtain⟨od,J,hl⟩:=I.look;exact PySem.W.get_value X J (PySem.W.plainGet_of hg).1 (PySem.W.findObj_own hh ha rfl (by rw[hl,hv])) hv' h
theorem aEO {pl:Sem Bool}{Q:Value×List Value→Shared→Prop}(X:K.In s.heap)(I:ObjM s.heap x dx C mA)(hg:PySem.W.plainGet K C name=true)
  (hf:PySem.W.findIn K (.ref C) name=some (some (.ref f))) (ht:PySem.W.isFn K (.ref f)=true) (hv:mA name=none) (h:Q (.ref f,[.ref x]) s) :
  wpAny (model prog w) A (getMethod (.ref x) name pl) Q E s:=by
 obtain⟨od,J,hl⟩:=I.look;exact PySem.W.method_fn X J (PySem.W.plainGet_of hg).1 (PySem.W.plainGet_of hg).2 hf (beq_iff_eq.mp ht) (by show(PySem.W.lookIn name od).map (·.isSome)=some false; rw[hl,hv]; rfl) h
theorem aH2 {ns:List Str}{Q:Unit→Shared→Prop}(X:K.In s.heap)(I:ObjM s.heap x dx C mA)
  (hs:PySem.W.findIn K (.ref C) "__setattr__" = some (some (.builtin "object.__setattr__"))) (hp:PySem.W.plainOver K C=true) (ht:PySem.W.takerIn K C name=some none) (hh:PySem.W.hasDictIn K C=true)
  (hw:PySem.Within mA ns) (hsz:ns.length≤sizeLine)
  (h:∀ h',ObjM h' x dx C (fun y=>if y=name then some v else mA y)→Heap.SameBut dx s.heap h'→Q () { s with heap:=h',toks:=s.toks+2 }) :
  wpAny (model prog w) A (setAttr (.ref x) name v) Q E s:=by
 obtain⟨od,J,hl⟩:=I.look;refine PySem.W.set_plain X J hs (PySem.W.osa_open (s:={ s with toks:=s.toks+1 }) (r:=none) X J hp ht fun b=>?_);obtain⟨cd,hc,hd'⟩:=PySem.W.any_some hh;have hx:s.heap.get? x=some ⟨.ref C,some dx,.plain,#[]⟩:=I.obj;refine wpAny_bind (wpAny_pure (wpAny_bind (wpAny_bind (wpAny_loadPart hx (wpAny_bind (PySem.W.Looks.here (s:={ s with toks:=s.toks+1 }) (PySem.W.looks_clsIn X hc) ?_))))));rw[hd'];refine wpAny_pure (a:=some dx) (wpAny_bind (wpAny_pure (wpAny_bind ?_)));refine wpAny_nsSet1 (s:={ s with toks:=s.toks+1 }) I.ns fun h' hn2 hs2=>?_;obtain⟨oD,esD,epD,hoD,hdD,hcD⟩:=hn2.count (PySem.Within.cons name v hw);refine wpAny_bind (wpAny_lookBehind hoD (by rw[hdD]; exact pastItsLine_dict (Nat.le_trans hcD (by rw[List.length_cons]; omega))) ?_);exact wpAny_pure (h _ ⟨(hs2.2 _ (Ne.symm I.ne)).trans I.obj,hn2,I.ne⟩ hs2)
theorem aFI {R:Result→Shared→Prop}{vs:List Value}{kw:List (Str×Value)}(X:K.In s.heap)(hm:PySem.W.makesIn K C=true)
  (hi:PySem.W.findIn K (.ref C) "__init__" = some (some (.ref f))) (hf:PySem.W.typeIn K (.ref f)=some (.type "function"))
  (h:codeAny (model prog w) (A.under (.builtin "type.__call__" ⟨.ref C::vs,kw⟩)) (.call (.ref f) ⟨.ref (s.heap.objs.size+1)::vs,kw⟩) (PySem.W.InitBack (s.heap.objs.size+1) R)
   { s with heap:=(s.heap.push PySem.W.emptyDict).push (PySem.W.instObj C s.heap.objs.size) }) :
  codeAny (model prog w) A (.call (.ref C) ⟨vs,kw⟩) R s:=by
 obtain⟨hh,g,d,t,os⟩:=s;exact PySem.W.make_core (PySem.W.makes_of X hm) (PySem.W.looks_findIn X hi) (fun self=>PySem.W.bind_fn X self hf) (.inl rfl) h
end
noncomputable def a4Z (f:Str)(v:V):List (Str×V)→List (Str×V)
 | []=>[(f,v)]
 | (g,x)::r=>if g=f then(g,v)::r else(g,x)::a4Z f v r
theorem xR (f g:Str)(v:V):∀ fs:List (Str×V),(a4Z f v fs).lookup g=if g=f then some v else fs.lookup g
 | []=>by
  show List.lookup g [(f,v)]=_
  by_cases h:g=f
  ·have hb:(g==f)=true:=beq_iff_eq.mpr h;simp only[List.lookup,hb,if_pos h]
  ·have hb:(g==f)=false:=beq_eq_false_iff_ne.mpr h;simp only[List.lookup,hb,if_neg h]
 | (k,x)::r=>by
  have ih:=xR f g v r;rw[show a4Z f v ((k,x)::r)=(if k=f then(k,v)::r else(k,x)::a4Z f v r) from rfl]
  by_cases hk:k=f
  ·rw[if_pos hk]
   by_cases h:g=k
   ·have hb:(g==k)=true:=beq_iff_eq.mpr h;simp only[List.lookup,hb,if_pos (h.trans hk)]
   ·have hb:(g==k)=false:=beq_eq_false_iff_ne.mpr h;simp only[List.lookup,hb,if_neg (fun e:g=f=>h (e.trans hk.symm))]
  ·rw[if_neg hk]
   by_cases h:g=k
   ·have hb:(g==k)=true:=beq_iff_eq.mpr h;simp only[List.lookup,hb,if_neg (fun e:g=f=>hk (h.symm.trans e))]
   ·have hb:(g==k)=false:=beq_eq_false_iff_ne.mpr h;simp only[List.lookup,hb];exact ih
theorem yK (f:Str)(v:V):∀ fs:List (Str×V),f∈(a4Z f v fs).map (·.1)∧∀ g,g∈fs.map (·.1)→g∈(a4Z f v fs).map (·.1)
 | []=>⟨by simp[a4Z],fun g h=>by simp at h⟩
 | (k,x)::r=>by
  obtain⟨i1,i2⟩:=yK f v r;rw[show a4Z f v ((k,x)::r)=(if k=f then(k,v)::r else(k,x)::a4Z f v r) from rfl]
  by_cases hk:k=f
  ·rw[if_pos hk];subst hk;exact⟨by simp,fun g h=>by simpa using h⟩
  ·rw[if_neg hk];refine⟨?_,fun g h=>?_⟩
   ·rw[List.map_cons];exact List.mem_cons_of_mem _ i1
   ·rw[List.map_cons] at h ⊢;rcases List.mem_cons.mp h with e|e
    ·exact List.mem_cons.mpr (.inl e)
    ·exact List.mem_cons_of_mem _ (i2 g e)
theorem z9 (f:Str)(v:V):∀ fs:List (Str×V),(a4Z f v fs).length≤fs.length+1
 | []=>by simp[a4Z]
 | (k,x)::r=>by
  have ih:=z9 f v r;rw[show a4Z f v ((k,x)::r)=(if k=f then(k,v)::r else(k,x)::a4Z f v r) from rfl]
  by_cases hk:k=f
  ·rw[if_pos hk,List.length_cons,List.length_cons]; omega
  ·rw[if_neg hk,List.length_cons,List.length_cons]; omega
theorem RelO.some_of {v:V}{o:Option Value}(r:RelO (some v) o):∃ u,o=some u∧RelV v u:=by
 cases o with
 | none=>exact(show False from r).elim
 | some u=>exact⟨u,rfl,r⟩
theorem RelO.none_of {o:Option Value}(r:RelO none o):o=none:=by
 cases o with
 | none=>rfl
 | some u=>exact(show False from r).elim
theorem aAT {v:V}{u:Value}(r:RelV v u):PySem.W.handedIn u=true:=by
 cases v with
 | non=>cases(show u=Value.none from r); rfl
 | bl b=>cases(show u=Value.bool b from r); rfl
 | int i=>obtain⟨t,e⟩:=(show ∃ t,u=Value.int i t from r); cases e; rfl
 | str x=>obtain⟨t,e⟩:=(show ∃ t,u=Value.str x t from r); cases e; rfl
 | byt b=>obtain⟨t,e⟩:=(show ∃ t,u=Value.bytes b t from r); cases e; rfl
 | flt b=>obtain⟨t,e⟩:=(show ∃ t,u=Value.float b t from r); cases e; rfl
 | ref a=>cases(show u=Value.ref a from r); rfl
 | ty n=>cases(show u=Value.type n from r); rfl
section
variable {P:Program}{w:World}{H H':Hp}{h h':Heap}{a C dx:Addr}{fs fs':List (Str×V)}
theorem a2I (hok:HOk P w H h)(e:H a=some (.ins C dx fs)):∃ mA,ObjM h a dx C mA∧(∀ f,RelO (fs.lookup f) (mA f))∧PySem.Within mA (fs.map (·.1))∧fs.length≤1000∧H dx=some (.own a):=by
 obtain⟨d,z,ne,ob,mA,n,r,q⟩:=(show ObjOk P w H h a (.ins C dx fs) from hok a _ e);exact⟨mA,⟨ob,n,ne⟩,r,q,z,d⟩
end
structure Cls (K:PySem.W.Frag)(C:Addr):Prop where
 pg:PySem.W.plainGet K C Str.empty=true
 hd:PySem.W.hasDictIn K C=true
 po:PySem.W.plainOver K C=true
 sa:PySem.W.findIn K (.ref C) "__setattr__" = some (some (.builtin "object.__setattr__"))
theorem Cls.get {K:PySem.W.Frag}{C:Addr}(c:Cls K C)(f:Str):PySem.W.plainGet K C f=true:=c.pg
noncomputable def NoAttr (K:PySem.W.Frag)(C:Addr)(f:Str):Prop:=PySem.W.findIn K (.ref C) f=some none
theorem NoAttr.taker {K:PySem.W.Frag}{C:Addr}{f:Str}(n:NoAttr K C f):PySem.W.takerIn K C f=some none:=by
 unfold PySem.W.takerIn;rw[show PySem.W.findIn K (.ref C) f=some none from n];rfl
structure Meth (K:PySem.W.Frag)(C:Addr)(m:Str)(f:Addr):Prop where
 at_:PySem.W.findIn K (.ref C) m=some (some (.ref f))
 fn:PySem.W.isFn K (.ref f)=true
 kp:PySem.W.keepIn K (.ref f)=true
section
variable {X:Cx}{pins:List (Addr×Obj)}{σ:St}{H:Hp}{s:Shared}{a C dx:Addr}{fs:List (Str×V)}{f:Str}{v:V}{A:Around}{E:Value→Shared→Prop}
theorem a0P {b:Bool}{Q:Value→Shared→Prop}(I:Inv X pins σ H s)(e:H a=some (.ins C dx fs))(c:Cls X.K C)(n:NoAttr X.K C f)(l:fs.lookup f=some v)
  (h:∀ u s',Inv X pins σ H s'→RelV v u→Q u s'):wpAny (model X.prog X.w) A (getAttr (.ref a) f b) Q E s:=by
 obtain⟨mA,O,r,_,_,_⟩:=a2I I.hok e;obtain⟨u,hu,ru⟩:=RelO.some_of (v:=v) (o:=mA f) (by rw[← l]; exact r f);exact aI5 I.kIn O (c.get f) c.hd n hu (aAT ru) (h u _ (I.tok _) ru)
theorem uG {m:Str}{g:Addr}{pl:Sem Bool}{Q:Value×List Value→Shared→Prop}(I:Inv X pins σ H s)(e:H a=some (.ins C dx fs))(c:Cls X.K C)(k:Meth X.K C m g)(l:fs.lookup m=none)
  (h:Q (.ref g,[.ref a]) s):wpAny (model X.prog X.w) A (getMethod (.ref a) m pl) Q E s:=by
 obtain⟨mA,O,r,_,_,_⟩:=a2I I.hok e;have hn:mA m=none:=RelO.none_of (by rw[← l]; exact r m);exact aEO I.kIn O (c.get m) k.at_ k.fn hn h
theorem a0O {y:V}{u:Value}{Q:Unit→Shared→Prop}(I:Inv X pins σ H s)(e:H a=some (.ins C dx fs))(c:Cls X.K C)(n:NoAttr X.K C f)(hl:fs.length<1000)(ry:RelV y u)
  (h:∀ s',Inv X pins σ (upd H a (.ins C dx (a4Z f y fs))) s'→Q () s'):wpAny (model X.prog X.w) A (setAttr (.ref a) f u) Q E s:=by
 obtain⟨mA,O,r,wi,_,ho⟩:=a2I I.hok e;have hz:(fs.map (·.1)).length≤sizeLine:=by rw[List.length_map,sizeLine_eq]; omega
 refine aH2 I.kIn O c.sa c.po n.taker c.hd wi hz fun h' O' sb=>h _ ?_;have hd:∃ o,h'.get? dx=some o:=let ⟨o,_,_,e',_⟩:=O'.ns; ⟨o,e'⟩;refine I.write (x:=a) (e:=dx) (by rw[e]; exact True.intro) (.inr ho) (fun b q hb z=>(sb.2 b hb).trans z) hd ?_;refine⟨by rw[aY O.ne]; exact ho,?_,O.ne,O'.obj,_,O'.ns,fun g=>?_,fun g hg=>?_⟩
 ·have:=z9 f y fs; omega
 ·show RelO ((a4Z f y fs).lookup g) (if g=f then some u else mA g);rw[xR]
  by_cases q:g=f
  ·rw[if_pos q,if_pos q]; exact ry
  ·rw[if_neg q,if_neg q]; exact r g
 ·by_cases q:g=f
  ·rw[q]; exact(yK f y fs).1
  ·refine(yK f y fs).2 g (wi g fun z=>hg ?_)
   show(if g=f then some u else mA g)=none
   rw[if_neg q]; exact z
theorem Inv.made (I:Inv X pins σ H s):Inv X pins σ (upd (upd H s.heap.objs.size (.own (s.heap.objs.size+1))) (s.heap.objs.size+1) (.ins C s.heap.objs.size []))
  { s with heap:=(s.heap.push PySem.W.emptyDict).push (PySem.W.instObj C s.heap.objs.size) }:=by
 have e1:(s.heap.push PySem.W.emptyDict).get? s.heap.objs.size=some PySem.W.emptyDict:=Heap.get?_push_size s.heap rfl;have e2:((s.heap.push PySem.W.emptyDict).push (PySem.W.instObj C s.heap.objs.size)).get? (s.heap.objs.size+1)=some (PySem.W.instObj C s.heap.objs.size):=by
  have:=Heap.get?_push_size (s.heap.push PySem.W.emptyDict) (o:=PySem.W.instObj C s.heap.objs.size) rfl;rwa[Heap.size_push] at this
 have e3:(s.heap.push PySem.W.emptyDict).Ns s.heap.objs.size (fun _=>none):=⟨PySem.W.emptyDict,#[],_,e1,rfl,(fun e he=>absurd he (by simp)),fun _=>rfl⟩;have I1:=I.laid (a:=s.heap.objs.size) (o:=.own (s.heap.objs.size+1)) (h':=s.heap.push PySem.W.emptyDict) (t':=s.toks) (fun b u q=>Heap.get?_push_of_some _ q) (Nat.le_refl _) ⟨_,e1⟩;refine I1.laid (a:=s.heap.objs.size+1) (o:=.ins C s.heap.objs.size []) (t':=s.toks) (fun b u q=>Heap.get?_push_of_some _ q) (Nat.le_of_eq (Heap.size_push _ _)) ?_;have ne:s.heap.objs.size≠s.heap.objs.size+1:=Nat.ne_of_lt (Nat.lt_succ_self _);refine⟨by rw[aY ne,bA],Nat.zero_le _,ne,e2,fun _=>none,(Heap.Ns1.of_empty e3).at fun o q=>Heap.get?_push_of_some _ q,fun _=>True.intro,fun y hy=>absurd rfl hy⟩
theorem aI0 {prog:Program}{w:World}{env:Env}{e:Expr}{f:Str}{pos:Pos}{s:Shared}{Q:Value→Shared→Prop}(hb:attributeBase e f env (eval e env)=eval e env)
  (h:wpAny (model prog w) A (eval e env) (fun o s₁=>wpAny (model prog w) A (getAttr o f true) Q E s₁) E s):wpAny (model prog w) A (eval (.Attribute e f pos) env) Q E s:=
 Attribute_any_ h (by rw[arm_eval_Attribute,hb])
end
noncomputable def aJJ (K:PySem.W.Frag)(ta:TE)(f:Str):TE:=fun σ H Q=>ta σ H fun x H1=>∃ a C dx fs v,x=.ref a∧H1 a=some (.ins C dx fs)∧Cls K C∧NoAttr K C f∧fs.lookup f=some v∧Q v H1
noncomputable def aOU (K:PySem.W.Frag)(ta tv:TE)(f:Str):TS:=fun D σ H=>tv σ H fun y H1=>ta σ H1 fun x H2=>∃ a C dx fs,x=.ref a∧H2 a=some (.ins C dx fs)∧Cls K C∧NoAttr K C f∧fs.length<1000 ∧
 D.nx σ (upd H2 a (.ins C dx (a4Z f y fs)))
noncomputable def aP2 (X:Cx)(op:Operator)(rd:V→V→Hp→VK→Prop):Prop:=
 ∀(pins:List (Addr×Obj)) (s:Shared) (σ:St) (H:Hp) (x y:V) (u v:Value) (Q:VK),Inv X pins σ H s→RelV x u→RelV y v→rd x y H Q→wpAny (model X.prog X.w) X.A (inplaceOp op u v) (EP X pins σ Q) X.xe s
noncomputable def aD2 (K:PySem.W.Frag)(ta tv:TE)(rd:V→V→Hp→VK→Prop)(f:Str):TS:=fun D σ H=>ta σ H fun x H1=>∃ a C dx fs v,x=.ref a∧H1 a=some (.ins C dx fs)∧Cls K C∧NoAttr K C f∧fs.lookup f=some v ∧
 tv σ H1 fun y H2=>rd v y H2 fun z H3=>∃ dx' fs',H3 a=some (.ins C dx' fs')∧fs'.length<1000∧D.nx σ (upd H3 a (.ins C dx' (a4Z f z fs')))
section
variable {X:Cx}{o e value:Expr}{f:Str}{pos pos' tpos:Pos}{ta tv:TE}
theorem yZ (he:PE X e ta)(hb:attributeBase e f X.env (eval e X.env)=eval e X.env):PE X (.Attribute e f pos) (aJJ X.K ta f):=by
 intro pins s σ H Q I h;refine aI0 hb (thn (he pins s σ H _ I h) fun u s1 ⟨x,H1,I1,rx,a,C,dx,fs,v,ex,ea,c,n,l,q⟩=>?_);subst ex;obtain rfl:u=Value.ref a:=rx;exact a0P I1 ea c n l fun u' s2 I2 ru=>⟨v,H1,I2,ru,q⟩
theorem a7Z (ha:PE X o ta)(hv:PE X value tv)(hs:swapsWith value (some (.Attribute o f pos')) pos.line X.env=pure false):PS X (.Assign [.Attribute o f pos'] value pos) (aOU X.K ta tv f):=by
 intro pins s σ H D I h;refine plainObj_wpAny_Assign_Attribute (thn (hv pins s σ H _ I h) fun u s1 ⟨y,H1,I1,ry,q⟩=>thn (ha pins s1 σ H1 _ I1 q) fun ov s2 ⟨x,H2,I2,rx,a,C,dx,fs,ex,ea,c,n,l,q2⟩=>?_) hs;subst ex;obtain rfl:ov=Value.ref a:=rx;exact a0O I2 ea c n l ry fun s3 I3=>⟨σ,_,I3,q2⟩
theorem aD8 {op:Operator}{rd:V→V→Hp→VK→Prop}(ha:PE X o ta)(hv:PE X value tv)(hop:aP2 X op rd):PS X (.AugAssign (.Attribute o f tpos) op value pos) (aD2 X.K ta tv rd f):=by
 intro pins s σ H D I h;refine wpAny_AugAssign_AttributeAny (thn (ha pins s σ H _ I h) fun ov s1 ⟨x,H1,I1,rx,a,C,dx,fs,v,ex,ea,c,n,l,q⟩=>?_);subst ex;obtain rfl:ov=Value.ref a:=rx;refine a0P I1 ea c n l fun u s2 I2 ru=>thn (hv pins s2 σ H1 _ I2 q) fun w3 s3 ⟨y,H2,I3,ry,q3⟩=>thn (hop pins s3 σ H2 v y u w3 _ I3 ru ry q3) fun w4 s4 ⟨z,H3,I4,rz,dx',fs',ea',l',q4⟩=>?_;exact a0O I4 ea' c n l' rz fun s5 I5=>⟨σ,_,I5,q4⟩
noncomputable def aOJ:V→V→Hp→VK→Prop:=fun x y H Q=>∃ i j,x=.int i∧y=.int j∧Q (.int (i+j)) H
theorem aLH:aP2 X .Add aOJ:=by
 rintro pins s σ H x y u v Q I rx ry ⟨i,j,rfl,rfl,q⟩;obtain⟨t,rfl⟩:=(show ∃ t,u=Value.int i t from rx);obtain⟨t',rfl⟩:=(show ∃ t',v=Value.int j t' from ry);exact PyProof.Rows.iadd_int ⟨.int (i+j),H,I.tok _,⟨_,rfl⟩,q⟩
theorem aGX {pl:Sem Bool}{m:Str}{apos:Pos}{args:List Expr}{pins:List (Addr×Obj)}{s:Shared}{σ:St}{H:Hp}{Q:Value→Shared→Prop}{te:TE}(he:PE X e te)(I:Inv X pins σ H s)
  (h:te σ H fun x H1=>∃ a C dx fs g,x=.ref a∧H1 a=some (.ins C dx fs)∧Cls X.K C∧Meth X.K C m g∧fs.lookup m=none ∧
   ∀ s1,Inv X pins σ H1 s1→wpAny (model X.prog X.w) X.A (callWith pos (.ref g) [.ref a] (backTo pos (starEach args X.env)) (backToKw pos (keywordEach [] X.env))) Q X.xe s1)
  (ht:eval (.Call (.Attribute e m apos) args [] pos) X.env=(do
   let ov←eval e X.env
   standAt apos.atName
   let (f,first)←holding [ov] (getMethod ov m pl)
   callWith pos f first (backTo pos (starEach args X.env)) (backToKw pos (keywordEach [] X.env)))) :
  wpAny (model X.prog X.w) X.A (eval (.Call (.Attribute e m apos) args [] pos) X.env) Q X.xe s:=by
 refine PySem.W.methodCall_KW (pl:=pl) (thn (he pins s σ H _ I h) fun u s1 ⟨x,H1,I1,rx,a,C,dx,fs,g,ex,ea,c,k,l,q⟩=>?_) ht;subst ex;obtain rfl:u=Value.ref a:=rx;exact uG I1 ea c k l (q s1 I1)
end
section
variable {X:Cx}{pins:List (Addr×Obj)}{σ:St}{H:Hp}{s:Shared}{A:Around}{E:Value→Shared→Prop}{Q:Value→Shared→Prop}{c:Value}{b:Bool}
inductive TyOf (K:PySem.W.Frag) (H:Hp):V→Value→Prop where
 | non:TyOf K H .non (.type "NoneType")
 | bl (x:Bool):TyOf K H (.bl x) (.type "bool")
 | int (i:Int):TyOf K H (.int i) (.type "int")
 | str (x:Str):TyOf K H (.str x) (.type "str")
 | flt (x:UInt64):TyOf K H (.flt x) (.type "float")
 | lst {a:Addr} {xs:List V} (e:H a=some (.lst xs)):TyOf K H (.ref a) (.type "list")
 | frz {a:Addr} {o:Obj} {xs:List V} (e:H a=some (.frz o (.lst xs))):TyOf K H (.ref a) (.type "list")
 | tup {a:Addr} {xs:List V} (e:H a=some (.tup xs)):TyOf K H (.ref a) (.type "tuple")
 | dK {a:Addr} {kvs:List (Key×V)} (e:H a=some (.dK kvs)):TyOf K H (.ref a) (.type "dict")
 | fdK {a:Addr} {o:Obj} {kvs:List (Key×V)} (e:H a=some (.frz o (.dK kvs))):TyOf K H (.ref a) (.type "dict")
 | dT {a:Addr} {kvs:List (List Key×V)} (e:H a=some (.dT kvs)):TyOf K H (.ref a) (.type "dict")
 | ins {a C dx:Addr} {fs:List (Str×V)} (e:H a=some (.ins C dx fs)) (cl:Cls K C) (ha:PySem.W.findIn K (.ref C) "__class__" = some (some (.builtin "object.__class__")))
   (hn:PySem.W.specialIn K (.builtin "object.__class__") "__get__" = some (some (.builtin "getset_descriptor.__get__"))) (htk:PySem.W.takesIn K (.builtin "object.__class__")=some true)
   (hm:PySem.W.mroIn K C (.type "object")=some true):TyOf K H (.ref a) (.ref C)
theorem aA6 {x:V}{u t:Value}(I:Inv X pins σ H s)(rx:RelV x u)(ty:TyOf X.K H x t)(e:PySem.W.kitOne X.K t c=some b)(h:∀ tk,Q (.bool b) { s with toks:=tk }) :
  wpAny (model X.prog X.w) A (call (.builtin "isinstance") [u,c]) Q E s:=by
 cases ty with
 | non=>cases(show u=Value.none from rx); exact PySem.W.kia_one PySem.W.kitx_none I.kIn True.intro e (fun z=>nomatch z) h
 | bl y=>cases(show u=Value.bool y from rx); exact PySem.W.kia_one PySem.W.kitx_bool I.kIn True.intro e (fun z=>nomatch z) h
 | int i=>obtain⟨t,q⟩:=(show ∃ t,u=Value.int i t from rx); cases q; exact PySem.W.kia_one PySem.W.kitx_int I.kIn True.intro e (fun z=>nomatch z) h
 | str y=>obtain⟨t,q⟩:=(show ∃ t,u=Value.str y t from rx); cases q; exact PySem.W.kia_one PySem.W.kitx_str I.kIn True.intro e (fun z=>nomatch z) h
 | flt y=>obtain⟨t,q⟩:=(show ∃ t,u=Value.float y t from rx); cases q; exact PySem.W.kia_one PySem.W.kitx_float I.kIn True.intro e (fun z=>nomatch z) h
 | @lst a xs ea=>
  cases(show u=Value.ref a from rx)
  obtain⟨_,_,n,_,h1⟩:=(show ObjOk X.prog X.w H s.heap a (.lst xs) from I.hok a _ ea);exact PySem.W.kia_one PySem.W.kitx_list I.kIn ⟨_,h1,rfl⟩ e (fun z=>nomatch z) h
 | @frz a ob xs ea=>
  cases(show u=Value.ref a from rx)
  obtain⟨_,_,_,n,_,h1⟩:=(show ObjOk X.prog X.w H s.heap a (.frz ob (.lst xs)) from I.hok a _ ea);exact PySem.W.kia_one PySem.W.kitx_list I.kIn ⟨_,h1,rfl⟩ e (fun z=>nomatch z) h
 | @tup a xs ea=>
  cases(show u=Value.ref a from rx)
  obtain⟨_,_,_,p⟩:=(show ObjOk X.prog X.w H s.heap a (.tup xs) from I.hok a _ ea);obtain⟨o,h1,h2,_⟩:=p;exact PySem.W.kia_one PySem.W.kitx_tuple I.kIn ⟨o,h1,h2⟩ e (fun z=>nomatch z) h
 | @dK a kvs ea=>
  cases(show u=Value.ref a from rx)
  obtain⟨_,_,vs,_,p⟩:=(show ObjOk X.prog X.w H s.heap a (.dK kvs) from I.hok a _ ea);obtain⟨o,es,ep,h1,h2,_⟩:=p;exact PySem.W.kia_one PySem.W.kitx_dict I.kIn ⟨o,h1,h2.1⟩ e (fun z=>nomatch z) h
 | @fdK a ob kvs ea=>
  cases(show u=Value.ref a from rx)
  obtain⟨_,_,_,vs,_,p⟩:=(show ObjOk X.prog X.w H s.heap a (.frz ob (.dK kvs)) from I.hok a _ ea);obtain⟨o,es,ep,h1,h2,_⟩:=p;exact PySem.W.kia_one PySem.W.kitx_dict I.kIn ⟨o,h1,h2.1⟩ e (fun z=>nomatch z) h
 | @dT a kvs ea=>
  cases(show u=Value.ref a from rx)
  obtain⟨_,_,xs,_,o,es,ep,h1,h2,_⟩:=(show ObjOk X.prog X.w H s.heap a (.dT kvs) from I.hok a _ ea);exact PySem.W.kia_one PySem.W.kitx_dict I.kIn ⟨o,h1,h2.1⟩ e (fun z=>nomatch z) h
 | @ins a C dx fs ea cl ha hn htk hm=>
  cases(show u=Value.ref a from rx)
  obtain⟨mA,O,_⟩:=a2I I.hok ea;obtain⟨od,J,_⟩:=O.look;exact PySem.W.kia_one (PySem.W.kitx_own (cl.get _) cl.hd ha hn htk hm) I.kIn J e (fun z=>nomatch z) h
end
end L2
namespace L2
open PySem PySem.Spec PyProof.Rows
structure Room (k:Nat)(A:Around):Prop where
 hd:A.handled=none
 dp:A.depth+3*k+5<recursionLimit
 un:A.units+16*k+200<cLine
theorem Room.mono {j k:Nat}{A:Around}(r:Room k A)(h:j≤k):Room j A:=⟨r.hd,by have:=r.dp; omega,by have:=r.un; omega⟩
theorem Room.deeper {k:Nat}{A:Around}(r:Room (k+1) A)(env:Env):Room k (A.deeper env):=
 ⟨r.hd,by have:=r.dp; show A.depth+1+3*k+5<_; omega,by have:=r.un; show A.units+3+16*k+200<_; omega⟩
theorem a9G {A:Around}{C:Addr}{us:List Value}{kw:List (Str×Value)}:(A.under (.builtin "type.__call__" ⟨.ref C::us,kw⟩)).depth=A.depth+1:=by
 first|rfl|simp[Around.under,Code.weight,Code.isCreation,Code.isGuard,Code.isCaller,Code.frames,Code.isFrame,guardIds]
theorem a9T {A:Around}{C:Addr}{us:List Value}{kw:List (Str×Value)}:(A.under (.builtin "type.__call__" ⟨.ref C::us,kw⟩)).units=A.units+1:=by
 first|rfl|simp[Around.under,Code.cUnits,Code.frames,Code.isFrame]
theorem Room.make {k:Nat}{A:Around}(r:Room (k+1) A)(C:Addr)(us:List Value)(kw:List (Str×Value)):Room k (A.under (.builtin "type.__call__" ⟨.ref C::us,kw⟩)):=
 ⟨r.hd,by have:=r.dp; rw[a9G]; omega,by have:=r.un; rw[a9T]; omega⟩
theorem Room.depth {k:Nat}{A:Around}(r:Room k A):A.depth<recursionLimit:=by have:=r.dp; omega
theorem Room.units {k:Nat}{A:Around}(r:Room k A):A.units+64<cLine:=by have:=r.un; omega
noncomputable def a0Y:TA:=fun _ H Q=>Q [] H
noncomputable def lB (ta:TE)(tr:TA):TA:=fun σ H Q=>ta σ H fun x H1=>tr σ H1 fun xs H2=>Q (x::xs) H2
section
variable {X:Cx}{e:Expr}{es:List Expr}{te:TE}{t:TA}{pos:Pos}
theorem aD:PA X [] a0Y:=fun _ _ _ _ H Q I h=>Calls.spliced_nil ⟨[],H,I,.nil,h⟩
theorem aA (ha:PE X e te)(hr:PA X es t)(hs:starEach (e::es) X.env=(false,eval e X.env)::starEach es X.env:=by rfl):PA X (e::es) (lB te t):=by
 intro pos pins s σ H Q I h;rw[hs];show wpAny _ _ (spliced ((false,eval e X.env)::backTo pos (starEach es X.env))) _ _ s;refine Calls.spliced_cons (thn (ha pins s σ H _ I h) fun u s1 ⟨x,H1,I1,r1,q1⟩=>?_);exact thn (hr pos pins s1 σ H1 _ I1 q1) fun us s2 ⟨xs,H2,I2,r2,q2⟩=>⟨x::xs,H2,I2,.cons r1 r2,q2⟩
noncomputable def aP3 (t:TA):TE:=fun σ H Q=>t σ H fun xs H1=>xs.length≤sizeLine∧∀ p,H1 p=none→Q (.ref p) (upd H1 p (.tup xs))
noncomputable def aN0 (t:TA):TE:=fun σ H Q=>t σ H fun xs H1=>xs.length≤sizeLine∧∀ p,H1 p=none→Q (.ref p) (upd H1 p (.lst xs))
theorem cU {x1}(h:PA X es t):PE X (.Tuple es x1 pos) (aP3 t):=by
 intro pins s σ H Q I hq;refine wpAny_Tuple_spliced (thn (h pos pins s σ H _ I hq) fun us s1 ⟨xs,H1,I1,r,z,q⟩=>⟨by rw[← r.length]; exact z,?_⟩);have hf:H1 s1.heap.objs.size=none:=I1.hok.fresh (Nat.le_refl _);refine⟨.ref s1.heap.objs.size,upd H1 s1.heap.objs.size (.tup xs),I1.laid (t':=s1.toks) (fun b u e=>Heap.get?_push_of_some _ e) (Nat.le_refl _) ?_,rfl,q _ hf⟩;exact⟨z,us,r,⟨_,Heap.get?_push_size _ rfl,rfl,_,rfl⟩⟩
theorem dR (h:PA X es t):PE X (.List es pos) (aN0 t):=by
 intro pins s σ H Q I hq;refine wpAny_List_spliced (thn (h pos pins s σ H _ I hq) fun us s1 ⟨xs,H1,I1,r,z,q⟩=>⟨by rw[← r.length]; exact z,?_⟩);have hf:H1 s1.heap.objs.size=none:=I1.hok.fresh (Nat.le_refl _);refine⟨.ref s1.heap.objs.size,upd H1 s1.heap.objs.size (.lst xs),I1.laid (t':=s1.toks) (fun b u e=>Heap.get?_push_of_some _ e) (Nat.le_refl _) ?_,rfl,q _ hf⟩;exact⟨z,us,0,r,Heap.get?_push_size _ rfl⟩
end
abbrev Sp:=List V→Hp→VK→XK→Prop
abbrev CXT:=List Env→Hp→Shared→XK→Value→Shared→Prop
structure Env0 (P:Program)(w:World)(K:PySem.W.Frag)(mg:Str→Option Value)(base:Heap)(A:Around)(outer:List Env)(s:Shared)(H:Hp):Prop where
 frames:A.frames=some outer
 mod:Mod K mg base
 bs:∀ b o,base.get? b=some o→s.heap.get? b=some o∧H b=none
 bsz:base.objs.size≤s.heap.objs.size
 funs:s.heap.FunFrames base outer
 frf:∀ b∈frs outer,H b=none
 hok:HOk P w H s.heap
 bare:AllBare s.gens
noncomputable def CE (outer:List Env)(P:Program)(w:World)(H:Hp)(s:Shared)(Q:VK)(u:Value)(s':Shared):Prop:=
 ∃ v H',s'.os=s.os∧AllBare s'.gens∧Un (frs outer) [] H H' s.heap s'.heap∧HOk P w H' s'.heap∧RelV v u∧Q v H'
noncomputable def CR (CX:CXT)(outer:List Env)(P:Program)(w:World)(H:Hp)(s:Shared)(Q:VK)(E:XK)(r:Result)(s':Shared):Prop:=
 match r with
 | .ok (.ret u)=>CE outer P w H s Q u s'
 | .ok _=>False
 | .error e=>CX outer H s E e s'
structure FnOk (P:Program)(w:World)(K:PySem.W.Frag)(mg:Str→Option Value)(base:Heap)(CX:CXT)(k:Nat)(f:Addr)(fd:FuncData)(ps:List Str)(sp:Sp):Prop where
 len:∀ vs H Q E,sp vs H Q E→vs.length=ps.length
 run:∀(A:Around) (outer:List Env) (s:Shared) (H:Hp) (args:Args) (us:List Value) (vs:List V) (Q:VK) (E:XK),Room k A→Env0 P w K mg base A outer s H→BindsTo s fd args (ps.zip us)→Vals vs us→sp vs H Q E →
  codeAny (model P w) A (.call (.ref f) args) (CR CX outer P w H s Q E) s
theorem FnOk.imp {P:Program}{w:World}{K:PySem.W.Frag}{mg:Str→Option Value}{base:Heap}{CX:CXT}{k:Nat}{f:Addr}{fd:FuncData}{ps:List Str}{sp sp':Sp}(F:FnOk P w K mg base CX k f fd ps sp)
  (h:∀ vs H Q E,sp' vs H Q E→sp vs H Q E):FnOk P w K mg base CX k f fd ps sp':=
 ⟨fun vs H Q E q=>F.len vs H Q E (h _ _ _ _ q),fun A outer s H args us vs Q E hr he hb hv hs=>F.run A outer s H args us vs Q E hr he hb hv (h _ _ _ _ hs)⟩
theorem Env0.make {P:Program}{w:World}{K:PySem.W.Frag}{mg:Str→Option Value}{base:Heap}{A:Around}{outer:List Env}{s:Shared}{H:Hp}(e:Env0 P w K mg base A outer s H)(C:Addr)(us:List Value)(kw:List (Str×Value)) :
  Env0 P w K mg base (A.under (.builtin "type.__call__" ⟨.ref C::us,kw⟩)) outer s H:=⟨by first|exact e.frames|(simpa [Around.under,Code.envs,Code.isFrame,pushEnvs] using e.frames),e.mod,e.bs,e.bsz,e.funs,e.frf,e.hok,e.bare⟩
section
variable {X:Cx}{pins:List (Addr×Obj)}{σ:St}{H:Hp}{s s':Shared}
theorem Inv.env0 (I:Inv X pins σ H s):Env0 X.prog X.w X.K X.mg X.base X.A X.stack s H:=
 ⟨I.ok.frames,I.ok.mod,I.bs,Nat.le_trans I.ok.bsz I.sz,I.stack,I.stkFree,I.hok,I.bare⟩
theorem Inv.after {Q:VK}{u:Value}(I:Inv X pins σ H s)(h:CE X.stack X.prog X.w H s Q u s'):EP X pins σ Q u s':=by
 obtain⟨v,H',os,bare,un,hok,r,q⟩:=h;obtain⟨hh,g,d,t,os'⟩:=s';obtain rfl:os'=s.os:=os;exact⟨v,H',I.call (h':=hh) (g':=g) (d':=d) (t':=t) (ch:=[]) un hok bare (fun b z=>absurd z (by simp)),r,q⟩
end
noncomputable def aHL (sp:Sp)(dvs:List V)(E:XK)(t:TA):TE:=fun σ H Q=>t σ H fun vs H1=>sp (vs++dvs) H1 Q E
noncomputable def aBM (C:Addr)(m:Str)(sp:Sp)(dvs:List V)(E:XK)(ta:TE)(t:TA):TE:=fun σ H Q=>ta σ H fun x H1=>∃ a dx fs,x=.ref a∧H1 a=some (.ins C dx fs)∧fs.lookup m=none ∧
 t σ H1 fun vs H2=>sp (x::(vs++dvs)) H2 Q E
noncomputable def aK6 (C:Addr)(sp:Sp)(dvs:List V)(E:XK)(t:TA):TE:=fun σ H Q=>t σ H fun vs H1=>∀ x dx,H1 x=none→H1 dx=none→dx≠x →
 sp (.ref x::(vs++dvs)) (upd (upd H1 dx (.own x)) x (.ins C dx [])) (fun v H2=>v=.non∧Q (.ref x) H2) E
noncomputable def Binds (K:PySem.W.Frag)(fd:FuncData)(ps:List Str)(ds:List Value):Prop:=
 ∀(s:Shared) (us:List Value),K.In s.heap→(us++ds).length=ps.length→BindsTo s fd ⟨us,[]⟩ (ps.zip (us++ds))
theorem Binds.all {K:PySem.W.Frag}{fd:FuncData}{ps:List Str}(h:∀ us:List Value,us.length=ps.length→bindArgs fd ⟨us,[]⟩=pure (ps.zip us)):Binds K fd ps []:=fun s us _ hl=>by
 rw[List.append_nil] at hl ⊢;exact .of_eq (h us hl)
noncomputable def xJ (CX:CXT)(X:Cx)(E:XK):Prop:=∀(pins:List (Addr×Obj)) (σ:St) (H:Hp) (s:Shared) (e:Value) (s':Shared),Inv X pins σ H s→CX X.stack H s E e s'→X.xe e s'
section
variable {X:Cx}{CX:CXT}{k:Nat}{f C:Addr}{fd:FuncData}{ps:List Str}{sp:Sp}{dvs:List V}{ds:List Value}{E:XK}{x m:Str}{p pos apos:Pos}{e o:Expr}{es:List Expr}{ta:TE}{t:TA}
theorem aBH {pins:List (Addr×Obj)}{σ:St}{H:Hp}{s:Shared}{Q:VK}{us:List Value}{vs:List V}(F:FnOk X.prog X.w X.K X.mg X.base CX k f fd ps sp)(hr:Room k X.A)(hb:Binds X.K fd ps ds)(hd:Vals dvs ds)(hx:xJ CX X E)
  (I:Inv X pins σ H s) (r:Vals vs us) (h:sp (vs++dvs) H Q E):wpAny (model X.prog X.w) X.A (call (.ref f) us) (EP X pins σ Q) X.xe s:=by
 have r2:Vals (vs++dvs) (us++ds):=r.append hd;have hl:(us++ds).length=ps.length:=by rw[← r2.length]; exact F.len _ _ _ _ h
 refine wpAny_call (codeAny_mono (F.run X.A X.stack s H ⟨us,[]⟩ (us++ds) (vs++dvs) Q E hr I.env0 (hb s us I.kIn hl) r2 h) fun r s' hq=>?_)
 cases r with
 | error e=>exact hx pins σ H s e s' I hq
 | ok fl=>
  cases fl with
  | ret u=>exact I.after hq
  | next=>exact False.elim hq
  | brk=>exact False.elim hq
  | cont=>exact False.elim hq
theorem aHD (F:FnOk X.prog X.w X.K X.mg X.base CX k f fd ps sp)(hr:Room k X.A)(hg:Gl X x)(hm:X.mg x=some (.ref f))(hk:PySem.W.keepIn X.K (.ref f)=true)(hb:Binds X.K fd ps ds)(hd:Vals dvs ds)(hx:xJ CX X E)
  (ha:PA X (e::es) t) (hdb:(x==("__debug__" : Str))=false:=by decide) (he:starEach (e::es) X.env=(false,eval e X.env)::starEach es X.env:=by rfl) (hpl:(backTo pos (starEach es X.env)).any (·.1)=false:=by rfl) :
  PE X (.Call (.Name x p) (e::es) [] pos) (aHL sp dvs E t):=by
 intro pins s σ H Q I h;refine wpAny_Call_Name_kw (aCG I hg hm ?_ hdb);refine PySem.W.callWith_K (h₀:=X.base) I.ok.mod.kin hk (thn (ha pos pins s σ H _ I h) fun us s1 ⟨vs,H1,I1,r,q⟩=>⟨I1.kIn,?_⟩) he hpl;exact aBH F hr hb hd hx I1 r q
theorem aB6 {pl:Sem Bool}(he:PE X o ta)(c:Cls X.K C)(hm:Meth X.K C m f)(F:FnOk X.prog X.w X.K X.mg X.base CX k f fd ps sp)(hr:Room k X.A)(hb:Binds X.K fd ps ds)(hd:Vals dvs ds)(hx:xJ CX X E)(ha:PA X (e::es) t)
  (hst:starEach (e::es) X.env=(false,eval e X.env)::starEach es X.env:=by rfl) (hpl:(backTo pos (starEach es X.env)).any (·.1)=false:=by rfl)
  (ht:eval (.Call (.Attribute o m apos) (e::es) [] pos) X.env=(do
   let ov←eval o X.env
   standAt apos.atName
   let (f,first)←holding [ov] (getMethod ov m pl)
   callWith pos f first (backTo pos (starEach (e::es) X.env)) (backToKw pos (keywordEach [] X.env))):=by rfl) :
  PE X (.Call (.Attribute o m apos) (e::es) [] pos) (aBM C m sp dvs E ta t):=by
 intro pins s σ H Q I h;refine PySem.W.methodCall_KW (pl:=pl) (thn (he pins s σ H _ I h) fun u s1 ⟨x,H1,I1,rx,a,dx,fs,ex,ea,l,q⟩=>?_) ht;subst ex;obtain rfl:u=Value.ref a:=rx;refine uG I1 ea c hm l ?_;refine PySem.W.callWith_K (first:=[.ref a]) (h₀:=X.base) I.ok.mod.kin hm.kp (thn (ha pos pins s1 σ H1 _ I1 q) fun us s2 ⟨vs,H2,I2,r,q2⟩=>⟨I2.kIn,?_⟩) hst hpl;exact aBH (us:=.ref a::us) (vs:=.ref a::vs) F hr hb hd hx I2 (.cons rfl r) q2
theorem a1X {pl:Sem Bool}(he:PE X o ta)(c:Cls X.K C)(hm:Meth X.K C m f)(F:FnOk X.prog X.w X.K X.mg X.base CX k f fd ps sp)(hr:Room k X.A)(hb:Binds X.K fd ps ds)(hd:Vals dvs ds)(hx:xJ CX X E)
  (ht:eval (.Call (.Attribute o m apos) [] [] pos) X.env=(do
   let ov←eval o X.env
   standAt apos.atName
   let (f,first)←holding [ov] (getMethod ov m pl)
   callWith pos f first (backTo pos (starEach [] X.env)) (backToKw pos (keywordEach [] X.env))):=by rfl) :
  PE X (.Call (.Attribute o m apos) [] [] pos) (aBM C m sp dvs E ta a0Y):=by
 intro pins s σ H Q I h;refine PySem.W.methodCall_KW (pl:=pl) (thn (he pins s σ H _ I h) fun u s1 ⟨x,H1,I1,rx,a,dx,fs,ex,ea,l,q⟩=>?_) ht;subst ex;obtain rfl:u=Value.ref a:=rx;refine uG I1 ea c hm l ?_;exact PySem.W.callWith_K0 (first:=[.ref a]) I1.kIn hm.kp (aBH (us:=[.ref a]) (vs:=[.ref a]) F hr hb hd hx I1 (.cons rfl .nil) q)
structure Mk (K:PySem.W.Frag)(C f:Addr):Prop where
 makes:PySem.W.makesIn K C=true
 init:PySem.W.findIn K (.ref C) "__init__" = some (some (.ref f))
 fn:PySem.W.isFn K (.ref f)=true
 kp:PySem.W.keepIn K (.ref C)=true
theorem aEE {pins:List (Addr×Obj)}{σ:St}{H:Hp}{s:Shared}{Q:VK}{us:List Value}{vs:List V}(M:Mk X.K C f)(F:FnOk X.prog X.w X.K X.mg X.base CX k f fd ps sp)(hr:Room (k+1) X.A)(hb:Binds X.K fd ps ds)(hd:Vals dvs ds)
  (hx:xJ CX X E) (I:Inv X pins σ H s) (r:Vals vs us)
  (h:∀ x dx,H x=none→H dx=none→dx≠x→sp (.ref x::(vs++dvs)) (upd (upd H dx (.own x)) x (.ins C dx [])) (fun v H2=>v=.non∧Q (.ref x) H2) E) :
  wpAny (model X.prog X.w) X.A (call (.ref C) us) (EP X pins σ Q) X.xe s:=by
 have hq:=h (s.heap.objs.size+1) s.heap.objs.size (I.hok.fresh (Nat.le_succ _)) (I.hok.fresh (Nat.le_refl _)) (Nat.ne_of_lt (Nat.lt_succ_self _));have I2:=Inv.made (C:=C) I;have r2:Vals (V.ref (s.heap.objs.size+1)::(vs++dvs)) (Value.ref (s.heap.objs.size+1)::(us++ds)):=.cons rfl (r.append hd);have hl:(Value.ref (s.heap.objs.size+1)::us++ds).length=ps.length:=by
  have e:=r2.length;rw[F.len _ _ _ _ hq] at e;exact e.symm
 refine wpAny_call (aFI (f:=f) I.kIn M.makes M.init (beq_iff_eq.mp M.fn) (codeAny_mono (F.run _ X.stack _ _ ⟨Value.ref (s.heap.objs.size+1)::us,[]⟩ (Value.ref (s.heap.objs.size+1)::(us++ds)) _ _ E (hr.make C us [])
  (I2.env0.make C us []) (hb _ (Value.ref (s.heap.objs.size+1)::us) I2.kIn hl) r2 hq) fun r s' hq'=>?_))
 cases r with
 | error e=>exact hx pins σ _ _ e s' I2 hq'
 | ok fl=>
  cases fl with
  | ret u=>
   obtain⟨v,H',I3,rv,ev,q3⟩:=I2.after hq';subst ev;exact⟨rv,⟨V.ref (s.heap.objs.size+1),H',I3,rfl,q3⟩⟩
  | next=>exact False.elim hq'
  | brk=>exact False.elim hq'
  | cont=>exact False.elim hq'
theorem aF5 (M:Mk X.K C f)(F:FnOk X.prog X.w X.K X.mg X.base CX k f fd ps sp)(hr:Room (k+1) X.A)(hg:Gl X x)(hm:X.mg x=some (.ref C))(hb:Binds X.K fd ps ds)(hd:Vals dvs ds)(hx:xJ CX X E)
  (hdb:(x==("__debug__" : Str))=false:=by decide):PE X (.Call (.Name x p) [] [] pos) (aK6 C sp dvs E a0Y):=by
 intro pins s σ H Q I h;refine wpAny_Call_Name_kw (aCG I hg hm ?_ hdb);exact PySem.W.callWith_K0 I.kIn M.kp (aEE (us:=[]) M F hr hb hd hx I .nil h)
end
section
variable {X:Cx}{CX:CXT}{k:Nat}{f C:Addr}{fd:FuncData}{ps ks:List Str}{sp:Sp}{E:XK}{x m:Str}{p pos apos kpos:Pos}{e o:Expr}{es:List Expr}{kws:List Keyword}{te ta:TE}{t tk:TA}{nm:Option Str}
variable {g:List Value→List Value→List Value}{gV:List V→List V→List V}
end
structure FnScope (N P:List Str)(sc:Scope):Prop where
 kind:sc.kind=.function
 co:sc.isCoroutine=false
 gen:sc.isGenerator=false
 nd:N.Nodup
 pre:N.take P.length=P
 par:∀ x∈P,sc.names.lookup x=some .local∨sc.names.lookup x=some .cell
 nofree:∀ y∈sc.names,y.2≠.free
theorem a4N {kindOf:Str→Option NameKind}{x:Str}:∀{binds:List (Str×Value)} {m:Str→Option Value},(∀ v,(x,v)∉binds)→bindL kindOf binds m x=m x
 | [],_,_=>rfl
 | (n,v)::r,m,h=>by
  unfold bindL;rw[a4N fun w hw=>h w (List.mem_cons_of_mem _ hw)]
  split
  ·have:x≠n:=by rintro rfl; exact h v List.mem_cons_self
   simp[this]
  ·rfl
theorem a3M {kindOf:Str→Option NameKind}{x:Str}:∀{binds:List (Str×Value)} {m:Str→Option Value},(∀ v,(x,v)∉binds)→bindC kindOf binds m x=m x
 | [],_,_=>rfl
 | (n,v)::r,m,h=>by
  unfold bindC;rw[a3M fun w hw=>h w (List.mem_cons_of_mem _ hw)]
  split
  ·rfl
  ·have:x≠n:=by rintro rfl; exact h v List.mem_cons_self
   simp[this]
theorem a3Z {kindOf:Str→Option NameKind}{x:Str}{v:Value}:∀{P:List Str} {vs:List Value} {i:Nat} {m:Str→Option Value},P.Nodup→P[i]?=some x→vs[i]?=some v→kindOf x=some .local →
  bindL kindOf (P.zip vs) m x=some v
 | [],_,_,_,_,h,_,_=>by simp at h
 | _::_,[],_,_,_,_,h,_=>by simp at h
 | p::P,w::vs,0,m,nd,h1,h2,hk=>by
  simp at h1 h2; subst h1; subst h2;show bindL kindOf ((p,w)::P.zip vs) m p=_;unfold bindL;rw[a4N fun v hv=>(List.nodup_cons.mp nd).1 (List.of_mem_zip hv).1,if_pos hk];simp
 | p::P,w::vs,i+1,m,nd,h1,h2,hk=>by
  show bindL kindOf ((p,w)::P.zip vs) m x=_;unfold bindL;exact a3Z (i:=i) (List.nodup_cons.mp nd).2 (by simpa using h1) (by simpa using h2) hk
theorem a4R {kindOf:Str→Option NameKind}{x:Str}{v:Value}:∀{P:List Str} {vs:List Value} {i:Nat} {m:Str→Option Value},P.Nodup→P[i]?=some x→vs[i]?=some v→kindOf x≠some .local →
  bindC kindOf (P.zip vs) m x=some v
 | [],_,_,_,_,h,_,_=>by simp at h
 | _::_,[],_,_,_,_,h,_=>by simp at h
 | p::P,w::vs,0,m,nd,h1,h2,hk=>by
  simp at h1 h2; subst h1; subst h2;show bindC kindOf ((p,w)::P.zip vs) m p=_;unfold bindC;rw[a3M fun v hv=>(List.nodup_cons.mp nd).1 (List.of_mem_zip hv).1,if_neg hk];simp
 | p::P,w::vs,i+1,m,nd,h1,h2,hk=>by
  show bindC kindOf ((p,w)::P.zip vs) m x=_;unfold bindC;exact a4R (i:=i) (List.nodup_cons.mp nd).2 (by simpa using h1) (by simpa using h2) hk
noncomputable def start (N:List Str)(vs:List V):St:=vs.map some++List.replicate (N.length-vs.length) none
noncomputable def aGA (CX:CXT)(P:Program)(w:World)(K:PySem.W.Frag)(mg:Str→Option Value)(base:Heap)(N:List Str)(qual:Str)(scope:Scope)(f:Addr)(cd:Value)(A:Around)(outer:List Env)(s:Shared)(H:Hp)(E:XK):Cx where
 prog:=P
 w:=w
 K:=K
 mg:=mg
 base:=base
 A:=A.deeper (envOfC qual scope s.heap.objs.size f cd)
 N:=N
 s₀:=s
 H₀:=H
 env:=envOfC qual scope s.heap.objs.size f cd
 outer:=outer
 stack:=envOfC qual scope s.heap.objs.size f cd::outer
 ex:=[]
 calm:=true
 fn:=fun _=>true
 pn:=[]
 xe:=fun e s'=>wpAny (model P w) (A.deeper (envOfC qual scope s.heap.objs.size f cd)) (leaving (envOfC qual scope s.heap.objs.size f cd) e) (fun _ s''=>CX outer H s E e s'') (fun e' s''=>CX outer H s E e' s'') s'
theorem a7K {sc:Scope}{n:Nat}{x:Str}(h:sc.names.lookup x=some .cell):∃ c,(cellsFrom n sc.names []).lookup x=some c:=by
 have q:=PySem.W.cellsFrom_some sc.names n [] (.inl h);exact Option.isSome_iff_exists.mp q
theorem aCK {CX:CXT}{P:Program}{w:World}{K:PySem.W.Frag}{mg:Str→Option Value}{base:Heap}{N ps:List Str}{qual:Str}{scope:Scope}{f:Addr}{cd:Value}{A:Around}{outer:List Env}{s s1:Shared}{H:Hp}{E:XK}{us:List Value}{vs:List V}
  (S:FnScope N ps scope) (hd:A.handled=none) (e0:Env0 P w K mg base A outer s H) (hl:vs.length=ps.length) (r:Vals vs us)
  (x:InCallC s s.heap.objs.size (bindL (envOfC qual scope s.heap.objs.size f cd).kindOf (ps.zip us) fun _=>none) (cellsFrom (s.heap.objs.size+1) scope.names []) (bindC (envOfC qual scope s.heap.objs.size f cd).kindOf (ps.zip us) fun _=>none) s1) :
  Inv (aGA CX P w K mg base N qual scope f cd A outer s H E) [] (start N vs) H s1:=by
 have hpl:ps.length≤N.length:=by have:=congrArg List.length S.pre; rw[List.length_take] at this; omega
 obtain⟨h1,tk,rfl,hk⟩:=x.done;have noA:∀ b:Addr,b∉(aGA CX P w K mg base N qual scope f cd A outer s H E).ex:=fun b z=>absurd (show b∈([]:List Addr) from z) (by simp);refine⟨⟨e0.mod,S.kind,rfl,rfl,Nat.le_refl _,fun y z c h1 h2=>?_,fun y hy=>?_,fun y c _ h=>?_,fun _=>hd,Around.frames_deeper e0.frames,.inr ⟨rfl,rfl⟩,fun b z=>absurd z (noA b),e0.bs,e0.bsz,fun b _ _=>noA b,fun b z=>absurd z (noA b),e0.funs,e0.frf⟩,
  rfl,e0.bare,Un.kept hk,⟨_,x.toInCall.ns,fun i y v h1 h2 h3=>?_⟩,fun y c h=>⟨_,x.cell y c h⟩,e0.hok.fresh (Nat.le_refl _),fun y c h=>?_,fun p hp=>absurd (show p∈([]:List (Addr×Obj)) from hp) (by simp),e0.hok.kept hk,?_⟩
 ·exact name_of_addr x.apart (PySem.mem_of_lookup h1) (PySem.mem_of_lookup h2)
 ·have hy:scope.names.lookup y=some .cell∨scope.names.lookup y=some .free:=hy;rcases hy with hy|hy
  ·exact a7K hy
  ·exact absurd rfl (S.nofree _ (PySem.mem_of_lookup hy))
 ·exact Nat.le_of_lt (x.above y c (PySem.mem_of_lookup h))
 ·have hi:i<vs.length:=by
   unfold start at h2
   by_cases hi:i<vs.length
   ·exact hi
   ·rw[List.getElem?_append_right (by simpa using hi)] at h2;rw[List.getElem?_replicate] at h2
    split at h2<;>cases h2
  have ha:vs[i]?=some v:=by
   unfold start at h2;rw[List.getElem?_append_left (by simpa using hi),List.getElem?_map] at h2
   cases e:vs[i]? with
   | none=>rw[e] at h2; cases h2
   | some a=>rw[e] at h2; cases h2; rfl
  obtain⟨u,hu,rv⟩:=r.get ha;have hp:ps[i]?=some y:=by
   rw[← S.pre,List.getElem?_take_of_lt (by omega)]; exact h1
  have ndP:ps.Nodup:=by rw[← S.pre]; exact S.nd.sublist (List.take_sublist _ _)
  refine⟨u,rv,?_⟩;rcases S.par y (List.mem_of_getElem? hp) with k|k
  ·exact .inl ⟨k,a3Z ndP hp hu k⟩
  ·obtain⟨c,e⟩:=a7K (n:=s.heap.objs.size+1) k;refine .inr ⟨.inl k,c,e,?_⟩;have q:=x.cell y c e;rw[a4R ndP hp hu (by show scope.names.lookup y≠_; rw[k]; decide)] at q;exact q
 ·exact e0.hok.fresh (Nat.le_of_lt (x.above y c (PySem.mem_of_lookup h)))
 ·unfold start;show _=N.length;rw[List.length_append,List.length_map,List.length_replicate];omega
theorem aMG {CX:CXT}{P:Program}{w:World}{K:PySem.W.Frag}{mg:Str→Option Value}{base:Heap}{k:Nat}{f:Addr}{name qual:Str}{params:Arguments}{body:List Stmt}{scope:Scope}{dV kV doc pm cdv ct oc:Value}{an od:Option Addr}
  {osl:Array (Option Value)} {N ps:List Str} {sp:Sp} (lk:K.lookup f=some ⟨oc,od,.func (PySem.W.fnOf name qual params body scope dV kV doc pm an cdv ct),osl⟩) (hcd:PySem.W.codeIn K cdv qual=true) (S:FnScope N ps scope)
  (len:∀ vs H Q E,sp vs H Q E→vs.length=ps.length)
  (hbody:∀(A:Around) (outer:List Env) (s:Shared) (H:Hp) (vs:List V) (Q:VK) (E:XK),Room k (A.deeper (envOfC qual scope s.heap.objs.size f cdv))→sp vs H Q E →
   ∃ t,PSs (aGA CX P w K mg base N qual scope f cdv A outer s H E) body t∧t { nx:=fun _ H'=>Q .non H',rt:=Q } (start N vs) H) :
  FnOk P w K mg base CX (k+1) f (PySem.W.fnOf name qual params body scope dV kV doc pm an cdv ct) ps sp:=by
 refine⟨len,fun A outer s H args us vs Q E hr e0 hb r hsp=>?_⟩;have hl:=len _ _ _ _ hsp;have KX:K.In s.heap:=e0.mod.kin.keeps fun b o e=>(e0.bs b o e).1;have lim:s.heap.NoLimit:=e0.mod.nolimit.keeps fun b o e=>(e0.bs b o e).1;have hkind:∀ y∈ps.zip us,scope.names.lookup y.1=some .local∨(scope.names.lookup y.1=some .cell∧((cellsFrom (s.heap.objs.size+1) scope.names []).lookup y.1).isSome=true):=fun⟨n,v⟩ hy=>by
  rcases S.par n (List.of_mem_zip hy).1 with q|q
  ·exact .inl q
  ·exact .inr ⟨q,PySem.W.cellsFrom_some _ _ _ (.inl q)⟩
 refine codeAny_call_function hr.depth (KX _ _ lk) rfl S.co S.gen rfl (PySem.W.codeRec_of KX hcd) (hb _ _ _ _ ?_);refine wpAny_newFunctionEnv_cells S.kind hkind fun env he s1 x=>?_;subst he;refine⟨lim.keeps x.toInCall.keep,codeAny_func ?_⟩;obtain⟨t,ht,hq⟩:=hbody A outer s H vs Q E (hr.deeper _) hsp;have I:Inv (aGA CX P w K mg base N qual scope f cdv A outer s H E) [] (start N vs) H s1:=aCK S hr.hd e0 hl r x;refine wpAny_mono (ht [] s1 (start N vs) H _ I hq) (fun fl s' hs=>?_) fun e s' hs=>hs;have fin:∀{σ':St} {H':Hp} {v:V} {u:Value},Inv (aGA CX P w K mg base N qual scope f cdv A outer s H E) [] σ' H' s'→RelV v u→Q v H'→CE outer P w H s Q u s':=
  fun{σ' H' v u} J rv q=>⟨v,H',J.os,J.bare,J.base,J.hok,rv,q⟩
 cases fl with
 | ret u=>
  obtain⟨v,σ',H',J,rv,q⟩:=hs;exact fin J rv q
 | next=>
  obtain⟨σ',H',J,q⟩:=hs;exact fin (v:=V.non) (u:=Value.none) J rfl q
 | brk=>
  obtain⟨_,_,_,q⟩:=hs;exact False.elim q
 | cont=>
  obtain⟨_,_,_,q⟩:=hs;exact False.elim q
end L2
namespace L2
open PySem PySem.Spec PyProof.Rows
section
variable {X:Cx}{x:Str}{p pos:Pos}{e:Expr}{es:List Expr}{t:TA}{id T:String}{r:List V→Hp→VK→Prop}
noncomputable def tCB (r:List V→Hp→VK→Prop)(t:TA):TE:=fun σ H Q=>t σ H fun vs H1=>r vs H1 Q
theorem bN (hc:a2F X (.builtin id) r)(hg:Gl X x)(hm:X.mg x=none)(hv:bootBuiltins x=some (.builtin id))(ha:PA X (e::es) t)(hn:x ≠ "__name__" := by decide)(hdb:(x==("__debug__" : Str))=false:=by decide)
  (he:starEach (e::es) X.env=(false,eval e X.env)::starEach es X.env:=by rfl) (hpl:(backTo pos (starEach es X.env)).any (·.1)=false:=by rfl):PE X (.Call (.Name x p) (e::es) [] pos) (tCB r t):=by
 intro pins s σ H Q I h;refine wpAny_Call_Name_kw (a07 I hg hm hv ?_ hn hdb);exact PyProof.Rows.callWith_builtin1 (thn (ha pos pins s σ H _ I h) fun us s1 ⟨vs,H1,I1,r1,q1⟩=>hc pins s1 σ H1 vs us Q I1 r1 q1) he hpl
theorem jP (hc:a2F X (.type T) r)(hg:Gl X x)(hm:X.mg x=none)(hv:bootBuiltins x=some (.type T))(ha:PA X (e::es) t)(hn:x ≠ "__name__" := by decide)(hdb:(x==("__debug__" : Str))=false:=by decide)
  (he:starEach (e::es) X.env=(false,eval e X.env)::starEach es X.env:=by rfl) (hpl:(backTo pos (starEach es X.env)).any (·.1)=false:=by rfl):PE X (.Call (.Name x p) (e::es) [] pos) (tCB r t):=by
 intro pins s σ H Q I h;refine wpAny_Call_Name_kw (a07 I hg hm hv ?_ hn hdb);exact PyProof.Rows.callWith_type1 (thn (ha pos pins s σ H _ I h) fun us s1 ⟨vs,H1,I1,r1,q1⟩=>hc pins s1 σ H1 vs us Q I1 r1 q1) he hpl
end
end L2
namespace HT
open PySem PyProof.Rows
section
open PySem.SeqAt
open PySem.AutoSeq1 (wpAny_loadPart')
open PySem.MeetsSeq PySem.MeetsSeq2 PySem.MeetsSeq3
end
section
variable {prog:Program}{w:World}{A:Around}{E:Value→Shared→Prop}{s:Shared}
noncomputable def sIx (n d:Nat):Option Int→Nat
 | none=>d
 | some v=>if v<0 then(v+(n:Int)).toNat else min v.toNat n
end
end HT
namespace L2
open PySem PySem.Spec PyProof.Rows
abbrev TO:=St→Hp→(Option Int→Hp→Prop)→Prop
noncomputable def PO (X:Cx)(e:Option Expr)(t:TO):Prop:=
 ∀(pins:List (Addr×Obj)) (s:Shared) (σ:St) (H:Hp) (Q:Option Int→Hp→Prop),Inv X pins σ H s→t σ H Q →
  wpAny (model X.prog X.w) X.A (evalPart e X.env) (fun u s'=>∃ o H',Inv X pins σ H' s'∧IsPart u o∧Q o H') X.xe s
noncomputable def aAR:TO:=fun _ H Q=>Q none H
noncomputable def aKY (t:TE):TO:=fun σ H Q=>t σ H fun x H1=>∃ i,x=.int i∧Q (some i) H1
section
variable {X:Cx}{e:Expr}{te:TE}{lo hi:Option Expr}{tl th:TO}{pos p2:Pos}
theorem aDM:PO X none aAR:=by
 intro pins s σ H Q I h;rw[evalPart_none];exact wpAny_pure ⟨none,H,I,.none,h⟩
theorem aCY (h:PE X e te):PO X (some e) (aKY te):=by
 intro pins s σ H Q I hw;rw[evalPart_some];refine thn (h pins s σ H _ I hw) fun u s1 ⟨x,H1,I1,r1,q1⟩=>?_;obtain⟨i,rfl,q⟩:=q1;obtain⟨t,rfl⟩:=r1;exact⟨some i,H1,I1,.int i t,q⟩
noncomputable def SlR (X:Cx)(r:V→Option Int→Option Int→Hp→VK→Prop):Prop:=
 ∀(pins:List (Addr×Obj)) (s:Shared) (σ:St) (H:Hp) (x:V) (v vl vu:Value) (lo hi:Option Int) (sl:Addr) (Q:VK),Inv X pins σ H s→RelV x v→s.heap.IsSliceOf sl vl vu .none→IsPart vl lo→IsPart vu hi→r x lo hi H Q →
  ∃ T id,typeLookup (.type T) "__getitem__" = pure (some (.builtin id))∧s.TypeIs v T∧wpAny (model X.prog X.w) X.A (getItem v (.ref sl)) (EP X pins σ Q) X.xe s
noncomputable def tSl (r:V→Option Int→Option Int→Hp→VK→Prop)(te:TE)(tl th:TO):TE:=fun σ H Q=>te σ H fun x H1=>tl σ H1 fun l H2=>th σ H2 fun u H3=>r x l u H3 Q
theorem a8S {r:V→Option Int→Option Int→Hp→VK→Prop}(hr:SlR X r)(he:PE X e te)(hl:PO X lo tl)(hu:PO X hi th):PE X (.Subscript e (.Slice lo hi none p2) pos) (tSl r te tl th):=by
 intro pins s σ H Q I h;refine Subscript_ (thn (he pins s σ H _ I h) fun v s1 ⟨x,H1,I1,r1,q1⟩=>?_);refine wpAny_Slice (thn (hl pins s1 σ H1 _ I1 q1) fun vl s2 ⟨l,H2,I2,pl,q2⟩=>thn (hu pins s2 σ H2 _ I2 q2) fun vu s3 ⟨u,H3,I3,pu,q3⟩=>?_);rw[evalPart_none];refine wpAny_pure ?_;have I4:Inv X pins σ H3 { s3 with heap:=s3.heap.push { cls:=.type "slice", data:=.fields #[vl,vu,.none] } }:=I3.kept (t':=s3.toks) fun b ob q=>Heap.get?_push_of_some _ q;obtain⟨T,id,hT,ht,hg⟩:=hr pins { s3 with heap:=s3.heap.push { cls:=.type "slice", data:=.fields #[vl,vu,.none] } } σ H3 x v vl vu l u s3.heap.objs.size Q I4 r1 (Heap.IsSliceOf.new ..) pl pu q3;show wpAny (model X.prog X.w) X.A (subscriptTail e (.Slice lo hi none p2) v (.ref s3.heap.objs.size)) (EP X pins σ Q) X.xe { s3 with heap:=s3.heap.push { cls:=.type "slice", data:=.fields #[vl,vu,.none] } };exact tail_any (ops:=[.ref s3.heap.objs.size,v]) ht hT hg (by with_unfolding_all rfl)
noncomputable def aIR (xs:List V)(lo hi:Option Int):List V:=(xs.drop (HT.sIx xs.length 0 lo)).take (HT.sIx xs.length xs.length hi-HT.sIx xs.length 0 lo)
theorem a69 (xs:List V)(lo hi:Option Int):(aIR xs lo hi).length≤xs.length:=by
 unfold aIR;rw[List.length_take,List.length_drop];omega
end
end L2
namespace L2
open PySem PySem.Spec PyProof.Rows
noncomputable def ixN (n:Nat)(i:Int):Option Nat:=if 0≤i then(if i<n then some i.toNat else none) else if -(n:Int)≤i then some (i+n).toNat else none
noncomputable def atI {α:Type}(xs:List α)(i:Int):Option α:=(ixN xs.length i).bind fun j=>xs[j]?
theorem aB3 {n:Nat}{i:Int}{j:Nat}(h:ixN n i=some j):seqIndex? i n=some j∧j<n ∧ -(n:Int)≤i∧i<n:=by
 unfold ixN at h
 by_cases h0:0≤i
 ·rw[if_pos h0] at h
  by_cases h1:i<n
  ·rw[if_pos h1] at h;have e:i.toNat=j:=Option.some.inj h;exact⟨by rw[seqIndex_of h0 h1,e],by omega,by omega,h1⟩
  ·rw[if_neg h1] at h; cases h
 ·rw[if_neg h0] at h
  by_cases h1 : -(n:Int)≤i
  ·rw[if_pos h1] at h;have e:(i+n).toNat=j:=Option.some.inj h;exact⟨by rw[seqIndex_neg (by omega) h1,e],by omega,h1,by omega⟩
  ·rw[if_neg h1] at h; cases h
theorem a6Q {α:Type}{xs:List α}{i:Int}{v:α}(h:atI xs i=some v):∃ j,seqIndex? i xs.length=some j∧xs[j]?=some v∧j<xs.length ∧ -(xs.length:Int)≤i∧i<xs.length:=by
 unfold atI at h
 cases e:ixN xs.length i with
 | none=>rw[e] at h; cases h
 | some j=>
  rw[e] at h;obtain⟨h1,h2,h3,h4⟩:=aB3 e;exact⟨j,h1,h,h2,h3,h4⟩
theorem aDH {α:Type}{xs:List α}{j:Nat}{v:α}(h:xs[j]?=some v):atI xs (j:Int)=some v:=by
 have hj:j<xs.length:=(List.getElem?_eq_some_iff.mp h).1;have e:ixN xs.length (j:Int)=some j:=by
  unfold ixN;rw[if_pos (by omega),if_pos (by omega)]; simp
 unfold atI; rw[e]; exact h
noncomputable def aHH (b:Expr):Prop:=∀ o i,subscripted b false o i=operate [o,i] (getItem o i)
noncomputable def IxR (X:Cx)(r:R2):Prop:=
 ∀(value slice:Expr) (pins:List (Addr×Obj)) (s:Shared) (σ:St) (H:Hp) (x y:V) (v u:Value) (Q:VK),Inv X pins σ H s→RelV x v→RelV y u→r x y H Q →
  subscripted slice false v u=operate [v,u] (getItem v u)→wpAny (model X.prog X.w) X.A (subscriptTail value slice v u) (EP X pins σ Q) X.xe s
noncomputable def MtR (X:Cx)(id:String)(r:V→List V→Hp→VK→Prop):Prop:=
 ∀(pins:List (Addr×Obj)) (s:Shared) (σ:St) (H:Hp) (x:V) (xs:List V) (v:Value) (us:List Value) (Q:VK),Inv X pins σ H s→RelV x v→Vals xs us→r x xs H Q →
  wpAny (model X.prog X.w) X.A (call (.builtin id) (v::us)) (EP X pins σ Q) X.xe s
section
variable {X:Cx}{a b:Expr}{ta tb:TE}{pos:Pos}
theorem IxR.or {r r':R2}(h:IxR X r)(h':IxR X r'):IxR X (fun x y H Q=>r x y H Q∨r' x y H Q):=by
 intro value slice pins s σ H x y v u Q I rx ry q hs;rcases q with q|q
 ·exact h value slice pins s σ H x y v u Q I rx ry q hs
 ·exact h' value slice pins s σ H x y v u Q I rx ry q hs
theorem aU {r:R2}(hr:IxR X r)(ha:PE X a ta)(hb:PE X b tb)(hs:aHH b):PE X (.Subscript a b pos) (tOp r ta tb):=by
 intro pins s σ H Q I h;exact Subscript_ (aMI ha hb I h fun v u s2 x y H2 I2 rx ry q=>hr a b pins s2 σ H2 x y v u Q I2 rx ry q (hs _ _))
noncomputable def aOQ (K:PySem.W.Frag):R2:=fun x y H Q=>∃ p xs i v,x=.ref p∧y=.int i∧SqL K H p xs∧atI xs i=some v∧Q v H
noncomputable def aOS (K:PySem.W.Frag):R2:=fun x y H Q=>∃ p xs i v,x=.ref p∧y=.int i∧SqT K H p xs∧atI xs i=some v∧Q v H
noncomputable def aOG:R2:=fun x y H Q=>∃ z i c,x=.str z∧y=.int i∧z.length≤sizeLine∧atI z.cps.toList i=some c∧Q (.str ⟨#[c]⟩) H
theorem ix_list:IxR X (aOQ X.K):=by
 intro value slice pins s σ H x y v u Q I rx ry h hs;obtain⟨p,xs,i,z,rfl,rfl,hq,he,q⟩:=h
 cases rx
 obtain⟨t,rfl⟩:=ry;obtain⟨its,r,pl,hz⟩:=I.list hq;obtain⟨j,h1,h2,h3,h4,h5⟩:=a6Q he;obtain⟨w,ew,rw'⟩:=r.get h2;have hl:=r.length;have hn:=a3C;have fin:EP X pins σ Q w s:=⟨z,H,I,rw',q⟩
 by_cases h0:0≤i
 ·have hj:i.toNat=j:=by
   rw[seqIndex_of h0 h5] at h1;exact Option.some.inj h1
  exact item_listR pl.isList h0 (by omega) (by rw[hj]; simpa using ew) fin hs
 ·have hj:(i+(its.toArray.size:Int)).toNat=j:=by
   rw[seqIndex_neg (by omega) h4] at h1;rw[List.size_toArray,←hl];exact Option.some.inj h1
  exact subscriptTail_builtinR (x:=w) pl.isList.typeIs slot_list_getitem.lookup
   (wpAny_getItem_list_neg (Q:=fun r s'=>r=w∧EP X pins σ Q r s') pl.isList (by omega) (by rw[List.size_toArray]<;>omega) (by omega) (by rw[hj]; simpa using ew) ⟨rfl,fin⟩) hs
theorem ix_tup:IxR X (aOS X.K):=by
 intro value slice pins s σ H x y v u Q I rx ry h hs;obtain⟨p,xs,i,z,rfl,rfl,hq,he,q⟩:=h
 cases rx
 obtain⟨t,rfl⟩:=ry;obtain⟨its,r,pl,hz⟩:=I.tuple hq;obtain⟨j,h1,h2,h3,h4,h5⟩:=a6Q he;obtain⟨w,ew,rw'⟩:=r.get h2;have hl:=r.length;have hn:=a3C;have fin:EP X pins σ Q w s:=⟨z,H,I,rw',q⟩;exact subscriptTail_builtinR (x:=w) pl.typeIs slot_tuple_getitem.lookup
  (getItem_tuple (j:=j) (Q:=fun r s'=>r=w∧EP X pins σ Q r s') pl (by omega) (by omega) (by rw[List.size_toArray,←hl]; exact h1) (by simpa using ew) ⟨rfl,fin⟩) hs
theorem aK9:IxR X aOG:=by
 intro value slice pins s σ H x y v u Q I rx ry h hs;obtain⟨z,i,c,rfl,rfl,hz,he,q⟩:=h;obtain⟨t,rfl⟩:=rx;obtain⟨t',rfl⟩:=ry;obtain⟨j,h1,h2,h3,h4,h5⟩:=a6Q he;have hl:z.cps.toList.length=z.length:=by simp[Str.length]
 rw[hl] at h1 h4 h5;have hn:=a3C;exact tail_any (typeIs_str s z t) slot_str_getitem.lookup (getItem_str (c:=c) (by
  have e1:decide (i < -(2^63:Int))=false:=decide_eq_false (by omega);have e2:decide (i≥2^63)=false:=decide_eq_false (by omega);rw[e1,e2,Bool.or_false]) (by rw[h1]; simpa using h2) ⟨.str ⟨#[c]⟩,H,I.tok _,⟨_,rfl⟩,q⟩) hs
noncomputable def rIx (K:PySem.W.Frag):R2:=fun x y H Q=>aOQ K x y H Q∨aOS K x y H Q∨aOG x y H Q
theorem aK:IxR X (rIx X.K):=ix_list.or (ix_tup.or aK9)
theorem aA1 (its:List Value)(n j:Nat)(u:Value):Obj.mapSeq (·.setIfInBounds j u) { cls:=.type "list", data:=.seq its.toArray n }={ cls:=.type "list", data:=.seq (its.set j u).toArray n }:=by
 simp[Obj.mapSeq]
theorem Inv.lst {pins:List (Addr×Obj)}{σ:St}{H:Hp}{s:Shared}{p:Addr}{xs:List V}(I:Inv X pins σ H s)(h:H p=some (.lst xs)) :
  ∃(its:List Value) (n:Nat),Vals xs its∧s.heap.get? p=some { cls:=.type "list", data:=.seq its.toArray n }∧xs.length≤sizeLine:=by
 obtain⟨z,its,n,r,e⟩:=I.hok p _ h;exact⟨its,n,r,e,z⟩
theorem Inv.lstUpd {pins:List (Addr×Obj)}{σ:St}{H:Hp}{s:Shared}{p:Addr}{xs ys:List V}{its its':List Value}{n n':Nat}{f:Obj→Obj}(I:Inv X pins σ H s)(h:H p=some (.lst xs))
  (ho:s.heap.get? p=some { cls:=.type "list", data:=.seq its.toArray n }) (hf:f { cls:=.type "list", data:=.seq its.toArray n }={ cls:=.type "list", data:=.seq its'.toArray n' }) (r:Vals ys its') (hz:ys.length≤sizeLine) (t:Nat) :
  Inv X pins σ (upd H p (.lst ys)) { s with heap:=s.heap.update p f,toks:=t }:=by
 have e:(s.heap.update p f).get? p=some { cls:=.type "list", data:=.seq its'.toArray n' }:=by
  rw[Heap.get?_update_self f ho (by rw[hf]<;>rfl),hf]
 refine I.write (x:=p) (e:=p) (by rw[h]; trivial) (.inl rfl) (fun b u hb q=>(Heap.get?_update_other _ _ (Ne.symm hb)).trans q) ⟨_,e⟩ ?_;exact⟨hz,its',n',r,e⟩
noncomputable def aN3:V→V→V→Hp→(Hp→Prop)→Prop:=fun o i v H Q=>∃ p xs k j,o=.ref p∧i=.int k∧H p=some (.lst xs)∧ixN xs.length k=some j∧Q (upd H p (.lst (xs.set j v)))
theorem set_list:aP7 X aN3:=by
 intro pins s σ H o i v ov iv u Q I ro ri rv h;obtain⟨p,xs,k,j,rfl,rfl,hp,hj,q⟩:=h
 cases ro
 obtain⟨t,rfl⟩:=ri;obtain⟨its,n,r,ho,hz⟩:=I.lst hp;obtain⟨h1,h2,h3,h4⟩:=aB3 hj;have hl:=r.length;have hn:=a3C;have I':Inv X pins σ (upd H p (.lst (xs.set j v))) { s with heap:=s.heap.update p (Obj.mapSeq (·.setIfInBounds j u)) }:=
  I.lstUpd hp ho (aA1 its n j u) (r.set rv j) (by rw[List.length_set]; exact hz) s.toks
 by_cases h0:0≤k
 ·have hk:k.toNat=j:=by
   rw[seqIndex_of h0 h4] at h1;exact Option.some.inj h1
  exact PySem.W.ki_setAt ho h0 (by omega) (by rw[List.size_toArray,←hl]; exact h4) (by rw[hk]; exact⟨_,I',q⟩)
 ·have hk:(k+(its.toArray.size:Int)).toNat=j:=by
   rw[seqIndex_neg (by omega) h3] at h1;rw[List.size_toArray,←hl];exact Option.some.inj h1
  exact PySem.W.ki_setBack ho (by omega) (by rw[List.size_toArray,←hl]; exact h3) (by omega) (by rw[hk]; exact⟨_,I',q⟩)
theorem a5D (lo hi:Option Int)(n:Nat):(sliceBounds lo hi none n).1=((HT.sIx n 0 lo:Nat):Int)∧(sliceBounds lo hi none n).2.1=((HT.sIx n n hi:Nat):Int)∧(sliceBounds lo hi none n).2.2=1:=by
 refine⟨?_,?_,rfl⟩
 ·cases lo with
  | none=>simp[sliceBounds,HT.sIx]
  | some i=>
   simp only[sliceBounds,HT.sIx,Option.getD_none,show(1:Int)>0 by decide,if_true]
   by_cases h:i<0
   ·simp only[h,if_true]<;>omega
   ·simp only[h,if_false]<;>omega
 ·cases hi with
  | none=>simp[sliceBounds,HT.sIx]
  | some i=>
   simp only[sliceBounds,HT.sIx,Option.getD_none,show(1:Int)>0 by decide,if_true]
   by_cases h:i<0
   ·simp only[h,if_true]<;>omega
   ·simp only[h,if_false]<;>omega
theorem a2P (its:List Value)(lo hi:Option Int):slicePick its.toArray lo hi none=((its.drop (HT.sIx its.length 0 lo)).take (HT.sIx its.length its.length hi-HT.sIx its.length 0 lo)).toArray:=by
 obtain⟨h1,h2,h3⟩:=a5D lo hi its.toArray.size;unfold slicePick;rw[h1,h2,h3];simp only[sliceRange_one,pick_run,List.size_toArray]<;>rfl
noncomputable def aOR (K:PySem.W.Frag):V→Option Int→Option Int→Hp→VK→Prop:=fun x lo hi H Q=>∃ a xs,x=.ref a∧SqL K H a xs∧∀ p,H p=none→Q (.ref p) (upd H p (.lst (aIR xs lo hi)))
theorem aBP:SlR X (aOR X.K):=by
 intro pins s σ H x v vl vu lo hi sl Q I rx hs pl pu h;obtain⟨a,xs,rfl,hx,q⟩:=h
 cases rx
 obtain⟨its,r,ht,hz⟩:=I.list hx;have hlen:=r.length;refine⟨"list", _,slot_list_getitem.lookup,ht.isList.typeIs,?_⟩;refine wpAny_getItem_list_slice ht.isList hs pl pu .none (by simp) ?_ (by rw[List.size_toArray]<;>omega);rw[a2P,←hlen];refine⟨.ref s.heap.objs.size,_,I.laid (t':=s.toks) (o:=.lst (aIR xs lo hi)) (fun b ob q=>Heap.get?_push_of_some _ q) (Nat.le_refl _) ?_,rfl,q _ (I.hok.fresh (Nat.le_refl _))⟩;exact⟨Nat.le_trans (a69 xs lo hi) hz,_,0,(r.drop (HT.sIx xs.length 0 lo)).take (HT.sIx xs.length xs.length hi-HT.sIx xs.length 0 lo),Heap.get?_push_size _ rfl⟩
theorem bL:a2F X (.builtin "len") (fun xs H Q=>∃ p ys,xs=[.ref p]∧(SqL X.K H p ys∨SqT X.K H p ys)∧Q (.int ys.length) H):=by
 intro pins s σ H xs us Q I r h;obtain⟨p,ys,rfl,hq,q⟩:=h;obtain⟨u,rfl,rx⟩:=vals1 r
 cases rx
 have hn:=a3C;rcases hq with hq|hq
 ·obtain⟨its,r',pl,hz⟩:=I.list hq;have hlen:=r'.length;exact Calls.call_len_list pl.isList (by simp only[List.size_toArray]<;>omega) ⟨.int ys.length,H,I.tok _,⟨s.toks+1,by rw[List.size_toArray,hlen]⟩,q⟩
 ·obtain⟨its,r',pl,hz⟩:=I.tuple hq;have hlen:=r'.length;exact len_tuple pl (by simp only[List.size_toArray]<;>omega) ⟨.int ys.length,H,I.tok _,⟨s.toks+1,by rw[List.size_toArray,hlen]⟩,q⟩
theorem v8:a2F X (.type "list") (fun xs H Q=>∃ p ys,xs=[.ref p]∧(SqL X.K H p ys∨SqT X.K H p ys)∧∀ l,H l=none→Q (.ref l) (upd H l (.lst ys))):=by
 intro pins s σ H xs us Q I r h;obtain⟨p,ys,rfl,hq,q⟩:=h;obtain⟨u,rfl,rx⟩:=vals1 r
 cases rx
 have fin:∀(its:List Value),Vals ys its→ys.length≤sizeLine→∀(h':Heap) (c':Nat),(∀ b o',s.heap.get? b=some o'→h'.get? b=some o') →
   h'.get? s.heap.objs.size=some { cls:=.type "list", dict:=none,data:=.seq its.toArray c',slots:=#[] }→EP X pins σ Q (.ref s.heap.objs.size) { s with heap:=h' }:=fun its r' hz h' c' kp e=>
  ⟨.ref s.heap.objs.size,_,I.laid (t':=s.toks) kp (Nat.le_refl _) (show ObjOk X.prog X.w _ h' _ (.lst ys) from⟨hz,its,c',r',e⟩),rfl,q _ (I.hok.fresh (Nat.le_refl _))⟩
 rcases hq with hq|hq
 ·obtain⟨its,r',pl,hz⟩:=I.list hq;have hlen:=r'.length;obtain⟨o,ho,hc,n,hd⟩:=pl.isList;exact call_list_seq p (.inl rfl) ho hc hd (fun h' c' kp e=>fin its r' hz h' c' kp e) (by simp only[List.size_toArray]<;>omega)
 ·obtain⟨its,r',pl,hz⟩:=I.tuple hq;have hlen:=r'.length;obtain⟨o,ho,hc,n,hd⟩:=pl;exact call_list_seq p (.inr rfl) ho hc hd (fun h' c' kp e=>fin its r' hz h' c' kp e) (by simp only[List.size_toArray]<;>omega)
noncomputable def tyV (K:PySem.W.Frag)(T:String)(x:V)(H:Hp):Prop:=match x with
 | .str _=>T = "str"
 | .int _=>T = "int"
 | .ref p=>(T = "list" ∧ ∃ xs,SqL K H p xs)∨(T = "tuple" ∧ ∃ o,K.lookup p=some o∧o.cls=.type "tuple" ∧ o.dict=none) ∨
   (T = "dict" ∧ ((∃ kvs,H p=some (.dK kvs))∨∃ kvs,H p=some (.dT kvs)))∨(T = "set" ∧ ∃ S n,H p=some (.set S n))
 | _=>False
theorem aFP {pins:List (Addr×Obj)}{σ:St}{H:Hp}{s:Shared}{T:String}{x:V}{v:Value}(I:Inv X pins σ H s)(r:RelV x v)(ty:tyV X.K T x H) :
  s.TypeIs v T∧∀ a,v=.ref a→∃ ob,s.heap.get? a=some ob∧ob.dict=none:=by
 cases x with
 | str z=>
  obtain⟨t,rfl⟩:=r
  cases(show T = "str" from ty)
  exact⟨typeIs_str s z t,fun _ e=>nomatch e⟩
 | int i=>
  obtain⟨t,rfl⟩:=r
  cases(show T = "int" from ty)
  exact⟨typeIs_int s i t,fun _ e=>nomatch e⟩
 | ref p=>
  cases r
  rcases ty with⟨rfl,xs,hq⟩|⟨rfl,o,hk,hc,hd⟩|⟨rfl,hk⟩|⟨rfl,S,n,hk⟩
  ·obtain⟨its,_,pl,_⟩:=I.list hq;refine⟨pl.isList.typeIs,fun a e=>?_⟩
   cases e
   obtain⟨o,n,e,c,hd,_⟩:=pl;exact⟨o,e,hd⟩
  ·refine⟨⟨o,I.kIn p o hk,hc⟩,fun a e=>?_⟩
   cases e
   exact⟨o,I.kIn _ o hk,hd⟩
  ·have z:∃ o,s.heap.get? p=some o∧o.ExactDict:=by
    rcases hk with⟨kvs,hk⟩|⟨kvs,hk⟩
    ·obtain⟨_,_,_,_,o,_,_,e,ex,_⟩:=I.hok p _ hk;exact⟨o,e,ex⟩
    ·obtain⟨_,_,_,_,o,_,_,e,ex,_⟩:=I.hok p _ hk;exact⟨o,e,ex⟩
   obtain⟨o,e,ex⟩:=z;refine⟨⟨o,e,ex.1⟩,fun a e2=>?_⟩
   cases e2
   exact⟨o,e,ex.2.1⟩
  ·obtain⟨o,_,_,_,e,ex,_⟩:=I.hok p _ hk;refine⟨⟨o,e,ex.1⟩,fun a e2=>?_⟩
   cases e2
   exact⟨o,e,ex.2.1⟩
 | _=>exact False.elim ty
noncomputable def aP6 (K:PySem.W.Frag)(T:String)(r:V→List V→Hp→VK→Prop)(to:TE):TE:=fun σ H Q=>to σ H fun x H1=>tyV K T x H1∧r x [] H1 Q
noncomputable def tBM (K:PySem.W.Frag)(T:String)(r:V→List V→Hp→VK→Prop)(to:TE)(t:TA):TE:=fun σ H Q=>to σ H fun x H1=>tyV K T x H1∧t σ H1 fun xs H2=>r x xs H2 Q
variable {o e:Expr}{es:List Expr}{to:TE}{t:TA}{name:Str}{apos cpos:Pos}{T id:String}{r:V→List V→Hp→VK→Prop}
theorem aKJ (pa:PlainAttrs T)(slot:Slot T name id)(hty:typeOf (.builtin id)=pure (.type "method_descriptor"))(hm:MtR X id r)(ho:PE X o to)
  (hbase:attributeBase o name X.env (eval o X.env)=eval o X.env:=by rfl) (hline:(apos.endLine==cpos.line)=true:=by rfl):PE X (.Call (.Attribute o name apos) [] [] cpos) (aP6 X.K T r to):=by
 intro pins s σ H Q I h;refine wpAny_Call_method0_late hbase hline (thn (ho pins s σ H _ I h) fun v s1 ⟨x,H1,I1,r1,ty,q1⟩=>?_);obtain⟨h1,h2⟩:=aFP I1 r1 ty;exact⟨T,id,pa,slot,hty,h1,h2,Calls.callWith_builtin rfl (PySem.evalArgs_none (hm pins s1 σ H1 x [] v [] Q I1 r1 .nil q1))⟩
theorem a1A (pa:PlainAttrs T)(slot:Slot T name id)(hty:typeOf (.builtin id)=pure (.type "method_descriptor"))(hm:MtR X id r)(ho:PE X o to)(ha:PA X (e::es) t)
  (hbase:attributeBase o name X.env (eval o X.env)=eval o X.env:=by rfl)
  (hfew:((backTo cpos (starEach (e::es) X.env)).all (fun x => !x.1)&&(backToKw cpos (keywordEach [] X.env)).all (fun x=>x.1.isSome)
   && decide ((e::es).length+([]:List Keyword).length+(if ([]:List Keyword).isEmpty then 0 else 1)<30))=true:=by rfl)
  (hline:(apos.endLine==cpos.line)=true:=by rfl) (hs:starEach (e::es) X.env=(false,eval e X.env)::starEach es X.env:=by rfl) (hplain:(backTo cpos (starEach es X.env)).any (·.1)=false:=by rfl) :
  PE X (.Call (.Attribute o name apos) (e::es) [] cpos) (tBM X.K T r to t):=by
 intro pins s σ H Q I h;refine wpAny_Call_method_late hbase hfew hline rfl (thn (ho pins s σ H _ I h) fun v s1 ⟨x,H1,I1,r1,ty,q1⟩=>?_);obtain⟨h1,h2⟩:=aFP I1 r1 ty;refine⟨T,id,pa,slot,hty,h1,h2,?_⟩;have hA:=ha cpos pins s1 σ H1 _ I1 q1;rw[hs] at hA ⊢;refine Calls.callWith_builtin (by show(false||(backTo cpos (starEach es X.env)).any (·.1))=false; rw[hplain]<;>rfl) (Calls.evalArgs_plain ?_);exact thn hA fun us s2 ⟨vs,H2,I2,r2,q2⟩=>hm pins s2 σ H2 x vs v us Q I2 r1 r2 q2
end
end L2
namespace L2
open PySem PySem.Spec PyProof.Rows
noncomputable def MtM (X:Cx)(id:String)(r:V→List V→Hp→VK→Prop):Prop:=
 ∀(pins:List (Addr×Obj)) (s:Shared) (σ:St) (H:Hp) (x:V) (xs:List V) (v:Value) (us:List Value) (Q:VK),Inv X pins σ H s→RelV x v→Vals xs us→r x xs H Q →
  wpAny (model X.prog X.w) X.A (call (.builtin id) (v::us)) (EP X pins σ Q) X.xe s
theorem Vals.one:∀{x:V} {us:List Value},Vals [x] us→∃ u,us=[u]∧RelV x u:=by
 intro x us h
 cases h with
 | cons r t=>cases t; exact⟨_,rfl,r⟩
theorem Vals.two:∀{x y:V} {us:List Value},Vals [x,y] us→∃ u v,us=[u,v]∧RelV x u∧RelV y v:=by
 intro x y us h
 cases h with
 | cons r t=>
  obtain⟨v,rfl,q⟩:=Vals.one t;exact⟨_,_,rfl,r,q⟩
theorem Vals.zero:∀{us:List Value},Vals [] us→us=[]
 | _,.nil=>rfl
section
variable {X:Cx}{pins:List (Addr×Obj)}{σ:St}{H:Hp}{s:Shared}{l b:Addr}{xs ys zs:List V}
theorem Inv.lset {its its':List Value}{n:Nat}{f:Array Value→Array Value}{t':Nat}(I:Inv X pins σ H s)(hH:H l=some (.lst xs))
  (e:s.heap.get? l=some { cls:=.type "list", data:=.seq its.toArray n }) (hf:f its.toArray=its'.toArray) (hv:Vals ys its') (hz:ys.length≤sizeLine) :
  Inv X pins σ (upd H l (.lst ys)) { s with heap:=s.heap.update l (Obj.mapSeq f),toks:=t' }:=by
 have q:=PySem.IsL.update e f;rw[hf] at q;refine I.write (x:=l) (e:=l) (by rw[hH]; exact trivial) (.inl rfl) (fun b' u hb hu=>(Heap.get?_update_other s.heap (Obj.mapSeq f) (Ne.symm hb)).trans hu) ⟨_,q⟩ ?_;exact⟨hz,its',_,hv,q⟩
theorem Inv.lnew {its:List Value}{t':Nat}(I:Inv X pins σ H s)(hv:Vals ys its)(hz:ys.length≤sizeLine) :
  Inv X pins σ (upd H s.heap.objs.size (.lst ys)) { s with heap:=s.heap.push { cls:=.type "list", data:=.seq its.toArray },toks:=t' }:=
 I.laid (fun _ _ q=>Heap.get?_push_of_some _ q) (Nat.le_refl _) ⟨hz,its,0,hv,Heap.get?_push_size _ rfl⟩
theorem Inv.fresh (I:Inv X pins σ H s):H s.heap.objs.size=none:=I.hok.fresh (Nat.le_refl _)
theorem Inv.lstM (I:Inv X pins σ H s)(hH:H l=some (.lst xs)):xs.length≤sizeLine∧∃(its:List Value) (n:Nat),Vals xs its∧xs.length=its.length∧s.heap.get? l=some { cls:=.type "list", data:=.seq its.toArray n }:=by
 obtain⟨z,its,n,r,e⟩:=I.hok l _ hH;exact⟨z,its,n,r,r.length,e⟩
end
section
variable {X:Cx}
noncomputable def aAE:V→List V→Hp→VK→Prop:=fun x vs H Q=>∃ l xs y,x=.ref l∧vs=[y]∧H l=some (.lst xs)∧xs.length<sizeLine∧Q .non (upd H l (.lst (xs++[y])))
theorem jJ:MtM X "list.append" aAE:=by
 intro pins s σ H x vs v us Q I rx rv h;obtain⟨l,xs,y,rfl,rfl,hH,hz,q⟩:=h
 cases rx
 obtain⟨u,rfl,ru⟩:=rv.one;obtain⟨z,its,n,r,hl,e⟩:=I.lstM hH;refine call_meets F.slot_list_append ⟨_,e,rfl⟩ F.entry_list_append (F.args_list_append_2 _ _) (PySem.list_append l its.toArray n u (by rw[List.size_toArray]; omega)) ⟨e,?_⟩;refine⟨.non,_,I.lset (its':=its++[u]) hH e (by simp) (r.append (.cons ru .nil)) ?_,rfl,q⟩;rw[List.length_append,List.length_singleton];omega
noncomputable def aGD:V→List V→Hp→VK→Prop:=fun x vs H Q=>∃ l xs,x=.ref l∧vs=[]∧H l=some (.lst xs)∧Q .non (upd H l (.lst []))
theorem aFN:MtM X "list.clear" aGD:=by
 intro pins s σ H x vs v us Q I rx rv h;obtain⟨l,xs,rfl,rfl,hH,q⟩:=h
 cases rx
 have hus:=rv.zero;subst hus;obtain⟨z,its,n,r,hl,e⟩:=I.lstM hH;refine call_meets F.slot_list_clear ⟨_,e,rfl⟩ F.entry_list_clear (F.args_list_clear_1 _) (AutoSeq1.list_clear_list_0 l its.toArray n (by rw[List.size_toArray]; omega)) ⟨e,?_⟩;exact⟨.non,_,I.lset (its':=[]) (ys:=[]) hH e rfl .nil (Nat.zero_le _),rfl,q⟩
noncomputable def aOV:R2:=fun x y H Q=>∃ l b xs zs,x=.ref l∧y=.ref b∧H l=some (.lst xs)∧H b=some (.lst zs)∧xs.length+zs.length≤sizeLine∧∀ p,H p=none→Q (.ref p) (upd H p (.lst (xs++zs)))
theorem a7N:OpR X (binaryOp .Add) aOV:=by
 intro pins s σ H x y v u Q I rx ry h;obtain⟨l,b,xs,zs,rfl,rfl,hH,hB,hz,q⟩:=h
 cases rx
 cases ry
 obtain⟨z,its,n,r,hl,e⟩:=I.lstM hH;obtain⟨z2,its2,n2,r2,hl2,e2⟩:=I.lstM hB;refine PySem.P.add_list e e2 ?_ (by rw[List.size_toArray,List.size_toArray]; omega);have ea:its.toArray++its2.toArray=(its++its2).toArray:=by simp
 rw[ea];exact⟨.ref _,_,I.lnew (t':=s.toks) (r.append r2) (by rw[List.length_append]; omega),rfl,q _ I.fresh⟩
end
section
variable {prog:Program}{w:World}{A:Around}{E:Value→Shared→Prop}{s:Shared}
end
section
variable {X:Cx}
end
end L2
namespace Att
open PySem PySem.W PySem.Calls PyProof.Rows
theorem wU {P:Params}{h:Heap}:∀(ns:List Int) (vs:List Value),WellAll P h vs (ns.map WData.int)→IntsAre vs ns:=by
 intro ns
 induction ns with
 | nil=>
  intro vs w;rw[List.map_nil] at w
  cases w
  exact .nil
 | cons n ns ih=>
  intro vs w;rw[List.map_cons] at w
  cases w with
  | cons a b=>
   cases a
   exact .cons _ _ (ih _ b)
theorem aA8 {l:OpenLaw}{n:Nat}(hn:l.most=some n){P:Params}{h:Heap}{args:List WData}{vals:List Value}
  (hpre:l.row.toRowW.claim.pre args=true) (hwl:WellAll P h vals args) :
  ∃ a vs ns,vals=[Value.ref a]∧args=[WData.list (ns.map WData.int)]∧h.get? a=some { cls:=.type "list", data:=.seq vs.toArray }∧IntsAre vs ns∧ns.length≤n:=by
 have hsh:WShape.hasAll [] args [.list .int]=true:=(pre_splitW hpre).1;have hc:l.pre.holds [] { args:=args }=true:=(pre_splitW hpre).2;obtain⟨d,r,rfl,h1,h2⟩:=hasAllW_cons hsh;obtain rfl:=hasAllW_nil h2;obtain⟨xs,rfl,h3⟩:=hasW_list h1;obtain⟨ns,rfl⟩:=items_int h3;have hlen:ns.length≤n:=by
  unfold OpenLaw.pre at hc;have h4:(WTm.not (.lt (.lit (.int (n:Int))) (.len (.arg 0)))).holds [] { args:=[.list (ns.map .int)] }=true:=by
   have h4:=(holds_andW hc).1;rw[hn] at h4;exact h4
  have h5:=condW_of h4 (w_not (w_lt w_lit (w_len_list (w_arg rfl))));rw[List.length_map] at h5;refine Nat.le_of_not_lt fun q=>?_;have q':(n:Int)<((ns.length:Nat):Int):=by omega
  first
   | (rw[decide_eq_true q'] at h5; exact absurd h5 (by decide))
   | (simp at h5; omega)
 cases hwl with
 | cons w1 w2=>
  cases w2
  cases w1 with
  | list ho hall=>exact⟨_,_,ns,rfl,rfl,ho,wU ns _ hall,hlen⟩
theorem aDV (l:OpenLaw)(args:List WData):l.row.toRowW.claim.post args (.bool true) args=true:=
 postW_of (r:=l.row.toRowW) (X:=(true==true))
  (show WShape.has [] (.bool true) .bool=true by first|rfl|decide|simp[WShape.has,WShape.arms,WShape.armsAll])
  (show(WTm.eq .res (.lit (.bool true))).value [] { args:=args,res:=some (.bool true),after:=args }=some (.bool (true==true)) from w_eq_bool (w_res rfl) w_lit) rfl
theorem attach_call {l:OpenLaw}{n:Nat}{q:Program}{loose:List Str}{XP:(Str→Option Value)→Heap→Prop}{YP:World→Heap→Prop}{d:DefRec}
  (hn:l.most=some n) (hdf:d.params.defaults=[])
  (call:∀(w:World) (s₀ s₁:Shared) (mg mb:Str→Option Value) (fa:Addr) (o:Obj) (pm cd doc:Value) (a:Addr) (vs:List Value) (ns:List Int),
   Ground q loose [] XP w s₀ mg mb s₁.heap→YP w s₁.heap →
   s₁.heap.get? fa=some o→o.data=.func (docDef d.name d.params d.body d.scope pm cd doc)→s₁.heap.CodeRec cd d.name→mg d.name=some (.ref fa) →
   s₁.heap.get? a=some { cls:=.type "list", data:=.seq vs.toArray }→IntsAre vs ns→ns.length≤n→s₁.gens=#[] →
   codeAny (model l.prog w) callerA (.call (.ref fa) ⟨[.ref a],[]⟩) (fun r s'=>r=.ok (.ret (.bool true))∧OldK s₁.heap s'.heap∧s'.os=s₁.os∧AllBare s'.gens) s₁) :
  WalkO q loose XP YP l.row.toRowW d [] (fun f vs=>PySem.call f vs):=by
 intro w s₀ s₁ mg mb G Y fa o pm cd doc dV kV ho hd hcd hD hmg hg args vals as hpre hlay hrd hwl hlo;obtain rfl:dV=.none:=Dflts.none hD hdf;obtain rfl:kV=.none:=Dflts.noKw hD;obtain⟨a,vs,ns,rfl,rfl,hobj,hints,hlen⟩:=aA8 hn hpre hwl;refine enter_call (codeAny_mono (call w s₀ s₁ mg mb fa o pm cd doc a vs ns G Y ho (fd_plain hd) hcd hmg hobj hints hlen hg) fun r s' hq=>?_);obtain⟨rfl,h2,h3,h4⟩:=hq;exact⟨.inl ⟨.bool true,.bool true,[],rfl,fun _=>rfl,.bool true,aDV l _,fun _=>⟨List.Pairwise.nil,fun _ hm=>(nomatch hm)⟩⟩,h2,h3,h4⟩
section
variable {prog:Program}{w:World}{A:Around}{E:Value→Shared→Prop}{s:Shared}{K:Frag}
end
end Att
namespace L2
open PySem PySem.Spec PyProof.Rows
theorem aAA:∀{vs:List Value} {ns:List Int},IntsAre vs ns→Vals (ns.map V.int) vs:=by
 intro vs ns h
 induction h with
 | nil=>exact .nil
 | cons n t h ih=>exact .cons ⟨t,rfl⟩ ih
noncomputable def Only (H:Hp):Prop:=∀ b,H b=none∨∃ o xs,H b=some (.frz o (.lst xs))
theorem law_call {P:Program}{w:World}{K:PySem.W.Frag}{mg mb:Str→Option Value}{CX:CXT}{k:Nat}{fa a:Addr}{fd:FuncData}{x:Str}{sp:Sp}{s₁:Shared}{vs:List Value}{ns:List Int}
  (KX:K.In s₁.heap) (hns:s₁.heap.Ns mainGlobals mg) (hb:s₁.heap.Ns builtinsNs mb) (hbb:∀ x:Str,x ≠ "__name__" → mb x=bootBuiltins x) (hlim:s₁.heap.NoLimit) (hg:s₁.gens=#[])
  (ha:s₁.heap.get? a=some { cls:=.type "list", data:=.seq vs.toArray }) (hi:IntsAre vs ns) (hl:ns.length≤sizeLine) (hr:Room k callerA)
  (F:∀ base:Heap,K.In base→base.Ns mainGlobals mg→FnOk P w K mg base CX k fa fd [x] sp) (hbind:∀(s:Shared) (u:Value),BindsTo s fd ⟨[u],[]⟩ [(x,u)])
  (hsp:∀ H:Hp,Only H→SqL K H a (ns.map V.int)→sp [.ref a] H (fun v _=>v=.bl true) fun _ _ _=>False)
  (hCX:∀ H e s',CX [] H s₁ (fun _ _ _=>False) e s'→False) :
  codeAny (model P w) callerA (.call (.ref fa) ⟨[.ref a],[]⟩) (fun r s'=>r=.ok (.ret (.bool true))∧OldK s₁.heap s'.heap∧s'.os=s₁.os∧AllBare s'.gens) s₁:=by
 have rv:=aAA hi;have lenV:=hi.length;have core:∀ H:Hp,Only H→SqL K H a (ns.map V.int)→HOk P w H s₁.heap→(∀ b,H b≠none→b=a)→(H a≠none→K.lookup a=none) →
   codeAny (model P w) callerA (.call (.ref fa) ⟨[.ref a],[]⟩) (fun r s'=>r=.ok (.ret (.bool true))∧OldK s₁.heap s'.heap∧s'.os=s₁.os∧AllBare s'.gens) s₁:=by
  intro H hO hS hok hA hK;have base_of:∀{b:Addr} {o:Obj},s₁.heap.get? b=some o→H b=none→(aE0 s₁.heap H).get? b=some o:=fun e n=>aF9 e n;have noA:∀{b:Addr} {o:Obj} {es:Array DictEntry} {ep:Nat},s₁.heap.get? b=some o→o.data=.dict es ep→H b=none:=fun{b o es ep} e d=>by
   cases q:H b with
   | none=>rfl
   | some u=>
    have e':b=a:=hA b (by rw[q]; simp);subst e';rw[ha] at e; cases e;have d':Data.seq vs.toArray _=Data.dict es ep:=d
    cases d'
  have nsK:∀{b:Addr} {m:Str→Option Value},s₁.heap.Ns b m→(aE0 s₁.heap H).Ns b m:=fun{b m} ⟨o,es,ep,e,d,r⟩=>⟨o,es,ep,base_of e (noA e d),d,r⟩;have hKb:K.In (aE0 s₁.heap H):=fun b o e=>base_of (KX b o e) (by
   cases q:H b with
   | none=>rfl
   | some u=>
    have e':b=a:=hA b (by rw[q]; simp);subst e';rw[hK (by rw[q]; simp)] at e; cases e)
  have hM:Mod K mg (aE0 s₁.heap H):=⟨hKb,nsK hns,⟨mb,nsK hb,hbb⟩,let ⟨mc,h1,h2⟩:=hlim; ⟨mc,nsK h1,h2⟩⟩;have e0:Env0 P w K mg (aE0 s₁.heap H) callerA [] s₁ H:=⟨rfl,hM,fun b o e=>aGS e,Nat.le_of_eq (aAV _ _),trivial,fun b hb=>absurd (show b∈([]:List Addr) from hb) (by simp),hok,.of_eq hg⟩;refine codeAny_mono ((F _ hKb (nsK hns)).run callerA [] s₁ H ⟨[.ref a],[]⟩ [.ref a] [.ref a] _ _ hr e0 (hbind s₁ (.ref a)) (.cons rfl .nil) (hsp H hO hS)) fun r s' h=>?_
  cases r with
  | error e=>exact(hCX H e s' h).elim
  | ok fl=>
   cases fl with
   | next=>exact False.elim h
   | brk=>exact False.elim h
   | cont=>exact False.elim h
   | ret u=>
    obtain⟨v,H',os,bare,un,hok',r',q⟩:=h;have q':v=.bl true:=q;subst q';obtain rfl:u=Value.bool true:=r';refine⟨rfl,OldK.of_keep fun b o e=>?_,os,bare⟩
    cases q:H b with
    | none=>exact un.keep b o e q (by intro z; exact absurd (show b∈([]:List Addr) from z) (by simp)) (by simp)
    | some u=>
     rcases hO b with z|⟨ob,xs,z⟩
     ·rw[q] at z; cases z
     ·have z2:=un.frzs b ob _ z;obtain⟨e1,_⟩:=hok b _ z;obtain⟨e2,_⟩:=hok' b _ z2;rw[e] at e1; cases e1;exact e2
 cases hk:K.lookup a with
 | some o=>
  have e:=KX a o hk;rw[ha] at e
  cases e
  refine core (fun _=>none) (fun _=>.inl rfl) (.inr ⟨_,vs.toArray,_,hk,rfl,rfl,rfl,by rw[List.size_toArray,lenV]; exact hl,by simpa using rv⟩) (fun b u z=>by have z':(none:Option HO)=some u:=z; cases z') (fun b z=>absurd rfl z) fun z=>absurd rfl z
 | none=>
  refine core (fun b=>if b=a then some (.frz { cls:=.type "list", data:=.seq vs.toArray } (.lst (ns.map V.int))) else none) (fun b=>?_) (.inl (.inr ⟨{ cls:=.type "list", data:=.seq vs.toArray },if_pos rfl⟩)) (fun b u z=>?_) (fun b z=>?_) fun _=>hk
  ·by_cases hb:b=a
   ·exact .inr ⟨_,_,if_pos hb⟩
   ·exact .inl (if_neg hb)
  ·by_cases hb:b=a
   ·have z':=(if_pos hb).symm.trans z
    cases z'
    subst hb;exact⟨ha,by rw[List.length_map]; exact hl,vs,_,rv,ha⟩
   ·have z':=(if_neg hb).symm.trans z
    cases z'
  ·by_cases hb:b=a
   ·exact hb
   ·exact absurd (if_neg hb) z
end L2
namespace L2
open PySem PySem.Spec PyProof.Rows
theorem aHK {l:PySem.W.OpenLaw}{n k:Nat}{q:Program}{loose:List Str}{XP:(Str→Option Value)→Heap→Prop}{YP:World→Heap→Prop}{d:DefRec}{K:Params→PySem.W.Frag}{CX:World→CXT}{sp:World→Sp}{x:Str}
  (hn:l.most=some n) (hn2:n≤sizeLine) (hdf:d.params.defaults=[]) (hr:Room k callerA)
  (hY:∀(w:World) (h:Heap),YP w h→(K w.params).In h)
  (F:∀(w:World) (mg:Str→Option Value) (fa:Addr) (h:Heap),(K w.params).In h→h.Ns mainGlobals mg→mg d.name=some (.ref fa) →
   ∃ fd:FuncData,(∀(s:Shared) (u:Value),BindsTo s fd ⟨[u],[]⟩ [(x,u)]) ∧
    ∀ base:Heap,(K w.params).In base→base.Ns mainGlobals mg→FnOk l.prog w (K w.params) mg base (CX w) k fa fd [x] (sp w))
  (hsp:∀(w:World) (H:Hp) (a:Addr) (ns:List Int),ns.length≤n→Only H→SqL (K w.params) H a (ns.map V.int)→sp w [.ref a] H (fun v _=>v=.bl true) fun _ _ _=>False)
  (hCX:∀(w:World) (H:Hp) (s:Shared) (e:Value) (s':Shared),CX w [] H s (fun _ _ _=>False) e s'→False) :
  PySem.W.WalkO q loose XP YP l.row.toRowW d [] (fun f vs=>PySem.call f vs):=by
 refine Att.attach_call hn hdf fun w s₀ s₁ mg mb fa o pm cd doc a vs ns G Y ho hd hcd hmg hobj hints hlen hg=>?_;have KX:=hY w _ Y;obtain⟨fd,hb,hF⟩:=F w mg fa _ KX G.T.g hmg;exact law_call KX G.T.g G.T.b G.T.builtins G.T.nolimit hg hobj hints (Nat.le_trans hlen hn2) hr hF hb (fun H hO hS=>hsp w H a ns hlen hO hS) fun H e s'=>hCX w H s₁ e s'
end L2
namespace L2
open PySem PySem.Spec PyProof.Rows
noncomputable def inClass (s:Stmt)(j:Nat):Stmt:=match s with
 | .ClassDef _ _ _ body _ _ _ _ _ _ _=>body.getD j (.Pass ⟨0,0,0,0⟩)
 | _=>.Pass ⟨0,0,0,0⟩
noncomputable def rQ (s:Stmt):Arguments:=match s with
 | .FunctionDef _ a _ _ _ _ _ _ _ _=>a
 | _=>{ posonlyargs:=[],args:=[],vararg:=none,kwonlyargs:=[],kw_defaults:=[],kwarg:=none,defaults:=[] }
noncomputable def lG (s:Stmt):List Stmt:=match s with
 | .FunctionDef _ _ b _ _ _ _ _ _ _=>b
 | _=>[]
noncomputable def aR (s:Stmt):Scope:=match s with
 | .FunctionDef _ _ _ _ _ _ sc _ _ _=>sc
 | _=>{ kind:=.function,names:=[],isGenerator:=false,isCoroutine:=false }
abbrev CX0:CXT:=fun _ _ _ _ _ _=>False
abbrev E0:XK:=fun _ _ _=>False
theorem a6K {X:Cx}:xJ CX0 X E0:=fun _ _ _ _ _ _ _ h=>h.elim
structure Fun (K:PySem.W.Frag)(x qual:Str)(st:Stmt)(f:Addr)(fd:FuncData):Prop where
 ex:∃(oc:Value) (od:Option Addr) (kV doc pm:Value) (an:Option Addr) (cdv ct:Value) (osl:Array (Option Value)),
  fd=PySem.W.fnOf x qual (rQ st) (lG st) (aR st) .none kV doc pm an cdv ct∧K.lookup f=some ⟨oc,od,.func fd,osl⟩∧PySem.W.codeIn K cdv qual=true
 kp:PySem.W.keepIn K (.ref f)=true
section
variable {P:Program}{w:World}{K:PySem.W.Frag}{mg:Str→Option Value}{base:Heap}
theorem Fun.ok {x qual:Str}{st:Stmt}{f:Addr}{fd:FuncData}{N ps:List Str}{k:Nat}{sp:Sp}(F:Fun K x qual st f fd)(S:FnScope N ps (aR st))(len:∀ vs H Q E,sp vs H Q E→vs.length=ps.length)
  (hbody:∀(cdv:Value) (A:Around) (outer:List Env) (s:Shared) (H:Hp) (vs:List V) (Q:VK) (E:XK),Room k (A.deeper (envOfC qual (aR st) s.heap.objs.size f cdv))→sp vs H Q E →
   ∃ t,PSs (aGA CX0 P w K mg base N qual (aR st) f cdv A outer s H E).nox (lG st) t∧t { nx:=fun _ H'=>Q .non H',rt:=Q } (start N vs) H):FnOk P w K mg base CX0 (k+1) f fd ps sp:=by
 obtain⟨oc,od,kV,doc,pm,an,cdv,ct,osl,rfl,lk,hcd⟩:=F.ex;refine aMG lk hcd S len fun A outer s H vs Q E hr hsp=>?_;obtain⟨t,h,q⟩:=hbody cdv A outer s H vs Q E hr hsp;exact⟨t,h.nox,q⟩
theorem Fun.binds {x qual:Str}{st:Stmt}{f:Addr}{fd:FuncData}{ps:List Str}(F:Fun K x qual st f fd)
  (h:∀(kV doc pm:Value) (an:Option Addr) (cdv ct:Value) (us:List Value),us.length=ps.length→bindArgs (PySem.W.fnOf x qual (rQ st) (lG st) (aR st) .none kV doc pm an cdv ct) ⟨us,[]⟩=pure (ps.zip us)):Binds K fd ps []:=by
 obtain⟨oc,od,kV,doc,pm,an,cdv,ct,osl,rfl,lk,hcd⟩:=F.ex;exact .all (h kV doc pm an cdv ct)
theorem aAB {x qual:Str}{st:Stmt}{f:Addr}{oc:Value}{od an:Option Addr}{osl:Array (Option Value)}{kV doc pm cdv ct:Value}(l:K.lookup f=some ⟨oc,od,.func (PySem.W.fnOf x qual (rQ st) (lG st) (aR st) .none kV doc pm an cdv ct),osl⟩)
  (c:PySem.W.codeIn K cdv qual=true) (k:PySem.W.keepIn K (.ref f)=true):Fun K x qual st f (PySem.W.fnOf x qual (rQ st) (lG st) (aR st) .none kV doc pm an cdv ct):=⟨⟨oc,od,kV,doc,pm,an,cdv,ct,osl,rfl,l,c⟩,k⟩
end
theorem yS {n:Nat}(h:n≤1000):n<sizeLine:=Nat.lt_of_le_of_lt h (by decide)
section
variable {X:Cx}
theorem pv (i:Nat){x:Str}{pos:Pos}(hN:X.N[i]?=some x:=by rfl)(hv:Vis X.env.scope x:=by first|exact Or.inl rfl|exact Or.inr (Or.inl rfl)|exact Or.inr (Or.inr rfl))(hd:(x==("__debug__" : Str))=false:=by decide)
  (hcd:(x==("__classdict__" : Str))=false:=by decide):PE X (.Name x pos) (vZ i):=aJ8 hN hv hd hcd
end
theorem u6 {A B:Prop}(h:B):if false=true then A else B:=by
 rw[if_neg Bool.false_ne_true];exact h
theorem uV {A B:Prop}(h:A):if true=true then A else B:=by
 rw[if_pos rfl];exact h
theorem aNJ {c A B:Prop}[Decidable c](hc:c)(h:B):if (!decide c)=true then A else B:=by
 rw[decide_eq_true hc];exact u6 h
noncomputable def Same (H H':Hp):Prop:=∀ b o,H b=some o→H' b=some o
theorem Same.refl (H:Hp):Same H H:=fun _ _ h=>h
theorem Same.trans {H H1 H2:Hp}(a:Same H H1)(b:Same H1 H2):Same H H2:=fun c o h=>b c o (a c o h)
theorem Same.free {H H':Hp}(e:Same H H'){l:Addr}(h:H' l=Option.none):H l=Option.none:=by
 cases q:H l with
 | none=>rfl
 | some o=>
  rw[e l o q] at h
  cases h
theorem Same.seq {K:PySem.W.Frag}{H H':Hp}{a:Addr}{xs:List V}(e:Same H H')(h:SqL K H a xs):SqL K H' a xs:=by
 rcases h with(h|⟨o,h⟩)|h
 ·exact .inl (.inl (e _ _ h))
 ·exact .inl (.inr ⟨o,e _ _ h⟩)
 ·exact .inr h
end L2
set_option maxHeartbeats 4000000
namespace LT
theorem dM (a:Rat):(a.den:Int)≠0:=by have:=a.den_nz; omega
theorem aCN (a b:Rat):Rat.divInt (a.num*b.den+b.num*a.den) (a.den*b.den)=a+b:=by
 rw[← Rat.divInt_add_divInt _ _ (dM a) (dM b),Rat.num_divInt_den,Rat.num_divInt_den]
theorem aGB (a b:Rat):Rat.divInt (a.num*b.den-b.num*a.den) (a.den*b.den)=a-b:=by
 rw[Rat.sub_eq_add_neg,←aCN a (-b),Rat.neg_num,Rat.neg_den,Int.neg_mul,Int.sub_eq_add_neg]
theorem aD6 (a b:Rat):Rat.divInt (a.num*b.num) (a.den*b.den)=a*b:=by
 rw[← Rat.divInt_mul_divInt,Rat.num_divInt_den,Rat.num_divInt_den]
theorem a4A {b:Rat}(h:b≠0):b.num≠0:=fun e=>h (by rw[← Rat.num_divInt_den b,e,Rat.zero_divInt])
theorem aJ2 {b:Rat}(h:b≠0):Rat.divInt b.den b.num=b⁻¹:=by
 have e:b*Rat.divInt b.den b.num=1:=by
  conv=>lhs; arg 1; rw[← Rat.num_divInt_den b]
  rw[Rat.divInt_mul_divInt,Int.mul_comm b.num];exact Rat.divInt_self' (Int.mul_ne_zero (dM b) (a4A h))
 grind
theorem aCF (a:Rat){b:Rat}(h:b≠0):Rat.divInt (a.num*b.den) (a.den*b.num)=a/b:=by
 rw[← Rat.divInt_mul_divInt,Rat.num_divInt_den,aJ2 h,Rat.div_def]
theorem num_zero {b:Rat}:b.num=0↔b=0:=⟨fun e=>Classical.byContradiction fun h=>a4A h e,fun e=>by rw[e]; rfl⟩
theorem aIX (a b:Rat):decide (a.num*b.den<b.num*a.den)=decide (a<b):=by
 rw[decide_eq_decide,Rat.lt_iff]
theorem fd (t:Int)(g:Nat):t.fdiv (g:Int)=t/(g:Int):=Int.fdiv_eq_ediv_of_nonneg t (by omega)
theorem jX {t b:Int}(h:0<b):t.fdiv (Int.gcd t b:Nat)=(Rat.divInt t b).num∧b.fdiv (Int.gcd t b:Nat)=((Rat.divInt t b).den:Int):=by
 rw[Rat.num_divInt,Rat.den_divInt,fd,fd,if_neg (by omega),Int.sign_eq_one_of_pos h,Int.one_mul,Int.gcd_comm b t];refine⟨rfl,?_⟩;obtain⟨n,rfl⟩:∃ n:Nat,b=(n:Int):=⟨b.toNat,by omega⟩;rw[← Int.natCast_ediv,Int.natAbs_natCast]
theorem a8Q {t b:Int}(h:b<0):t.fdiv (-(Int.gcd t b:Nat))=(Rat.divInt t b).num∧b.fdiv (-(Int.gcd t b:Nat))=((Rat.divInt t b).den:Int):=by
 have h1:=jX (t := -t) (b := -b) (by omega);have e:Rat.divInt (-t) (-b)=Rat.divInt t b:=by
  have:=Rat.divInt_mul_right (n:=t) (d:=b) (a := -1) (by decide);rw[← this]; congr 1<;>omega
 rw[e,Int.gcd_neg,Int.neg_gcd] at h1;rw[← h1.1,←h1.2];constructor
 ·rw[← Int.neg_neg t,Int.neg_fdiv_neg]; simp
 ·rw[← Int.neg_neg b,Int.neg_fdiv_neg]; simp
theorem a88 {d r:Int}(hd:0≤d)(h:0<r):Int.gcd r (d%r)=Int.gcd d r:=by
 obtain⟨m,rfl⟩:∃ n:Nat,d=(n:Int):=⟨d.toNat,by omega⟩;obtain⟨n,rfl⟩:∃ n:Nat,r=(n:Int):=⟨r.toNat,by omega⟩;rw[← Int.natCast_emod];show Nat.gcd n (m%n)=Nat.gcd m n;rw[Nat.gcd_comm n,←Nat.gcd_rec,Nat.gcd_comm]
theorem aAL {d:Int}(h:0≤d):(Int.gcd d 0:Int)=d:=by
 rw[Int.gcd_zero_right]; omega
theorem a8P (i:Int):0≤(if i<0 then -i else i):=by split<;>omega
theorem aCX (i j:Int):Int.gcd (if i<0 then -i else i) (if j<0 then -j else j)=Int.gcd i j:=by
 split<;>split<;>simp only[Int.gcd_neg,Int.neg_gcd]
noncomputable def Bt (k:Nat)(i:Int):Prop:=i.natAbs<2^k
noncomputable def Sz (k:Nat)(q:Rat):Prop:=Bt k q.num∧Bt k q.den
theorem Bt.mono {k m:Nat}{i:Int}(h:Bt k i)(l:k≤m):Bt m i:=Nat.lt_of_lt_of_le h (Nat.pow_le_pow_right (by decide) l)
theorem Sz.mono {k m:Nat}{q:Rat}(h:Sz k q)(l:k≤m):Sz m q:=⟨h.1.mono l,h.2.mono l⟩
theorem Bt.mul {k m:Nat}{i j:Int}(h:Bt k i)(g:Bt m j):Bt (k+m) (i*j):=by
 unfold Bt at *; rw[Int.natAbs_mul,Nat.pow_add];exact Nat.mul_lt_mul'' h g
theorem Bt.add {k:Nat}{i j:Int}(h:Bt k i)(g:Bt k j):Bt (k+1) (i+j):=by
 unfold Bt at *; have:=Int.natAbs_add_le i j; rw[Nat.pow_succ]; omega
theorem Bt.neg {k:Nat}{i:Int}(h:Bt k i):Bt k (-i):=by unfold Bt at *; omega
theorem Bt.sub {k:Nat}{i j:Int}(h:Bt k i)(g:Bt k j):Bt (k+1) (i-j):=by
 rw[Int.sub_eq_add_neg]; exact h.add g.neg
theorem Bt.ediv {k:Nat}{i:Int}(h:Bt k i)(g:Nat):Bt k (i/(g:Int)):=by
 unfold Bt at *;exact Nat.lt_of_le_of_lt (by exact Int.natAbs_ediv_le_natAbs _ _) h
theorem Sz.divInt {k:Nat}{t b:Int}(h:Bt k t)(g:Bt k b)(h0:b≠0):Sz k (Rat.divInt t b):=by
 rcases Int.lt_or_gt_of_ne h0 with hb|hb
 ·have e:Rat.divInt (-t) (-b)=Rat.divInt t b:=by
   have:=Rat.divInt_mul_right (n:=t) (d:=b) (a := -1) (by decide);rw[← this]; congr 1<;>omega
  rw[← e];have n:=jX (t := -t) (b := -b) (by omega);rw[fd,fd] at n;exact⟨by rw[← n.1]; exact h.neg.ediv _,by rw[← n.2]; exact g.neg.ediv _⟩
 ·have n:=jX (t:=t) (b:=b) hb;rw[fd,fd] at n;exact⟨by rw[← n.1]; exact h.ediv _,by rw[← n.2]; exact g.ediv _⟩
theorem Sz.add {k m:Nat}{a b:Rat}(h:Sz k a)(g:Sz m b):Sz (k+m+1) (a+b):=by
 rw[← aCN];refine Sz.divInt (Bt.add (h.1.mul g.2) ?_) ((h.2.mul g.2).mono (by omega)) (Int.mul_ne_zero (dM a) (dM b));exact(g.1.mul h.2).mono (by omega)
theorem Sz.sub {k m:Nat}{a b:Rat}(h:Sz k a)(g:Sz m b):Sz (k+m+1) (a-b):=by
 rw[← aGB];refine Sz.divInt (Bt.sub (h.1.mul g.2) ?_) ((h.2.mul g.2).mono (by omega)) (Int.mul_ne_zero (dM a) (dM b));exact(g.1.mul h.2).mono (by omega)
theorem Sz.mul {k m:Nat}{a b:Rat}(h:Sz k a)(g:Sz m b):Sz (k+m) (a*b):=by
 rw[← aD6];exact Sz.divInt (h.1.mul g.1) (h.2.mul g.2) (Int.mul_ne_zero (dM a) (dM b))
theorem Sz.div {k m:Nat}{a b:Rat}(h:Sz k a)(g:Sz m b)(b0:b≠0):Sz (k+m) (a/b):=by
 rw[← aCF a b0];exact Sz.divInt (h.1.mul g.2) (h.2.mul g.1) (Int.mul_ne_zero (dM a) (a4A b0))
end LT
namespace LT
theorem aP5 (q:Rat):(q.num:Rat)=q*((q.den:Int):Rat):=by
 have h:((q.den:Int):Rat)≠0:=by
  have:=dM q;exact fun e=>this (by exact_mod_cast e)
 have e:=Rat.num_divInt_den q;rw[Rat.divInt_eq_div] at e;grind
theorem dI {t b:Int}{q:Rat}(hb:b≠0)(h:(t:Rat)=q*(b:Rat)):Rat.divInt t b=q:=by
 have h0:(b:Rat)≠0:=fun e=>hb (by exact_mod_cast e);rw[Rat.divInt_eq_div,h];grind
theorem aJK {k:Nat}{i:Int}(h:Bt k i)(hk:1≤k):Sz k (i:Rat):=by
 refine⟨by rw[Rat.num_intCast]; exact h,?_⟩;rw[Rat.den_intCast];exact Nat.lt_of_lt_of_le (by decide:(1:Nat)<2^1) (Nat.pow_le_pow_right (by decide) hk)
end LT
namespace LT
noncomputable def pm (s:Int)(a b:Rat):Rat:=a+(s:Rat)*b
theorem aGK (a b:Rat):pm 1 a b=a+b:=by show a+((1:Int):Rat)*b=a+b; grind
theorem aCI (a b:Rat):pm (-1) a b=a-b:=by show a+((-1:Int):Rat)*b=a-b; grind
theorem aMN (a b:Rat)(s:Int):Rat.divInt (a.num*b.den+s*b.num*a.den) (a.den*b.den)=pm s a b:=by
 refine dI (Int.mul_ne_zero (dM a) (dM b)) ?_;simp only[Rat.intCast_add,Rat.intCast_mul];rw[aP5 a,aP5 b];unfold pm;grind
theorem aAD {s:Int}(h:s=1∨s = -1):Bt 1 s:=by
 show s.natAbs<2^1;omega
end LT
namespace L2
open PySem PySem.Spec PyProof.Rows
mutual
inductive Dt (H:Hp):V→PyData→Prop
 | non:Dt H .non .none
 | bl (b:Bool):Dt H (.bl b) (.bool b)
 | int (i:Int):Dt H (.int i) (.int i)
 | str (x:Str):Dt H (.str x) (.str x)
 | tup {p:Addr} {xs:List V} {ds:List PyData}:H p=some (.tup xs)→Dts H xs ds→Dt H (.ref p) (.tuple ds)
 | lst {p:Addr} {xs:List V} {ds:List PyData}:H p=some (.lst xs)→Dts H xs ds→Dt H (.ref p) (.list ds)
 | dic {p:Addr} {kvs:List (Key×V)} {kds:List (PyData×PyData)}:Rd H p (.dK kvs)→Dtk H kvs kds→Dt H (.ref p) (.dict kds)
inductive Dts (H:Hp):List V→List PyData→Prop
 | nil:Dts H [] []
 | cons {x:V} {xs:List V} {d:PyData} {ds:List PyData}:Dt H x d→Dts H xs ds→Dts H (x::xs) (d::ds)
inductive Dtk (H:Hp):List (Key×V)→List (PyData×PyData)→Prop
 | nil:Dtk H [] []
 | cons {n:Int} {x:V} {d:PyData} {kvs:List (Key×V)} {kds:List (PyData×PyData)}:Dt H x d→Dtk H kvs kds→Dtk H ((Sum.inl n,x)::kvs) ((.int n,d)::kds)
end
mutual
theorem Dt.reads {P:Program}{w:World}{H:Hp}{h:Heap}(ok:HOk P w H h):∀(d:PyData) (x:V) (v:Value),Dt H x d→RelV x v→∃ as,Reads h v d as
 | .none,_,_,e,r=>by cases e; cases r; exact⟨_,.none⟩
 | .bool _,_,_,e,r=>by cases e; cases r; exact⟨_,.bool _⟩
 | .int _,_,_,e,r=>by cases e; obtain⟨t,rfl⟩:=r; exact⟨_,.int _ _⟩
 | .str _,_,_,e,r=>by cases e; obtain⟨t,rfl⟩:=r; exact⟨_,.str _ _⟩
 | .list ds,_,_,e,r=>by
  cases e with
  | @lst p xs _ hp rs=>
   cases r
   obtain⟨_,its,n,r',hg⟩:=(show ObjOk P w H h p (.lst xs) from ok p _ hp);obtain⟨as,q⟩:=Dts.reads ok ds xs its rs r';exact⟨_,.list hg rfl rfl (by simpa using q)⟩
 | .tuple ds,_,_,e,r=>by
  cases e with
  | @tup p xs _ hp rs=>
   cases r
   obtain⟨_,its,r',o,h1,h2,n,h3⟩:=(show ObjOk P w H h p (.tup xs) from ok p _ hp);obtain⟨as,q⟩:=Dts.reads ok ds xs its rs r';exact⟨_,.tuple h1 h2 h3 (by simpa using q)⟩
 | .dict kds,_,_,e,r=>by
  cases e with
  | @dic p kvs _ hp rs=>
   cases r
   obtain⟨_,_,vs,kv,o,es,ep,h1,h2,h3,_,h4,_⟩:=(show ObjOk P w H h p (.dK kvs) from hp.ok ok);obtain⟨as,bs,q1,q2⟩:=Dtk.reads ok kds kvs vs es.toList rs kv h4;exact⟨_,.dict h1 h2.1 h3 q1 q2⟩
theorem Dts.reads {P:Program}{w:World}{H:Hp}{h:Heap}(ok:HOk P w H h):∀(ds:List PyData) (xs:List V) (vs:List Value),Dts H xs ds→Vals xs vs→∃ as,ReadsAll h vs ds as
 | [],_,_,e,r=>by cases e; cases r; exact⟨_,.nil⟩
 | d::ds,_,_,e,r=>by
  cases e with
  | cons e1 e2=>
   cases r with
   | cons r1 r2=>
    obtain⟨as,q1⟩:=Dt.reads ok d _ _ e1 r1;obtain⟨bs,q2⟩:=Dts.reads ok ds _ _ e2 r2;exact⟨_,.cons q1 q2⟩
theorem Dtk.reads {P:Program}{w:World}{H:Hp}{h:Heap}(ok:HOk P w H h):∀(kds:List (PyData×PyData)) (kvs:List (Key×V)) (vs:List (Key×Value)) (es:List DictEntry),Dtk H kvs kds→KV kvs vs→Pairs (dJ P w) es vs →
  ∃ as bs,ReadsAll h (es.map (·.key)) (kds.map (·.1)) as∧ReadsAll h (es.map (·.val)) (kds.map (·.2)) bs
 | [],_,_,_,e,r,z=>by cases e; cases r; cases z; exact⟨_,_,.nil,.nil⟩
 | (k,d)::kds,_,_,_,e,r,z=>by
  cases e with
  | @cons n _ _ _ _ e1 e2=>
   cases r with
   | cons r1 r2=>
    cases z with
    | @cons en kv _ _ z1 z2 z3=>
     obtain⟨k1,rv⟩:=r1;obtain⟨as,q1⟩:=Dt.reads ok d _ _ e1 rv;obtain⟨as2,bs2,q3,q4⟩:=Dtk.reads ok kds _ _ _ e2 r2 z3;have kr:∃ cs,Reads h en.key (.int n) cs:=by
      rcases cM ((tZ P w _ _).symm.trans z1) with⟨i,t,a,b⟩|⟨_,_,a,_⟩
      ·rw[← k1] at a
       cases a
       rw[b];exact⟨_,.int _ _⟩
      ·rw[← k1] at a
       cases a
     obtain⟨cs,kr⟩:=kr;exact⟨_,_,.cons kr q3,.cons (z2▸q1:Reads h en.val d as) q4⟩
end
theorem Rd.same {H H':Hp}(g:Same H H'){a:Addr}{u:HO}(r:Rd H a u):Rd H' a u:=r.elim (fun e=>.inl (g _ _ e)) fun⟨o,e⟩=>.inr ⟨o,g _ _ e⟩
mutual
theorem Dt.same {H H':Hp}(g:Same H H'):∀(d:PyData) (x:V),Dt H x d→Dt H' x d
 | .none,_,e=>by cases e; exact .non
 | .bool _,_,e=>by cases e; exact .bl _
 | .int _,_,e=>by cases e; exact .int _
 | .str _,_,e=>by cases e; exact .str _
 | .list ds,_,e=>by
  cases e with
  | lst hp rs=>exact .lst (g _ _ hp) (Dts.same g ds _ rs)
 | .tuple ds,_,e=>by
  cases e with
  | tup hp rs=>exact .tup (g _ _ hp) (Dts.same g ds _ rs)
 | .dict kds,_,e=>by
  cases e with
  | dic hp rs=>exact .dic (hp.same g) (Dtk.same g kds _ rs)
theorem Dts.same {H H':Hp}(g:Same H H'):∀(ds:List PyData) (xs:List V),Dts H xs ds→Dts H' xs ds
 | [],_,e=>by cases e; exact .nil
 | d::ds,_,e=>by
  cases e with
  | cons e1 e2=>exact .cons (Dt.same g d _ e1) (Dts.same g ds _ e2)
theorem Dtk.same {H H':Hp}(g:Same H H'):∀(kds:List (PyData×PyData)) (kvs:List (Key×V)),Dtk H kvs kds→Dtk H' kvs kds
 | [],_,e=>by cases e; exact .nil
 | (_,d)::kds,_,e=>by
  cases e with
  | cons e1 e2=>exact .cons (Dt.same g d _ e1) (Dtk.same g kds _ e2)
end
mutual
noncomputable def qD:PyData→Bool
 | .list _=>false
 | .dict _=>false
 | .tuple ds=>jA ds
 | _=>true
noncomputable def jA:List PyData→Bool
 | []=>true
 | d::ds=>qD d&&jA ds
end
noncomputable def SameX (x:Addr)(H H':Hp):Prop:=∀ b o,b≠x→H b=some o→H' b=some o
theorem SameX.refl (x:Addr)(H:Hp):SameX x H H:=fun _ _ _ e=>e
theorem SameX.trans {x:Addr}{H H1 H2:Hp}(a:SameX x H H1)(b:SameX x H1 H2):SameX x H H2:=fun c o n e=>b c o n (a c o n e)
theorem mY {H:Hp}{p:Addr}(h:H p=none)(o:HO):Same H (upd H p o):=fun b u q=>by rw[aY (bJ q h)]; exact q
theorem j9 {H:Hp}{p:Addr}(o:HO):SameX p H (upd H p o):=fun b u n q=>by rw[aY n]; exact q
structure Good (d:PyData):Prop where
 lay:d.canLay0=true
 dep:d.depth≤60
section
variable {X:Cx}
theorem aJO {u a b:Nat}(h:u+64<cLine)(ha:a≤60):u+min a b<cLine:=by
 have:min a b≤a:=Nat.min_le_left _ _;omega
noncomputable def aOM:R2:=fun x y H Q=>∃ dx dy,Dt H x dx∧Dt H y dy∧Good dx∧Good dy∧Q (.bl (PyData.eqv dx dy)) H
noncomputable def aOD:R2:=fun x y H Q=>∃ dx dy,Dt H x dx∧Dt H y dy∧Good dx∧Good dy∧Q (.bl (!PyData.eqv dx dy)) H
theorem fH (hu:X.A.units+64<cLine):OpR X (compareOp .Eq) aOM:=by
 intro pins s σ H x y v u Q I rx ry h;obtain⟨dx,dy,ex,ey,gx,gy,q⟩:=h;obtain⟨as,r1⟩:=Dt.reads I.hok dx x v ex rx;obtain⟨bs,r2⟩:=Dt.reads I.hok dy y u ey ry;exact SeqAt.compareEq_reads r1 r2 gx.lay gy.lay (aJO hu gx.dep) ⟨.bl _,H,I,rfl,q⟩
theorem lX (hu:X.A.units+64<cLine):OpR X (compareOp .NotEq) aOD:=by
 intro pins s σ H x y v u Q I rx ry h;obtain⟨dx,dy,ex,ey,gx,gy,q⟩:=h;obtain⟨as,r1⟩:=Dt.reads I.hok dx x v ex rx;obtain⟨bs,r2⟩:=Dt.reads I.hok dy y u ey ry;exact SeqAt.compareNe_reads r1 r2 gx.lay gy.lay (aJO hu gx.dep) ⟨.bl _,H,I,rfl,q⟩
theorem cR:OpR X (binaryOp .Mult) (rI IntMulOk fun i j=>.int (i*j)):=opI fun _ _ _ _ _ _ _ hc q=>mul_int q hc
noncomputable def aE4 (_ j:Int):Prop:=j≠0∧LT.Bt 9000 j
theorem aPN {i j:Int}(h:aE4 i j):Builtin.divisionGoesByPylong i j=false:=by
 refine PyProof.noPylong_of_log2 ((Nat.log2_lt ?_).mpr h.2);have:=h.1;omega
theorem vV:OpR X (binaryOp .FloorDiv) (rI aE4 fun i j=>.int (i.fdiv j)):=opI fun _ _ _ _ _ _ _ hc q=>floordiv_int hc.1 q (.inl (aPN hc))
theorem bits_le {k:Nat}{i:Int}(h:LT.Bt k i):Builtin.Int.intBits i≤k:=by
 unfold Builtin.Int.intBits
 split
 ·exact Nat.zero_le _
 ·rename_i h0
  have:i.natAbs≠0:=by
   intro e;exact h0 (by simpa using e)
  exact(Nat.log2_lt this).mpr h
theorem aNZ {k m:Nat}{i j:Int}(h:LT.Bt k i)(g:LT.Bt m j)(hk:k≤1048576:=by decide)(hm:m≤1048576:=by decide):IntMulOk i j:=
 IntMulOk.of_bits (Nat.le_trans (bits_le h) hk) (Nat.le_trans (bits_le g) hm)
theorem a1D {a b v:Int}{j j':Nat}{p p' pos:Pos}(h:a^b.toNat=v)(hc:aOE a b):PE X (.BinOp (.Constant (.int a) j p) .Pow (.Constant (.int b) j' p') pos) (tC (.int v)):=by
 intro pins s σ H Q I hq;subst h;exact bU aIY aC aC pins s σ H Q I ⟨_,_,rfl,rfl,hc,hq⟩
theorem aER {x c y:Int}(h:0<c)(h2:c<2^64):CMul (x%c) y:=by
 have h3:=Int.emod_nonneg x (b:=c) (by omega);have h4:=Int.emod_lt_of_pos x h;exact .inl ⟨by omega,by omega⟩
noncomputable def aPQ:V→Option Value
 | .ty n=>some (.type n)
 | .ref a=>some (.ref a)
 | _=>none
noncomputable def aOO (K:PySem.W.Frag):List V→Hp→VK→Prop:=fun xs H Q=>∃ x c cv t b,xs=[x,c]∧aPQ c=some cv∧TyOf K H x t∧PySem.W.kitOne K t cv=some b∧Q (.bl b) H
theorem t7:a2F X (.builtin "isinstance") (aOO X.K):=by
 intro pins s σ H xs us Q I r h;obtain⟨x,c,cv,t,b,rfl,ec,ty,e,q⟩:=h;obtain⟨u,v,rfl,rx,rc⟩:=vals2 r;have ev:v=cv:=by
  cases c<;>first
   | (cases ec; exact rc)
   | cases ec
 subst ev;exact aA6 I rx ty e fun tk=>⟨.bl b,H,I.tok tk,rfl,q⟩
structure Cal (P:Program)(w:World)(K:PySem.W.Frag)(mg:Str→Option Value)(base:Heap)(k:Nat)(x:Str)(ps:List Str)(sp:Sp):Prop where
 ex:∃(f:Addr) (fd:FuncData),FnOk P w K mg base CX0 k f fd ps sp∧mg x=some (.ref f)∧PySem.W.keepIn K (.ref f)=true∧Binds K fd ps []
variable {j k:Nat}{x:Str}{ps:List Str}{sp:Sp}{e:Expr}{es:List Expr}{t:TA}{p pos:Pos}
theorem aJ (c:Cal X.prog X.w X.K X.mg X.base j x ps sp)(hr:Room k X.A)(hg:Gl X x)(ha:PA X (e::es) t)(hjk:j≤k:=by decide)
  (hdb:(x==("__debug__" : Str))=false:=by decide) (he:starEach (e::es) X.env=(false,eval e X.env)::starEach es X.env:=by rfl) (hpl:(backTo pos (starEach es X.env)).any (·.1)=false:=by rfl) :
  PE X (.Call (.Name x p) (e::es) [] pos) (aHL sp [] E0 t):=by
 obtain⟨f,fd,F,hm,hk,hb⟩:=c.ex;exact aHD F (hr.mono hjk) hg hm hk hb .nil a6K ha hdb he hpl
end
structure Bl (K:PySem.W.Frag)(mg:Str→Option Value):Prop where
 len_:mg "len" = none
 abs_:mg "abs" = none
 range_:mg "range" = none
 isinstance_:mg "isinstance" = none
 int_:mg "int" = none
 bool_:mg "bool" = none
 tuple_:mg "tuple" = none
 max_:mg "max" = none
 min_:mg "min" = none
 list_:mg "list" = none
 all_:mg "all" = none
 any_:mg "any" = none
 sorted_:mg "sorted" = none
 zip_:mg "zip" = none
 set_:mg "set" = none
 sum_:mg "sum" = none
 str_:mg "str" = none
 enumerate_:mg "enumerate" = none
 kib:PySem.W.kitOne K (.type "int") (.type "bool")=some false
 kbi:PySem.W.kitOne K (.type "bool") (.type "int")=some true
theorem aEQ (K:PySem.W.Frag)(t:Value):PySem.W.kitOne K t t=some true:=by
 unfold PySem.W.kitOne;rw[if_pos (beq_self_eq_true t)]
end L2
namespace L2
open PySem PySem.Spec PyProof.Rows LT
theorem aNQ {c A B:Prop}[Decidable c](h:c)(a:A):if decide c=true then A else B:=by rw[decide_eq_true h]; exact uV a
theorem aJI {c A B:Prop}[Decidable c](h:¬c)(b:B):if decide c=true then A else B:=by rw[decide_eq_false h]; exact u6 b
theorem aN8 {c A B:Prop}[Decidable c](h:¬c)(a:A):if (!decide c)=true then A else B:=by rw[decide_eq_false h]; exact uV a
theorem fZ {c A B:Prop}[Decidable c](h1:c→A)(h2:¬c→B):if decide c=true then A else B:=by
 by_cases h:c
 ·exact aNQ h (h1 h)
 ·exact aJI h (h2 h)
theorem tX {c A B:Prop}[Decidable c](h1:¬c→A)(h2:c→B):if (!decide c)=true then A else B:=by
 by_cases h:c
 ·exact aNJ h (h2 h)
 ·exact aN8 h (h1 h)
theorem aCD {i j:Int}(h:V.int i=V.int j):i=j:=V.int.inj h
theorem aBY {i j:Int}(h:¬V.int i=V.int j):i≠j:=fun e=>h (by rw[e])
theorem pX {n:Nat}(h:n≤1000):n≤sizeLine:=Nat.le_of_lt (yS h)
theorem aCT {n:Nat}(h:Nat.ble n 1000=true):n≤sizeLine:=pX (Nat.le_of_ble_eq_true h)
noncomputable def bT (q:Rat):PyData:=.tuple [.int q.num,.int (q.den:Int)]
theorem mL (q:Rat):Good (bT q):=⟨rfl,by show 1≤60; decide⟩
theorem a2D (a b:Rat):PyData.eqv (bT a) (bT b)=decide (a=b):=by
 show((a.num==b.num)&&(((a.den:Int)==(b.den:Int))&&true))=decide (a=b)
 rw[Bool.and_true]
 by_cases e:a=b
 ·subst e; simp
 ·rw[decide_eq_false e];refine Bool.eq_false_iff.mpr fun h=>e ?_;rw[Bool.and_eq_true] at h;have h1:a.num=b.num:=beq_iff_eq.mp h.1;have h2:(a.den:Int)=(b.den:Int):=beq_iff_eq.mp h.2;exact Rat.ext h1 (by omega)
noncomputable def fM (l:Rat×Rat):PyData:=.tuple [bT l.1,bT l.2]
noncomputable def Pen (K:PySem.W.Frag)(pen a:Addr)(ns:List Int)(H:Hp):Prop:=∃ z k:Int,0≤z∧0≤k∧H pen=some (.lst [.ref a,.int z,.int k])∧SqL K H a (ns.map V.int)
theorem aOP {K:PySem.W.Frag}{pen a:Addr}{ns:List Int}{ys:List V}{H H':Hp}(hp:H pen=some (.lst (.ref a::ys)))(h:SqL K H a (ns.map V.int))(e:SameX pen H H'):SqL K H' a (ns.map V.int):=by
 rcases h with(h|⟨o,h⟩)|h
 ·refine .inl (.inl (e _ _ ?_ h));rintro rfl;rw[hp] at h;injection h with h;injection h with h
  cases ns with
  | nil=>cases h
  | cons n ns=>
   rw[List.map_cons] at h;injection h with h1 h2
   cases h1
 ·refine .inl (.inr ⟨o,e _ _ ?_ h⟩);rintro rfl;rw[hp] at h
  cases h
 ·exact .inr h
noncomputable def aG4 (K:PySem.W.Frag):Sp:=fun vs H Q _=>∃ pen a ns,∃ m:Int,vs=[.ref pen,.int m]∧Pen K pen a ns H∧0<m∧m<1073741824∧∀(r:Int) H',0≤r→r<m→Pen K pen a ns H'→SameX pen H H'→Q (.int r) H'
noncomputable def aE8 (K:PySem.W.Frag):Sp:=fun vs H Q _=>∃(a:Addr) (ns:List Int),vs=[.ref a]∧SqL K H a (ns.map V.int)∧ns.length≤63∧∀ H',Q (.bl true) H'
theorem aFQ {k:Nat}{t b:Int}(h:Bt k b)(h0:b≠0):Bt k (Int.gcd t b:Nat):=by
 unfold Bt at *;refine Nat.lt_of_le_of_lt ?_ h;show Int.gcd t b≤b.natAbs;exact Nat.le_of_dvd (by omega) (Nat.gcd_dvd_right _ _)
theorem aFT {t b:Int}(h0:b≠0):((Int.gcd t b:Nat):Int)≠0:=by
 have:=Int.gcd_pos_of_ne_zero_right t h0;omega
end L2
namespace L2
open PySem PySem.Spec PyProof.Rows
section
variable {κ:Type}[DecidableEq κ]
noncomputable def a0V (kvs:List (κ×V))(k:κ):Option V:=(kvs.find? fun kv=>decide (kv.1=k)).map (·.2)
noncomputable def putK (kvs:List (κ×V))(k:κ)(v:V):List (κ×V):=
 if (kvs.any fun kv=>decide (kv.1=k))=true then kvs.map (fun kv=>if kv.1=k then(kv.1,v) else kv) else kvs++[(k,v)]
noncomputable def uJ (kvs:List (κ×V))(k:κ):List (κ×V):=kvs.filter fun kv=>decide (kv.1≠k)
theorem wH {p:κ×V}{r:List (κ×V)}{k:κ}(e:p.1=k):a0V (p::r) k=some p.2:=by simp[a0V,List.find?_cons,e]
theorem wA {p:κ×V}{r:List (κ×V)}{k:κ}(e:¬p.1=k):a0V (p::r) k=a0V r k:=by simp[a0V,List.find?_cons,e]
theorem a1E (k:κ):∀ kvs:List (κ×V),(kvs.any fun kv=>decide (kv.1=k))=(a0V kvs k).isSome
 | []=>rfl
 | p::r=>by
  rw[List.any_cons]
  by_cases e:p.1=k
  ·simp only[wH e,decide_eq_true e,Bool.true_or,Option.isSome_some]
  ·rw[wA e,decide_eq_false e,Bool.false_or]; exact a1E k r
theorem yC (kvs:List (κ×V))(k:κ)(v:V):(putK kvs k v).length≤kvs.length+1:=by
 unfold putK
 split
 ·rw[List.length_map]; omega
 ·rw[List.length_append,List.length_cons,List.length_nil]; omega
theorem RelO.isSome_eq {o:Option V}{u:Option Value}(r:RelO o u):o.isSome=u.isSome:=by
 cases o with
 | none=>cases u with
  | none=>rfl
  | some _=>exact(show False from r).elim
 | some _=>cases u with
  | none=>exact(show False from r).elim
  | some _=>rfl
theorem KV.val {kvs:List (κ×V)}{vs:List (κ×Value)}(r:KV kvs vs)(k:κ):RelO (a0V kvs k) (valueAt vs k):=by
 unfold KV at r
 induction r with
 | nil=>exact True.intro
 | @cons p q ps qs h t ih=>
  obtain⟨h1,h2⟩:=h
  by_cases e:p.1=k
  ·have e':q.1=k:=h1.symm.trans e;have b:valueAt (q::qs) k=some q.2:=by simp[valueAt,List.find?_cons,e']
   rw[wH e,b]; exact h2
  ·have e':¬q.1=k:=fun z=>e (h1.trans z);have b:valueAt (q::qs) k=valueAt qs k:=by simp[valueAt,List.find?_cons,e']
   rw[wA e,b]; exact ih
theorem KV.any {kvs:List (κ×V)}{vs:List (κ×Value)}(r:KV kvs vs)(k:κ):(kvs.any fun kv=>decide (kv.1=k))=vs.any fun kv=>decide (kv.1=k):=by
 unfold KV at r
 induction r with
 | nil=>rfl
 | cons h t ih=>rw[List.any_cons,List.any_cons,ih,h.1]
theorem KV.repl {kvs:List (κ×V)}{vs:List (κ×Value)}(r:KV kvs vs)(k:κ){y:V}{u:Value}(ry:RelV y u) :
  KV (kvs.map fun kv=>if kv.1=k then(kv.1,y) else kv) (vs.map fun kv=>if kv.1=k then(kv.1,u) else kv):=by
 unfold KV at r ⊢
 induction r with
 | nil=>exact .nil
 | @cons p q ps qs h t ih=>
  rw[List.map_cons,List.map_cons];refine .cons ?_ ih;obtain⟨h1,h2⟩:=h
  by_cases e:p.1=k
  ·rw[if_pos e,if_pos (h1.symm.trans e)]; exact⟨h1,ry⟩
  ·rw[if_neg e,if_neg (fun z=>e (h1.trans z))]; exact⟨h1,h2⟩
theorem KV.put {kvs:List (κ×V)}{vs:List (κ×Value)}(r:KV kvs vs)(k:κ){y:V}{u:Value}(ry:RelV y u):KV (putK kvs k y) (stored vs k u):=by
 unfold putK stored;rw[r.any k]
 by_cases e:(vs.any fun kv=>decide (kv.1=k))=true
 ·rw[if_pos e,if_pos e]; exact r.repl k ry
 ·rw[if_neg e,if_neg e]; exact Paired.snoc r ⟨rfl,ry⟩
theorem KV.drop {kvs:List (κ×V)}{vs:List (κ×Value)}(r:KV kvs vs)(k:κ):KV (uJ kvs k) (without vs k):=by
 unfold KV at r ⊢;unfold uJ without
 induction r with
 | nil=>exact .nil
 | @cons p q ps qs h t ih=>
  obtain⟨h1,h2⟩:=h;rw[List.filter_cons,List.filter_cons]
  by_cases e:p.1=k
  ·have a:¬decide (p.1≠k)=true:=by simp[e]
   have b:¬decide (q.1≠k)=true:=by simp[h1.symm.trans e]
   rw[if_neg a,if_neg b]; exact ih
  ·have e':¬q.1=k:=fun z=>e (h1.trans z);have a:decide (p.1≠k)=true:=by simp[e]
   have b:decide (q.1≠k)=true:=by simp[e']
   rw[if_pos a,if_pos b]; exact .cons ⟨h1,h2⟩ ih
theorem KV.keys {kvs:List (κ×V)}{vs:List (κ×Value)}(r:KV kvs vs):kvs.map (·.1)=vs.map (·.1):=by
 unfold KV at r
 induction r with
 | nil=>rfl
 | cons h t ih=>rw[List.map_cons,List.map_cons,ih,h.1]
theorem KV.length {kvs:List (κ×V)}{vs:List (κ×Value)}(r:KV kvs vs):kvs.length=vs.length:=Paired.length r
theorem a7O (kvs:List (κ×V))(k:κ):(uJ kvs k).length≤kvs.length:=List.length_filter_le _ _
end
theorem aC4 {P:Program}{w:World}{k:Key}{u:Value}(r:RelV (kV k) u):(dJ P w).is k u=true:=by
 cases k with
 | inl i=>obtain⟨t,e⟩:=(show ∃ t,u=Value.int i t from r); subst e; exact a72 P w i t
 | inr x=>obtain⟨t,e⟩:=(show ∃ t,u=Value.str x t from r); subst e; exact a65 P w x t
theorem a3K {P:Program}{w:World}:∀{ks:List Key} {us:List Value},Vals (ks.map kV) us→ItemsAre (dJ P w) ks us
 | [],_,r=>by rw[List.map_nil] at r; cases r; exact .nil
 | k::ks,_,r=>by
  rw[List.map_cons] at r
  cases r with
  | cons h t=>exact .cons (aC4 h) (a3K t)
abbrev KT (H:Hp):List (List Key×V)→List (List Key×Addr×Value)→Prop:=Paired fun p q=>p.1=q.1∧H q.2.1=some (.tup (p.1.map kV))∧RelV p.2 q.2.2
theorem KT.val {H:Hp}{kvs:List (List Key×V)}{xs:List (List Key×Addr×Value)}(r:KT H kvs xs)(k:List Key):RelO (a0V kvs k) ((atKey xs k).map (·.2)):=by
 induction r with
 | nil=>exact True.intro
 | @cons p q ps qs h t ih=>
  obtain⟨h1,_,h2⟩:=h
  by_cases e:p.1=k
  ·have e':q.1=k:=h1.symm.trans e;have b:atKey (q::qs) k=some q.2:=by simp[atKey,List.find?_cons,e']
   rw[wH e,b]; exact h2
  ·have e':¬q.1=k:=fun z=>e (h1.trans z);have b:atKey (q::qs) k=atKey qs k:=by simp[atKey,List.find?_cons,e']
   rw[wA e,b]; exact ih
theorem KT.repl {H:Hp}{kvs:List (List Key×V)}{xs:List (List Key×Addr×Value)}(r:KT H kvs xs)(k:List Key){y:V}{u:Value}(ry:RelV y u) :
  KT H (kvs.map fun kv=>if kv.1=k then(kv.1,y) else kv) (xs.map (putAt k u)):=by
 induction r with
 | nil=>exact .nil
 | @cons p q ps qs h t ih=>
  rw[List.map_cons,List.map_cons];refine .cons ?_ ih;obtain⟨h1,h2,h3⟩:=h;unfold putAt
  by_cases e:p.1=k
  ·rw[if_pos e,if_pos (h1.symm.trans e)]; exact⟨h1,h2,ry⟩
  ·rw[if_neg e,if_neg (fun z=>e (h1.trans z))]; exact⟨h1,h2,h3⟩
theorem KT.put {H:Hp}{kvs:List (List Key×V)}{xs:List (List Key×Addr×Value)}(r:KT H kvs xs)(k:List Key){b:Addr}{y:V}{u:Value}(hb:H b=some (.tup (k.map kV)))(ry:RelV y u) :
  KT H (putK kvs k y) (storedH xs k b u):=by
 have e:(kvs.any fun kv=>decide (kv.1=k))=(atKey xs k).isSome:=by
  rw[a1E,(r.val k).isSome_eq,Option.isSome_map]
 unfold putK storedH;rw[e]
 by_cases q:(atKey xs k).isSome=true
 ·rw[if_pos q,if_pos q]; exact r.repl k ry
 ·rw[if_neg q,if_neg q]; exact Paired.snoc r ⟨rfl,hb,ry⟩
theorem KT.keeps {H H':Hp}{kvs:List (List Key×V)}{xs:List (List Key×Addr×Value)}(r:KT H kvs xs)(ht:∀ b ys,H b=some (.tup ys)→H' b=some (.tup ys)):KT H' kvs xs:=
 Paired.mapP r fun _ _ z=>⟨z.1,ht _ _ z.2.1,z.2.2⟩
section
variable {P:Program}{w:World}{H:Hp}{h:Heap}{a:Addr}
theorem aJ5 {u:HO}(ok:HOk P w H h)(e:Rd H a u):ObjOk P w H h a u:=e.ok ok
theorem a3F {kvs:List (Key×V)}(ok:HOk P w H h)(e:Rd H a (.dK kvs)):kvs.length≤sizeLine∧(a==sysModules)=false∧∃ vs,KV kvs vs∧h.DictOf (dJ P w) a vs:=
 show ObjOk P w H h a (.dK kvs) from aJ5 ok e
theorem aI9 {kvs:List (Key×V)}(ok:HOk P w H h)(e:H a=some (.dK kvs)):kvs.length≤sizeLine∧(a==sysModules)=false∧∃ vs,KV kvs vs∧h.DictOf (dJ P w) a vs:=a3F ok (.inl e)
theorem aDN {ks:List Key}(ok:HOk P w H h)(e:H a=some (.tup (ks.map kV))):(tupleKind (dJ P w)).is h ks a:=by
 obtain⟨_,its,r,o,h1,h2,n,h3⟩:=(show ObjOk P w H h a (.tup (ks.map kV)) from ok a _ e);exact⟨o,its.toArray,n,h1,h2,h3,by simpa using a3K r⟩
theorem aFJ {kvs:List (List Key×V)}(ok:HOk P w H h)(e:Rd H a (.dT kvs)):kvs.length≤sizeLine∧(a==sysModules)=false ∧
  ∃ xs,KT H kvs xs∧h.DictOfH (tupleKind (dJ P w)) a xs:=by
 obtain⟨z,y,xs,r,o,es,ep,h1,h2,h3,h4,h5⟩:=(show ObjOk P w H h a (.dT kvs) from aJ5 ok e);refine⟨z,y,xs,r,o,es,ep,h1,h2,h3,h4,fun x hx=>?_,h5⟩;have all:∀{l:List (List Key×V)} {m:List (List Key×Addr×Value)},KT H l m→∀ x∈m,(tupleKind (dJ P w)).is h x.1 x.2.1:=by
  intro l m q
  induction q with
  | nil=>intro x hx; exact nomatch hx
  | @cons p q ps qs hq t ih=>
   intro x hx;rcases List.mem_cons.mp hx with e|hx
   ·subst e;exact aDN ok (by rw[← hq.1]; exact hq.2.1)
   ·exact ih x hx
 exact all r x hx
theorem aLZ {kvs:List (List Key×V)}(ok:HOk P w H h)(e:H a=some (.dT kvs)):kvs.length≤sizeLine∧(a==sysModules)=false ∧
  ∃ xs,KT H kvs xs∧h.DictOfH (tupleKind (dJ P w)) a xs:=aFJ ok (.inl e)
end
noncomputable def DGet (H:Hp)(a:Addr)(y:V)(r:Option V):Prop:=
 (∃ kvs k,Rd H a (.dK kvs)∧y=kV k∧r=a0V kvs k)∨∃ kvs k b,Rd H a (.dT kvs)∧y=.ref b∧H b=some (.tup (k.map kV))∧r=a0V kvs k
noncomputable def DPut (H:Hp)(a:Addr)(y v:V)(H':Hp):Prop:=
 (∃ kvs k,H a=some (.dK kvs)∧y=kV k∧kvs.length<sizeLine∧H'=upd H a (.dK (putK kvs k v))) ∨
 ∃ kvs k b,H a=some (.dT kvs)∧y=.ref b∧H b=some (.tup (k.map kV))∧kvs.length<sizeLine∧H'=upd H a (.dT (putK kvs k v))
theorem DGet.k {H:Hp}{a:Addr}{kvs:List (Key×V)}{k:Key}(e:H a=some (.dK kvs)):DGet H a (kV k) (a0V kvs k):=.inl ⟨kvs,k,.inl e,rfl,rfl⟩
theorem DPut.k {H:Hp}{a:Addr}{kvs:List (Key×V)}{k:Key}{v:V}(e:H a=some (.dK kvs))(hl:kvs.length<sizeLine):DPut H a (kV k) v (upd H a (.dK (putK kvs k v))):=.inl ⟨kvs,k,e,rfl,hl,rfl⟩
section
variable {X:Cx}{pins:List (Addr×Obj)}{σ:St}{H:Hp}{s:Shared}{a:Addr}{y v:V}{u r:Value}{o:Option V}{A:Around}{E:Value→Shared→Prop}
theorem Inv.big (I:Inv X pins σ H s):sysModules<s.heap.objs.size:=by
 have h:mainGlobals<s.heap.objs.size:=(I.mod.glob.keeps I.bk).lt;exact Nat.lt_trans (by decide) h
theorem aCO {Q:Value→Shared→Prop}(hu:A.units+1<cLine)(I:Inv X pins σ H s)(g:DGet H a y (some v))(ry:RelV y u)(h:∀ w' s',Inv X pins σ H s'→RelV v w'→Q w' s') :
  wpAny (model X.prog X.w) A (getItem (.ref a) u) Q E s:=by
 rcases g with⟨kvs,k,e,ey,l⟩|⟨kvs,k,b,e,ey,eb,l⟩
 ·subst ey;obtain⟨z,hd,vs,rel,dd⟩:=a3F I.hok e;obtain⟨w',hw,rw'⟩:=RelO.some_of (v:=v) (o:=valueAt vs k) (by rw[l]; exact rel.val k);exact wpAny_getItem_of (aC4 ry) dd.mapOf hw (h w' _ (I.tok _) rw')
 ·subst ey
  cases(show u=Value.ref b from ry)
  obtain⟨z,hd,xs,rel,dd⟩:=aFJ I.hok e;obtain⟨w',hw,rw'⟩:=RelO.some_of (v:=v) (o:=(atKey xs k).map (·.2)) (by rw[l]; exact rel.val k);obtain⟨p,hp,hp2⟩:=Option.map_eq_some_iff.mp hw;refine wpAny_getItem_heap (tupleKind_room_in1 hu) (aDN I.hok eb) dd hp ?_;rw[hp2];exact h w' _ (I.tok _) rw'
theorem a1M {h':Heap}{t':Nat}{ob:HO}(I:Inv X pins σ H s)(mu:Mut (H a))(hs:Heap.SameBut a s.heap h')(he:∃ q,h'.get? a=some q)(new:ObjOk X.prog X.w (upd H a ob) h' a ob) :
  Inv X pins σ (upd H a ob) { s with heap:=h',toks:=t' }:=
 I.write (x:=a) (e:=a) mu (.inl rfl) (fun b q hb z=>(hs.2 b hb).trans z) he new
theorem a8L {P:Program}{w:World}{H':Hp}{h':Heap}{kvs:List (Key×V)}{vs:List (Key×Value)}(z:kvs.length≤sizeLine)(hd:(a==sysModules)=false)(rel:KV kvs vs)(dd:h'.DictOf (dJ P w) a vs) :
  ObjOk P w H' h' a (.dK kvs):=⟨z,hd,vs,rel,dd⟩
theorem aBL {H':Hp}{Q:Unit→Shared→Prop}(hu:A.units+1<cLine)(I:Inv X pins σ H s)(g:DPut H a y v H')(ry:RelV y u)(rv:RelV v r)(h:∀ s',Inv X pins σ H' s'→Q () s') :
  wpAny (model X.prog X.w) A (setItem (.ref a) u r) Q E s:=by
 rcases g with⟨kvs,k,e,ey,l,eH⟩|⟨kvs,k,b,e,ey,eb,l,eH⟩
 ·subst ey eH;obtain⟨z,hd,vs,rel,dd⟩:=aI9 I.hok e;have hz:vs.length≤sizeLine:=by rw[← rel.length]; exact z
  have hl:(putK kvs k v).length≤sizeLine:=by have:=yC kvs k v; omega
  refine wpAny_setItem_pairs (hsz:=hz) (aC4 ry) dd fun h' dd' hs=>h _ ?_;have he:∃ q,h'.get? a=some q:=let ⟨q,_,_,hq,_⟩:=dd'; ⟨q,hq⟩;exact a1M I (by rw[e]; exact True.intro) hs he (a8L hl hd (rel.put k rv) dd')
 ·subst ey eH
  cases(show u=Value.ref b from ry)
  obtain⟨z,hd,xs,rel,dd⟩:=aLZ I.hok e;have hz:xs.length≤sizeLine:=by rw[← Paired.length rel]; exact z
  have hl:(putK kvs k v).length≤sizeLine:=by have:=yC kvs k v; omega
  refine wpAny_setItem_heap (hsz:=hz) (tupleKind_room_in1 hu) (aDN I.hok eb) dd fun h' dd' hs=>h _ ?_;obtain⟨q,es,ep,hq,h2,h3,h4,_,h5⟩:=dd';refine a1M I (by rw[e]; exact True.intro) hs ⟨q,hq⟩ ⟨hl,hd,_,(rel.put k eb rv).keeps fun c ys ec=>?_,q,es,ep,hq,h2,h3,h4,h5⟩;rw[aY (a9F ec e (fun z=>nomatch z))];exact ec
end
section
variable {X:Cx}{pins:List (Addr×Obj)}{σ:St}{H:Hp}{s:Shared}{a:Addr}{kvs:List (Key×V)}{k:Key}{u:Value}{A:Around}{E:Value→Shared→Prop}
theorem aJX {Q:Unit→Shared→Prop}(I:Inv X pins σ H s)(e:H a=some (.dK kvs))(ry:RelV (kV k) u)(l:(a0V kvs k).isSome=true)(h:∀ s',Inv X pins σ (upd H a (.dK (uJ kvs k))) s'→Q () s') :
  wpAny (model X.prog X.w) A (delItem (.ref a) u) Q E s:=by
 obtain⟨z,hd,vs,rel,dd⟩:=aI9 I.hok e;refine wpAny_delItem_slot dd.typeIs (by decide) PySem.F.slot_dict_delitem
  (call_meetsIn PySem.F.slot_dict_delitem dd.typeIs PySem.F.entry_dict_delitem (PySem.F.args_dict_delitem_2 _ _) (meets_dict_delitem_pairs (dJ X.prog X.w) a (aC4 ry)) ⟨vs,dd,by rw[← rel.length]; exact z,by rw[← (rel.val k).isSome_eq]; exact l,fun h' dd' hs=>h _ ?_⟩)
 have he:∃ q,h'.get? a=some q:=let ⟨q,_,_,hq,_⟩:=dd'; ⟨q,hq⟩;exact a1M I (by rw[e]; exact True.intro) hs he (a8L (Nat.le_trans (a7O kvs k) z) hd (rel.drop k) dd')
theorem aO9 {v:V}{more:List Value}{Q:Value→Shared→Prop}(I:Inv X pins σ H s)(e:H a=some (.dK kvs))(ry:RelV (kV k) u)(l:a0V kvs k=some v)(hm:more=[]∨∃ x,more=[x])
  (h:∀ w' s',Inv X pins σ (upd H a (.dK (uJ kvs k))) s'→RelV v w'→Q w' s'):wpAny (model X.prog X.w) A (call (.builtin "dict.pop") (.ref a::u::more)) Q E s:=by
 obtain⟨z,hd,vs,rel,dd⟩:=aI9 I.hok e;obtain⟨w',hw,rw'⟩:=RelO.some_of (v:=v) (o:=valueAt vs k) (by rw[← l]; exact rel.val k);have hp:(keyPart u).isSome=true:=by
  cases k with
  | inl i=>obtain⟨t,q⟩:=(show ∃ t,u=Value.int i t from ry); subst q; rfl
  | inr x=>obtain⟨t,q⟩:=(show ∃ t,u=Value.str x t from ry); subst q; rfl
 have ha:argsOk "dict.pop" ⟨.ref a::u::more,[]⟩:=by
  rcases hm with q|⟨x,q⟩
  ·subst q; exact PySem.F.args_dict_pop_2 _ _
  ·subst q; exact PySem.F.args_dict_pop_3 _ _ _
 refine call_meetsIn PySem.F.slot_dict_pop dd.typeIs PySem.F.entry_dict_pop ha (meets_dict_pop_there (dJ X.prog X.w) a (aC4 ry) more hm hp)
  ⟨vs,w',dd,by rw[← rel.length]; exact z,hw,fun h' dd' hs=>h w' _ ?_ rw'⟩
 have he:∃ q,h'.get? a=some q:=let ⟨q,_,_,hq,_⟩:=dd'; ⟨q,hq⟩;exact a1M I (by rw[e]; exact True.intro) hs he (a8L (Nat.le_trans (a7O kvs k) z) hd (rel.drop k) dd')
end
noncomputable def aOL (i:Expr):Prop:=∀ ov iv,subscripted i false ov iv=operate [ov,iv] (getItem ov iv)
theorem aIJ {prog:Program}{w:World}{A:Around}{E:Value→Shared→Prop}{s:Shared}{env:Env}{value slice:Expr}{pos:Pos}{T id:String}{Q:Value→Shared→Prop}
  (hl:typeLookup (.type T) "__getitem__" = pure (some (.builtin id))) (hs:aOL slice)
  (h:wpAny (model prog w) A (eval value env) (fun o s₁=>wpAny (model prog w) A (eval slice env) (fun i s₂=>s₂.TypeIs o T∧wpAny (model prog w) A (getItem o i) Q E s₂) E s₁) E s) :
  wpAny (model prog w) A (eval (.Subscript value slice pos) env) Q E s:=by
 refine Subscript_ (wpAny_mono h (fun o s₁ h₁=>wpAny_mono h₁ (fun i s₂ h₂=>?_) fun _ _ x=>x) fun _ _ x=>x);obtain⟨hT,h₂⟩:=h₂;unfold subscriptTail;refine wpAny_bind ?_;rw[getitemInPython_of_ne hT.not_modules];refine wpAny_bind (wpAny_specialOf hT hl ?_);have fin:wpAny (model prog w) A (subscripted slice false o i) (fun r s₃=>wpAny (model prog w) A (letTemporaryGo value o r >>= fun _=>pure r) Q E s₃) E s₂:=by
  rw[hs o i];exact wpAny_operating (wpAny_mono h₂ (fun r s₃ h₃=>wpAny_bind (wpAny_letTemporaryGo (wpAny_pure h₃))) fun _ _ x=>x)
 first
  | exact wpAny_pure (wpAny_bind fin)
  | exact wpAny_bind (wpAny_pure (wpAny_bind fin))
  | exact wpAny_bind fin
theorem a6E {X:Cx}{pins:List (Addr×Obj)}{σ:St}{H:Hp}{s:Shared}{a:Addr}{y:V}{o:Option V}(I:Inv X pins σ H s)(g:DGet H a y o):s.TypeIs (.ref a) "dict" := by
 rcases g with⟨kvs,k,e,_,_⟩|⟨kvs,k,b,e,_,_,_⟩
 ·obtain⟨_,_,vs,_,dd⟩:=a3F I.hok e;exact dd.typeIs
 ·obtain⟨_,_,xs,_,dd⟩:=aFJ I.hok e;exact dd.typeIs
noncomputable def aF8 (td ty:TE):TE:=fun σ H Q=>td σ H fun x H1=>ty σ H1 fun y H2=>∃ a v,x=.ref a∧DGet H2 a y (some v)∧Q v H2
noncomputable def aHY (td ty tv:TE):TS:=fun D σ H=>tv σ H fun v H1=>td σ H1 fun x H2=>ty σ H2 fun y H3=>∃ a H4,x=.ref a∧DPut H3 a y v H4∧D.nx σ H4
section
variable {X:Cx}{o i e value:Expr}{pos pos' tpos:Pos}{td ty tv:TE}
theorem fO (hu:X.A.units+1<cLine)(ho:PE X o td)(hi:PE X i ty)(hs:aOL i):PE X (.Subscript o i pos) (aF8 td ty):=by
 intro pins s σ H Q I h;refine aIJ PySem.F.slot_dict_getitem.lookup hs (thn (ho pins s σ H _ I h) fun u s1 ⟨x,H1,I1,rx,q1⟩=>thn (hi pins s1 σ H1 _ I1 q1) fun iv s2 ⟨y,H2,I2,ry,a,v,ex,g,q2⟩=>?_);subst ex;obtain rfl:u=Value.ref a:=rx;exact⟨a6E I2 g,aCO hu I2 g ry fun w' s3 I3 rw'=>⟨v,H2,I3,rw',q2⟩⟩
theorem a2B (hu:X.A.units+1<cLine)(ho:PE X o td)(hi:PE X i ty)(hv:PE X value tv)(hs:swapsWith value (some (.Subscript o i pos')) pos.line X.env=pure false) :
  PS X (.Assign [.Subscript o i pos'] value pos) (aHY td ty tv):=by
 intro pins s σ H D I h;refine wpAny_Assign_Subscript (thn (hv pins s σ H _ I h) fun r s1 ⟨v,H1,I1,rv,q1⟩=>thn (ho pins s1 σ H1 _ I1 q1) fun u s2 ⟨x,H2,I2,rx,q2⟩=>thn (hi pins s2 σ H2 _ I2 q2) fun iv s3 ⟨y,H3,I3,ry,a,H4,ex,g,q3⟩=>?_) hs;subst ex;obtain rfl:u=Value.ref a:=rx;exact aBL hu I3 g ry rv fun s4 I4=>⟨σ,H4,I4,q3⟩
end
theorem aEC {P:Program}{w:World}{H:Hp}(h:Heap)(hb:sysModules<h.objs.size):ObjOk P w H (h.push { cls:=.type "dict", data:=.dict #[] }) h.objs.size (.dK []):=
 ⟨Nat.zero_le _,beq_eq_false_iff_ne.mpr (Ne.symm (Nat.ne_of_lt hb)),[],.nil,Heap.DictOf.new h⟩
noncomputable def aGM:TE:=fun _ H Q=>∀ p,H p=none→Q (.ref p) (upd H p (.dK []))
section
variable {X:Cx}{pos:Pos}
theorem a8I:PE X (.Dict [] [] pos) aGM:=fun pins s σ H Q I h=>
 wpAny_Dict_empty ⟨.ref s.heap.objs.size,_,I.laid (a:=s.heap.objs.size) (o:=.dK []) (t':=s.toks) (fun _ _ q=>Heap.get?_push_of_some _ q) (Nat.le_refl _) (aEC s.heap I.big),rfl,h _ (I.hok.fresh (Nat.le_refl _))⟩
end
structure M1 (X:Cx)(o:Expr)(m:Str)(apos:Pos)(e:Expr)(cpos:Pos):Prop where
 base:attributeBase o m X.env (eval o X.env)=eval o X.env
 few:((backTo cpos (starEach [e] X.env)).all (fun x => !x.1)&&(backToKw cpos (keywordEach [] X.env)).all (fun x=>x.1.isSome)
  && decide (([e]:List Expr).length+([]:List Keyword).length+(if ([]:List Keyword).isEmpty then 0 else 1)<30))=true
 line:(apos.endLine==cpos.line)=true
 trees:backTo cpos (starEach [e] X.env)=[(false,eval e X.env)]
noncomputable def IsD (H:Hp)(a:Addr):Prop:=(∃ kvs,Rd H a (.dK kvs))∨∃ kvs,Rd H a (.dT kvs)
theorem aJE {X:Cx}{pins:List (Addr×Obj)}{σ:St}{H:Hp}{s:Shared}{a:Addr}(I:Inv X pins σ H s)(d:IsD H a) :
  s.TypeIs (.ref a) "dict" ∧ (∀ b,Value.ref a=.ref b→∃ ob,s.heap.get? b=some ob∧ob.dict=none)∧(a==sysModules)=false:=by
 rcases d with⟨kvs,e⟩|⟨kvs,e⟩
 ·obtain⟨_,hd,vs,_,dd⟩:=a3F I.hok e;refine⟨dd.typeIs,fun b q=>?_,hd⟩
  cases q
  obtain⟨ob,_,_,h1,h2,_⟩:=dd;exact⟨ob,h1,h2.2.1⟩
 ·obtain⟨_,hd,xs,_,dd⟩:=aFJ I.hok e;refine⟨dd.typeIs,fun b q=>?_,hd⟩
  cases q
  obtain⟨ob,_,_,h1,h2,_⟩:=dd;exact⟨ob,h1,h2.2.1⟩
section
variable {X:Cx}{pins:List (Addr×Obj)}{σ:St}{H:Hp}{s:Shared}{a:Addr}{y d:V}{u r:Value}{o:Option V}{A:Around}{E:Value→Shared→Prop}
end
noncomputable def aDG (td ty:TE):TE:=fun σ H Q=>td σ H fun x H1=>∃ a,x=.ref a∧IsD H1 a∧ty σ H1 fun y H2=>∃ kvs k v,H2 a=some (.dK kvs)∧y=kV k∧a0V kvs k=some v∧Q v (upd H2 a (.dK (uJ kvs k)))
section
variable {X:Cx}{o e f:Expr}{apos cpos:Pos}{td ty tx:TE}
theorem a80 (ho:PE X o td)(he:PE X e ty)(m:M1 X o "pop" apos e cpos):PE X (.Call (.Attribute o "pop" apos) [e] [] cpos) (aDG td ty):=by
 intro pins s σ H Q I h;refine wpAny_Call_method m.base m.few m.line PySem.F.plainAttrs_dict PySem.F.slot_dict_pop PySem.F.type_dict_pop (thn (ho pins s σ H _ I h) fun u s1 ⟨x,H1,I1,rx,a,ex,d,q1⟩=>?_);subst ex;obtain rfl:u=Value.ref a:=rx;obtain⟨t1,t2,_⟩:=aJE I1 d;refine⟨t1,t2,?_⟩;rw[m.trees];refine Calls.callWith_builtin rfl (Calls.evalArgs_plain (Calls.spliced_cons (thn (he pins s1 σ H1 _ I1 q1) fun iv s2 ⟨y,H2,I2,ry,kvs,k,v,ea,ey,l,q2⟩=>Calls.spliced_nil ?_)));subst ey;exact aO9 I2 ea ry l (.inl rfl) fun w' s3 I3 rw'=>⟨v,_,I3,rw',q2⟩
end
section
variable {X:Cx}{pins:List (Addr×Obj)}{σ:St}{H:Hp}{s:Shared}{a:Addr}{kvs:List (Key×V)}{A:Around}{E:Value→Shared→Prop}
theorem aFK {Q:Value→Shared→Prop}(I:Inv X pins σ H s)(e:Rd H a (.dK kvs))(h:∀ p s',H p=none→Inv X pins σ (upd H p (.dK kvs)) s'→Q (.ref p) s'):wpAny (model X.prog X.w) A (call (.type "dict") [.ref a]) Q E s:=by
 obtain⟨z,hd,vs,rel,dd⟩:=a3F I.hok e;refine kt_call_dict hd dd (by rw[← rel.length]; exact z) fun h' dd' hs=>?_;refine h _ _ (I.hok.fresh (Nat.le_refl _)) (I.laid (a:=s.heap.objs.size) (o:=.dK kvs) (t':=s.toks) (fun b q hq=>?_) (Nat.le_refl _) (a8L z (beq_eq_false_iff_ne.mpr (Ne.symm (Nat.ne_of_lt I.big))) rel dd'));exact(hs.2 b (Nat.ne_of_lt (Heap.lt_size hq))).trans (Heap.get?_push_of_some _ hq)
end
section
variable {X:Cx}{pins:List (Addr×Obj)}{σ:St}{H:Hp}{s:Shared}{a:Addr}{y:V}{u:Value}{A:Around}{E:Value→Shared→Prop}
end
end L2
namespace L2
open PySem PySem.Spec PyProof.Rows
section
variable {κ:Type}[DecidableEq κ]
theorem aDL {p:κ×V}{r:List (κ×V)}{k:κ}(e:p.1=k):uJ (p::r) k=uJ r k:=by
 unfold uJ;rw[List.filter_cons,if_neg (by simp[e])]
theorem aAX {p:κ×V}{r:List (κ×V)}{k:κ}(e:¬p.1=k):uJ (p::r) k=p::uJ r k:=by
 unfold uJ;rw[List.filter_cons,if_pos (by simp[e])]
end
end L2
abbrev Fg:=PySem.W.Frag
abbrev Mg:=PySem.Str→Option PySem.Value
namespace L2.VS
open PySem PySem.Spec PyProof.Rows
section
abbrev D:=PyData
structure Pb where
 P:V→Hp→Prop
 mono:∀{v G G'},Same G G'→P v G→P v G'
structure Bx where
 P:V→List Addr→Hp→Hp→Prop
 mono:∀{v fp G G' H},Same G G'→P v fp G H→P v fp G' H
 loc:∀{v fp G H H'},(∀ b∈fp,H' b=H b)→P v fp G H→P v fp G H'
 dom:∀{v fp G H},P v fp G H→∀ b∈fp,∃ o,H b=some o
 uniq:∀{v fp fp' G H},P v fp G H→P v fp' G H→fp=fp'
 nt:∀{v fp G H},P v fp G H→∀ b∈fp,∀ xs,H b=some (.tup xs)→∃ q∈fp,V.ref q∈xs∧∃ vs,H q=some (.lst vs)
 view:Option D
 vok:∀{v fp G H G' d},P v fp G H→view=some d→Same G G'→(∀ b∈fp,G' b=H b)→Dt G' v d
 pv:Option Pb:=none
 pok:∀{v fp G H G' B},P v fp G H→pv=some B→Same G G'→(∀ b∈fp,G' b=H b)→B.P v G':=by intro _ _ _ _ _ _ _ z; cases z
inductive Sl where
 | no|val (d:D)|own (ds:List D)|pen|con (p:Addr)|box (B:Bx)|pub (B:Pb)
abbrev En:=List Sl
inductive Rv where
 | val (d:D)|own (ds:List D)|box (B:Bx)
def Rv.d:Rv→D
 | .val d=>d
 | .own ds=>.list ds
 | .box B=>B.view.getD .none
def Rv.sl:Rv→Sl
 | .val d=>.val d
 | .own ds=>.own ds
 | .box B=>.box B
inductive Fl where
 | nx (Γ:En)|rt (r:Rv)|bk (Γ:En)|ct (Γ:En)
variable {P0:Addr→Hp→Prop}
structure Fra (P0:Addr→Hp→Prop) where
 H0:Hp
 G0:Hp
 pen:Option Addr
 stab:∀ p,pen=some p→∀ H H',(∀ b o,H0 b=some o→H' b=H b)→P0 p H→P0 p H'
 pin:∀ p,pen=some p→∀ H,P0 p H→∃ o,H p=some o
 pin0:∀ p,pen=some p→∃ o,H0 p=some o
 pg:∀ p,pen=some p→G0 p=none
def Fra.PI (F:Fra P0)(H:Hp):Prop:=∀ p,F.pen=some p→P0 p H
theorem Fra.stab' (F:Fra P0):∀ H H',(∀ b o,F.H0 b=some o→H' b=H b)→F.PI H→F.PI H':=fun H H' h pi p e=>F.stab p e H H' h (pi p e)
structure Rf (F:Fra P0)(G H:Hp):Prop where
 sub:Same G H
 g0:∀ b o,F.H0 b=some o→G b=F.G0 b
 h0:∀ b o,F.H0 b=some o→F.pen≠some b→H b=some o
 pn:F.PI H
def SlF (F:Fra P0)(G H:Hp)(x:Option (Option V))(fp:List Addr):Sl→Prop
 | .no=>fp=[]
 | .val d=>fp=[]∧∃ v,x=some (some v)∧Dt G v d
 | .own ds=>∃ p vs,fp=[p]∧x=some (some (.ref p))∧F.H0 p=none∧G p=none∧H p=some (.lst vs)∧Dts G vs ds
 | .pen=>fp=[]∧∃ p,x=some (some (.ref p))∧F.pen=some p
 | .con p=>fp=[]∧x=some (some (.ref p))
 | .pub B=>fp=[]∧∃ v,x=some (some v)∧B.P v G
 | .box B=>∃ v,x=some (some v)∧B.P v fp G H∧∀ b∈fp,F.H0 b=none∧G b=none
def aMT (F:Fra P0)(G H:Hp)(x:Option (Option V)):Sl→Prop
 | .no=>True
 | .val d=>∃ v,x=some (some v)∧Dt G v d
 | .own ds=>∃ p vs,x=some (some (.ref p))∧F.H0 p=none∧G p=none∧H p=some (.lst vs)∧Dts G vs ds
 | .pen=>∃ p,x=some (some (.ref p))∧F.pen=some p
 | .con p=>x=some (some (.ref p))
 | .pub B=>∃ v,x=some (some v)∧B.P v G
 | .box B=>∃ v fp,x=some (some v)∧B.P v fp G H∧∀ b∈fp,F.H0 b=none∧G b=none
theorem SlF.ok {F:Fra P0}{G H:Hp}{x:Option (Option V)}{fp:List Addr}:∀{s:Sl},SlF F G H x fp s→aMT F G H x s
 | .no,_=>trivial
 | .val _,h=>h.2
 | .own _,h=>let ⟨p,vs,_,r⟩:=h; ⟨p,vs,r⟩
 | .pen,h=>h.2
 | .con _,h=>h.2
 | .pub _,h=>h.2
 | .box _,h=>let ⟨v,r⟩:=h; ⟨v,fp,r⟩
theorem SlF.mine {F:Fra P0}{G H:Hp}{x:Option (Option V)}{fp:List Addr}{b:Addr}(hb:b∈fp):∀{s:Sl},SlF F G H x fp s→F.H0 b=none∧G b=none∧∃ o,H b=some o
 | .no,h=>by rw[show fp=[] from h] at hb; cases hb
 | .val _,h=>by rw[h.1] at hb; cases hb
 | .own _,h=>by
  obtain⟨p,vs,e,_,h1,h2,h3,_⟩:=h;rw[e] at hb;rw[List.mem_singleton.mp hb];exact⟨h1,h2,_,h3⟩
 | .pen,h=>by rw[h.1] at hb; cases hb
 | .con _,h=>by rw[h.1] at hb; cases hb
 | .pub _,h=>by rw[h.1] at hb; cases hb
 | .box B,h=>by
  obtain⟨v,_,h2,h3⟩:=h;exact⟨(h3 b hb).1,(h3 b hb).2,B.dom h2 b hb⟩
theorem SlF.go {F:Fra P0}{G H G' H':Hp}{x:Option (Option V)}{fp:List Addr}(g:Same G G')(k:∀ b∈fp,G' b=none∧H' b=H b):∀{s:Sl},SlF F G H x fp s→SlF F G' H' x fp s
 | .no,h=>h
 | .val _,h=>let ⟨e,v,e1,d1⟩:=h; ⟨e,v,e1,Dt.same g _ _ d1⟩
 | .own _,h=>by
  obtain⟨p,vs,e,e1,e2,e3,e4,e5⟩:=h;have:=k p (by rw[e]; exact List.mem_singleton.mpr rfl);exact⟨p,vs,e,e1,e2,this.1,this.2.trans e4,Dts.same g _ _ e5⟩
 | .pen,h=>h
 | .con _,h=>h
 | .pub B,h=>let ⟨e,v,e1,d1⟩:=h; ⟨e,v,e1,B.mono g d1⟩
 | .box B,h=>by
  obtain⟨v,h1,h2,h3⟩:=h;exact⟨v,h1,B.loc (fun b hb=>(k b hb).2) (B.mono g h2),fun b hb=>⟨(h3 b hb).1,(k b hb).1⟩⟩
structure R (F:Fra P0)(Γ:En)(σ:St)(G H:Hp):Prop where
 fr:Rf F G H
 len:Γ.length=σ.length
 fps:∃ fps:Nat→List Addr,(∀(i:Nat) s,Γ[i]?=some s→SlF F G H σ[i]? (fps i) s)∧∀(i j:Nat) (s t:Sl),Γ[i]?=some s→Γ[j]?=some t→i≠j→∀ b∈fps i,b∉fps j
theorem R.sl {F:Fra P0}{Γ:En}{σ:St}{G H:Hp}(r:R F Γ σ G H)(i:Nat)(s:Sl)(e:Γ[i]?=some s):aMT F G H σ[i]? s:=
 let ⟨_,h,_⟩:=r.fps; (h i s e).ok
theorem R.of {F:Fra P0}{Γ:En}{σ:St}{G H:Hp}(fr:Rf F G H)(len:Γ.length=σ.length)(sl:∀(i:Nat) s,Γ[i]?=some s→aMT F G H σ[i]? s)(nb:∀(i:Nat) B,Γ[i]?≠some (.box B))
  (ap:∀(i j:Nat) x y,i≠j→Γ[i]?=some (.own x)→Γ[j]?=some (.own y)→σ[i]?≠σ[j]?):R F Γ σ G H:=by
 refine⟨fr,len,fun i=>match Γ[i]?,σ[i]? with|some (.own _),some (some (.ref p))=>[p]|_,_=>[],fun i s e=>?_,fun i j s t ei ej hij b hb hc=>?_⟩
 ·have h:=sl i s e
  cases s with
  | no=>simp only[e]; rfl
  | val d=>simp only[e]; exact⟨rfl,h⟩
  | own ds=>
   obtain⟨p,vs,e1,r⟩:=h;simp only[e,e1];exact⟨p,vs,rfl,rfl,r⟩
  | pen=>simp only[e]; exact⟨rfl,h⟩
  | con q=>simp only[e]; exact⟨rfl,h⟩
  | pub B=>simp only[e]; exact⟨rfl,h⟩
  | box B=>exact absurd e (nb i B)
 ·simp only[ei] at hb;simp only[ej] at hc
  cases s with
  | own x=>
   cases t with
   | own y=>
    split at hb
    ·rename_i p _ e1
     split at hc
     ·rename_i q _ e2
      have e1:=List.mem_singleton.mp hb;have e2:=List.mem_singleton.mp hc;exact ap i j x y hij ei ej (by simp_all)
     ·cases hc
    ·cases hb
   | _=>simp at hc
  | _=>simp at hb
section
variable {F:Fra P0}{Γ:En}{σ:St}{G H G' H':Hp}{p:Addr}{o:HO}
theorem Rf.dom (h:Rf F G H){b:Addr}(e:F.H0 b=some o):∃ o',H b=some o':=by
 by_cases hb:F.pen=some b
 ·exact F.pin b hb H (h.pn b hb)
 ·exact⟨o,h.h0 b o e hb⟩
theorem Rf.fresh (h:Rf F G H)(hp:H p=none):F.H0 p=none:=by
 cases e:F.H0 p with
 | none=>rfl
 | some o=>
  obtain⟨o',e'⟩:=h.dom e;rw[hp] at e'; cases e'
theorem Rf.gfresh (h:Rf F G H)(hp:H p=none):G p=none:=h.sub.free hp
theorem Rf.pub (h:Rf F G H)(hp:H p=none):Rf F (upd G p o) (upd H p o):=by
 have hf:=h.fresh hp;have hn:∀ b u,F.H0 b=some u→b≠p:=fun b u e z=>by rw[z,hf] at e; cases e
 refine⟨fun b u e=>?_,fun b u e=>?_,fun b u e hb=>?_,F.stab' H _ (fun b u e=>aY (hn b u e)) h.pn⟩
 ·by_cases hb:b=p
  ·subst hb; rw[bA] at e; cases e; exact bA
  ·rw[aY hb] at e ⊢; exact h.sub b u e
 ·rw[aY (hn b u e)]; exact h.g0 b u e
 ·rw[aY (hn b u e)]; exact h.h0 b u e hb
theorem Rf.priv (h:Rf F G H)(hp:F.H0 p=none)(hg:G p=none):Rf F G (upd H p o):=by
 have hn:∀ b u,F.H0 b=some u→b≠p:=fun b u e z=>by rw[z,hp] at e; cases e
 refine⟨fun b u e=>?_,h.g0,fun b u e hb=>?_,F.stab' H _ (fun b u e=>aY (hn b u e)) h.pn⟩
 ·rw[aY (bJ e hg)]; exact h.sub b u e
 ·rw[aY (hn b u e)]; exact h.h0 b u e hb
theorem Rf.give (h:Rf F G H)(hp:F.H0 p=none)(hH:H p=some o):Rf F (upd G p o) H:=by
 have hn:∀ b u,F.H0 b=some u→b≠p:=fun b u e z=>by rw[z,hp] at e; cases e
 refine⟨fun b u e=>?_,fun b u e=>?_,h.h0,h.pn⟩
 ·by_cases hb:b=p
  ·subst hb; rw[bA] at e; cases e; exact hH
  ·rw[aY hb] at e; exact h.sub b u e
 ·rw[aY (hn b u e)]; exact h.g0 b u e
def R.Has (_:R F Γ σ G H)(b:Addr):Prop:=∃(i:Nat) (s:Sl) (fp:List Addr),Γ[i]?=some s∧SlF F G H σ[i]? fp s∧b∈fp
theorem R.keep (r:R F Γ σ G H)(f:Rf F G' H')(g:Same G G')
  (k:∀ b o,r.Has b→F.H0 b=none→G b=none→H b=some o→G' b=none∧H' b=some o):R F Γ σ G' H':=by
 obtain⟨fps,h1,h2⟩:=r.fps;refine⟨f,r.len,fps,fun i s e=>(h1 i s e).go g fun b hb=>?_,h2⟩;obtain⟨m1,m2,o,m3⟩:=(h1 i s e).mine hb;obtain⟨k1,k2⟩:=k b o ⟨i,s,fps i,e,h1 i s e,hb⟩ m1 m2 m3;exact⟨k1,k2.trans m3.symm⟩
theorem R.new (r:R F Γ σ G H)(hp:H p=none):R F Γ σ (upd G p o) (upd H p o):=by
 refine r.keep (r.fr.pub hp) (mY (r.fr.gfresh hp) o) fun q u _ _ g h=>?_;have hq:q≠p:=bJ h hp;rw[aY hq,aY hq];exact⟨g,h⟩
theorem R.newP (r:R F Γ σ G H)(hp:H p=none):R F Γ σ G (upd H p o):=by
 refine r.keep (r.fr.priv (r.fr.fresh hp) (r.fr.gfresh hp)) (Same.refl _) fun q u _ _ g h=>?_;have hq:q≠p:=bJ h hp;rw[aY hq];exact⟨g,h⟩
def RvO (F:Fra P0)(G H:Hp)(r:V):Rv→Prop
 | .val d=>Dt G r d
 | .own ds=>∃ p vs,r=.ref p∧F.H0 p=none∧G p=none∧H p=some (.lst vs)∧Dts G vs ds
 | .box B=>∃ fp,B.P r fp G H∧∀ b∈fp,F.H0 b=none∧G b=none
def Apart (F:Fra P0)(Γ:En)(σ:St)(G H:Hp)(r:V):Rv→Prop
 | .val _=>True
 | .own _=>∀(i:Nat) s fp,Γ[i]?=some s→SlF F G H σ[i]? fp s→∀ p,r=.ref p→p∉fp
 | .box B=>∀(i:Nat) s fp f,Γ[i]?=some s→SlF F G H σ[i]? fp s→B.P r f G H→∀ b∈f,b∉fp
theorem R.give (r:R F Γ σ G H){v:V}{ds:List D}(h:RvO F G H v (.own ds))(ha:Apart F Γ σ G H v (.own ds)):∃ G',Same G G'∧R F Γ σ G' H∧Dt G' v (.list ds):=by
 obtain⟨p,vs,rfl,e1,e2,e3,e4⟩:=h;have g:=mY e2 (.lst vs);refine⟨upd G p (.lst vs),g,r.keep (r.fr.give e1 e3) g fun q u hq _ eg eh=>⟨?_,eh⟩,.lst bA (Dts.same g _ _ e4)⟩;have hqp:q≠p:=fun z=>by
  obtain⟨i,s,fp,a1,a2,a3⟩:=hq;rw[z] at a3;exact ha i s fp a1 a2 p rfl a3
 rw[aY hqp];exact eg
theorem R.giveB (r:R F Γ σ G H){v:V}{B:Bx}{d:D}(h:RvO F G H v (.box B))(ha:Apart F Γ σ G H v (.box B))(hv:B.view=some d):∃ G',Same G G'∧R F Γ σ G' H∧Dt G' v d:=by
 obtain⟨fp,e1,e2⟩:=h;have g:Same G (fun b=>if b∈fp then H b else G b):=fun b o e=>by
  show(if b∈fp then H b else G b)=some o
  rw[if_neg (fun z=>by rw[(e2 b z).2] at e; cases e)];exact e
 refine⟨fun b=>if b∈fp then H b else G b,g,r.keep ⟨fun b o e=>?_,fun b o e=>?_,r.fr.h0,r.fr.pn⟩ g fun q u hq _ eg eh=>⟨?_,eh⟩,B.vok e1 hv g fun b hb=>if_pos hb⟩
 ·have e:(if b∈fp then H b else G b)=some o:=e
  split at e
  ·exact e
  ·exact r.fr.sub b o e
 ·show(if b∈fp then H b else G b)=_
  rw[if_neg (fun z=>by rw[(e2 b z).1] at e; cases e)];exact r.fr.g0 b o e
 ·obtain⟨i,s,f,a1,a2,a3⟩:=hq
  show(if q∈fp then H q else G q)=none
  rw[if_neg fun z=>ha i s f fp a1 a2 e1 q z a3];exact eg
theorem R.set (r:R F Γ σ G H){i:Nat}{v:V}{rv:Rv}(h:RvO F G H v rv)(ha:Apart F Γ σ G H v rv):R F (Γ.set i rv.sl) (σ.set i (some v)) G H:=by
 obtain⟨fps,h1,h2⟩:=r.fps;obtain⟨fp,hf,hd⟩:∃ fp,SlF F G H (some (some v)) fp rv.sl∧∀(j:Nat) s,Γ[j]?=some s→∀ b∈fp,b∉fps j:=by
  cases rv with
  | val d=>exact⟨[],⟨rfl,v,rfl,h⟩,fun j s _ b hb=>nomatch hb⟩
  | own ds=>
   obtain⟨p,vs,rfl,q⟩:=h;exact⟨[p],⟨p,vs,rfl,rfl,q⟩,fun j s ej b hb=>by rw[List.mem_singleton.mp hb]; exact ha j s (fps j) ej (h1 j s ej) p rfl⟩
  | box B=>
   obtain⟨fp,q1,q2⟩:=h;exact⟨fp,⟨v,rfl,q1,q2⟩,fun j s ej b hb=>ha j s (fps j) fp ej (h1 j s ej) q1 b hb⟩
 have lt:∀{m:Nat} {z},(Γ.set i rv.sl)[m]?=some z→m<Γ.length:=fun e=>by
  have:=(List.getElem?_eq_some_iff.mp e).1;simpa using this
 have old:∀{m:Nat} {z},m≠i→(Γ.set i rv.sl)[m]?=some z→Γ[m]?=some z:=fun hm e=>by rw[List.getElem?_set_ne (Ne.symm hm)] at e; exact e
 refine⟨r.fr,by rw[List.length_set,List.length_set]; exact r.len,fun j=>if j=i then fp else fps j,fun j s e=>?_,fun j k s t ej ek hjk b hb hc=>?_⟩
 ·dsimp only
  by_cases hj:j=i
  ·subst hj;have hi:=lt e;rw[List.getElem?_set_self hi] at e;rw[if_pos rfl,List.getElem?_set_self (by rw[← r.len]; exact hi)]
   cases e
   exact hf
  ·rw[if_neg hj,List.getElem?_set_ne (Ne.symm hj)];exact h1 j s (old hj e)
 ·dsimp only at hb hc
  by_cases hj:j=i
  ·have hk:k≠i:=fun z=>hjk (hj.trans z.symm);rw[if_pos hj] at hb;rw[if_neg hk] at hc;exact hd k t (old hk ek) b hb hc
  ·rw[if_neg hj] at hb
   by_cases hk:k=i
   ·rw[if_pos hk] at hc;exact hd j s (old hj ej) b hc hb
   ·rw[if_neg hk] at hc;exact h2 j k s t (old hj ej) (old hk ek) hjk b hb hc
theorem R.setV (r:R F Γ σ G H){i:Nat}{v:V}{d:D}(h:Dt G v d):R F (Γ.set i (.val d)) (σ.set i (some v)) G H:=r.set (rv:=.val d) h trivial
theorem R.drop (r:R F Γ σ G H)(i:Nat):R F (Γ.set i .no) σ G H:=by
 obtain⟨fps,h1,h2⟩:=r.fps;have back:∀{m z},m≠i→(Γ.set i .no)[m]?=some z→Γ[m]?=some z:=fun{m z} hm e=>by rw[List.getElem?_set_ne (Ne.symm hm)] at e; exact e
 refine⟨r.fr,by rw[List.length_set]; exact r.len,fun j=>if j=i then[] else fps j,fun j s e=>?_,fun j k s t ej ek hjk b hb hc=>?_⟩
 ·dsimp only
  by_cases hj:j=i
  ·subst hj;have hi:j<Γ.length:=by
    have:=(List.getElem?_eq_some_iff.mp e).1;simpa using this
   rw[List.getElem?_set_self hi] at e
   cases e
   rw[if_pos rfl];rfl
  ·rw[if_neg hj];exact h1 j s (back hj e)
 ·dsimp only at hb hc
  by_cases hj:j=i
  ·rw[if_pos hj] at hb; cases hb
  ·rw[if_neg hj] at hb
   by_cases hk:k=i
   ·rw[if_pos hk] at hc; cases hc
   ·rw[if_neg hk] at hc;exact h2 j k s t (back hj ej) (back hk ek) hjk b hb hc
theorem R.writeF (r:R F Γ σ G H){i:Nat}{s0 s1:Sl}{H':Hp}(e:Γ[i]?=some s0)(fr:Rf F G H')(h:∀ fp,SlF F G H σ[i]? fp s0→∃ fp',SlF F G H' σ[i]? fp' s1∧(∀ b,b∉fp→(∃ o,H b=some o)→H' b=H b∧b∉fp')):R F (Γ.set i s1) σ G H':=by
 obtain⟨fps,h1,h2⟩:=r.fps;obtain⟨fp',w1,w2⟩:=h (fps i) (h1 i s0 e);have hi:i<Γ.length:=(List.getElem?_eq_some_iff.mp e).1;have back:∀{m z},m≠i→(Γ.set i s1)[m]?=some z→Γ[m]?=some z:=fun{m z} hm e=>by rw[List.getElem?_set_ne (Ne.symm hm)] at e; exact e
 have away:∀{j:Nat} {s:Sl},j≠i→Γ[j]?=some s→∀ b∈fps j,H' b=H b∧b∉fp':=fun hj ej b hb=>
  w2 b (fun z=>h2 _ i _ s0 ej e hj b hb z) ((h1 _ _ ej).mine hb).2.2
 refine⟨fr,by rw[List.length_set]; exact r.len,fun j=>if j=i then fp' else fps j,fun j s ej=>?_,fun j k s t ej ek hjk b hb hc=>?_⟩
 ·dsimp only
  by_cases hj:j=i
  ·subst hj;rw[List.getElem?_set_self hi] at ej
   cases ej
   rw[if_pos rfl];exact w1
  ·rw[if_neg hj];have e0:=back hj ej;exact(h1 j s e0).go (Same.refl _) fun b hb=>⟨((h1 j s e0).mine hb).2.1,(away hj e0 b hb).1⟩
 ·dsimp only at hb hc
  by_cases hj:j=i
  ·have hk:k≠i:=fun z=>hjk (hj.trans z.symm);rw[if_pos hj] at hb;rw[if_neg hk] at hc;exact(away hk (back hk ek) b hc).2 hb
  ·rw[if_neg hj] at hb
   by_cases hk:k=i
   ·rw[if_pos hk] at hc;exact(away hj (back hj ej) b hb).2 hc
   ·rw[if_neg hk] at hc;exact h2 j k s t (back hj ej) (back hk ek) hjk b hb hc
theorem R.write (r:R F Γ σ G H){i:Nat}{ds es:List D}{p:Addr}{ws:List V}(e:Γ[i]?=some (.own ds))(ep:σ[i]?=some (some (.ref p)))(hw:Dts G ws es):R F (Γ.set i (.own es)) σ G (upd H p (.lst ws)):=by
 obtain⟨p',vs,e1,e2,e3,e4,e5⟩:=r.sl i _ e;rw[ep] at e1; cases e1;refine r.writeF e (r.fr.priv e2 e3) fun fp h=>?_;obtain⟨q,us,f0,f1,f2,f3,f4,f5⟩:=h;rw[ep] at f1; cases f1;refine⟨[p],⟨p,ws,rfl,ep,e2,e3,bA,hw⟩,fun b hb _=>?_⟩;have hbp:b≠p:=fun z=>hb (by rw[f0,z]; exact List.mem_singleton.mpr rfl);exact⟨aY hbp,fun z=>hbp (List.mem_singleton.mp z)⟩
end
abbrev ME:=En→(D→En→Prop)→Prop
abbrev MO:=En→(Rv→En→Prop)→Prop
abbrev MT:=En→(Bool→En→Prop)→Prop
abbrev MA:=En→(List Sl→En→Prop)→Prop
abbrev MD:=En→(List D→En→Prop)→Prop
abbrev MG:=D→En→(En→Prop)→Prop
abbrev MGs:=List D→En→(En→Prop)→Prop
abbrev MS:=En→(Fl→Prop)→Prop
abbrev Fm:=List Sl→(Rv→Prop)→Prop
def VT (P0:Addr→Hp→Prop)(t:TE)(m:ME):Prop:=∀(F:Fra P0) (Γ:En) (σ:St) (G H:Hp) (Q:VK) (Qm:D→En→Prop),R F Γ σ G H→m Γ Qm →
 (∀ d Γ' r G' H',Qm d Γ'→Same G G'→R F Γ' σ G' H'→Dt G' r d→Q r H')→t σ H Q
def VO (P0:Addr→Hp→Prop)(t:TE)(m:MO):Prop:=∀(F:Fra P0) (Γ:En) (σ:St) (G H:Hp) (Q:VK) (Qm:Rv→En→Prop),R F Γ σ G H→m Γ Qm →
 (∀ rv Γ' r G' H',Qm rv Γ'→Same G G'→R F Γ' σ G' H'→RvO F G' H' r rv→Apart F Γ' σ G' H' r rv→Q r H')→t σ H Q
def VTT (P0:Addr→Hp→Prop)(t:TT)(m:MT):Prop:=∀(F:Fra P0) (Γ:En) (σ:St) (G H:Hp) (Q:Bool→Hp→Prop) (Qm:Bool→En→Prop),R F Γ σ G H→m Γ Qm →
 (∀ b Γ' G' H',Qm b Γ'→Same G G'→R F Γ' σ G' H'→Q b H')→t σ H Q
def VD (P0:Addr→Hp→Prop)(t:TA)(m:MD):Prop:=∀(F:Fra P0) (Γ:En) (σ:St) (G H:Hp) (Q:List V→Hp→Prop) (Qm:List D→En→Prop),R F Γ σ G H→m Γ Qm →
 (∀ ds Γ' rs G' H',Qm ds Γ'→Same G G'→R F Γ' σ G' H'→Dts G' rs ds→Q rs H')→t σ H Q
def vL (F:Fra P0)(G:Hp)(r:V):Sl→Prop
 | .val d=>Dt G r d
 | .pen=>∃ p,r=.ref p∧F.pen=some p
 | .con p=>r=.ref p
 | .pub B=>B.P r G
 | _=>False
def VA (P0:Addr→Hp→Prop)(t:TA)(m:MA):Prop:=∀(F:Fra P0) (Γ:En) (σ:St) (G H:Hp) (Q:List V→Hp→Prop) (Qm:List Sl→En→Prop),R F Γ σ G H→m Γ Qm →
 (∀ as Γ' rs G' H',Qm as Γ'→Same G G'→R F Γ' σ G' H'→Paired (vL F G') rs as→Q rs H')→t σ H Q
def VG (P0:Addr→Hp→Prop)(A:Nat→Bool)(g:TG)(m:MG):Prop:=∀(F:Fra P0) (Γ:En) (σ:St) (G H:Hp) (v:V) (d:D) (Q:St→Hp→Prop) (Qm:En→Prop),R F Γ σ G H→Dt G v d→m d Γ Qm →
 (∀ Γ' σ',Qm Γ'→R F Γ' σ' G H→(∀ i,A i=false→σ'[i]?=σ[i]?)→Q σ' H)→g v σ H Q
def VGs (P0:Addr→Hp→Prop)(A:Nat→Bool)(g:TGs)(m:MGs):Prop:=∀(F:Fra P0) (Γ:En) (σ:St) (G H:Hp) (vs:List V) (ds:List D) (Q:St→Hp→Prop) (Qm:En→Prop),R F Γ σ G H→Dts G vs ds→m ds Γ Qm →
 (∀ Γ' σ',Qm Γ'→R F Γ' σ' G H→(∀ i,A i=false→σ'[i]?=σ[i]?)→Q σ' H)→g vs σ H Q
def Post (F:Fra P0)(A:Nat→Bool)(σ0:St)(G:Hp)(E:Ends):Fl→Prop
 | .nx Γ=>∀ σ G' H',Same G G'→R F Γ σ G' H'→(∀ i,A i=false→σ[i]?=σ0[i]?)→E.nx σ H'
 | .rt rv=>∀ r G' H',Same G G'→Rf F G' H'→RvO F G' H' r rv→E.rt r H'
 | .bk Γ=>∀ σ G' H',Same G G'→R F Γ σ G' H'→(∀ i,A i=false→σ[i]?=σ0[i]?)→E.bk σ H'
 | .ct Γ=>∀ σ G' H',Same G G'→R F Γ σ G' H'→(∀ i,A i=false→σ[i]?=σ0[i]?)→E.ct σ H'
def VSA (P0:Addr→Hp→Prop)(A:Nat→Bool)(t:TS)(m:MS):Prop:=∀(F:Fra P0) (Γ:En) (σ:St) (G H:Hp) (E:Ends) (Qm:Fl→Prop),R F Γ σ G H→m Γ Qm→(∀ fl,Qm fl→Post F A σ G E fl)→t E σ H
abbrev aPE:Nat→Bool:=fun _=>true
abbrev VS (P0:Addr→Hp→Prop)(t:TS)(m:MS):Prop:=VSA P0 aPE t m
theorem Post.same {F:Fra P0}{A:Nat→Bool}{σ0 σ1:St}{G G':Hp}{E:Ends}(g:Same G G')(hσ:∀ i,A i=false→σ1[i]?=σ0[i]?):∀{fl:Fl},Post F A σ0 G E fl→Post F A σ1 G' E fl
 | .nx _,h=>fun σ G2 H2 s r e=>h σ G2 H2 (g.trans s) r fun i hi=>(e i hi).trans (hσ i hi)
 | .rt _,h=>fun r G2 H2 s=>h r G2 H2 (g.trans s)
 | .bk _,h=>fun σ G2 H2 s r e=>h σ G2 H2 (g.trans s) r fun i hi=>(e i hi).trans (hσ i hi)
 | .ct _,h=>fun σ G2 H2 s r e=>h σ G2 H2 (g.trans s) r fun i hi=>(e i hi).trans (hσ i hi)
def SsX (P0:Addr→Hp→Prop)(X:Cx)(sts:List Stmt)(m:MS):Prop:=∃ t,PSs X sts t∧VS P0 t m
end
section
variable {P0:Addr→Hp→Prop}
theorem _root_.L2.Dts.get {G:Hp}:∀{vs:List V} {ds:List D} {i:Nat} {d:D},Dts G vs ds→ds[i]?=some d→∃ v,vs[i]?=some v∧Dt G v d
 := by
  intro vs ds i d h e
  induction ds generalizing vs i with
  | nil=>cases e
  | cons x ds ih=>
    cases h with
    | cons a b=>
      cases i with
      | zero=>cases e; exact⟨_,rfl,a⟩
      | succ i=>
        have q:=ih b (show ds[i]?=some d from e);exact q
theorem _root_.L2.Dts.len {G:Hp}:∀{vs:List V} {ds:List D},Dts G vs ds→vs.length=ds.length
 := by
  intro vs ds h
  induction ds generalizing vs with
  | nil=>cases h; rfl
  | cons x ds ih=>cases h with|cons a b=>exact congrArg Nat.succ (ih b)
theorem _root_.L2.Dts.app {G:Hp}:∀{vs ws:List V} {ds es:List D},Dts G vs ds→Dts G ws es→Dts G (vs++ws) (ds++es)
 := by
  intro vs ws ds es h g
  induction ds generalizing vs with
  | nil=>cases h; exact g
  | cons x ds ih=>cases h with|cons a b=>exact .cons a (ih b)
theorem _root_.L2.Dts.drp {G:Hp}:∀{vs:List V} {ds:List D} (n:Nat),Dts G vs ds→Dts G (vs.drop n) (ds.drop n)
 | _,_,0,h=>h
 | _,_,_+1,.nil=>.nil
 | _,_,n+1,.cons _ b=>Dts.drp n b
theorem _root_.L2.Dts.tak {G:Hp}:∀{vs:List V} {ds:List D} (n:Nat),Dts G vs ds→Dts G (vs.take n) (ds.take n)
 | _,_,0,_=>.nil
 | _,_,_+1,.nil=>.nil
 | _,_,n+1,.cons a b=>.cons a (Dts.tak n b)
def oQ (o:Option D)(k:D→Prop):Prop:=match o with
 | some d=>k d
 | none=>False
theorem aG0 {o:Option D}{k:D→Prop}(h:oQ o k):∃ d,o=some d∧k d:=by
 cases o with
 | none=>exact h.elim
 | some d=>exact⟨d,rfl,h⟩
def mC (d:D):ME:=fun Γ Q=>Q d Γ
def aN (i:Nat):ME:=fun Γ Q=>match Γ[i]? with
 | some (.val d)=>Q d Γ
 | _=>False
def mI0 (g:Int→Int→D)(ma mb:ME):ME:=fun Γ Q=>ma Γ fun x Γ1=>mb Γ1 fun y Γ2=>match x,y with
 | .int i,.int j=>Q (g i j) Γ2
 | _,_=>False
def mI (C:Int→Int→Prop)(g:Int→Int→D)(ma mb:ME):ME:=fun Γ Q=>ma Γ fun x Γ1=>mb Γ1 fun y Γ2=>match x,y with
 | .int i,.int j=>C i j∧Q (g i j) Γ2
 | _,_=>False
def mU (g:Int→D)(ma:ME):ME:=fun Γ Q=>ma Γ fun x Γ1=>match x with
 | .int i=>Q (g i) Γ1
 | _=>False
def mEq (ma mb:ME):ME:=fun Γ Q=>ma Γ fun x Γ1=>mb Γ1 fun y Γ2=>Good x∧Good y∧Q (.bool (PyData.eqv x y)) Γ2
def mNe (ma mb:ME):ME:=fun Γ Q=>ma Γ fun x Γ1=>mb Γ1 fun y Γ2=>Good x∧Good y∧Q (.bool (!PyData.eqv x y)) Γ2
def isN:D→Bool
 | .none=>true
 | _=>false
def aIV (ma:ME):ME:=fun Γ Q=>ma Γ fun x Γ1=>Q (.bool (isN x)) Γ1
def aBU (ma:ME):ME:=fun Γ Q=>ma Γ fun x Γ1=>Q (.bool (!isN x)) Γ1
def aD5 (ma mb:ME):ME:=fun Γ Q=>ma Γ fun x Γ1=>match x with
 | .bool c=>if c=true then mb Γ1 Q else Q (.bool false) Γ1
 | _=>False
def aIG (ma:ME):ME:=fun Γ Q=>ma Γ fun x Γ1=>match x with
 | .bool c=>Q (.bool (!c)) Γ1
 | _=>False
def eO (ma:ME):MT:=fun Γ Q=>ma Γ fun x Γ1=>match x with
 | .bool c=>Q c Γ1
 | _=>False
def aEX (ma mb:MT):MT:=fun Γ Q=>ma Γ fun c Γ1=>if c=true then mb Γ1 Q else Q false Γ1
def mOr (ma mb:MT):MT:=fun Γ Q=>ma Γ fun c Γ1=>if c=true then Q true Γ1 else mb Γ1 Q
def aGO (ma:MT):MT:=fun Γ Q=>ma Γ fun c Γ1=>Q (!c) Γ1
def aO0 (mc:MT)(ma mb:ME):ME:=fun Γ Q=>mc Γ fun c Γ1=>if c=true then ma Γ1 Q else mb Γ1 Q
def aNK (mc:MT)(ma mb:MO):MO:=fun Γ Q=>mc Γ fun c Γ1=>if c=true then ma Γ1 Q else mb Γ1 Q
def fU:MD:=fun Γ Q=>Q [] Γ
def bG (ma:ME)(mr:MD):MD:=fun Γ Q=>ma Γ fun x Γ1=>mr Γ1 fun xs Γ2=>Q (x::xs) Γ2
def c7:MA:=fun Γ Q=>Q [] Γ
def bC (ma:ME)(mr:MA):MA:=fun Γ Q=>ma Γ fun x Γ1=>mr Γ1 fun xs Γ2=>Q (.val x::xs) Γ2
def q8 (i:Nat)(mr:MA):MA:=fun Γ Q=>match Γ[i]? with
 | some .pen=>mr Γ fun xs Γ2=>Q (.pen::xs) Γ2
 | _=>False
def qC (md:MD):ME:=fun Γ Q=>md Γ fun ds Γ1=>ds.length≤1000∧Q (.tuple ds) Γ1
def vG (md:MD):MO:=fun Γ Q=>md Γ fun ds Γ1=>ds.length≤1000∧Q (.own ds) Γ1
def ixD:D→D→Option D
 | .tuple ds,.int i=>atI ds i
 | .list ds,.int i=>atI ds i
 | _,_=>none
def mIx (ma mb:ME):ME:=fun Γ Q=>ma Γ fun x Γ1=>mb Γ1 fun y Γ2=>oQ (ixD x y) fun d=>Q d Γ2
def nbQ:Rv→Prop→Prop
 | .box B,p=>B.view.isSome=true∧p
 | _,p=>p
def bW (mo:MO):ME:=fun Γ Q=>mo Γ fun rv Γ1=>nbQ rv (Q rv.d Γ1)
def cO (m:ME):MO:=fun Γ Q=>m Γ fun d Γ1=>Q (.val d) Γ1
def sI (i:Nat):MO:=fun Γ Q=>match Γ[i]? with
 | some (.val d)=>Q (.val d) Γ
 | some (.own ds)=>Q (.own ds) (Γ.set i .no)
 | some (.box B)=>Q (.box B) (Γ.set i .no)
 | _=>False
def b8 (n:Nat)(f:Fm)(ma:MA):MO:=fun Γ Q=>ma Γ fun as Γ1=>as.length=n∧f as fun rv=>Q rv Γ1
def aHM:D→Option D
 | .tuple ds=>some (.int ds.length)
 | .list ds=>some (.int ds.length)
 | _=>none
def a09 (ma:ME):ME:=fun Γ Q=>ma Γ fun x Γ1=>oQ (aHM x) fun d=>Q d Γ1
def uX:D→Option (List D)
 | .tuple ds=>some ds
 | .list ds=>some ds
 | _=>none
def a2L (ma:ME):MO:=fun Γ Q=>ma Γ fun x Γ1=>match uX x with
 | some ds=>Q (.own ds) Γ1
 | none=>False
def cutD (xs:List D)(lo hi:Option Int):List D:=(xs.drop (HT.sIx xs.length 0 lo)).take (HT.sIx xs.length xs.length hi-HT.sIx xs.length 0 lo)
abbrev MP:=En→(Option Int→En→Prop)→Prop
def pNo:MP:=fun Γ Q=>Q none Γ
def pSo (m:ME):MP:=fun Γ Q=>m Γ fun x Γ1=>match x with
 | .int i=>Q (some i) Γ1
 | _=>False
def aLR (ma:ME)(ml mh:MP):MO:=fun Γ Q=>ma Γ fun x Γ1=>ml Γ1 fun lo Γ2=>mh Γ2 fun hi Γ3=>match x with
 | .list ds=>Q (.own (cutD ds lo hi)) Γ3
 | _=>False
def aIS (ma mb:ME):MO:=fun Γ Q=>ma Γ fun x Γ1=>mb Γ1 fun y Γ2=>match x,y with
 | .list ds,.list es=>ds.length+es.length≤1000∧Q (.own (ds++es)) Γ2
 | _,_=>False
def VP (P0:Addr→Hp→Prop)(t:TO)(m:MP):Prop:=∀(F:Fra P0) (Γ:En) (σ:St) (G H:Hp) (Q:Option Int→Hp→Prop) (Qm:Option Int→En→Prop),R F Γ σ G H→m Γ Qm →
 (∀ d Γ' G' H',Qm d Γ'→Same G G'→R F Γ' σ G' H'→Q d H')→t σ H Q
section
variable {ta tb tc:TE}{ma mb:ME}{tA tB':TT}{mA mB:MT}{K:Fg}
theorem aLT {v:V}{d:D}(h:∀ G,Dt G v d):VT P0 (tC v) (mC d):=fun _ _ _ G _ _ _ r m k=>k _ _ _ _ _ m (Same.refl _) r (h G)
theorem aB {i:Nat}:VT P0 (vZ i) (aN i):=by
 intro F Γ σ G H Q Qm r m k;unfold aN at m
 split at m
 ·rename_i d e
  obtain⟨v,e1,d1⟩:=r.sl i _ e;exact⟨v,e1,k _ _ _ _ _ m (Same.refl _) r d1⟩
 ·exact m.elim
theorem aIP {r2:R2}{m2:D→D→(D→Prop)→Prop}(ha:VT P0 ta ma)(hb:VT P0 tb mb)
  (h:∀(F:Fra P0) (Γ:En) (σ:St) (G H:Hp) (x y:V) (d e:D) (Q:VK) (Qm:D→Prop),R F Γ σ G H→Dt G x d→Dt G y e→m2 d e Qm→(∀ u r G' H',Qm u→Same G G'→R F Γ σ G' H'→Dt G' r u→Q r H')→r2 x y H Q) :
  VT P0 (tOp r2 ta tb) (fun Γ Q=>ma Γ fun x Γ1=>mb Γ1 fun y Γ2=>m2 x y fun d=>Q d Γ2):=by
 intro F Γ σ G H Q Qm r m k;refine ha F Γ σ G H _ _ r m fun d Γ1 x G1 H1 m1 s1 r1 d1=>?_;refine hb F Γ1 σ G1 H1 _ _ r1 m1 fun e Γ2 y G2 H2 m2 s2 r2 d2=>?_;exact h F Γ2 σ G2 H2 x y d e _ _ r2 (Dt.same s2 _ _ d1) d2 m2 fun u w G3 H3 q s3 r3 d3=>k _ _ _ _ _ q ((s1.trans s2).trans s3) r3 d3
theorem aFA {gv:Int→Int→V}{g:Int→Int→D}(hg:∀ G i j,Dt G (gv i j) (g i j))(ha:VT P0 ta ma)(hb:VT P0 tb mb):VT P0 (tOp (rI0 gv) ta tb) (mI0 g ma mb):=by
 refine aIP (m2:=fun x y Q=>match x,y with|.int i,.int j=>Q (g i j)|_,_=>False) ha hb fun F Γ σ G H x y d e Q Qm r d1 d2 m k=>?_
 split at m
 ·cases d1; cases d2
  exact⟨_,_,rfl,rfl,k _ _ _ _ m (Same.refl _) r (hg _ _ _)⟩
 ·exact m.elim
theorem aMD {C:Int→Int→Prop}{gv:Int→Int→V}{g:Int→Int→D}(hg:∀ G i j,Dt G (gv i j) (g i j))(ha:VT P0 ta ma)(hb:VT P0 tb mb):VT P0 (tOp (rI C gv) ta tb) (mI C g ma mb):=by
 refine aIP (m2:=fun x y Q=>match x,y with|.int i,.int j=>C i j∧Q (g i j)|_,_=>False) ha hb fun F Γ σ G H x y d e Q Qm r d1 d2 m k=>?_
 split at m
 ·cases d1; cases d2
  exact⟨_,_,rfl,rfl,m.1,k _ _ _ _ m.2 (Same.refl _) r (hg _ _ _)⟩
 ·exact m.elim
theorem aPT {gv:Int→V}{g:Int→D}(hg:∀ G i,Dt G (gv i) (g i))(ha:VT P0 ta ma):VT P0 (tUn (rU gv) ta) (mU g ma):=by
 intro F Γ σ G H Q Qm r m k;refine ha F Γ σ G H _ _ r m fun d Γ1 x G1 H1 m1 s1 r1 d1=>?_
 split at m1
 ·cases d1
  exact⟨_,rfl,k _ _ _ _ _ m1 s1 r1 (hg _ _)⟩
 ·exact m1.elim
theorem kY (ha:VT P0 ta ma)(hb:VT P0 tb mb):VT P0 (tOp aOM ta tb) (mEq ma mb):=by
 refine aIP (m2:=fun x y Q=>Good x∧Good y∧Q (.bool (PyData.eqv x y))) ha hb fun F Γ σ G H x y d e Q Qm r d1 d2 m k=>?_;exact⟨d,e,Dt.same r.fr.sub _ _ d1,Dt.same r.fr.sub _ _ d2,m.1,m.2.1,k _ _ _ _ m.2.2 (Same.refl _) r (.bl _)⟩
theorem uU (ha:VT P0 ta ma)(hb:VT P0 tb mb):VT P0 (tOp aOD ta tb) (mNe ma mb):=by
 refine aIP (m2:=fun x y Q=>Good x∧Good y∧Q (.bool (!PyData.eqv x y))) ha hb fun F Γ σ G H x y d e Q Qm r d1 d2 m k=>?_;exact⟨d,e,Dt.same r.fr.sub _ _ d1,Dt.same r.fr.sub _ _ d2,m.1,m.2.1,k _ _ _ _ m.2.2 (Same.refl _) r (.bl _)⟩
theorem aFS {G:Hp}{x:V}{d:D}(h:Dt G x d):decide (x=V.non)=isN d:=by
 cases h<;>first|rfl|exact decide_eq_false (by intro z; cases z)
theorem aBC (ha:VT P0 ta ma):VT P0 (tOp (fun x y H Q=>y=.non∧Q (.bl (decide (x=.non))) H) ta (tC .non)) (aIV ma):=by
 intro F Γ σ G H Q Qm r m k;refine ha F Γ σ G H _ _ r m fun d Γ1 x G1 H1 m1 s1 r1 d1=>⟨rfl,?_⟩;rw[aFS d1];exact k _ _ _ _ _ m1 s1 r1 (.bl _)
theorem a7G (ha:VT P0 ta ma):VT P0 (tOp (fun x y H Q=>y=.non∧Q (.bl (!decide (x=.non))) H) ta (tC .non)) (aBU ma):=by
 intro F Γ σ G H Q Qm r m k;refine ha F Γ σ G H _ _ r m fun d Γ1 x G1 H1 m1 s1 r1 d1=>⟨rfl,?_⟩;rw[aFS d1];exact k _ _ _ _ _ m1 s1 r1 (.bl _)
theorem aBS (ha:VT P0 ta ma)(hb:VT P0 tb mb):VT P0 (aKN ta tb) (aD5 ma mb):=by
 intro F Γ σ G H Q Qm r m k;refine ha F Γ σ G H _ _ r m fun d Γ1 x G1 H1 m1 s1 r1 d1=>?_
 split at m1
 ·rename_i c
  cases d1
  refine⟨c,rfl,?_⟩
  cases c with
  | true=>exact uV (hb F Γ1 σ G1 H1 _ _ r1 m1 fun e Γ2 y G2 H2 m2 s2 r2 d2=>k _ _ _ _ _ m2 (s1.trans s2) r2 d2)
  | false=>exact u6 (k _ _ _ _ _ m1 s1 r1 (.bl _))
 ·exact m1.elim
theorem aKG (ha:VT P0 ta ma):VT P0 (aJQ ta) (aIG ma):=by
 intro F Γ σ G H Q Qm r m k;refine ha F Γ σ G H _ _ r m fun d Γ1 x G1 H1 m1 s1 r1 d1=>?_
 split at m1
 ·cases d1
  exact⟨_,rfl,k _ _ _ _ _ m1 s1 r1 (.bl _)⟩
 ·exact m1.elim
theorem bH (ha:VT P0 ta ma):VTT P0 (aJG ta) (eO ma):=by
 intro F Γ σ G H Q Qm r m k;refine ha F Γ σ G H _ _ r m fun d Γ1 x G1 H1 m1 s1 r1 d1=>?_
 split at m1
 ·cases d1
  exact⟨_,rfl,k _ _ _ _ m1 s1 r1⟩
 ·exact m1.elim
theorem o5 (ha:VT P0 ta ma):VTT P0 (tB ta) (eO ma):=bH ha
theorem rD (ha:VTT P0 tA mA)(hb:VTT P0 tB' mB):VTT P0 (aP1 tA tB') (aEX mA mB):=by
 intro F Γ σ G H Q Qm r m k;refine ha F Γ σ G H _ _ r m fun c Γ1 G1 H1 m1 s1 r1=>?_
 cases c with
 | true=>exact uV (hb F Γ1 σ G1 H1 _ _ r1 m1 fun e Γ2 G2 H2 m2 s2 r2=>k _ _ _ _ m2 (s1.trans s2) r2)
 | false=>exact u6 (k _ _ _ _ m1 s1 r1)
theorem qH (ha:VTT P0 tA mA)(hb:VTT P0 tB' mB):VTT P0 (tOr tA tB') (mOr mA mB):=by
 intro F Γ σ G H Q Qm r m k;refine ha F Γ σ G H _ _ r m fun c Γ1 G1 H1 m1 s1 r1=>?_
 cases c with
 | true=>exact uV (k _ _ _ _ m1 s1 r1)
 | false=>exact u6 (hb F Γ1 σ G1 H1 _ _ r1 m1 fun e Γ2 G2 H2 m2 s2 r2=>k _ _ _ _ m2 (s1.trans s2) r2)
theorem uB (ha:VTT P0 tA mA):VTT P0 (aON tA) (aGO mA):=by
 intro F Γ σ G H Q Qm r m k;exact ha F Γ σ G H _ _ r m fun c Γ1 G1 H1 m1 s1 r1=>k _ _ _ _ m1 s1 r1
theorem aJB (hc:VTT P0 tA mA)(ha:VT P0 ta ma)(hb:VT P0 tb mb):VT P0 (tIf tA ta tb) (aO0 mA ma mb):=by
 intro F Γ σ G H Q Qm r m k;refine hc F Γ σ G H _ _ r m fun c Γ1 G1 H1 m1 s1 r1=>?_
 cases c with
 | true=>exact uV (ha F Γ1 σ G1 H1 _ _ r1 m1 fun e Γ2 y G2 H2 m2 s2 r2 d2=>k _ _ _ _ _ m2 (s1.trans s2) r2 d2)
 | false=>exact u6 (hb F Γ1 σ G1 H1 _ _ r1 m1 fun e Γ2 y G2 H2 m2 s2 r2 d2=>k _ _ _ _ _ m2 (s1.trans s2) r2 d2)
theorem aKC {oa ob:MO}(hc:VTT P0 tA mA)(ha:VO P0 ta oa)(hb:VO P0 tb ob):VO P0 (tIf tA ta tb) (aNK mA oa ob):=by
 intro F Γ σ G H Q Qm r m k;refine hc F Γ σ G H _ _ r m fun c Γ1 G1 H1 m1 s1 r1=>?_
 cases c with
 | true=>exact uV (ha F Γ1 σ G1 H1 _ _ r1 m1 fun e Γ2 y G2 H2 m2 s2 r2 d2 a2=>k _ _ _ _ _ m2 (s1.trans s2) r2 d2 a2)
 | false=>exact u6 (hb F Γ1 σ G1 H1 _ _ r1 m1 fun e Γ2 y G2 H2 m2 s2 r2 d2 a2=>k _ _ _ _ _ m2 (s1.trans s2) r2 d2 a2)
theorem bO:VD P0 a0Y fU:=fun _ _ _ _ _ _ _ r m k=>k _ _ _ _ _ m (Same.refl _) r .nil
theorem aO {tr:TA}{mr:MD}(ha:VT P0 ta ma)(hr:VD P0 tr mr):VD P0 (lB ta tr) (bG ma mr):=by
 intro F Γ σ G H Q Qm r m k;refine ha F Γ σ G H _ _ r m fun d Γ1 x G1 H1 m1 s1 r1 d1=>?_;exact hr F Γ1 σ G1 H1 _ _ r1 m1 fun e Γ2 y G2 H2 m2 s2 r2 d2=>k _ _ _ _ _ m2 (s1.trans s2) r2 (.cons (Dt.same s2 _ _ d1) d2)
theorem aV:VA P0 a0Y c7:=fun _ _ _ _ _ _ _ r m k=>k _ _ _ _ _ m (Same.refl _) r .nil
theorem aH {tr:TA}{mr:MA}(ha:VT P0 ta ma)(hr:VA P0 tr mr):VA P0 (lB ta tr) (bC ma mr):=by
 intro F Γ σ G H Q Qm r m k;refine ha F Γ σ G H _ _ r m fun d Γ1 x G1 H1 m1 s1 r1 d1=>?_;exact hr F Γ1 σ G1 H1 _ _ r1 m1 fun e Γ2 y G2 H2 m2 s2 r2 d2=>k _ _ _ _ _ m2 (s1.trans s2) r2 (.cons (Dt.same s2 _ _ d1) d2)
theorem cY {i:Nat}{tr:TA}{mr:MA}(hr:VA P0 tr mr):VA P0 (lB (vZ i) tr) (q8 i mr):=by
 intro F Γ σ G H Q Qm r m k;unfold q8 at m
 split at m
 ·rename_i e
  obtain⟨p,e1,e2⟩:=r.sl i _ e;exact⟨_,e1,hr F Γ σ G H _ _ r m fun as Γ2 y G2 H2 m2 s2 r2 d2=>k _ _ _ _ _ m2 s2 r2 (.cons ⟨p,rfl,e2⟩ d2)⟩
 ·exact m.elim
theorem cT {t:TA}{md:MD}(h:VD P0 t md):VT P0 (aP3 t) (qC md):=by
 intro F Γ σ G H Q Qm r m k;refine h F Γ σ G H _ _ r m fun ds Γ1 xs G1 H1 m1 s1 r1 d1=>⟨pX (by rw[d1.len]; exact m1.1),fun p hp=>?_⟩;have g:=mY (r1.fr.gfresh hp) (.tup xs);exact k _ _ _ _ _ m1.2 (s1.trans g) (r1.new hp) (.tup bA (Dts.same g _ _ d1))
theorem SlF.det {F:Fra P0}{G H:Hp}{x:Option (Option V)}{fp fp':List Addr}:∀{s:Sl},SlF F G H x fp s→SlF F G H x fp' s→fp=fp'
 | .no,h,g=>(show fp=[] from h).trans (show fp'=[] from g).symm
 | .val _,h,g=>h.1.trans g.1.symm
 | .pen,h,g=>h.1.trans g.1.symm
 | .con _,h,g=>h.1.trans g.1.symm
 | .pub _,h,g=>h.1.trans g.1.symm
 | .own _,h,g=>by
  obtain⟨p,vs,e,e1,_⟩:=h;obtain⟨q,ws,f,f1,_⟩:=g;rw[e1] at f1; cases f1;rw[e,f]
 | .box B,h,g=>by
  obtain⟨v,e1,e2,_⟩:=h;obtain⟨v',f1,f2,_⟩:=g;rw[e1] at f1; cases f1;exact B.uniq e2 f2
theorem R.before {F:Fra P0}{Γ:En}{σ:St}{G H G' H':Hp}(r:R F Γ σ G H)(g:Same G G')(k:∀ b o,F.H0 b=none→G b=none→H b=some o→G' b=none∧H' b=some o){i:Nat}{s:Sl}{fp:List Addr}(e:Γ[i]?=some s)(h:SlF F G' H' σ[i]? fp s):∀ b∈fp,∃ o,H b=some o:=by
 obtain⟨fps,h1,h2⟩:=r.fps;have h0:=h1 i s e;have h3:SlF F G' H' σ[i]? (fps i) s:=h0.go g fun b hb=>by
  obtain⟨m1,m2,o,m3⟩:=h0.mine hb;obtain⟨k1,k2⟩:=k b o m1 m2 m3;exact⟨k1,k2.trans m3.symm⟩
 rw[h.det h3];exact fun b hb=>(h0.mine hb).2.2
theorem Apart.new {F:Fra P0}{Γ:En}{σ:St}{G H G' H':Hp}(r:R F Γ σ G H){p:Addr}(hp:H p=none){ds:List D}(g:Same G G')(k:∀ b o,F.H0 b=none→G b=none→H b=some o→G' b=none∧H' b=some o):Apart F Γ σ G' H' (.ref p) (.own ds):=by
 intro i s fp e h q eq hq
 cases eq
 obtain⟨o,eo⟩:=r.before g k e h p hq;rw[hp] at eo; cases eo
theorem Apart.newB {F:Fra P0}{Γ:En}{σ:St}{G H G' H':Hp}(r:R F Γ σ G H){v:V}{B:Bx}(hp:∀ fp,B.P v fp G' H'→∀ b∈fp,H b=none)(g:Same G G')(k:∀ b o,F.H0 b=none→G b=none→H b=some o→G' b=none∧H' b=some o):Apart F Γ σ G' H' v (.box B):=by
 intro i s fp f e h hf b hb hc;obtain⟨o,eo⟩:=r.before g k e h b hc;rw[hp f hf b hb] at eo; cases eo
theorem oO {F:Fra P0}{Γ:En}{σ:St}{G H:Hp}(r:R F Γ σ G H){p:Addr}{xs:List V}{ds:List D}(hp:H p=none)(d:Dts G xs ds) :
  R F Γ σ G (upd H p (.lst xs))∧RvO F G (upd H p (.lst xs)) (.ref p) (.own ds)∧Apart F Γ σ G (upd H p (.lst xs)) (.ref p) (.own ds):=
 ⟨r.newP hp,⟨p,xs,rfl,r.fr.fresh hp,r.fr.gfresh hp,bA,d⟩,Apart.new r hp (Same.refl _) fun b o _ g e=>⟨g,by rw[aY (bJ e hp)]; exact e⟩⟩
theorem eG {t:TA}{md:MD}(h:VD P0 t md):VO P0 (aN0 t) (vG md):=by
 intro F Γ σ G H Q Qm r m k;refine h F Γ σ G H _ _ r m fun ds Γ1 xs G1 H1 m1 s1 r1 d1=>⟨pX (by rw[d1.len]; exact m1.1),fun p hp=>?_⟩;obtain⟨a,b,c⟩:=oO r1 hp d1;exact k _ _ _ _ _ m1.2 s1 a b c
theorem aP {mo:MO}(h:VO P0 ta mo):VT P0 ta (bW mo):=by
 intro F Γ σ G H Q Qm r m k;refine h F Γ σ G H _ _ r m fun rv Γ1 x G1 H1 m1 s1 r1 d1 a1=>?_
 cases rv with
 | val d=>exact k _ _ _ _ _ m1 s1 r1 d1
 | own ds=>
  obtain⟨G2,s2,r2,d2⟩:=r1.give d1 a1;exact k _ _ _ _ _ m1 (s1.trans s2) r2 d2
 | box B=>
  obtain⟨hv,m1⟩:=m1;obtain⟨d,hd⟩:=Option.isSome_iff_exists.mp hv;obtain⟨G2,s2,r2,d2⟩:=r1.giveB d1 a1 hd;have m1:Qm (B.view.getD .none) Γ1:=m1;rw[hd] at m1;exact k _ _ _ _ _ m1 (s1.trans s2) r2 d2
theorem aX (h:VT P0 ta ma):VO P0 ta (cO ma):=by
 intro F Γ σ G H Q Qm r m k;exact h F Γ σ G H _ _ r m fun d Γ1 x G1 H1 m1 s1 r1 d1=>k _ _ _ _ _ m1 s1 r1 d1 trivial
theorem R.apart {F:Fra P0}{Γ:En}{σ:St}{G H:Hp}(r:R F Γ σ G H){i j:Nat}{s t:Sl}{fp fq:List Addr}(hij:i≠j)(ei:Γ[i]?=some s)(ej:Γ[j]?=some t)(hi:SlF F G H σ[i]? fp s)(hj:SlF F G H σ[j]? fq t):∀ b∈fp,b∉fq:=by
 obtain⟨fps,h1,h2⟩:=r.fps;rw[hi.det (h1 i s ei),hj.det (h1 j t ej)];exact h2 i j s t ei ej hij
theorem lC {i:Nat}:VO P0 (vZ i) (sI i):=by
 intro F Γ σ G H Q Qm r m k;have other:∀{j:Nat} {s s0:Sl} {fp fq:List Addr},Γ[i]?=some s0→SlF F G H σ[i]? fp s0→(Γ.set i .no)[j]?=some s→SlF F G H σ[j]? fq s→∀ b∈fp,b∉fq:=by
  intro j s s0 fp fq e h ej hj b hb hc
  by_cases hij:i=j
  ·subst hij;have hi:i<Γ.length:=(List.getElem?_eq_some_iff.mp e).1;rw[List.getElem?_set_self hi] at ej
   cases ej
   rw[show fq=[] from hj] at hc; cases hc
  ·rw[List.getElem?_set_ne hij] at ej;exact r.apart hij e ej h hj b hb hc
 unfold sI at m
 split at m
 ·rename_i d e
  obtain⟨v,e1,d1⟩:=r.sl i _ e;exact⟨v,e1,k _ _ _ _ _ m (Same.refl _) r d1 trivial⟩
 ·rename_i ds e
  obtain⟨p,vs,e1,e2⟩:=r.sl i _ e;refine⟨_,e1,k _ _ _ _ _ m (Same.refl _) (r.drop i) ⟨p,vs,rfl,e2⟩ fun j s fp ej hj q eq hq=>?_⟩
  cases eq
  exact other e (fp:=[p]) ⟨p,vs,rfl,e1,e2⟩ ej hj p (List.mem_singleton.mpr rfl) hq
 ·rename_i B e
  obtain⟨v,fp,e1,e2,e3⟩:=r.sl i _ e;refine⟨_,e1,k _ _ _ _ _ m (Same.refl _) (r.drop i) ⟨fp,e2,e3⟩ fun j s fq f ej hj hf b hb=>?_⟩;rw[B.uniq hf e2] at hb;exact other e (fp:=fp) ⟨v,e1,e2,e3⟩ ej hj b hb
 ·exact m.elim
theorem aW (ha:VT P0 ta ma)(hb:VT P0 tb mb):VT P0 (tOp (rIx K) ta tb) (mIx ma mb):=by
 refine aIP (m2:=fun x y Q=>oQ (ixD x y) Q) ha hb fun F Γ σ G H x y d e Q Qm r d1 d2 m k=>?_;obtain⟨u,hu,q⟩:=aG0 m;unfold ixD at hu
 split at hu
 ·rename_i ds i
  cases d2
  cases d1 with
  | @tup p xs _ hp rs=>
   obtain⟨j,h1,h2⟩:∃ j,ixN ds.length i=some j∧ds[j]?=some u:=by
    unfold atI at hu
    cases e:ixN ds.length i with
    | none=>rw[e] at hu; cases hu
    | some j=>rw[e] at hu; exact⟨j,rfl,hu⟩
   obtain⟨v,hv,dv⟩:=Dts.get rs h2;refine .inr (.inl ⟨p,xs,i,v,rfl,rfl,SqT.of (r.fr.sub _ _ hp),?_,k _ _ _ _ q (Same.refl _) r dv⟩);unfold atI;rw[rs.len,h1];exact hv
 ·rename_i ds i
  cases d2
  cases d1 with
  | @lst p xs _ hp rs=>
   obtain⟨j,h1,h2⟩:∃ j,ixN ds.length i=some j∧ds[j]?=some u:=by
    unfold atI at hu
    cases e:ixN ds.length i with
    | none=>rw[e] at hu; cases hu
    | some j=>rw[e] at hu; exact⟨j,rfl,hu⟩
   obtain⟨v,hv,dv⟩:=Dts.get rs h2;refine .inl ⟨p,xs,i,v,rfl,rfl,SqL.of (r.fr.sub _ _ hp),?_,k _ _ _ _ q (Same.refl _) r dv⟩;unfold atI;rw[rs.len,h1];exact hv
 ·cases hu
theorem aAI {rr:List V→Hp→VK→Prop}{m1:D→(D→Prop)→Prop}(ha:VT P0 ta ma)
  (h:∀(F:Fra P0) (Γ:En) (σ:St) (G H:Hp) (x:V) (d:D) (Q:VK) (Qm:D→Prop),R F Γ σ G H→Dt G x d→m1 d Qm→(∀ u r G' H',Qm u→Same G G'→R F Γ σ G' H'→Dt G' r u→Q r H')→rr [x] H Q) :
  VT P0 (tCB rr (lB ta a0Y)) (fun Γ Q=>ma Γ fun x Γ1=>m1 x fun d=>Q d Γ1):=by
 intro F Γ σ G H Q Qm r m k;refine ha F Γ σ G H _ _ r m fun d Γ1 x G1 H1 m1 s1 r1 d1=>?_;exact h F Γ1 σ G1 H1 x d _ _ r1 d1 m1 fun u w G3 H3 q s3 r3 d3=>k _ _ _ _ _ q (s1.trans s3) r3 d3
theorem iM (ha:VT P0 ta ma):VT P0 (tCB (fun xs H Q=>∃ p ys,xs=[.ref p]∧(SqL K H p ys∨SqT K H p ys)∧Q (.int ys.length) H) (lB ta a0Y)) (a09 ma):=by
 refine aAI (m1:=fun x Q=>oQ (aHM x) Q) ha fun F Γ σ G H x d Q Qm r d1 m k=>?_;obtain⟨u,hu,q⟩:=aG0 m;unfold aHM at hu
 split at hu
 ·cases hu
  cases d1 with
  | @tup p xs _ hp rs=>exact⟨p,xs,rfl,.inr (SqT.of (r.fr.sub _ _ hp)),by rw[rs.len]; exact k _ _ _ _ q (Same.refl _) r (.int _)⟩
 ·cases hu
  cases d1 with
  | @lst p xs _ hp rs=>exact⟨p,xs,rfl,.inl (SqL.of (r.fr.sub _ _ hp)),by rw[rs.len]; exact k _ _ _ _ q (Same.refl _) r (.int _)⟩
 ·cases hu
def aI6 (ma:ME):ME:=fun Γ Q=>ma Γ fun x Γ1=>match x with
 | .int i=>Q (.int (if i<0 then -i else i)) Γ1
 | _=>False
theorem a4L (ha:VT P0 ta ma):VT P0 (tCB (fun xs H Q=>∃ i,xs=[.int i]∧Q (.int (if i<0 then -i else i)) H) (lB ta a0Y)) (aI6 ma):=by
 refine aAI (m1:=fun x Q=>match x with|.int i=>Q (.int (if i<0 then -i else i))|_=>False) ha fun F Γ σ G H x d Q Qm r d1 m k=>?_
 split at m
 ·cases d1
  exact⟨_,rfl,k _ _ _ _ m (Same.refl _) r (.int _)⟩
 ·exact m.elim
def a96 (ma:ME):ME:=fun Γ Q=>ma Γ fun x Γ1=>match x with
 | .int i=>Q (.int i) Γ1
 | .bool b=>Q (.int (if b then 1 else 0)) Γ1
 | _=>False
theorem a1C (ha:VT P0 ta ma):VT P0 (tCB (fun xs H Q=>(∃ i,xs=[.int i]∧Q (.int i) H)∨∃ k,xs=[.bl k]∧Q (.int (if k then 1 else 0)) H) (lB ta a0Y)) (a96 ma):=by
 refine aAI (m1:=fun x Q=>match x with|.int i=>Q (.int i)|.bool b=>Q (.int (if b then 1 else 0))|_=>False) ha fun F Γ σ G H x d Q Qm r d1 m k=>?_
 split at m
 ·cases d1
  exact .inl ⟨_,rfl,k _ _ _ _ m (Same.refl _) r (.int _)⟩
 ·cases d1
  exact .inr ⟨_,rfl,k _ _ _ _ m (Same.refl _) r (.int _)⟩
 ·exact m.elim
theorem a3H (ha:VT P0 ta ma):VO P0 (tCB (fun xs H Q=>∃ p ys,xs=[.ref p]∧(SqL K H p ys∨SqT K H p ys)∧∀ l,H l=none→Q (.ref l) (upd H l (.lst ys))) (lB ta a0Y)) (a2L ma):=by
 intro F Γ σ G H Q Qm r m k;refine ha F Γ σ G H _ _ r m fun d Γ1 x G1 H1 m1 s1 r1 d1=>?_
 split at m1
 ·rename_i ds e
  cases d1<;>simp only[uX] at e<;>try (cases e)
  ·rename_i p xs hp rs
   refine⟨p,xs,rfl,.inr (SqT.of (r1.fr.sub _ _ hp)),fun l hl=>?_⟩;obtain⟨a,b,c⟩:=oO r1 hl rs;exact k _ _ _ _ _ m1 s1 a b c
  ·rename_i p xs hp rs
   refine⟨p,xs,rfl,.inl (SqL.of (r1.fr.sub _ _ hp)),fun l hl=>?_⟩;obtain⟨a,b,c⟩:=oO r1 hl rs;exact k _ _ _ _ _ m1 s1 a b c
 ·exact m1.elim
theorem aJV:VP P0 aAR pNo:=fun _ _ _ _ _ _ _ r m k=>k _ _ _ _ m (Same.refl _) r
theorem aJU (ha:VT P0 ta ma):VP P0 (aKY ta) (pSo ma):=by
 intro F Γ σ G H Q Qm r m k;refine ha F Γ σ G H _ _ r m fun d Γ1 x G1 H1 m1 s1 r1 d1=>?_
 split at m1
 ·cases d1
  exact⟨_,rfl,k _ _ _ _ m1 s1 r1⟩
 ·exact m1.elim
theorem _root_.L2.Dts.cut {G:Hp}{vs:List V}{ds:List D}(h:Dts G vs ds)(lo hi:Option Int):Dts G (aIR vs lo hi) (cutD ds lo hi):=by
 unfold aIR cutD;rw[h.len];exact Dts.tak _ (Dts.drp _ h)
theorem aFV {tl th:TO}{ml mh:MP}(ha:VT P0 ta ma)(hl:VP P0 tl ml)(hh:VP P0 th mh):VO P0 (tSl (aOR K) ta tl th) (aLR ma ml mh):=by
 intro F Γ σ G H Q Qm r m k;refine ha F Γ σ G H _ _ r m fun d Γ1 x G1 H1 m1 s1 r1 d1=>?_;refine hl F Γ1 σ G1 H1 _ _ r1 m1 fun lo Γ2 G2 H2 m2 s2 r2=>?_;refine hh F Γ2 σ G2 H2 _ _ r2 m2 fun hi Γ3 G3 H3 m3 s3 r3=>?_
 split at m3
 ·have d1:=Dt.same (s2.trans s3) _ _ d1
  cases d1 with
  | @lst p xs _ hp rs=>
   refine⟨p,xs,rfl,SqL.of (r3.fr.sub _ _ hp),fun l hl=>?_⟩;obtain⟨a,b,c⟩:=oO r3 hl (rs.cut lo hi);exact k _ _ _ _ _ m3 ((s1.trans s2).trans s3) a b c
 ·exact m3.elim
theorem a7V (ha:VT P0 ta ma)(hb:VT P0 tb mb):VO P0 (tOp aOV ta tb) (aIS ma mb):=by
 intro F Γ σ G H Q Qm r m k;refine ha F Γ σ G H _ _ r m fun d Γ1 x G1 H1 m1 s1 r1 d1=>?_;refine hb F Γ1 σ G1 H1 _ _ r1 m1 fun e Γ2 y G2 H2 m2 s2 r2 d2=>?_;have d1:=Dt.same s2 _ _ d1
 split at m2
 ·cases d1 with
  | @lst p xs _ hp rs=>
   cases d2 with
   | @lst q ys _ hq ss=>
    refine⟨p,q,xs,ys,rfl,rfl,r2.fr.sub _ _ hp,r2.fr.sub _ _ hq,pX (by rw[rs.len,ss.len]; exact m2.1),fun l hl=>?_⟩;obtain⟨a,b,c⟩:=oO r2 hl (rs.app ss);exact k _ _ _ _ _ m2.2 (s1.trans s2) a b c
 ·exact m2.elim
def spM (P0:Addr→Hp→Prop)(n:Nat)(f:Fm):Sp:=fun vs H Q _=>∃(F:Fra P0) (as:List Sl) (Qm:Rv→Prop),F.H0=H∧Rf F F.G0 H∧Paired (vL F F.G0) vs as∧as.length=n∧f as Qm ∧
 ∀ rv r G' H',Qm rv→Rf F G' H'→RvO F G' H' r rv→Q r H'
def Fra.sub (F:Fra P0){G H:Hp}(r:Rf F G H):Fra P0 where
 H0:=H
 G0:=G
 pen:=F.pen
 stab:=fun p e H1 H2 h=>F.stab p e H1 H2 fun b o e=>let ⟨o',e'⟩:=r.dom e; h b o' e'
 pin:=F.pin
 pin0:=fun p e=>F.pin p e H (r.pn p e)
 pg:=fun p e=>by
  obtain⟨o,e0⟩:=F.pin0 p e;rw[r.g0 p o e0];exact F.pg p e
theorem Fra.subRf (F:Fra P0){G H:Hp}(r:Rf F G H):Rf (F.sub r) G H:=⟨r.sub,fun _ _ _=>rfl,fun _ _ e _=>e,r.pn⟩
theorem Rf.back {F:Fra P0}{G H G' H':Hp}(r:Rf F G H)(h:Rf (F.sub r) G' H'):Rf F G' H'∧Same G G':=by
 refine⟨⟨h.sub,fun b o e=>?_,fun b o e hb=>?_,h.pn⟩,fun b o e=>?_⟩
 ·obtain⟨o',e'⟩:=r.dom e;exact(h.g0 b o' e').trans (r.g0 b o e)
 ·exact h.h0 b o (r.h0 b o e hb) hb
 ·exact(h.g0 b o (r.sub b o e)).trans e
theorem Fra.pen_ne (F:Fra P0){p:Addr}(h:F.H0 p=none):F.pen≠some p:=fun e=>by
 obtain⟨o,e0⟩:=F.pin0 p e;rw[h] at e0; cases e0
theorem R.after {F:Fra P0}{Γ:En}{σ:St}{G H G' H':Hp}(r:R F Γ σ G H)(h:Rf (F.sub r.fr) G' H'):R F Γ σ G' H'∧Same G G':=by
 obtain⟨a,b⟩:=r.fr.back h;refine⟨r.keep a b fun p u _ e1 e2 e3=>⟨(h.g0 p _ e3).trans e2,h.h0 p _ e3 (F.pen_ne e1)⟩,b⟩
theorem aM {n:Nat}{f:Fm}{t:TA}{m:MA}{E:XK}(h:VA P0 t m):VO P0 (aHL (spM P0 n f) [] E t) (b8 n f m):=by
 intro F Γ σ G H Q Qm r hm k;refine h F Γ σ G H _ _ r hm fun as Γ1 rs G1 H1 m1 s1 r1 d1=>?_;refine⟨F.sub r1.fr,as,fun rv=>Qm rv Γ1,rfl,F.subRf r1.fr,?_,m1.1,m1.2,fun rv v G2 H2 q f2 v2=>?_⟩
 ·rw[List.append_nil];exact Paired.imp' (fun a s h=>by cases s<;>exact h) d1
 ·obtain⟨r2,s2⟩:=r1.after f2;refine k _ _ _ _ _ q (s1.trans s2) r2 ?_ ?_
  ·cases rv with
   | val d=>exact v2
   | own ds=>
    obtain⟨p,vs,e,e1,e2,e3,e4⟩:=v2;exact⟨p,vs,e,r1.fr.fresh e1,e2,e3,e4⟩
   | box B=>
    obtain⟨fp,e1,e2⟩:=v2;exact⟨fp,e1,fun b hb=>⟨r1.fr.fresh (e2 b hb).1,(e2 b hb).2⟩⟩
  ·have kp:∀ b o,F.H0 b=none→G1 b=none→H1 b=some o→G2 b=none∧H2 b=some o:=fun b o h1 h2 h3=>⟨(f2.g0 b _ h3).trans h2,f2.h0 b _ h3 (F.pen_ne h1)⟩
   cases rv with
   | val d=>trivial
   | own ds=>
    obtain⟨p,vs,rfl,e1,e2,e3,e4⟩:=v2;exact Apart.new r1 e1 s2 kp
   | box B=>
    obtain⟨fp,e1,e2⟩:=v2;exact Apart.newB r1 (fun f hf b hb=>by rw[B.uniq hf e1] at hb; exact(e2 b hb).1) s2 kp
end
end
section
variable {P0:Addr→Hp→Prop}{A:Nat→Bool}
def gN (i:Nat):MG:=fun d Γ Q=>Q (Γ.set i (.val d))
def aF4:MGs:=fun ds Γ Q=>match ds with
 | []=>Q Γ
 | _=>False
def a0S (g:MG)(gs:MGs):MGs:=fun ds Γ Q=>match ds with
 | d::r=>g d Γ fun Γ1=>gs r Γ1 Q
 | []=>False
def gT (n:Nat)(gs:MGs):MG:=fun d Γ Q=>match d with
 | .tuple ds=>ds.length=n∧gs ds Γ Q
 | _=>False
theorem a1G {i:Nat}{v:Option V}{σ:St}(hA:A i=true):∀ j,A j=false→(σ.set i v)[j]?=σ[j]?:=fun j hj=>List.getElem?_set_ne (fun z=>by rw[z,hj] at hA; cases hA)
theorem cZ {i:Nat}(hA:A i=true:=by rfl):VG P0 A (aBI i) (gN i):=fun _ _ _ _ _ _ _ _ _ r h m k=>k _ _ m (r.setV h) (a1G hA)
theorem aDD:VGs P0 A aP0 aF4:=by
 intro F Γ σ G H vs ds Q Qm r h m k
 cases h with
 | nil=>exact⟨rfl,k _ _ m r fun _ _=>rfl⟩
 | cons _ _=>exact m.elim
theorem wB {g:TG}{gs:TGs}{m:MG}{ms:MGs}(h1:VG P0 A g m)(h2:VGs P0 A gs ms):VGs P0 A (aJR g gs) (a0S m ms):=by
 intro F Γ σ G H vs ds Q Qm r h hm k
 cases h with
 | nil=>exact hm.elim
 | cons a b=>exact⟨_,_,rfl,h1 F Γ σ G H _ _ _ _ r a hm fun Γ1 σ1 m1 r1 e1=>h2 F Γ1 σ1 G H _ _ _ _ r1 b m1 fun Γ2 σ2 m2 r2 e2=>k _ _ m2 r2 fun i hi=>(e2 i hi).trans (e1 i hi)⟩
theorem aGE {K:Fg}{n:Nat}{gs:TGs}{ms:MGs}(h:VGs P0 A gs ms):VG P0 A (aOH K n gs) (gT n ms):=by
 intro F Γ σ G H v d Q Qm r hd m k;unfold gT at m
 split at m
 ·cases hd with
  | @tup p xs _ hp rs=>exact⟨p,xs,rfl,SqT.of (r.fr.sub _ _ hp),by rw[rs.len]; exact m.1,h F Γ σ G H _ _ _ _ r rs m.2 k⟩
 ·exact m.elim
def Walk (P0:Addr→Hp→Prop)(J:It)(G0:Hp)(ds:List D):Prop:=∀(F:Fra P0) (Γ:En) (σ:St) (G H:Hp),Same G0 G→R F Γ σ G H →
 (∀ i d,ds[i]?=some d→J.go i H∧∀ x H',J.yld i H x H'→∃ G',Same G G'∧R F Γ σ G' H'∧Dt G' x d)∧J.stop ds.length H
def VI (P0:Addr→Hp→Prop)(wi:TI)(m:MD):Prop:=∀(F:Fra P0) (Γ:En) (σ:St) (G H:Hp) (Q:It→Hp→Prop) (Qm:List D→En→Prop),R F Γ σ G H→m Γ Qm →
 (∀ ds Γ' J G' H',Qm ds Γ'→Same G G'→R F Γ' σ G' H'→Walk P0 J G' ds→Q J H')→wi σ H Q
def a5V (ma:ME):MD:=fun Γ Q=>ma Γ fun x Γ1=>match x with
 | .list ds=>Q ds Γ1
 | _=>False
def nM (lo:Int)(n:Nat):List D:=(List.range n).map fun(k:Nat)=>PyData.int (lo+k)
def aD4 (md:MD):MD:=fun Γ Q=>md Γ fun ds Γ1=>match ds with
 | [.int j] => -(2^62)≤j∧j<2^62∧Q (nM 0 j.toNat) Γ1
 | _=>False
def aHF (md:MD):MD:=fun Γ Q=>md Γ fun ds Γ1=>match ds with
 | [.int i,.int j]=>(-(2^62)≤i∧i<2^62 ∧ -(2^62)≤j∧j<2^62)∧Q (nM i (j-i).toNat) Γ1
 | _=>False
theorem jN {K:Fg}{ta:TE}{ma:ME}(ha:VT P0 ta ma):VI P0 (aLI K ta) (a5V ma):=by
 intro F Γ σ G H Q Qm r m k;refine ha F Γ σ G H _ _ r m fun d Γ1 x G1 H1 m1 s1 r1 d1=>?_
 split at m1
 ·cases d1 with
  | @lst p xs ds hp rs=>
   refine⟨p,rfl,⟨xs,SqL.of (r1.fr.sub _ _ hp)⟩,k _ _ _ _ _ m1 s1 r1 fun F2 Γ2 σ2 G2 H2 s2 r2=>⟨fun i d e=>?_,?_⟩⟩
   ·have hq:H2 p=some (.lst xs):=r2.fr.sub _ _ (s2 _ _ hp);obtain⟨v,ev,dv⟩:=Dts.get rs e;refine⟨⟨xs,v,SqL.of hq,ev⟩,fun y H3 hy=>⟨G2,Same.refl _,?_⟩⟩;obtain⟨rfl,hy⟩:=hy;have:=hy xs (SqL.of hq);rw[ev] at this
    cases this
    exact⟨r2,Dt.same s2 _ _ dv⟩
   ·exact⟨xs,SqL.of (r2.fr.sub _ _ (s2 _ _ hp)),by rw[rs.len]; exact Nat.le_refl _⟩
 ·exact m1.elim
theorem a0J {G:Hp}(lo:Int)(n:Nat):Walk P0 (Itr lo n) G (nM lo n):=by
 intro F Γ σ G2 H2 _ r;have hl:(nM lo n).length=n:=by simp[nM]
 refine⟨fun i d e=>?_,by rw[hl]; exact Nat.le_refl _⟩;have hi:i<n:=by have:=(List.getElem?_eq_some_iff.mp e).1; omega
 refine⟨hi,fun x H' hy=>?_⟩;obtain⟨rfl,rfl⟩:=hy;refine⟨G2,Same.refl _,r,?_⟩;unfold nM at e;rw[List.getElem?_map,List.getElem?_range hi] at e
 cases e
 exact .int _
theorem a6B {t:TA}{md:MD}(h:VD P0 t md):VI P0 (aJL t) (aD4 md):=by
 intro F Γ σ G H Q Qm r m k;refine h F Γ σ G H _ _ r m fun ds Γ1 xs G1 H1 m1 s1 r1 d1=>?_
 split at m1
 ·rename_i j
  cases d1 with
  | cons a b=>
   cases a; cases b
   exact⟨j,rfl,m1.1,m1.2.1,k _ _ _ _ _ m1.2.2 s1 r1 (a0J _ _)⟩
 ·exact m1.elim
theorem aI7 {t:TA}{md:MD}(h:VD P0 t md):VI P0 (aL5 t) (aHF md):=by
 intro F Γ σ G H Q Qm r m k;refine h F Γ σ G H _ _ r m fun ds Γ1 xs G1 H1 m1 s1 r1 d1=>?_
 split at m1
 ·rename_i i j
  cases d1 with
  | cons a b=>
   cases a
   cases b with
   | cons b c=>
    cases b; cases c
    exact⟨i,j,rfl,m1.1,k _ _ _ _ _ m1.2 s1 r1 (a0J _ _)⟩
 ·exact m1.elim
def mNx:MS:=fun Γ Q=>Q (.nx Γ)
def cA (a b:MS):MS:=fun Γ Q=>a Γ fun fl=>match fl with
 | .nx Γ1=>b Γ1 Q
 | fl=>Q fl
def aAS (m:ME):MS:=fun Γ Q=>m Γ fun _ Γ1=>Q (.nx Γ1)
def dF (i:Nat)(m:MO):MS:=fun Γ Q=>m Γ fun rv Γ1=>Q (.nx (Γ1.set i rv.sl))
def aMA (m:ME)(g:MG):MS:=fun Γ Q=>m Γ fun d Γ1=>g d Γ1 fun Γ2=>Q (.nx Γ2)
def aM4 (i j:Nat)(m:MD):MS:=fun Γ Q=>m Γ fun ds Γ1=>match ds with
 | [d,e]=>Q (.nx ((Γ1.set i (.val d)).set j (.val e)))
 | _=>False
def fK (m:MO):MS:=fun Γ Q=>m Γ fun rv _=>Q (.rt rv)
def mIf (c:MT)(a b:MS):MS:=fun Γ Q=>c Γ fun k Γ1=>if k=true then a Γ1 Q else b Γ1 Q
def aG9:MS:=fun _ _=>False
def forL (g:MG)(b:MS):List D→En→(Fl→Prop)→Prop
 | [],Γ,Q=>Q (.nx Γ)
 | d::ds,Γ,Q=>g d Γ fun Γ1=>b Γ1 fun fl=>match fl with
  | .nx Γ2=>forL g b ds Γ2 Q
  | .ct Γ2=>forL g b ds Γ2 Q
  | .bk Γ2=>Q (.nx Γ2)
  | .rt rv=>Q (.rt rv)
def a2V (mi:MD)(g:MG)(b:MS):MS:=fun Γ Q=>mi Γ fun ds Γ1=>forL g b ds Γ1 Q
def a3P (c:MT)(b:MS):MS:=fun Γ Q=>∃ W:Nat→En→Prop,(∃ n,W n Γ)∧∀ n Γ,W n Γ→c Γ fun k Γ1=>if k=true then b Γ1 fun fl=>match fl with
  | .nx Γ2=>∃ n',n'<n∧W n' Γ2
  | .ct Γ2=>∃ n',n'<n∧W n' Γ2
  | .bk Γ2=>Q (.nx Γ2)
  | .rt rv=>Q (.rt rv)
 else Q (.nx Γ1)
def gR (i:Nat)(m:ME):MS:=fun Γ Q=>match Γ[i]? with
 | some (.own _)=>m Γ fun d Γ1=>match Γ1[i]? with
  | some (.own ds)=>ds.length<1000∧Q (.nx (Γ1.set i (.own (ds++[d]))))
  | _=>False
 | _=>False
def a3Q (i:Nat):MS:=fun Γ Q=>match Γ[i]? with
 | some (.own _)=>Q (.nx (Γ.set i (.own [])))
 | _=>False
def a1J (i:Nat)(m:MS):MS:=fun Γ Q=>match Γ[i]? with
 | some (.own ds)=>m (Γ.set i (.val (.list ds))) Q
 | _=>m Γ Q
theorem eF:VSA P0 A aJ0 mNx:=fun _ _ _ _ _ _ _ r m k=>k _ m _ _ _ (Same.refl _) r fun _ _=>rfl
theorem aF0:VSA P0 A aGI aG9:=fun _ _ _ _ _ _ _ _ m _=>m.elim
theorem aQ {t u:TS}{a b:MS}(ha:VSA P0 A t a)(hb:VSA P0 A u b):VSA P0 A (aOY t u) (cA a b):=by
 intro F Γ σ G H E Qm r m k;refine ha F Γ σ G H _ _ r m fun fl q=>?_
 cases fl with
 | nx Γ1=>exact fun σ1 G1 H1 s1 r1 e1=>hb F Γ1 σ1 G1 H1 E Qm r1 q fun fl q=>(k fl q).same s1 e1
 | rt rv=>exact k _ q
 | bk Γ1=>exact k _ q
 | ct Γ1=>exact k _ q
theorem a71 {t:TE}{m:ME}(h:VT P0 t m):VSA P0 A (aBR t) (aAS m):=by
 intro F Γ σ G H E Qm r hm k;exact h F Γ σ G H _ _ r hm fun d Γ1 x G1 H1 m1 s1 r1 d1=>k _ m1 _ _ _ s1 r1 fun _ _=>rfl
theorem b7 {i:Nat}{t:TE}{m:MO}(h:VO P0 t m)(hA:A i=true:=by rfl):VSA P0 A (aLA t (aBI i)) (dF i m):=by
 intro F Γ σ G H E Qm r hm k;exact h F Γ σ G H _ _ r hm fun rv Γ1 x G1 H1 m1 s1 r1 d1 a1=>k _ m1 _ _ _ s1 (r1.set d1 a1) (a1G hA)
theorem aJN {t:TE}{g:TG}{m:ME}{mg:MG}(h:VT P0 t m)(hg:VG P0 A g mg):VSA P0 A (aLA t g) (aMA m mg):=by
 intro F Γ σ G H E Qm r hm k;exact h F Γ σ G H _ _ r hm fun d Γ1 x G1 H1 m1 s1 r1 d1=>hg F Γ1 σ G1 H1 x d _ _ r1 d1 m1 fun Γ2 σ2 m2 r2 e2=>k _ m2 _ _ _ s1 r2 e2
theorem aJD {i j:Nat}{t:TA}{m:MD}(h:VD P0 t m)(hA:A i=true:=by rfl)(hB:A j=true:=by rfl):VSA P0 A (aOA i j t) (aM4 i j m):=by
 intro F Γ σ G H E Qm r hm k;refine h F Γ σ G H _ _ r hm fun ds Γ1 x G1 H1 m1 s1 r1 d1=>?_
 split at m1
 ·cases d1 with
  | cons a b=>
   cases b with
   | cons b c=>
    cases c
    exact⟨_,_,rfl,k _ m1 _ _ _ s1 ((r1.setV a).setV b) fun q hq=>(a1G hB q hq).trans (a1G hA q hq)⟩
 ·exact m1.elim
theorem bK {t:TE}{m:MO}(h:VO P0 t m):VSA P0 A (aN2 t) (fK m):=by
 intro F Γ σ G H E Qm r hm k;exact h F Γ σ G H _ _ r hm fun rv Γ1 x G1 H1 m1 s1 r1 d1 _=>k _ m1 _ _ _ s1 r1.fr d1
theorem dC {c:TT}{t u:TS}{mc:MT}{a b:MS}(hc:VTT P0 c mc)(ha:VSA P0 A t a)(hb:VSA P0 A u b):VSA P0 A (aOF c t u) (mIf mc a b):=by
 intro F Γ σ G H E Qm r m k;refine hc F Γ σ G H _ _ r m fun k1 Γ1 G1 H1 m1 s1 r1=>?_
 cases k1 with
 | true=>exact uV (ha F Γ1 σ G1 H1 E Qm r1 m1 fun fl q=>(k fl q).same s1 fun _ _=>rfl)
 | false=>exact u6 (hb F Γ1 σ G1 H1 E Qm r1 m1 fun fl q=>(k fl q).same s1 fun _ _=>rfl)
theorem a2K {c:TT}{t:TS}{mc:MT}{b:MS}(hc:VTT P0 c mc)(hb:VSA P0 A t b):VSA P0 A (aFX c t) (a3P mc b):=by
 intro F Γ σ G H E Qm r m k;obtain⟨W,⟨n0,w0⟩,turn⟩:=m;refine⟨fun n σ1 H1=>∃ Γ1 G1,Same G G1∧R F Γ1 σ1 G1 H1∧W n Γ1∧∀ i,A i=false→σ1[i]?=σ[i]?,⟨n0,Γ,G,Same.refl _,r,w0,fun _ _=>rfl⟩,?_⟩;rintro n σ1 H1 ⟨Γ1,G1,s1,r1,w1,e1⟩;refine hc F Γ1 σ1 G1 H1 _ _ r1 (turn n Γ1 w1) fun k2 Γ2 G2 H2 m2 s2 r2=>?_
 cases k2 with
 | true=>
  refine uV ⟨_,fun _ _ h=>h,?_⟩;refine hb F Γ2 σ1 G2 H2 _ _ r2 m2 fun fl q=>?_
  cases fl with
  | nx Γ3=>
   obtain⟨n',hn,w3⟩:=q;exact fun σ3 G3 H3 s3 r3 e3=>⟨n',hn,Γ3,G3,(s1.trans s2).trans s3,r3,w3,fun i hi=>(e3 i hi).trans (e1 i hi)⟩
  | ct Γ3=>
   obtain⟨n',hn,w3⟩:=q;exact fun σ3 G3 H3 s3 r3 e3=>⟨n',hn,Γ3,G3,(s1.trans s2).trans s3,r3,w3,fun i hi=>(e3 i hi).trans (e1 i hi)⟩
  | bk Γ3=>exact fun σ3 G3 H3 s3 r3 e3=>k _ q _ _ _ ((s1.trans s2).trans s3) r3 fun i hi=>(e3 i hi).trans (e1 i hi)
  | rt rv=>exact fun v G3 H3 s3 r3=>k _ q _ _ _ ((s1.trans s2).trans s3) r3
 | false=>exact u6 (k _ m2 _ _ _ (s1.trans s2) r2 e1)
theorem jR {wi:TI}{g:TG}{t:TS}{mi:MD}{mg:MG}{b:MS}(hi:VI P0 wi mi)(hg:VG P0 A g mg)(hb:VSA P0 A t b):VSA P0 A (aOT wi g t) (a2V mi mg b):=by
 intro F Γ σ G H E Qm r m k;refine hi F Γ σ G H _ _ r m fun ds Γ1 J G1 H1 m1 s1 r1 wk=>?_;refine⟨fun i n σ2 H2=>n=ds.length-i∧i≤ds.length∧∃ Γ2 G2,Same G1 G2∧R F Γ2 σ2 G2 H2∧forL mg b (ds.drop i) Γ2 Qm∧∀ i,A i=false→σ2[i]?=σ[i]?,⟨ds.length,by simp,Nat.zero_le _,Γ1,G1,Same.refl _,r1,m1,fun _ _=>rfl⟩,?_⟩;rintro i n σ2 H2 ⟨rfl,hle,Γ2,G2,s2,r2,m2,e2⟩;obtain⟨go,stop⟩:=wk F Γ2 σ2 G2 H2 s2 r2
 by_cases hlt:i<ds.length
 ·refine .inr ⟨(go i ds[i] (by simp[hlt])).1,fun σ' H'=>ds.length-(i+1)<ds.length-i∧i+1≤ds.length∧∃ Γ3 G3,Same G1 G3∧R F Γ3 σ' G3 H'∧forL mg b (ds.drop (i+1)) Γ3 Qm∧∀ i,A i=false→σ'[i]?=σ[i]?,fun σ' H' h=>⟨_,h.1,rfl,h.2⟩,fun x H' hy=>?_⟩;obtain⟨G3,s3,r3,d3⟩:=(go i ds[i] (by simp[hlt])).2 x H' hy;rw[List.drop_eq_getElem_cons hlt] at m2;refine hg F Γ2 σ2 G3 H' x _ _ _ r3 d3 m2 fun Γ4 σ4 m4 r4 e4=>?_;refine hb F Γ4 σ4 G3 H' _ _ r4 m4 fun fl q=>?_
  cases fl with
  | nx Γ5=>exact fun σ5 G5 H5 s5 r5 e5=>⟨by omega,hlt,Γ5,G5,(s2.trans s3).trans s5,r5,q,fun i hi=>((e5 i hi).trans (e4 i hi)).trans (e2 i hi)⟩
  | ct Γ5=>exact fun σ5 G5 H5 s5 r5 e5=>⟨by omega,hlt,Γ5,G5,(s2.trans s3).trans s5,r5,q,fun i hi=>((e5 i hi).trans (e4 i hi)).trans (e2 i hi)⟩
  | bk Γ5=>exact fun σ5 G5 H5 s5 r5 e5=>k _ q _ _ _ ((s1.trans s2).trans (s3.trans s5)) r5 fun i hi=>((e5 i hi).trans (e4 i hi)).trans (e2 i hi)
  | rt rv=>exact fun v G5 H5 s5 r5=>k _ q _ _ _ ((s1.trans s2).trans (s3.trans s5)) r5
 ·have e:i=ds.length:=by omega
  subst e;rw[List.drop_length] at m2;exact .inl ⟨stop,k _ m2 _ _ _ (s1.trans s2) r2 e2⟩
theorem jE {K:Fg}{i:Nat}{t:TE}{m:ME}(h:VT P0 t m):VSA P0 A (aBR (tBM K "list" aAE (vZ i) (lB t a0Y))) (gR i m):=by
 intro F Γ σ G H E Qm r hm k;unfold gR at hm
 split at hm
 ·rename_i ds0 e0
  obtain⟨p,vs,e1,e2,e3,e4,e5⟩:=r.sl i _ e0;refine⟨_,e1,.inl ⟨rfl,_,SqL.of e4⟩,?_⟩;refine h F Γ σ G H _ _ r hm fun d Γ1 x G1 H1 m1 s1 r1 d1=>?_
  split at m1
  ·rename_i ds e
   obtain⟨p',ws,f1,f2,f3,f4,f5⟩:=r1.sl i _ e;rw[e1] at f1; cases f1;refine⟨p,ws,x,rfl,rfl,f4,yS (by rw[f5.len]; exact Nat.le_of_lt m1.1),?_⟩;exact k _ m1.2 _ _ _ s1 (r1.write e e1 (f5.app (.cons d1 .nil))) fun _ _=>rfl
  ·exact m1.elim
 ·exact hm.elim
theorem aEZ {K:Fg}{i:Nat}:VSA P0 A (aBR (aP6 K "list" aGD (vZ i))) (a3Q i):=by
 intro F Γ σ G H E Qm r hm k;unfold a3Q at hm
 split at hm
 ·rename_i ds0 e0
  obtain⟨p,vs,e1,e2,e3,e4,e5⟩:=r.sl i _ e0;exact⟨_,e1,.inl ⟨rfl,_,SqL.of e4⟩,p,vs,rfl,rfl,e4,k _ hm _ _ _ (Same.refl _) (r.write e0 e1 .nil) fun _ _=>rfl⟩
 ·exact hm.elim
theorem R.pub1 {F:Fra P0}{Γ:En}{σ:St}{G H:Hp}(r:R F Γ σ G H){i:Nat}{ds:List D}(e:Γ[i]?=some (.own ds)):∃ G',Same G G'∧R F (Γ.set i (.val (.list ds))) σ G' H:=by
 obtain⟨p,vs,e1,e2,e3,e4,e5⟩:=r.sl i _ e;have hap:Apart F (Γ.set i .no) σ G H (.ref p) (.own ds):=fun j s fp ej hj q eq hq=>by
  cases eq
  by_cases hji:i=j
  ·subst hji;have hi:i<Γ.length:=(List.getElem?_eq_some_iff.mp e).1;rw[List.getElem?_set_self hi] at ej
   cases ej
   rw[show fp=[] from hj] at hq; cases hq
  ·rw[List.getElem?_set_ne hji] at ej;exact r.apart hji e ej (fp:=[p]) ⟨p,vs,rfl,e1,e2,e3,e4,e5⟩ hj p (List.mem_singleton.mpr rfl) hq
 obtain⟨G',s,r',d'⟩:=(r.drop i).give (ds:=ds) ⟨p,vs,rfl,e2,e3,e4,e5⟩ hap;refine⟨G',s,?_⟩;have q:=r'.setV (i:=i) d';rw[List.set_set] at q;have hs:σ.set i (some (.ref p))=σ:=by
  apply List.ext_getElem?;intro j
  by_cases hj:i=j
  ·subst hj;have hi:i<σ.length:=(List.getElem?_eq_some_iff.mp e1).1;rw[List.getElem?_set_self hi,e1]
  ·rw[List.getElem?_set_ne hj]
 rw[hs] at q;exact q
theorem aCU {i:Nat}{t:TS}{m:MS}(h:VSA P0 A t m):VSA P0 A t (a1J i m):=by
 intro F Γ σ G H E Qm r hm k;unfold a1J at hm
 split at hm
 ·rename_i ds e
  obtain⟨G',s,r'⟩:=r.pub1 e;exact h F _ σ G' H E Qm r' hm fun fl q=>(k fl q).same s fun _ _=>rfl
 ·exact h F Γ σ G H E Qm r hm k
def mFn (n:Nat)(b:MS):Fm:=fun as Q=>b (as++List.replicate n .no) fun fl=>match fl with
 | .rt rv=>Q rv
 | .nx _=>Q (.val .none)
 | _=>False
theorem aDY {n k:Nat}{N:List Str}{t:TS}{b:MS}(h:VS P0 t b)(hN:N.length=n+k){vs:List V}{H:Hp}{Q:VK}{E:XK}(hs:spM P0 n (mFn k b) vs H Q E) :
  t { nx:=fun _ H'=>Q .non H',rt:=Q } (start N vs) H:=by
 obtain⟨F,as,Qm,rfl,rf,pr,hl,hm,q⟩:=hs;have hlen:vs.length=as.length:=Paired.length pr;have get:∀{vs:List V} {as:List Sl} {i:Nat} {s:Sl},Paired (vL F F.G0) vs as→as[i]?=some s→∃ v,vs[i]?=some v∧vL F F.G0 v s:=by
  intro vs as i s pr
  induction pr generalizing i with
  | nil=>intro e; simp at e
  | cons a b ih=>
   cases i with
   | zero=>intro e; simp at e; subst e; exact⟨_,rfl,a⟩
   | succ i=>intro e; simpa using ih (i:=i) (by simpa using e)
 have at_:∀{i:Nat} {s:Sl},(as++List.replicate k Sl.no)[i]?=some s→s≠.no→∃ v,(start N vs)[i]?=some (some v)∧vL F F.G0 v s:=by
  intro i s e hne
  by_cases hi:i<as.length
  ·rw[List.getElem?_append_left hi] at e;obtain⟨v,ev,av⟩:=get pr e;refine⟨v,?_,av⟩;unfold start;rw[List.getElem?_append_left (by rw[List.length_map]; omega),List.getElem?_map,ev];rfl
  ·rw[List.getElem?_append_right (by omega),List.getElem?_replicate] at e
   split at e
   ·cases e; exact absurd rfl hne
   ·cases e
 have r:R F (as++List.replicate k .no) (start N vs) F.G0 F.H0:=by
  refine R.of rf ?_ (fun i s e=>?_) (fun i B e=>?_) (fun i j x y _ e _=>?_)
  ·unfold start;simp only[List.length_append,List.length_replicate,List.length_map];omega
  ·cases s with
   | no=>trivial
   | val d=>
    obtain⟨v,ev,av⟩:=at_ e (by intro z; cases z)
    exact⟨v,ev,av⟩
   | own ds=>
    obtain⟨v,ev,av⟩:=at_ e (by intro z; cases z)
    exact av.elim
   | pen=>
    obtain⟨v,ev,p,rfl,ep⟩:=at_ e (by intro z; cases z)
    exact⟨p,ev,ep⟩
   | con q=>
    obtain⟨v,ev,av⟩:=at_ e (by intro z; cases z)
    have av:v=.ref q:=av;rw[av] at ev;exact ev
   | pub B=>
    obtain⟨v,ev,av⟩:=at_ e (by intro z; cases z)
    exact⟨v,ev,av⟩
   | box B=>
    obtain⟨v,ev,av⟩:=at_ e (by intro z; cases z)
    exact av.elim
  ·obtain⟨v,ev,av⟩:=at_ e (by intro z; cases z)
   exact av.elim
  ·obtain⟨v,ev,av⟩:=at_ e (by intro z; cases z)
   exact av.elim
 refine h F _ _ _ _ _ _ r hm fun fl hq=>?_
 cases fl with
 | nx Γ=>exact fun σ G' H' _ r' _=>q _ _ _ _ hq r'.fr .non
 | rt rv=>exact fun v G' H' _ f' v'=>q _ _ _ _ hq f' v'
 | bk Γ=>exact hq.elim
 | ct Γ=>exact hq.elim
theorem aID {n:Nat}{f:Fm}{ps:List Str}(h:ps.length=n):∀ vs H Q E,spM P0 n f vs H Q E→vs.length=ps.length:=by
 rintro vs H Q E ⟨F,as,Qm,_,_,pr,hl,_⟩;rw[Paired.length pr,hl,h]
theorem _root_.L2.Fun.okV {P:Program}{w:World}{K:Fg}{mg:Mg}{base:Heap}{x qual:Str}{st:Stmt}{f:Addr}{fd:FuncData}{N ps:List Str}{k n j:Nat}{b:MS}
  (F:Fun K x qual st f fd) (S:FnScope N ps (aR st)) (hn:ps.length=n) (hN:N.length=n+j)
  (hbody:∀(cdv:Value) (A:Around) (outer:List Env) (s:Shared) (H:Hp) (E:XK),Room k (A.deeper (envOfC qual (aR st) s.heap.objs.size f cdv)) →
   SsX P0 (aGA CX0 P w K mg base N qual (aR st) f cdv A outer s H E).nox (lG st) b):FnOk P w K mg base CX0 (k+1) f fd ps (spM P0 n (mFn j b)):=by
 refine F.ok S (aID hn) fun cdv A outer s H vs Q E hr hs=>?_;obtain⟨t,h1,h2⟩:=hbody cdv A outer s H E hr;exact⟨t,h1,aDY h2 hN hs⟩
end
section
variable {P0:Addr→Hp→Prop}
def q9:D→String
 | .none => "NoneType"
 | .bool _ => "bool"
 | .int _ => "int"
 | .str _ => "str"
 | .list _ => "list"
 | .tuple _ => "tuple"
 | .dict _ => "dict"
def aDW (a b:String):Bool:=a==b||(a == "bool" && b == "int")
def tyL:List String:=["NoneType", "bool", "int", "str", "list", "tuple", "dict"]
def Kit (K:Fg):Prop:=∀ a∈tyL,∀ b∈tyL,PySem.W.kitOne K (.type a) (.type b)=some (aDW a b)
theorem Kit.mk' {K:Fg}(h:∀ a∈tyL,∀ b∈tyL,(a==b)=false→PySem.W.kitOne K (.type a) (.type b)=some (a == "bool" && b == "int")):Kit K:=by
 intro a ha b hb
 by_cases e:a=b
 ·subst e;rw[aEQ];simp[aDW]
 ·have e':(a==b)=false:=by simpa using e
  rw[h a ha b hb e'];simp[aDW,e']
theorem aI8 {K:Fg}{H:Hp}{x:V}{d:D}(h:Dt H x d):TyOf K H x (.type (q9 d))∧q9 d∈tyL:=by
 cases h with
 | non=>exact⟨.non,by simp[q9,tyL]⟩
 | bl b=>exact⟨.bl b,by simp[q9,tyL]⟩
 | int i=>exact⟨.int i,by simp[q9,tyL]⟩
 | str x=>exact⟨.str x,by simp[q9,tyL]⟩
 | tup hp _=>exact⟨.tup hp,by simp[q9,tyL]⟩
 | lst hp _=>exact⟨.lst hp,by simp[q9,tyL]⟩
 | dic hp _=>exact⟨hp.elim .dK fun⟨_,q⟩=>.fdK q,by simp[q9,tyL]⟩
def aI1 (n:String)(ma:ME):ME:=fun Γ Q=>ma Γ fun x Γ1=>Q (.bool (aDW (q9 x) n)) Γ1
theorem a3A {K:Fg}{n:String}{ta:TE}{ma:ME}(hk:Kit K)(hn:n∈tyL)(ha:VT P0 ta ma):VT P0 (tCB (aOO K) (lB ta (lB (tC (.ty n)) a0Y))) (aI1 n ma):=by
 intro F Γ σ G H Q Qm r m k;refine ha F Γ σ G H _ _ r m fun d Γ1 x G1 H1 m1 s1 r1 d1=>?_;obtain⟨h1,h2⟩:=aI8 (K:=K) (Dt.same r1.fr.sub _ _ d1);exact⟨x,.ty n,.type n,_,_,rfl,rfl,h1,hk _ h2 _ hn,k _ _ _ _ _ m1 s1 r1 (.bl _)⟩
section
variable {X:Cx}
structure Goods (ds:List D):Prop where
 lay:PyData.canLayAll0 ds=true
 dep:PyData.depthAll ds≤59
def aOI (neg:Bool):R2:=fun x y H Q=>∃ dx ds,Dt H x dx∧(Dt H y (.list ds)∨Dt H y (.tuple ds))∧Good dx∧Goods ds∧Q (.bl (if neg then !(ds.any fun e=>PyData.eqv e dx) else ds.any fun e=>PyData.eqv e dx)) H
theorem aKI {u a b:Nat}(h:u+64<cLine)(ha:a≤59):u+1+min a b<cLine:=by
 have:min a b≤a:=Nat.min_le_left _ _;omega
theorem a4Q (hu:X.A.units+64<cLine):OpR X (compareOp .NotIn) (aOI true):=by
 intro pins s σ H x y v u Q I rx ry h;obtain⟨dx,ds,ex,ey,gx,gs,q⟩:=h;obtain⟨as,r1⟩:=Dt.reads I.hok dx x v ex rx;rcases ey with ey|ey
 ·obtain⟨bs,r2⟩:=Dt.reads I.hok _ y u ey ry;exact SeqAt.notIn_list_reads r2 r1 gs.lay gx.lay (aKI hu gs.dep) ⟨.bl _,H,I,rfl,q⟩
 ·obtain⟨bs,r2⟩:=Dt.reads I.hok _ y u ey ry;exact SeqAt.notIn_tuple_reads r2 r1 gs.lay gx.lay (aKI hu gs.dep) ⟨.bl _,H,I,rfl,q⟩
def mIn (neg:Bool)(ma mb:ME):ME:=fun Γ Q=>ma Γ fun x Γ1=>mb Γ1 fun y Γ2=>match uX y with
 | some ds=>Good x∧Goods ds∧Q (.bool (if neg then !(ds.any fun e=>PyData.eqv e x) else ds.any fun e=>PyData.eqv e x)) Γ2
 | none=>False
theorem aLP {neg:Bool}{ta tb:TE}{ma mb:ME}(ha:VT P0 ta ma)(hb:VT P0 tb mb):VT P0 (tOp (aOI neg) ta tb) (mIn neg ma mb):=by
 refine aIP (m2:=fun x y Q=>match uX y with|some ds=>Good x∧Goods ds∧Q (.bool (if neg then !(ds.any fun e=>PyData.eqv e x) else ds.any fun e=>PyData.eqv e x))|none=>False) ha hb fun F Γ σ G H x y d e Q Qm r d1 d2 m k=>?_
 split at m
 ·rename_i ds hds
  refine⟨d,ds,Dt.same r.fr.sub _ _ d1,?_,m.1,m.2.1,k _ _ _ _ m.2.2 (Same.refl _) r (.bl _)⟩;have d2:=Dt.same r.fr.sub _ _ d2
  cases d2<;>simp only[uX] at hds<;>try (cases hds)
  ·exact .inr (.tup (by assumption) (by assumption))
  ·exact .inl (.lst (by assumption) (by assumption))
 ·exact m.elim
end
def a9L (H H':Hp):Prop:=∀ b xs,H b=some (.tup xs)→H' b=some (.tup xs)∨∃ q vs,V.ref q∈xs∧H q=some (.lst vs)
theorem no_ref {H:Hp}{q:Addr}{vs:List V}(hq:H q=some (.lst vs)):∀(ds:List D) (xs:List V),jA ds=true→Dts H xs ds→V.ref q∉xs
 | [],xs,_,e,h=>by cases e; cases h
 | d::ds,xs,z,e,h=>by
  have z':qD d=true∧jA ds=true:=by simpa [jA] using z
  cases e with
  | cons e1 e2=>
   rcases List.mem_cons.mp h with e|e
   ·subst e
    cases e1 with
    | tup hp _=>rw[hq] at hp; cases hp
    | lst hp _=>exact absurd z'.1 (by simp[qD])
    | dic hp _=>exact absurd z'.1 (by simp[qD])
   ·exact no_ref hq ds _ z'.2 e2 e
mutual
theorem Dt.sameU {H H':Hp}(g:a9L H H'):∀(d:PyData) (x:V),qD d=true→Dt H x d→Dt H' x d
 | .none,_,_,e=>by cases e; exact .non
 | .bool _,_,_,e=>by cases e; exact .bl _
 | .int _,_,_,e=>by cases e; exact .int _
 | .str _,_,_,e=>by cases e; exact .str _
 | .list _,_,z,_=>absurd z (by simp[qD])
 | .tuple ds,_,z,e=>by
  have z':jA ds=true:=by simpa [qD] using z
  cases e with
  | tup hp rs=>
   rcases g _ _ hp with h|⟨q,vs,h1,h2⟩
   ·exact .tup h (Dts.sameU g ds _ z' rs)
   ·exact absurd h1 (no_ref h2 ds _ z' rs)
 | .dict _,_,z,_=>absurd z (by simp[qD])
theorem Dts.sameU {H H':Hp}(g:a9L H H'):∀(ds:List PyData) (xs:List V),jA ds=true→Dts H xs ds→Dts H' xs ds
 | [],_,_,e=>by cases e; exact .nil
 | d::ds,_,z,e=>by
  have z':qD d=true∧jA ds=true:=by simpa [jA] using z
  cases e with
  | cons e1 e2=>exact .cons (Dt.sameU g d _ z'.1 e1) (Dts.sameU g ds _ z'.2 e2)
end
def zR:En→En:=List.map fun s=>match s with
 | .own ds=>.val (.list ds)
 | .box B=>match B.view with
  | some d=>.val d
  | none=>match B.pv with
   | some b=>.pub b
   | none=>.no
 | s=>s
def aC3 (m:ME):ME:=fun Γ Q=>m (zR Γ) fun d Γ1=>qD d=true∧Γ1=zR Γ∧Q d Γ
def xN (m:MT):MT:=fun Γ Q=>m (zR Γ) fun b Γ1=>Γ1=zR Γ∧Q b Γ
def a3S (m:MO):MO:=fun Γ Q=>m (zR Γ) fun rv Γ1=>jA (match rv with|.val d=>[d]|.own ds=>ds|.box _=>[.list []])=true∧Γ1=zR Γ∧Q rv Γ
def OwnA (F:Fra P0)(Γ:En)(σ:St)(G H:Hp)(b:Addr):Prop:=∃(i:Nat) (s:Sl) (fp:List Addr),Γ[i]?=some s∧SlF F G H σ[i]? fp s∧b∈fp
section
variable {F:Fra P0}{Γ:En}{σ:St}{G H:Hp}
open Classical in
noncomputable def a9A (F:Fra P0)(Γ:En)(σ:St)(G H:Hp):Hp:=fun b=>if OwnA F Γ σ G H b then H b else G b
noncomputable def oZ (F:Fra P0)(Γ:En)(σ:St)(G H:Hp)(G1:Hp):Hp:=fun b=>open Classical in if OwnA F Γ σ G H b then none else G1 b
theorem OwnA.at {b:Addr}(h:OwnA F Γ σ G H b):F.H0 b=none∧G b=none∧∃ o,H b=some o:=by
 obtain⟨i,s,fp,_,e,hb⟩:=h;exact e.mine hb
theorem OwnA.tup {b:Addr}(h:OwnA F Γ σ G H b){xs:List V}(e:H b=some (.tup xs)):∃ q vs,V.ref q∈xs∧OwnA F Γ σ G H q∧H q=some (.lst vs):=by
 obtain⟨i,s,fp,e0,e1,hb⟩:=h
 cases s with
 | no=>rw[show fp=[] from e1] at hb; cases hb
 | val d=>rw[e1.1] at hb; cases hb
 | pen=>rw[e1.1] at hb; cases hb
 | con q=>rw[e1.1] at hb; cases hb
 | pub B=>rw[e1.1] at hb; cases hb
 | own ds=>
  obtain⟨p,vs,f0,_,_,_,f3,_⟩:=e1;rw[f0] at hb;rw[List.mem_singleton.mp hb,f3] at e
  cases e
 | box B=>
  have e1':=e1;obtain⟨v,_,h2,_⟩:=e1;obtain⟨q,q1,q2,vs,q3⟩:=B.nt h2 b hb xs e;exact⟨q,vs,q2,⟨i,_,fp,e0,e1',q1⟩,q3⟩
theorem R.pubAll (r:R F Γ σ G H):Same G (a9A F Γ σ G H)∧R F (zR Γ) σ (a9A F Γ σ G H) H:=by
 have g:Same G (a9A F Γ σ G H):=fun b o e=>by
  unfold a9A
  by_cases h:OwnA F Γ σ G H b
  ·have:=h.at.2.1;rw[e] at this; cases this
  ·rw[if_neg h]; exact e
 have nob:∀(i:Nat) s,(zR Γ)[i]?=some s→(∀ x,s≠.own x)∧∀ B,s≠.box B:=by
  intro i s e;unfold zR at e;rw[List.getElem?_map] at e
  cases e0:Γ[i]? with
  | none=>rw[e0] at e; cases e
  | some s0=>
   rw[e0] at e
   cases s0 with
   | box B=>
    have e:(match B.view with|some d=>Sl.val d|none=>match B.pv with|some b=>Sl.pub b|none=>Sl.no)=s:=Option.some.inj e
    cases hv:B.view with
    | none=>
     cases hw:B.pv with
     | none=>rw[hv,hw] at e; subst e; exact⟨fun x z=>(nomatch z),fun x z=>(nomatch z)⟩
     | some b=>rw[hv,hw] at e; subst e; exact⟨fun x z=>(nomatch z),fun x z=>(nomatch z)⟩
    | some d=>rw[hv] at e; subst e; exact⟨fun x z=>(nomatch z),fun x z=>(nomatch z)⟩
   | _=>cases e; exact⟨fun x z=>(nomatch z),fun x z=>(nomatch z)⟩
 refine⟨g,R.of ⟨fun b o e=>?_,fun b o e=>?_,r.fr.h0,r.fr.pn⟩ ?_ (fun i s e=>?_) (fun i B e=>(nob i _ e).2 B rfl) (fun i j x y _ e=>((nob i _ e).1 x rfl).elim)⟩
 ·unfold a9A at e
  split at e
  ·exact e
  ·exact r.fr.sub b o e
 ·have h:¬OwnA F Γ σ G H b:=fun h=>by
   have:=h.at.1;rw[e] at this; cases this
  unfold a9A;rw[if_neg h];exact r.fr.g0 b o e
 ·unfold zR;rw[List.length_map];exact r.len
 ·unfold zR at e;rw[List.getElem?_map] at e
  cases e0:Γ[i]? with
  | none=>rw[e0] at e; cases e
  | some s0=>
   rw[e0] at e;have h:=r.sl i s0 e0
   cases s0 with
   | no=>cases e; trivial
   | val d=>cases e; obtain⟨v,e1,d1⟩:=h; exact⟨v,e1,Dt.same g _ _ d1⟩
   | own ds=>
    cases e
    obtain⟨p,vs,e1,e2,e3,e4,e5⟩:=h;refine⟨_,e1,.lst ?_ (Dts.same g _ _ e5)⟩;unfold a9A;rw[if_pos ⟨i,_,[p],e0,⟨p,vs,rfl,e1,e2,e3,e4,e5⟩,List.mem_singleton.mpr rfl⟩];exact e4
   | pen=>cases e; exact h
   | con q=>cases e; exact h
   | pub B=>cases e; obtain⟨v,e1,e2⟩:=h; exact⟨v,e1,B.mono g e2⟩
   | box B=>
    have e:(match B.view with|some d=>Sl.val d|none=>match B.pv with|some b=>Sl.pub b|none=>Sl.no)=s:=Option.some.inj e;obtain⟨v,fp,e1,e2,e3⟩:=h
    cases hv:B.view with
    | none=>
     cases hw:B.pv with
     | none=>rw[hv,hw] at e; subst e; trivial
     | some b0=>
      rw[hv,hw] at e;subst e;refine⟨v,e1,B.pok e2 hw g fun b hb=>?_⟩;unfold a9A;rw[if_pos ⟨i,_,fp,e0,⟨v,e1,e2,e3⟩,hb⟩]
    | some d=>
     rw[hv] at e;subst e;refine⟨v,e1,B.vok e2 hv g fun b hb=>?_⟩;unfold a9A;rw[if_pos ⟨i,_,fp,e0,⟨v,e1,e2,e3⟩,hb⟩]
theorem R.backG (r:R F Γ σ G H){G1 H1:Hp}(s:Same (a9A F Γ σ G H) G1)(f1:Rf F G1 H1) :
  (∀ b,OwnA F Γ σ G H b→G1 b=H b∧H1 b=H b)∧Same G (oZ F Γ σ G H G1)∧Rf F (oZ F Γ σ G H G1) H1∧a9L G1 (oZ F Γ σ G H G1):=by
 have s0:=(r.pubAll).1;have own:∀ b,OwnA F Γ σ G H b→G1 b=H b∧H1 b=H b:=fun b h=>by
  obtain⟨_,_,o,e⟩:=h.at;have q:a9A F Γ σ G H b=H b:=by unfold a9A; rw[if_pos h]
  rw[e] at q ⊢;exact⟨s b _ q,f1.sub b _ (s b _ q)⟩
 have g:Same G (oZ F Γ σ G H G1):=fun b o e=>by
  have h:¬OwnA F Γ σ G H b:=fun h=>by
   have:=h.at.2.1;rw[e] at this; cases this
  unfold oZ;rw[if_neg h];exact s b o (s0 b o e)
 refine⟨own,g,⟨fun b o e=>?_,fun b o e=>?_,f1.h0,f1.pn⟩,fun b xs e=>?_⟩
 ·unfold oZ at e
  split at e
  ·cases e
  ·exact f1.sub b o e
 ·have h:¬OwnA F Γ σ G H b:=fun h=>by
   have:=h.at.1;rw[e] at this; cases this
  unfold oZ;rw[if_neg h];exact f1.g0 b o e
 ·by_cases h:OwnA F Γ σ G H b
  ·have e':H b=some (.tup xs):=by rw[← (own b h).1]; exact e
   obtain⟨q,vs,q1,q2,q3⟩:=h.tup e';exact .inr ⟨q,vs,q1,by rw[(own q q2).1]; exact q3⟩
  ·refine .inl ?_;unfold oZ;rw[if_neg h];exact e
theorem wQ {G1:Hp}{b:Addr}(h:OwnA F Γ σ G H b):oZ F Γ σ G H G1 b=none:=by
 unfold oZ;rw[if_pos h]
theorem R.back (r:R F Γ σ G H){G' H':Hp}(s:Same (a9A F Γ σ G H) G')(r':R F (zR Γ) σ G' H'):Same G (oZ F Γ σ G H G')∧R F Γ σ (oZ F Γ σ G H G') H'∧a9L G' (oZ F Γ σ G H G'):=by
 obtain⟨own,g,f,t⟩:=r.backG s r'.fr;obtain⟨fps,h1,h2⟩:=r.fps;refine⟨g,⟨f,r.len,fps,fun i sl e=>(h1 i sl e).go g fun b hb=>?_,h2⟩,t⟩;have ho:OwnA F Γ σ G H b:=⟨i,sl,fps i,e,h1 i sl e,hb⟩;exact⟨wQ ho,(own b ho).2⟩
end
theorem aBJ {t:TE}{m:ME}(h:VT P0 t m):VT P0 t (aC3 m):=by
 intro F Γ σ G H Q Qm r hm k;obtain⟨s0,r0⟩:=r.pubAll;refine h F _ σ _ H _ _ r0 hm fun d Γ1 x G1 H1 m1 s1 r1 d1=>?_;obtain⟨hd,rfl,q⟩:=m1;obtain⟨s2,r2,t2⟩:=r.back s1 r1;exact k _ _ _ _ _ q s2 r2 (Dt.sameU t2 _ _ hd d1)
theorem tO {t:TT}{m:MT}(h:VTT P0 t m):VTT P0 t (xN m):=by
 intro F Γ σ G H Q Qm r hm k;obtain⟨s0,r0⟩:=r.pubAll;refine h F _ σ _ H _ _ r0 hm fun b Γ1 G1 H1 m1 s1 r1=>?_;obtain⟨rfl,q⟩:=m1;obtain⟨s2,r2,t2⟩:=r.back s1 r1;exact k _ _ _ _ q s2 r2
theorem aBK {t:TE}{m:MO}(h:VO P0 t m):VO P0 t (a3S m):=by
 intro F Γ σ G H Q Qm r hm k;obtain⟨s0,r0⟩:=r.pubAll;refine h F _ σ _ H _ _ r0 hm fun rv Γ1 x G1 H1 m1 s1 r1 d1 a1=>?_;obtain⟨hd,rfl,q⟩:=m1;obtain⟨s2,r2,t2⟩:=r.back s1 r1
 cases rv with
 | val d=>
  have hd':qD d=true:=by simpa [jA] using hd
  exact k _ _ _ _ _ q s2 r2 (Dt.sameU t2 _ _ hd' d1) trivial
 | box B=>exact absurd hd (by simp[jA,qD])
 | own ds=>
  obtain⟨p,vs,rfl,e1,e2,e3,e4⟩:=d1;refine k _ _ _ _ _ q s2 r2 ⟨p,vs,rfl,e1,?_,e3,Dts.sameU t2 _ _ hd e4⟩ fun i s fp ei hf q' eq hq=>?_
  ·unfold oZ
   split
   ·rfl
   ·exact e2
  ·cases eq
   obtain⟨fps,f1,f2⟩:=r.fps;have h0:=f1 i s ei;have own:=(r.backG s1 r1.fr).1;have h3:SlF F (oZ F Γ σ G H G1) H1 σ[i]? (fps i) s:=h0.go s2 fun b hb=>by
    have ho:OwnA F Γ σ G H b:=⟨i,s,fps i,ei,h0,hb⟩;exact⟨wQ ho,(own b ho).2⟩
   rw[hf.det h3] at hq;have ho:OwnA F Γ σ G H p:=⟨i,s,fps i,ei,h0,hq⟩;obtain⟨_,_,o,e'⟩:=ho.at;have:=(own p ho).1;rw[e2,e'] at this; cases this
section
variable {ta tb:TE}{ma mb:ME}
abbrev a9H:=mI0 fun i j=>PyData.int (i+j)
abbrev aIO:=mI0 fun i j=>PyData.int (i-j)
abbrev vW:=mI IntMulOk fun i j=>PyData.int (i*j)
abbrev aCC:=mI aE4 fun i j=>PyData.int (i.fdiv j)
abbrev aLV:=mI (fun _ j=>0<j) fun i j=>PyData.int (i%j)
abbrev aFR:=mU fun i=>PyData.int (-i)
abbrev mLt:=mI0 fun i j=>PyData.bool (decide (i<j))
abbrev mGt:=mI0 fun i j=>PyData.bool (decide (j<i))
theorem nJ (ha:VT P0 ta ma)(hb:VT P0 tb mb):VT P0 (tOp (rI0 fun i j=>.int (i+j)) ta tb) (a9H ma mb):=aFA (fun _ _ _=>.int _) ha hb
theorem a2W (ha:VT P0 ta ma)(hb:VT P0 tb mb):VT P0 (tOp (rI0 fun i j=>.int (i-j)) ta tb) (aIO ma mb):=aFA (fun _ _ _=>.int _) ha hb
theorem eX (ha:VT P0 ta ma)(hb:VT P0 tb mb):VT P0 (tOp (rI IntMulOk fun i j=>.int (i*j)) ta tb) (vW ma mb):=aMD (fun _ _ _=>.int _) ha hb
theorem a1V (ha:VT P0 ta ma)(hb:VT P0 tb mb):VT P0 (tOp (rI aE4 fun i j=>.int (i.fdiv j)) ta tb) (aCC ma mb):=aMD (fun _ _ _=>.int _) ha hb
theorem aB0 (ha:VT P0 ta ma)(hb:VT P0 tb mb):VT P0 (tOp (rI (fun _ j=>0<j) fun i j=>.int (i%j)) ta tb) (aLV ma mb):=aMD (fun _ _ _=>.int _) ha hb
theorem xO (ha:VT P0 ta ma):VT P0 (tUn (rU fun i=>.int (-i)) ta) (aFR ma):=aPT (fun _ _=>.int _) ha
theorem uM (ha:VT P0 ta ma)(hb:VT P0 tb mb):VT P0 (tOp (rI0 fun i j=>.bl (decide (i<j))) ta tb) (mLt ma mb):=aFA (fun _ _ _=>.bl _) ha hb
theorem aKT (ha:VT P0 ta ma)(hb:VT P0 tb mb):VT P0 (tOp (rI0 fun i j=>.bl (decide (j<i))) ta tb) (mGt ma mb):=aFA (fun _ _ _=>.bl _) ha hb
theorem aF {i:Int}:VT P0 (tC (.int i)) (mC (.int i)):=aLT fun _=>.int i
theorem aEB {b:Bool}:VT P0 (tC (.bl b)) (mC (.bool b)):=aLT fun _=>.bl b
theorem nW {s:Str}:VT P0 (tC (.str s)) (mC (.str s)):=aLT fun _=>.str s
theorem iY:VT P0 (tC .non) (mC .none):=aLT fun _=>.non
end
end
section
def bY (K:Fg)(a:Addr)(ns:List Int):Addr→Hp→Prop:=fun p H=>Pen K p a ns H
def aFE:Fm:=fun as Q=>match as with
 | [.pen,.val (.int m)]=>0<m∧m<1073741824∧∀ r:Int,0≤r→r<m→Q (.val (.int r))
 | _=>False
theorem aHQ {K:Fg}{a:Addr}{ns:List Int}:∀ vs H Q E,spM (bY K a ns) 2 aFE vs H Q E→aG4 K vs H Q E:=by
 rintro vs H Q E ⟨F,as,Qm,rfl,rf,pr,hl,hm,q⟩;unfold aFE at hm
 split at hm
 ·rename_i m
  cases pr with
  | cons a1 b1=>
   cases b1 with
   | cons a2 b2=>
    cases b2
    obtain⟨p,rfl,ep⟩:=a1;have a2:Dt F.G0 _ (.int m):=a2
    cases a2
    refine⟨p,a,ns,m,rfl,rf.pn p ep,hm.1,hm.2.1,fun r H' h1 h2 hp hx=>?_⟩;refine q _ _ F.G0 H' (hm.2.2 r h1 h2) ⟨fun b o e=>hx b o (fun z=>?_) (rf.sub b o e),fun _ _ _=>rfl,fun b o e hb=>hx b o (fun z=>hb (by rw[z]; exact ep)) e,fun p' ep'=>?_⟩ (.int _)
    ·rw[z,F.pg p ep] at e; cases e
    ·rw[ep] at ep'; cases ep'; exact hp
 ·exact hm.elim
theorem aES {K:Fg}{a:Addr}{ns:List Int}{pen:Addr}{H0:Hp}(h0:∃ o,H0 pen=some o)(hS:SqL K H0 a (ns.map V.int)):∀ H H',(∀ b o,H0 b=some o→H' b=H b)→bY K a ns pen H→bY K a ns pen H':=by
 rintro H H' h ⟨z,k,hz,hk,e,s⟩;obtain⟨o,e0⟩:=h0;refine⟨z,k,hz,hk,(h pen o e0).trans e,?_⟩;rcases hS with(q|⟨ob,q⟩)|q
 ·have ea:=h a _ q;rcases s with(s|⟨ob',s⟩)|s
  ·exact .inl (.inl (ea.trans s))
  ·exact .inl (.inr ⟨ob',ea.trans s⟩)
  ·exact .inr s
 ·have ea:=h a _ q;rcases s with(s|⟨ob',s⟩)|s
  ·exact .inl (.inl (ea.trans s))
  ·exact .inl (.inr ⟨ob',ea.trans s⟩)
  ·exact .inr s
 ·exact .inr q
def p8:Fl→Prop:=fun fl=>fl=.rt (.val (.bool true))
theorem law_go {K:Fg}{a:Addr}{ns:List Int}{k:Nat}{t:TS}{b:MS}{H:Hp}{pen:Addr}{Q:VK}{nx:St→Hp→Prop}(h:VS (bY K a ns) t b)(hp:H pen=none)(hS:SqL K H a (ns.map V.int))
    (hb:b (.no::.pen::List.replicate k .no) p8) (q:∀ H',Q (.bl true) H') :
    t { nx:=nx,rt:=Q } (some (.ref a)::some (.ref pen)::List.replicate k none) (upd H pen (.lst [.ref a,.int 0,.int 0])):=by
  have g:=mY hp (.lst [.ref a,.int 0,.int 0]);have hS':=g.seq hS
  let F:Fra (bY K a ns):=
    { H0:=upd H pen (.lst [.ref a,.int 0,.int 0])
      G0:=fun _=>none
      pen:=some pen
      stab:=fun p e=>by cases e; exact aES ⟨_,bA⟩ hS'
      pin:=fun p e H1 h1=>by obtain⟨z,k,_,_,e1,_⟩:=h1; exact⟨_,e1⟩
      pin0:=fun p e=>by cases e; exact⟨_,bA⟩
      pg:=fun _ _=>rfl }
  refine h F (.no::.pen::List.replicate k .no) _ F.G0 _ _ p8 (R.of ⟨fun b o e=>(nomatch e),fun _ _ _=>rfl,fun _ _ e _=>e,fun p e=>?_⟩ ?_ (fun i s e=>?_) (fun i B e=>?_) (fun i j x y _ e=>?_)) hb fun fl e=>?_
  · cases e
    exact⟨0,0,by decide,by decide,bA,hS'⟩
  · simp
  · match i with
    | 0=>cases e; trivial
    | 1=>cases e; exact⟨pen,rfl,rfl⟩
    | i+2=>
      have e':(List.replicate k Sl.no)[i]?=some s:=by simpa using e
      rw[List.getElem?_replicate] at e'
      split at e'
      · cases e'; trivial
      · cases e'
  · match i with
    | 0=>cases e
    | 1=>cases e
    | i+2=>
      have e':(List.replicate k Sl.no)[i]?=some (.box B):=by simpa using e
      rw[List.getElem?_replicate] at e'
      split at e'
      · cases e'
      · cases e'
  · match i with
    | 0=>cases e
    | 1=>cases e
    | i+2=>
      have e':(List.replicate k Sl.no)[i]?=some (.own x):=by simpa using e
      rw[List.getElem?_replicate] at e'
      split at e'
      · cases e'
      · cases e'
  · unfold p8 at e;subst e;intro r G' H' _ _ hr;have hr:Dt G' r (.bool true):=hr
    cases hr
    exact q H'
theorem law_body {K:Fg}{a:Addr}{ns:List Int}{k:Nat}{b:MS}{H:Hp}{Q:VK}{nx:St→Hp→Prop}{X:Cx}{st:Stmt}{rest:List Stmt}{N:List Str}
  (h1:PS X st (aLA (aN0 (lB (vZ 0) (lB (tC (.int 0)) (lB (tC (.int 0)) a0Y)))) (aBI 1))) (h2:∃ t,PSs X rest t∧VS (bY K a ns) t b) (hN:N.length=k+2) (hS:SqL K H a (ns.map V.int))
  (hb:b (.no::.pen::List.replicate k .no) p8) (q:∀ H',Q (.bl true) H'):∃ t,PSs X (st::rest) t∧t { nx:=nx,rt:=Q } (start N [.ref a]) H:=by
 obtain⟨t,h2,h3⟩:=h2;refine⟨_,aG h1 h2,?_⟩;have e:start N [.ref a]=some (.ref a)::none::List.replicate k none:=by
  unfold start;rw[hN];rfl
 rw[e];refine⟨_,rfl,aCT rfl,fun pen hp=>?_⟩;exact law_go (t:=t) h3 hp hS hb q
end
end L2.VS
namespace L2.VS
open PySem PySem.Spec PyProof.Rows LT
section
variable {Γ:En}{i j n:Nat}{d e x y:D}{ma mb:ME}{oa ob:MO}{ta tb:MT}{md:MD}{aa:MA}{sa sb:MS}{g:MG}{gs:MGs}{mp mq:MP}
theorem aN6 {Q:Fl→Prop}(h:sa Γ fun fl=>match fl with|.nx Γ1=>sb Γ1 Q|fl=>Q fl):cA sa sb Γ Q:=h
theorem aPS {Q:Fl→Prop}(h:Q (.nx Γ)):mNx Γ Q:=h
theorem aL8 {Q:Fl→Prop}(h:ma Γ fun _ Γ1=>Q (.nx Γ1)):aAS ma Γ Q:=h
theorem aO4 {Q:Fl→Prop}(h:oa Γ fun rv Γ1=>Q (.nx (Γ1.set i rv.sl))):dF i oa Γ Q:=h
theorem aNA {Q:Fl→Prop}(h:ma Γ fun d Γ1=>g d Γ1 fun Γ2=>Q (.nx Γ2)):aMA ma g Γ Q:=h
theorem aMW {Q:Fl→Prop}(h:md Γ fun ds Γ1=>match ds with|[d,e]=>Q (.nx ((Γ1.set i (.val d)).set j (.val e)))|_=>False):aM4 i j md Γ Q:=h
theorem aNF {Q:Fl→Prop}(h:oa Γ fun rv _=>Q (.rt rv)):fK oa Γ Q:=h
theorem aPJ {Q:Fl→Prop}(h:ta Γ fun k Γ1=>if k=true then sa Γ1 Q else sb Γ1 Q):mIf ta sa sb Γ Q:=h
theorem aN7 {Q:Fl→Prop}(h:md Γ fun ds Γ1=>forL g sa ds Γ1 Q):a2V md g sa Γ Q:=h
def aO7 (i:Nat)(d:D)(Γ1:En)(Q:Fl→Prop):Prop:=match Γ1[i]? with
 | some (.own ds)=>ds.length<1000∧Q (.nx (Γ1.set i (.own (ds++[d]))))
 | _=>False
theorem aEP {Q:Fl→Prop}{ds:List D}(h0:Γ[i]?=some (.own ds))(h:ma Γ fun d Γ1=>aO7 i d Γ1 Q):gR i ma Γ Q:=by
 unfold gR;rw[h0];exact h
theorem aGH {Q:Fl→Prop}{Γ1:En}{ds:List D}(h0:Γ1[i]?=some (.own ds))(h1:ds.length<1000)(h:Q (.nx (Γ1.set i (.own (ds++[d]))))):aO7 i d Γ1 Q:=by
 unfold aO7;rw[h0];exact⟨h1,h⟩
theorem aI2 {Q:Fl→Prop}{ds:List D}(h0:Γ[i]?=some (.own ds))(h:Q (.nx (Γ.set i (.own [])))):a3Q i Γ Q:=by
 unfold a3Q;rw[h0];exact h
theorem aJF {Q:Fl→Prop}{ds:List D}(h0:Γ[i]?=some (.own ds))(h:sa (Γ.set i (.val (.list ds))) Q):a1J i sa Γ Q:=by
 unfold a1J;rw[h0];exact h
theorem aHS {Q:Fl→Prop}(h0:Γ[i]?=some (.val d))(h:sa Γ Q):a1J i sa Γ Q:=by
 unfold a1J;rw[h0];exact h
theorem i_c {Q:D→En→Prop}(h:Q d Γ):mC d Γ Q:=h
theorem aMS {Q:D→En→Prop}(h0:Γ[i]?=some (.val d))(h:Q d Γ):aN i Γ Q:=by
 unfold aN;rw[h0];exact h
theorem aPA {f:Int→Int→D}{Q:D→En→Prop}(h:ma Γ fun x Γ1=>mb Γ1 fun y Γ2=>match x,y with|.int i,.int j=>Q (f i j) Γ2|_,_=>False):mI0 f ma mb Γ Q:=h
theorem i_I {C:Int→Int→Prop}{f:Int→Int→D}{Q:D→En→Prop}(h:ma Γ fun x Γ1=>mb Γ1 fun y Γ2=>match x,y with|.int i,.int j=>C i j∧Q (f i j) Γ2|_,_=>False):mI C f ma mb Γ Q:=h
theorem i_U {f:Int→D}{Q:D→En→Prop}(h:ma Γ fun x Γ1=>match x with|.int i=>Q (f i) Γ1|_=>False):mU f ma Γ Q:=h
theorem aMH {Q:D→En→Prop}(h:ma Γ fun x Γ1=>match x with|.int i=>Q (.int (if i<0 then -i else i)) Γ1|_=>False):aI6 ma Γ Q:=h
theorem aJT {Q:D→En→Prop}(h:ma Γ fun x Γ1=>match x with|.int i=>Q (.int i) Γ1|.bool b=>Q (.int (if b then 1 else 0)) Γ1|_=>False):a96 ma Γ Q:=h
theorem aPH {Q:D→En→Prop}(h:ma Γ fun x Γ1=>mb Γ1 fun y Γ2=>Good x∧Good y∧Q (.bool (PyData.eqv x y)) Γ2):mEq ma mb Γ Q:=h
theorem aPM {Q:D→En→Prop}(h:ma Γ fun x Γ1=>mb Γ1 fun y Γ2=>Good x∧Good y∧Q (.bool (!PyData.eqv x y)) Γ2):mNe ma mb Γ Q:=h
theorem aLW {Q:D→En→Prop}(h:ma Γ fun x Γ1=>Q (.bool (isN x)) Γ1):aIV ma Γ Q:=h
theorem aJW {Q:D→En→Prop}(h:ma Γ fun x Γ1=>Q (.bool (!isN x)) Γ1):aBU ma Γ Q:=h
theorem aKA {Q:D→En→Prop}(h:ma Γ fun x Γ1=>match x with|.bool c=>if c=true then mb Γ1 Q else Q (.bool false) Γ1|_=>False):aD5 ma mb Γ Q:=h
theorem aKX {Q:D→En→Prop}(h:ma Γ fun x Γ1=>match x with|.bool c=>Q (.bool (!c)) Γ1|_=>False):aIG ma Γ Q:=h
theorem aNG {Q:Bool→En→Prop}(h:ma Γ fun x Γ1=>match x with|.bool c=>Q c Γ1|_=>False):eO ma Γ Q:=h
theorem aN5 {Q:Bool→En→Prop}(h:ta Γ fun c Γ1=>if c=true then tb Γ1 Q else Q false Γ1):aEX ta tb Γ Q:=h
theorem aPU {Q:Bool→En→Prop}(h:ta Γ fun c Γ1=>if c=true then Q true Γ1 else tb Γ1 Q):mOr ta tb Γ Q:=h
theorem aN1 {Q:Bool→En→Prop}(h:ta Γ fun c Γ1=>Q (!c) Γ1):aGO ta Γ Q:=h
theorem aO6 {Q:D→En→Prop}(h:ta Γ fun c Γ1=>if c=true then ma Γ1 Q else mb Γ1 Q):aO0 ta ma mb Γ Q:=h
theorem aM2 {Q:Rv→En→Prop}(h:ta Γ fun c Γ1=>if c=true then oa Γ1 Q else ob Γ1 Q):aNK ta oa ob Γ Q:=h
theorem aMJ {Q:List D→En→Prop}(h:Q [] Γ):fU Γ Q:=h
theorem aKQ {Q:List D→En→Prop}(h:ma Γ fun x Γ1=>md Γ1 fun xs Γ2=>Q (x::xs) Γ2):bG ma md Γ Q:=h
theorem aLM {Q:List Sl→En→Prop}(h:Q [] Γ):c7 Γ Q:=h
theorem aJY {Q:List Sl→En→Prop}(h:ma Γ fun x Γ1=>aa Γ1 fun xs Γ2=>Q (.val x::xs) Γ2):bC ma aa Γ Q:=h
theorem aK0 {Q:List Sl→En→Prop}(h0:Γ[i]?=some .pen)(h:aa Γ fun xs Γ2=>Q (.pen::xs) Γ2):q8 i aa Γ Q:=by
 unfold q8;rw[h0];exact h
theorem aO8 {Q:D→En→Prop}(h:md Γ fun ds Γ1=>ds.length≤1000∧Q (.tuple ds) Γ1):qC md Γ Q:=h
theorem aM3 {Q:Rv→En→Prop}(h:md Γ fun ds Γ1=>ds.length≤1000∧Q (.own ds) Γ1):vG md Γ Q:=h
theorem aPI {Q:D→En→Prop}(h:ma Γ fun x Γ1=>mb Γ1 fun y Γ2=>oQ (ixD x y) fun d=>Q d Γ2):mIx ma mb Γ Q:=h
theorem aNH {Q:D→En→Prop}(h:ma Γ fun x Γ1=>oQ (aHM x) fun d=>Q d Γ1):a09 ma Γ Q:=h
theorem aMP {s:String}{Q:D→En→Prop}(h:ma Γ fun x Γ1=>Q (.bool (aDW (q9 x) s)) Γ1):aI1 s ma Γ Q:=h
theorem aNB {Q:D→En→Prop}(h:oa Γ fun rv Γ1=>nbQ rv (Q rv.d Γ1)):bW oa Γ Q:=h
theorem aO3 {Q:Rv→En→Prop}(h:ma Γ fun d Γ1=>Q (.val d) Γ1):cO ma Γ Q:=h
theorem aJ9 {Q:Rv→En→Prop}{ds:List D}(h0:Γ[i]?=some (.own ds))(h:Q (.own ds) (Γ.set i .no)):sI i Γ Q:=by
 unfold sI;rw[h0];exact h
theorem aKE {f:Fm}{Q:Rv→En→Prop}(h:aa Γ fun as Γ1=>as.length=n∧f as fun rv=>Q rv Γ1):b8 n f aa Γ Q:=h
theorem aEA {Q:Rv→En→Prop}(h:ma Γ fun x Γ1=>match uX x with|some ds=>Q (.own ds) Γ1|none=>False):a2L ma Γ Q:=h
theorem aNI {Q:Rv→En→Prop}(h:ma Γ fun x Γ1=>mp Γ1 fun lo Γ2=>mq Γ2 fun hi Γ3=>match x with|.list ds=>Q (.own (cutD ds lo hi)) Γ3|_=>False):aLR ma mp mq Γ Q:=h
theorem aN9 {Q:Option Int→En→Prop}(h:Q none Γ):pNo Γ Q:=h
theorem aMO {Q:Option Int→En→Prop}(h:ma Γ fun x Γ1=>match x with|.int i=>Q (some i) Γ1|_=>False):pSo ma Γ Q:=h
theorem aME {Q:Rv→En→Prop}(h:ma Γ fun x Γ1=>mb Γ1 fun y Γ2=>match x,y with|.list ds,.list es=>ds.length+es.length≤1000∧Q (.own (ds++es)) Γ2|_,_=>False):aIS ma mb Γ Q:=h
theorem aPF {neg:Bool}{Q:D→En→Prop}(h:ma Γ fun x Γ1=>mb Γ1 fun y Γ2=>match uX y with|some ds=>Good x∧Goods ds∧Q (.bool (if neg then !(ds.any fun e=>PyData.eqv e x) else ds.any fun e=>PyData.eqv e x)) Γ2|none=>False):mIn neg ma mb Γ Q:=h
theorem aKD {Q:D→En→Prop}(h:ma (zR Γ) fun d Γ1=>qD d=true∧Γ1=zR Γ∧Q d Γ):aC3 ma Γ Q:=h
theorem aIL {Q:Bool→En→Prop}(h:ta (zR Γ) fun b Γ1=>Γ1=zR Γ∧Q b Γ):xN ta Γ Q:=h
theorem aGZ {Q:Rv→En→Prop}(h:oa (zR Γ) fun rv Γ1=>jA (match rv with|.val d=>[d]|.own ds=>ds|.box _=>[.list []])=true∧Γ1=zR Γ∧Q rv Γ):a3S oa Γ Q:=h
theorem aNY {Q:List D→En→Prop}(h:ma Γ fun x Γ1=>match x with|.list ds=>Q ds Γ1|_=>False):a5V ma Γ Q:=h
theorem aK1 {Q:List D→En→Prop}(h:md Γ fun ds Γ1=>match ds with|[.int j] => -(2^62)≤j∧j<2^62∧Q (nM 0 j.toNat) Γ1|_=>False):aD4 md Γ Q:=h
theorem aL1 {Q:List D→En→Prop}(h:md Γ fun ds Γ1=>match ds with|[.int i,.int j]=>(-(2^62)≤i∧i<2^62 ∧ -(2^62)≤j∧j<2^62)∧Q (nM i (j-i).toNat) Γ1|_=>False):aHF md Γ Q:=h
theorem aPR {Q:En→Prop}(h:Q (Γ.set i (.val d))):gN i d Γ Q:=h
theorem aPB {Q:En→Prop}{ds:List D}(hl:ds.length=n)(h:gs ds Γ Q):gT n gs (.tuple ds) Γ Q:=⟨hl,h⟩
theorem aHC {Q:En→Prop}(h:Q Γ):aF4 [] Γ Q:=h
theorem aEU {Q:En→Prop}{ds:List D}(h:g d Γ fun Γ1=>gs ds Γ1 Q):a0S g gs (d::ds) Γ Q:=h
theorem lD {k:Nat}{as:List Sl}{Q:Rv→Prop}(h:sa (as++List.replicate k .no) fun fl=>match fl with|.rt rv=>Q rv|.nx _=>Q (.val .none)|_=>False):mFn k sa as Q:=h
theorem cB {o:Option D}{k:D→Prop}(h0:o=some d)(h:k d):oQ o k:=by rw[h0]; exact h
theorem fG {m:Int}{Q:Rv→Prop}(h1:0<m)(h2:m<1073741824)(h:∀ r:Int,0≤r→r<m→Q (.val (.int r))):aFE [.pen,.val (.int m)] Q:=⟨h1,h2,h⟩
structure KOk (I:En→Prop)(Q K:Fl→Prop):Prop where
 nx:∀ Γ,I Γ→K (.nx Γ)
 ct:∀ Γ,I Γ→K (.ct Γ)
 bk:∀ Γ,Q (.nx Γ)→K (.bk Γ)
 rt:∀ rv,Q (.rt rv)→K (.rt rv)
theorem iW {ds:List D}{Q:Fl→Prop}(I:Nat→En→Prop)(h0:I 0 Γ)(hs:∀ i d Γ K,ds[i]?=some d→I i Γ→KOk (I (i+1)) Q K→g d Γ fun Γ1=>sa Γ1 K)(he:∀ Γ,I ds.length Γ→Q (.nx Γ)):forL g sa ds Γ Q:=by
 have aux:∀(es:List D) (k:Nat) (Γ:En),(∀ i d,es[i]?=some d→ds[k+i]?=some d)→k+es.length=ds.length→I k Γ→forL g sa es Γ Q:=by
  intro es
  induction es with
  | nil=>intro k Γ _ hl hi; exact he Γ (by rw[← hl]; simpa using hi)
  | cons d es ih=>
   intro k Γ hd hl hi;have next:∀ Γ2,I (k+1) Γ2→forL g sa es Γ2 Q:=fun Γ2 h3=>ih (k+1) Γ2 (fun i e he'=>by
    have:=hd (i+1) e (by simpa using he');rw[show k+1+i=k+(i+1) by omega]; exact this) (by rw[← hl,List.length_cons]; omega) h3
   exact hs k d Γ _ (by simpa using hd 0 d rfl) hi ⟨next,next,fun _ h=>h,fun _ h=>h⟩
 exact aux ds 0 Γ (fun i d h=>by simpa using h) (by simp) h0
theorem sY {lo:Int}{n:Nat}{Q:Fl→Prop}(I:Nat→En→Prop)(h0:I 0 Γ)(hs:∀ i Γ K,i<n→I i Γ→KOk (I (i+1)) Q K→g (.int (lo+i)) Γ fun Γ1=>sa Γ1 K)(he:∀ Γ,I n Γ→Q (.nx Γ)):forL g sa (nM lo n) Γ Q:=by
 have hl:(nM lo n).length=n:=by simp[nM]
 refine iW I h0 (fun i d Γ K e hi hk=>?_) (by rw[hl]; exact he);have hi':i<n:=by have:=(List.getElem?_eq_some_iff.mp e).1; omega
 unfold nM at e;rw[List.getElem?_map,List.getElem?_range hi'] at e
 cases e
 exact hs i Γ K hi' hi hk
theorem xK {Q:Fl→Prop}(I:Nat→En→Prop)(m0:Nat)(h0:I m0 Γ)(hs:∀ m Γ,I m Γ→ta Γ fun k Γ1=>if k=true then sa Γ1 fun fl=>match fl with
  | .nx Γ2=>∃ n',n'<m∧I n' Γ2
  | .ct Γ2=>∃ n',n'<m∧I n' Γ2
  | .bk Γ2=>Q (.nx Γ2)
  | .rt rv=>Q (.rt rv)
 else Q (.nx Γ1)):a3P ta sa Γ Q:=⟨I,⟨m0,h0⟩,hs⟩
end
theorem aM0 {A B:Prop}(h:B):if (!true)=true then A else B:=u6 h
theorem aM7 {A B:Prop}(h:A):if (!false)=true then A else B:=uV h
theorem good_int (i:Int):Good (.int i):=⟨rfl,by show 0≤60; decide⟩
theorem aHO (i j:Int):PyData.eqv (.int i) (.int j)=decide (i=j):=by
 show(i==j)=_
 exact Bool.beq_eq_decide_eq i j
section
variable {P:D→Prop}{Γ:En}{Q:D→En→Prop}
end
def Gd (n:Nat)(d:D):Prop:=d.canLay0=true∧d.depth≤n
theorem Gd.good {n:Nat}{d:D}(h:Gd n d)(hn:n≤60:=by decide):Good d:=⟨h.1,Nat.le_trans h.2 hn⟩
theorem Gd.mono {n m:Nat}{d:D}(h:Gd n d)(hn:n≤m:=by decide):Gd m d:=⟨h.1,Nat.le_trans h.2 hn⟩
theorem gds {n:Nat}:∀{ds:List D},(∀ d∈ds,Gd n d)→PyData.canLayAll0 ds=true∧PyData.depthAll ds≤n
 | [],_=>⟨rfl,Nat.zero_le _⟩
 | d::ds,h=>by
  have h1:=h d List.mem_cons_self;have h2:=gds (ds:=ds) fun e he=>h e (List.mem_cons_of_mem _ he);refine⟨by show(d.canLay0&&PyData.canLayAll0 ds)=true; rw[h1.1,h2.1]; rfl,?_⟩;show max d.depth (PyData.depthAll ds)≤n;exact Nat.max_le.mpr ⟨h1.2,h2.2⟩
theorem a5F {n:Nat}{ds:List D}(h:∀ d∈ds,Gd n d):Gd (n+1) (.tuple ds):=⟨(gds h).1,Nat.succ_le_succ (gds h).2⟩
theorem a7X {n:Nat}{ds:List D}(h:∀ d∈ds,Gd n d):Gd (n+1) (.list ds):=⟨(gds h).1,Nat.succ_le_succ (gds h).2⟩
theorem aEJ {n:Nat}{ds:List D}(h:∀ d∈ds,Gd n d)(hn:n≤59:=by decide):Goods ds:=⟨(gds h).1,Nat.le_trans (gds h).2 hn⟩
theorem a0K (i:Int):Gd 0 (.int i):=⟨rfl,Nat.le_refl _⟩
theorem gd_none:Gd 0 .none:=⟨rfl,Nat.le_refl _⟩
theorem a7W (s:Str)(h:(PyData.str s).canLay0=true:=by decide +kernel):Gd 0 (.str s):=⟨h,Nat.le_refl _⟩
theorem good_str (s:Str)(h:(PyData.str s).canLay0=true:=by decide +kernel):Good (.str s):=(a7W s h).good
theorem v5 (q:Rat):Gd 1 (bT q):=a5F (n:=0) fun d h=>by
 rcases List.mem_cons.mp h with rfl|h
 ·exact a0K _
 ·rw[List.mem_singleton.mp h]; exact a0K _
theorem mZ {d:D}(h:Good d):PyData.eqv d d=true:=SeqAt.eqv_refl d h.lay
theorem isT {d:D}{n:String}{A B:Prop}(h:aDW (q9 d) n=true)(a:A):if aDW (q9 d) n=true then A else B:=by rw[h]; exact uV a
theorem aPV {d:D}{n:String}{A B:Prop}(h:aDW (q9 d) n=true)(b:B):if (!aDW (q9 d) n)=true then A else B:=by rw[h]; exact u6 b
theorem aGV (q:Rat):ixD (bT q) (.int 0)=some (.int q.num):=rfl
theorem aHP (q:Rat):ixD (bT q) (.int 1)=some (.int (q.den:Int)):=rfl
theorem aEG (l:Rat×Rat):ixD (fM l) (.int 0)=some (bT l.1):=rfl
theorem aF6 (l:Rat×Rat):ixD (fM l) (.int 1)=some (bT l.2):=rfl
end L2.VS
namespace L2
open PySem PySem.Spec PyProof.Rows
def a6I (env:Env):List (Str×NameKind)→List (Str×Addr)→List (Str×Addr)
 | [],cs=>cs
 | (n,k)::r,cs=>if (k==.free)=true then a6I env r ((n,(env.cells.lookup n).getD 0)::cs) else a6I env r cs
theorem aBO {env:Env}:∀(names:List (Str×NameKind)) (cs:List (Str×Addr)),(∀ y∈names,y.2=.free→∃ c,env.cells.lookup y.1=some c) →
  (forIn names cs fun(x:Str×NameKind) (r:List (Str×Addr))=>(do
   if (x.2==NameKind.free)=true then do
    let a←cellOf env x.1
    pure (ForInStep.yield ((x.1,a)::r))
   else pure (ForInStep.yield r):Sem (ForInStep (List (Str×Addr)))))=pure (a6I env names cs)
 | [],cs,_=>rfl
 | (n,k)::r,cs,h=>by
  have ih:=fun cs=>aBO (env:=env) r cs fun y hy=>h y (List.mem_cons_of_mem _ hy);rw[List.forIn_cons];unfold a6I
  by_cases hk:(k==NameKind.free)=true
  ·obtain⟨c,hc⟩:=h (n,k) List.mem_cons_self (by simpa using hk);have hc':env.cells.lookup n=some c:=hc;have e:cellOf env n=pure c:=by unfold cellOf; rw[hc']
   simp only[hk,if_true,e,hc',Option.getD_some];simp only[pure_bind];exact ih _
  ·have hk':(k==NameKind.free)=false:=by simpa using hk
   simp only[hk',Bool.false_eq_true,if_false,pure_bind];exact ih _
theorem aI3 {scope:Scope}{env:Env}(h:∀ y∈scope.names,y.2=.free→∃ c,env.cells.lookup y.1=some c):closureFor scope env=pure (a6I env scope.names []):=by
 have e:=aBO (env:=env) scope.names [] h;unfold closureFor;rw[← e];simp only[bind_pure]
theorem sW {env:Env}:∀(names:List (Str×NameKind)) (cs:List (Str×Addr)),(∀ y∈names,y.2=.free→∃ c,env.cells.lookup y.1=some c)→(∀ x c,cs.lookup x=some c→env.cells.lookup x=some c) →
  ∀ x c,(a6I env names cs).lookup x=some c→env.cells.lookup x=some c
 | [],cs,_,h=>h
 | (n,k)::r,cs,hf,h=>by
  have ih:=fun cs=>sW (env:=env) r cs fun y hy=>hf y (List.mem_cons_of_mem _ hy);unfold a6I
  by_cases hk:(k==NameKind.free)=true
  ·rw[if_pos hk];obtain⟨c0,hc⟩:=hf (n,k) List.mem_cons_self (by simpa using hk);have hc':env.cells.lookup n=some c0:=hc;refine ih _ fun x c e=>?_;rw[List.lookup_cons] at e
   cases hx:x==n with
   | true=>
    rw[hx,hc'] at e;have:x=n:=by simpa using hx
    rw[this,hc'];exact e
   | false=>rw[hx] at e; exact h x c e
  ·rw[if_neg hk];exact ih _ h
theorem wI {env:Env}:∀(names:List (Str×NameKind)) (cs:List (Str×Addr)) (x:Str),((∃ k,(x,k)∈names∧k=.free)∨(cs.lookup x).isSome=true)→((a6I env names cs).lookup x).isSome=true
 | [],cs,x,h=>by
  rcases h with⟨k,hm,_⟩|h
  ·cases hm
  ·exact h
 | (n,k)::r,cs,x,h=>by
  unfold a6I
  by_cases hk:(k==NameKind.free)=true
  ·rw[if_pos hk];refine wI r _ x ?_
   by_cases hx:x=n
   ·right
    rw[List.lookup_cons,hx];simp
   ·rcases h with⟨k',hm,hf⟩|h
    ·rcases List.mem_cons.mp hm with e|hm
     ·cases e; exact absurd rfl hx
     ·exact .inl ⟨k',hm,hf⟩
    ·right
     rw[List.lookup_cons];have:(x==n)=false:=by simpa using hx
     rw[this];exact h
  ·rw[if_neg hk];refine wI r _ x ?_;rcases h with⟨k',hm,hf⟩|h
   ·rcases List.mem_cons.mp hm with e|hm
    ·cases e; subst hf; exact absurd rfl hk
    ·exact .inl ⟨k',hm,hf⟩
   ·exact .inr h
theorem oK {env:Env}:∀{names:List (Str×NameKind)} {x:Str},(∀ y∈names,y.2≠.cell) →
    ((names.map fun(n,k)=>if (k==NameKind.free&&env.scope.kind==.function&&env.kindOf n==some .cell) then(n,NameKind.cell) else(n,k)).lookup x=some .cell ∨
     (names.map fun(n,k)=>if (k==NameKind.free&&env.scope.kind==.function&&env.kindOf n==some .cell) then(n,NameKind.cell) else(n,k)).lookup x=some .free)→(x,NameKind.free)∈names
  | [],_,_,h=>by simp at h
  | (n,k)::r,x,hc,h=>by
    have ih:=@oK env r x (fun y hy=>hc y (List.mem_cons_of_mem _ hy));have hk:k≠.cell:=hc (n,k) List.mem_cons_self;rw[List.map_cons] at h
    by_cases hf:(k==NameKind.free&&env.scope.kind==.function&&env.kindOf n==some .cell)=true
    · have kf:k=.free:=by
        have:=(Bool.and_eq_true _ _▸hf:_∧_).1;have:=(Bool.and_eq_true _ _▸this:_∧_).1;simpa using this
      simp only[hf,if_true] at h;rw[List.lookup_cons] at h
      cases hx:x==n with
      | true=>
        have:x=n:=by simpa using hx
        subst this; subst kf;exact List.mem_cons_self
      | false=>rw[hx] at h; exact List.mem_cons_of_mem _ (ih h)
    · simp only[hf,Bool.false_eq_true,if_false] at h;rw[List.lookup_cons] at h
      cases hx:x==n with
      | true=>
        have:x=n:=by simpa using hx
        subst this;rw[hx] at h;rcases h with h|h
        · exact absurd (Option.some.inj h) hk
        · have:k=.free:=Option.some.inj h;subst this;exact List.mem_cons_self
      | false=>rw[hx] at h; exact List.mem_cons_of_mem _ (ih h)
def n8 (X:Cx)(N:List Str)(scope:Scope)(C:Addr)(s₀:Shared)(H₀:Hp)(ex:List Addr):Cx where
 prog:=X.prog
 w:=X.w
 K:=X.K
 mg:=X.mg
 base:=X.base
 A:=X.A
 N:=N
 s₀:=s₀
 H₀:=H₀
 env:=compEnvC scope (a6I X.env scope.names []) C X.env
 outer:=X.stack
 stack:=X.stack
 ex:=ex
 fn:=fun _=>false
 calm:=X.calm
 pn:=[]
 xe:=fun _ _=>False
def blk (nt:Nat)(fv:List Nat)(σ:St):St:=List.replicate nt none++fv.map fun j=>(σ[j]?).getD none
def aLJ (nt:Nat)(fv:List Nat)(wi:TI)(g:TG)(ti:TT)(te:TE):TE:=fun σ H Q=>wi σ H fun J H1=>∃ W:Nat→Nat→List V→Hp→Prop,(∃ m,W 0 m [] H1)∧∀ i m ys H,W i m ys H →
 (J.stop i H∧ys.length≤sizeLine∧∀ p,H p=none→Q (.ref p) (upd H p (.lst ys))) ∨
 (J.go i H∧ys.length≤sizeLine∧∀ x H',J.yld i H x H'→g x (blk nt fv σ) H' fun σ2 H2=>(∀ i,nt≤i→σ2[i]?=(blk nt fv σ)[i]?)∧ti σ2 H2 fun b H3=>if b=true then te σ2 H3 fun v H4=>∃ m',m'<m∧W (i+1) m' (ys++[v]) H4 else ∃ m',m'<m∧W (i+1) m' ys H3)
def PTs (X:Cx)(cs:List Expr)(t:TT):Prop:=
 ∀(pins:List (Addr×Obj)) (s:Shared) (σ:St) (H:Hp) (Q:Bool→Hp→Prop),Inv X pins σ H s→t σ H Q →
  wpAny (model X.prog X.w) X.A (forIn cs true fun c r=>if r=true then do let ok←isTrue c X.env (eval c X.env); pure (ForInStep.yield ok) else pure (ForInStep.yield r)) (TP X pins σ Q) X.xe s
def aKL:TT:=fun _ H Q=>Q true H
theorem aHR {X:Cx}:PTs X [] aKL:=fun _ _ _ H _ I h=>wpAny_tests_nil ⟨H,I,h⟩
theorem aBZ {X:Cx}{c:Expr}{t:TT}(h:PT X c t):PTs X [c] t:=fun pins s σ H Q I hq=>wpAny_tests_one (h pins s σ H Q I hq)
structure BlkOk (X:Cx)(N:List Str)(scope:Scope)(nt:Nat)(fv:List Nat):Prop where
 kind:scope.kind=.function
 ncell:∀ y∈scope.names,y.2≠.cell
 names:∀ y∈scope.names,y.2=.local→scope.names.lookup y.1=some .local
 free:∀ y∈scope.names,y.2=.free→X.env.kindOf y.1=some .cell
 len:N.length=nt+fv.length
 fv:∀ i x,N[nt+i]?=some x→∃ j,fv[i]?=some j∧X.N[j]?=some x∧X.env.kindOf x=some .cell∧(relabel scope X.env).names.lookup x=some .cell
section
variable {X:Cx}{N:List Str}{scope:Scope}{nt:Nat}{fv:List Nat}{pins:List (Addr×Obj)}{σ:St}{H:Hp}{s:Shared}
theorem BlkOk.cells (B:BlkOk X N scope nt fv)(I:Inv X pins σ H s):∀ y∈scope.names,y.2=.free→∃ c,X.env.cells.lookup y.1=some c:=fun y hy hf=>I.ok.has y.1 (.inl (B.free y hy hf))
theorem aKV (B:BlkOk X N scope nt fv)(I:Inv X pins σ H s){C:Addr}{fp:List Addr}(hC:s.heap.objs.size≤C)(hf:∀ b∈fp,aA5 X pins H b)(hlt:∀ b∈fp,b<s.heap.objs.size) :
  (n8 X N scope C s H fp).Ok:=by
 have sub:∀ x c,(a6I X.env scope.names []).lookup x=some c→X.env.cells.lookup x=some c:=sW _ _ (B.cells I) (fun x c e=>by simp at e);refine⟨I.ok.mod,B.kind,I.ok.glob,I.ok.blt,hC,fun x y c e1 e2=>I.ok.inj x y c (sub x c e1) (sub y c e2),fun x hx=>?_,fun x c h=>absurd h (by show ¬(false=true); decide),I.ok.hd,I.ok.frames,.inl rfl,fun b hb=>⟨?_,fun x c e=>?_⟩,I.bs,Nat.le_trans I.ok.bsz I.sz,fun b o e hb=>?_,fun b hb z=>?_,I.stack,I.stkFree⟩
 ·have hm:(x,NameKind.free)∈scope.names:=oK B.ncell hx;exact Option.isSome_iff_exists.mp (wI scope.names [] x (.inl ⟨_,hm,rfl⟩))
 ·exact Nat.ne_of_lt (Nat.lt_of_lt_of_le (hlt b hb) hC)
 ·exact(hf b hb).2.2.2.2.1 x c (sub x c e)
 ·rcases(hf b hb).2.2.2.1 with z|z
  ·exact I.ok.noex b o e z
  ·exact absurd (Nat.lt_of_lt_of_le (Heap.lt_size e) (Nat.le_trans I.ok.bsz z)) (Nat.lt_irrefl _)
 ·rcases List.mem_cons.mp (I.stkSub b z) with z|z
  ·exact(hf b hb).2.1 z
  ·exact(hf b hb).2.2.1 z
theorem aBX (B:BlkOk X N scope nt fv)(I:Inv X pins σ H s){C:Addr}{fp:List Addr}(hC:s.heap.objs.size≤C)(hf:∀ b∈fp,aA5 X pins H b)(hlt:∀ b∈fp,b<s.heap.objs.size){h':Heap}{tk:Nat}
  (k:∀ b o,s.heap.get? b=some o→h'.get? b=some o) (hn:∃ m,h'.Ns C m):Inv (n8 X N scope C s H fp) [] (blk nt fv σ) H { s with heap:=h',toks:=tk }:=by
 have sub:∀ x c,(a6I X.env scope.names []).lookup x=some c→X.env.cells.lookup x=some c:=sW _ _ (B.cells I) (fun x c e=>by simp at e);obtain⟨m,hn⟩:=hn;refine⟨aKV B I hC hf hlt,rfl,I.bare,Un.kept k,⟨m,hn,fun i x v e1 e2 e3=>?_⟩,fun x c e=>?_,I.hok.fresh hC,fun x c e=>I.freeC x c (sub x c e),fun p hp=>(nomatch hp),I.hok.kept k,?_⟩
 ·have hi:nt≤i:=by
   refine Nat.le_of_not_lt fun hlt=>?_;unfold blk at e2;rw[List.getElem?_append_left (by simpa using hlt),List.getElem?_replicate] at e2
   split at e2<;>cases e2
  obtain⟨j,hj⟩:∃ j,i=nt+j:=⟨i-nt,by omega⟩;subst hj;obtain⟨o,f1,f2,f3,f4⟩:=B.fv j x e1;unfold blk at e2;rw[List.getElem?_append_right (by simp),List.length_replicate,Nat.add_sub_cancel_left,List.getElem?_map,f1] at e2;have e2':(σ[o]?).getD none=some v:=Option.some.inj e2;have e4:σ[o]?=some (some v):=by
   cases q:σ[o]? with
   | none=>rw[q] at e2'; cases e2'
   | some z=>rw[q] at e2'; exact congrArg some e2'
  obtain⟨m0,hn0,hl⟩:=I.loc;obtain⟨u,ru,lk⟩:=hl o x v f2 e4 (.inr (.inl f3));refine⟨u,ru,.inr ⟨.inl f4,?_⟩⟩;rcases lk with⟨z,_⟩|⟨_,c,hc,hcell⟩
  ·rw[f3] at z; cases z
  ·have hm:(x,NameKind.free)∈scope.names:=oK B.ncell (.inl f4);obtain⟨c',hc'⟩:=Option.isSome_iff_exists.mp (wI (env:=X.env) scope.names [] x (.inl ⟨_,hm,rfl⟩));have:=sub x c' hc';rw[hc] at this
   cases this
   obtain⟨oc,h1,h2⟩:=hcell;exact⟨c,hc',oc,k c oc h1,h2⟩
 ·obtain⟨v,oc,h1,h2⟩:=I.cell x c (sub x c e);exact⟨v,oc,k c oc h1,h2⟩
 ·show(blk nt fv σ).length=N.length
  unfold blk;rw[List.length_append,List.length_replicate,List.length_map];exact B.len.symm
end
section
variable {prog:Program}{w:World}{A:Around}{R:Result→Shared→Prop}{s:Shared}
theorem a3E {elt target iter:Expr}{ifs:List Expr}{scope:Scope}{pos:Pos}{it acc:Value}{env:Env}(I:Nat→Shared→Prop)
  (turn:∀ n s,I n s→wpAny (model prog w) A (pyNext it) (fun r s₁=>match r with
   | none=>R (.ok .next) s₁
   | some v=>wpAny (model prog w) A (letOwnedTupleGo target it v) (fun _ s₁'=>wpAny (model prog w) A (assign target env v) (fun _ s₂=>
     wpAny (model prog w) A (forIn ifs true fun c r=>if r=true then do let ok←isTrue c env (eval c env); pure (ForInStep.yield ok) else pure (ForInStep.yield r)) (fun ok s₃=>
      if ok=true then wpAny (model prog w) A (eval elt env) (fun x s₄=>
       wpAny (model prog w) A (call (.builtin "list.append") [acc,x]) (fun _ s₅=>∃ m,m<n∧I m s₅) (fun _ _=>False) s₄) (fun _ _=>False) s₃
      else ∃ m,m<n∧I m s₃) (fun _ _=>False) s₂) (fun _ _=>False) s₁') (fun _ _=>False) s₁) (fun _ _=>False) s)
  (n:Nat) (h:I n s) :
  codeAny (model prog w) A (.compLoop (.ListComp elt [⟨target,iter,ifs,0⟩] scope pos) 0 it acc env) R s:=by
 refine codeAny_loop rfl I (fun n s hI=>?_) n h;show wpAny _ A ((compTurn (.ListComp elt [⟨target,iter,ifs,0⟩] scope pos) 0 it acc env).onRaise (fun x=>do noteFrame x env; theTreesLotGoes x)) _ _ s;refine wpAny_noted ?_;rw[compTurn_list];refine wpAny_bind (wpAny_standAt (wpAny_bind (wpAny_mono (turn n s hI) (fun r s₁ h₁=>?_) fun _ _ f=>f.elim)))
 cases r with
 | none=>exact wpAny_pure h₁
 | some v=>
  refine wpAny_bind (wpAny_mono h₁ (fun _ s₁' h₁'=>?_) fun _ _ f=>f.elim);refine wpAny_bind (wpAny_mono h₁' (fun _ s₂ h₂=>wpAny_bind (wpAny_mono h₂ (fun ok s₃ h₃=>?_) fun _ _ f=>f.elim)) fun _ _ f=>f.elim)
  cases ok with
  | false=>exact wpAny_pure ⟨rfl,h₃⟩
  | true=>
   exact wpAny_bind (wpAny_bind (wpAny_mono h₃ (fun x s₄ h₄=>wpAny_bind (wpAny_mono h₄ (fun _ s₅ h₅=>wpAny_pure (wpAny_pure ⟨rfl,h₅⟩)) fun _ _ f=>f.elim)) fun _ _ f=>f.elim))
end
end L2
namespace L2
open PySem PySem.Spec PyProof.Rows
section
variable {X:Cx}{N:List Str}{scope:Scope}{nt:Nat}{fv:List Nat}{elt tg iter:Expr}{ifs:List Expr}{wi:TI}{g:TG}{ti:TT}{te:TE}{pos:Pos}
def wX (its:List Value)(n:Nat):Obj:={ cls:=.type "list", dict:=none,data:=.seq its.toArray n }
theorem aF2 (hc:X.calm=true)(B:BlkOk X N scope nt fv)
  (hg:∀ C s₀ H₀ ex,PG (n8 X N scope C s₀ H₀ ex) tg g) (ht:∀ C s₀ H₀ ex,PTs (n8 X N scope C s₀ H₀ ex) ifs ti) (he:∀ C s₀ H₀ ex,PE (n8 X N scope C s₀ H₀ ex) elt te)
  {pins:List (Addr×Obj)} {σ:St} {s2:Shared} {H2:Hp} {it:Addr} {fp:List Addr} {tn:Nat→Heap→Prop} {J:It} (I2:Inv X pins σ H2 s2) (T:Turn X.prog X.w X.K tg J fp it tn) (st2:tn 0 s2.heap) (f2:∀ b∈fp,aA5 X pins H2 b)
  {W:Nat→Nat→List V→Hp→Prop} {m0:Nat} (w0:W 0 m0 [] H2) {Q:VK}
  (turn:∀ i m ys H,W i m ys H→(J.stop i H∧ys.length≤sizeLine∧∀ p,H p=none→Q (.ref p) (upd H p (.lst ys))) ∨
   (J.go i H∧ys.length≤sizeLine∧∀ x H',J.yld i H x H'→g x (blk nt fv σ) H' fun σ2 H2=>(∀ i,nt≤i→σ2[i]?=(blk nt fv σ)[i]?)∧ti σ2 H2 fun b H3=>if b=true then te σ2 H3 fun v H4=>∃ m',m'<m∧W (i+1) m' (ys++[v]) H4 else ∃ m',m'<m∧W (i+1) m' ys H3))
  {RR:Value→Addr→Result→Shared→Prop}
  (hR:∀ D C s',s2.heap.objs.size≤C→(∃ m,s'.heap.Ns C m)→(∀ h',Heap.SameBut C s'.heap h'→∃ H',Inv X pins σ H' { s' with heap:=h' }∧H' C=none∧Q (.ref D) H')→RR (.ref D) C (.ok .next) s') :
  wpAny (model X.prog X.w) X.A (newList []) (fun acc s₃=>wpAny (model X.prog X.w) X.A (newFunctionEnv scope X.env.globals (a6I X.env scope.names []) [] X.env.qual none .none (some X.env)) (fun cenv s₄=>
   codeAny (model X.prog X.w) X.A (.compStart (.ListComp elt [⟨tg,iter,ifs,0⟩] scope pos) 0 (.ref it) acc { cenv with scope:=relabel scope X.env }) (RR acc cenv.locals) s₄) X.xe s₃) X.xe s2:=by
 refine wpAny_newObj_type (wpAny_newFunctionEnv B.ncell (by intro y hy; simp at hy) (fun h₁ hns₁ hsb₁=>?_) B.kind);dsimp only at hns₁ hsb₁ ⊢;generalize hH2:s2.heap.push { cls:=.type "list", dict:=none,data:=.seq ([]:List Value).toArray }=Hh at hns₁ hsb₁ ⊢;have hC:Hh.objs.size=s2.heap.objs.size+1:=by rw[← hH2,Heap.size_push]
 have hDC:s2.heap.objs.size≠Hh.objs.size:=by rw[hC]; exact Nat.ne_of_lt (Nat.lt_succ_self _)
 have hCle:s2.heap.objs.size≤Hh.objs.size:=by rw[hC]; exact Nat.le_succ _
 have below:∀ b,b<s2.heap.objs.size→b≠Hh.objs.size∧b≠s2.heap.objs.size:=fun b hb=>⟨by rw[hC]; exact Nat.ne_of_lt (Nat.lt_succ_of_lt hb),Nat.ne_of_lt hb⟩;have old:∀ b o,s2.heap.get? b=some o→h₁.get? b=some o:=fun b o e=>hsb₁.extBut b o (below b (Heap.lt_size e)).1 (Heap.get?_push_of_some _ (hH2▸Heap.get?_push_of_some _ e));have hacc:h₁.get? s2.heap.objs.size=some (wX [] 0):=hsb₁.extBut _ _ hDC (Heap.get?_push_of_some _ (hH2▸Heap.get?_push_size _ rfl));have flt:∀ b∈fp,b<s2.heap.objs.size:=fun b hb=>by obtain⟨o,e,_⟩:=T.obj 0 _ st2 b hb; exact Heap.lt_size e
 have fresh:∀ a,s2.heap.objs.size≤a→s2.heap.get? a=none:=fun a ha=>by
  cases e:s2.heap.get? a with
  | none=>rfl
  | some o'=>exact absurd (Heap.lt_size e) (Nat.not_lt.mpr ha)
 have ftk:∀{H':Hp} {pl:List (Addr×Obj)},(∀ b∈fp,H' b=none)→(∀ p∈pl,p.1∉fp)→∀ b∈fp,aA5 (n8 X N scope Hh.objs.size s2 H2 fp) pl H' b:=fun{H' pl} hn hp b hb=>
  ⟨hn b hb,(below b (flt b hb)).1,fun z=>by
   rcases List.mem_cons.mp (I2.stkSub b z) with z|z
   ·exact(f2 b hb).2.1 z
   ·exact(f2 b hb).2.2.1 z,.inl hb,fun x c e=>(f2 b hb).2.2.2.2.1 x c (sW _ _ (B.cells I2) (fun x c e=>by simp at e) x c e),fun p hp' z=>hp p hp' (z▸hb)⟩
 have Dfp:s2.heap.objs.size∉fp:=fun hm=>Nat.lt_irrefl _ (flt _ hm);have Dfs:s2.heap.objs.size∉frs X.stack:=fun z=>by
  rcases List.mem_cons.mp (I2.stkSub _ z) with z|z
  ·exact Nat.lt_irrefl _ (z▸I2.lt)
  ·exact I2.nofs (Nat.le_refl _) z
 have Dcell:∀ x c,(a6I X.env scope.names []).lookup x=some c→c≠s2.heap.objs.size:=fun x c e z=>by
  obtain⟨v,q⟩:=I2.cell x c (sW _ _ (B.cells I2) (fun x c e=>by simp at e) x c e);exact Nat.lt_irrefl _ (z▸q.lt)
 have Iblk:Inv (n8 X N scope Hh.objs.size s2 H2 fp) [] (blk nt fv σ) H2 { s2 with heap:=h₁,toks:=s2.toks+([]:List (Str×Value)).length }:=aBX B I2 hCle f2 flt old ⟨_,hns₁⟩;have pinD:∀{s':Shared} {H':Hp} {σ':St} {its:List Value} {n:Nat} {pl:List (Addr×Obj)},Inv (n8 X N scope Hh.objs.size s2 H2 fp) pl σ' H' s'→s'.heap.get? s2.heap.objs.size=some (wX its n)→H' s2.heap.objs.size=none →
   Inv (n8 X N scope Hh.objs.size s2 H2 fp) [(s2.heap.objs.size,wX its n)] σ' H' s':=fun I e hn=>I.pins_of fun p hp=>by
  rw[List.mem_singleton.mp hp];exact⟨e,hn,hDC,Dfs,fun v z=>by cases z⟩
 have loop:∀ s₃:Shared,s₃={ s2 with heap:=h₁,toks:=s2.toks+([]:List (Str×Value)).length } →
   codeAny (model X.prog X.w) X.A (.compLoop (.ListComp elt [⟨tg,iter,ifs,0⟩] scope pos) 0 (.ref it) (.ref s2.heap.objs.size) (compEnvC scope (a6I X.env scope.names []) Hh.objs.size X.env)) (RR (.ref s2.heap.objs.size) Hh.objs.size) s₃:=by
  rintro s₃ rfl;refine a3E (fun n s'=>∃ i ys its k H',Inv (n8 X N scope Hh.objs.size s2 H2 fp) [(s2.heap.objs.size,wX its k)] (blk nt fv σ) H' s'∧tn i s'.heap∧(∀ b∈fp,H' b=none)∧W i n ys H'∧Vals ys its) ?_ m0
   ⟨0,[],[],0,H2,pinD Iblk hacc (I2.hok.fresh (Nat.le_refl _)),T.keep _ _ _ st2 fun b _ o e=>old b o e,fun b hb=>(f2 b hb).1,w0,.nil⟩
  rintro n s' ⟨i,ys,its,k,H',I',st',fr',w',vs'⟩;obtain⟨pd,pn,_,_,_⟩:=I'.pin (s2.heap.objs.size,wX its k) (by exact List.mem_cons_self);have pfp:∀{o:Obj},∀ p∈[(s2.heap.objs.size,o)],p.1∉fp:=fun p hp=>by rw[List.mem_singleton.mp hp]; exact Dfp
  rcases turn i n ys H' w' with⟨stop,hz,q⟩|⟨go,hz,step⟩
  ·refine wpAny_mono (T.done (n8 X N scope Hh.objs.size s2 H2 fp) rfl rfl rfl hc i _ s' _ H' (fun _ _=>False) I' (ftk fr' pfp) st' stop) (fun r s1 ⟨hr,I1⟩=>?_) fun _ _ f=>f;subst hr;obtain⟨pd1,pn1,_,_,_⟩:=I1.pin (s2.heap.objs.size,wX its k) (by exact List.mem_cons_self);obtain⟨m,hm,_⟩:=I1.loc;refine hR _ _ s1 hCle ⟨m,hm⟩ fun h' sb=>⟨upd H' s2.heap.objs.size (.lst ys),?_,by rw[aY (Ne.symm hDC)]; exact I1.free,q _ pn1⟩;have keepT:∀ b u,H' b=some u→b≠Hh.objs.size:=fun b u e z=>by
    have e0:H' Hh.objs.size=none:=I1.free;rw[z,e0] at e
    cases e
   have kept:∀ b o,b≠Hh.objs.size→s1.heap.get? b=some o→h'.get? b=some o:=fun b o hb e=>sb.extBut b o hb e;have un:=I1.base;refine I2.call' (s':={ s1 with heap:=h' }) (ch:=fp) I1.os ⟨fun b o e hn hb hx=>?_,fun b o e hn hb hx=>?_,fun b o e hn hx=>?_,fun b o e hx=>?_,fun b xs e=>?_,fun b o u e=>?_,fun b ps e=>?_⟩ ?_ I1.bare fun b hb=>?_
   ·exact kept b o (below b (Heap.lt_size e)).1 (un.keep b o e hn hb hx)
   ·obtain⟨sl,e1⟩:=un.slot b o e hn hb hx;exact⟨sl,kept b _ (below b (Heap.lt_size e)).1 e1⟩
   ·rw[aY (below b (Heap.lt_size e)).2];exact un.free b o e hn hx
   ·obtain⟨o',e1⟩:=un.there b o e hx;exact⟨o',kept b o' (below b (Heap.lt_size e)).1 e1⟩
   ·have e1:=un.tups b xs e;rw[aY (bJ e1 pn1)];exact e1
   ·have e1:=un.frzs b o u e;rw[aY (bJ e1 pn1)];exact e1
   ·obtain⟨mo,e1⟩:=un.tbls b ps e;exact⟨mo,by rw[aY (bJ e1 pn1)]; exact e1⟩
   ·intro b u e
    by_cases hb:b=s2.heap.objs.size
    ·subst hb;rw[bA] at e
     cases e
     exact⟨hz,its,k,vs',kept _ _ hDC pd1⟩
    ·rw[aY hb] at e;refine(I1.hok b u e).stay (fun c v hc' q'=>kept c v ?_ q') (fun c q'=>by rw[aY (bJ q' pn1)]; exact q') fun c xs q'=>by rw[aY (bJ q' pn1)]; exact q'
     rcases hc' with z|z
     ·rw[z]; exact keepT b u e
     ·exact keepT c _ z
   ·exact⟨(f2 b hb).2.2.2.1,(f2 b hb).2.1,(f2 b hb).2.2.2.2.1,(f2 b hb).2.2.2.2.2⟩
  ·refine wpAny_mono (T.item (n8 X N scope Hh.objs.size s2 H2 fp) rfl rfl rfl hc i _ s' _ H' (fun _ _=>False) I' (ftk fr' pfp) st' go) (fun r s3 ⟨u,hr,h3⟩=>?_) fun _ _ f=>f;subst hr;refine wpAny_mono h3 (fun _ s4 ⟨x,H4,I4,r4,y4,st4,fr4⟩=>?_) fun _ _ f=>f;have I4':=I4.pinned (ftk fr4 pfp) (T.obj _ _ st4);refine wpAny_mono (hg Hh.objs.size s2 H2 fp _ s4 _ H4 x u _ I4' r4 (step x H4 y4)) (fun _ s5 ⟨σ5,H5,I5,x5,q5⟩=>?_) fun _ _ f=>f;refine wpAny_mono (ht Hh.objs.size s2 H2 fp _ s5 σ5 H5 _ I5 q5) (fun b s6 ⟨H6,I6,q6⟩=>?_) fun _ _ f=>f;have weak:∀{s':Shared} {H':Hp} {pl:List (Addr×Obj)},Inv (n8 X N scope Hh.objs.size s2 H2 fp) pl σ5 H' s'→Inv (n8 X N scope Hh.objs.size s2 H2 fp) pl (blk nt fv σ) H' s':=by
    intro s' H' pl I;refine I.weak ((aBX B I2 hCle f2 flt old ⟨_,hns₁⟩ (tk:=0)).len.trans I.len.symm) fun j v e=>?_
    by_cases hj:nt≤j
    ·rw[x5 j hj]; exact e
    ·unfold blk at e;rw[List.getElem?_append_left (by simpa using hj),List.getElem?_replicate] at e
     split at e<;>cases e
   have pnew:∀{s':Shared} {H':Hp} {σ':St},Inv (n8 X N scope Hh.objs.size s2 H2 fp) ([(s2.heap.objs.size,wX its k)]++a4E fp s4.heap) σ' H' s' →
     s'.heap.get? s2.heap.objs.size=some (wX its k)∧H' s2.heap.objs.size=none∧tn (i+1) s'.heap∧∀ b∈fp,H' b=none:=fun{s' H' σ'} I=>by
    obtain⟨p1,p2,_⟩:=I.pin (s2.heap.objs.size,wX its k) (by exact List.mem_cons_self);refine⟨p1,p2,T.keep _ _ _ st4 fun b hb o e=>(I.pin (b,o) (List.mem_append_right _ (List.mem_append_right _ (pU hb e)))).1,fun b hb=>?_⟩;obtain⟨o,e,d⟩:=T.obj _ _ st4 b hb;exact(I.pin (b,o) (List.mem_append_right _ (List.mem_append_right _ (pU hb e)))).2.1
   cases b with
   | false=>
    obtain⟨m',hm,w6⟩:=q6;obtain⟨p1,p2,p3,p4⟩:=pnew I6;exact⟨m',hm,i+1,ys,its,k,H6,weak (pinD I6 p1 p2),p3,p4,w6,vs'⟩
   | true=>
    refine wpAny_mono (he Hh.objs.size s2 H2 fp _ s6 σ5 H6 _ I6 q6) (fun v s7 ⟨y,H7,I7,r7,q7⟩=>?_) fun _ _ f=>f;obtain⟨m',hm,w7⟩:=q7;obtain⟨p1,p2,p3,p4⟩:=pnew I7;have hl:=vs'.length;refine wpAny_list_append_plain (l:=s2.heap.objs.size) (items:=its.toArray) ⟨k,p1⟩ (fun h8 pl8 sb8=>?_) (by rw[List.size_toArray]; omega);obtain⟨k8,e8⟩:=pl8;have e8':h8.get? s2.heap.objs.size=some (wX (its++[v]) k8):=by
     rw[e8];unfold wX;simp
    have I7':=(weak I7).pins_of (pins':=[]) fun p hp=>(nomatch hp);have I8:Inv (n8 X N scope Hh.objs.size s2 H2 fp) [] (blk nt fv σ) H7 { s7 with heap:=h8 }:=I7'.turned (t':=s7.toks) (it:=s2.heap.objs.size) (fun b o hb e=>(sb8.2 b hb).trans e) p2 hDC (.inr (Nat.le_refl _)) Dcell (fun p hp=>(nomatch hp));exact⟨m',hm,i+1,ys++[y],its++[v],k8,H7,pinD I8 e8' p2,T.keep _ _ _ p3 fun b hb o e=>(sb8.2 b (fun z=>Dfp (z▸hb))).trans e,p4,w7,vs'.append (.cons r7 .nil)⟩
 exact codeAny_compStart_list (loop _ rfl) (T.self X.A 0 _ _ _ (T.keep _ _ _ st2 fun b _ o e=>old b o e) (loop _ rfl))
theorem a0U (hc:X.calm=true)(B:BlkOk X N scope nt fv)(hi:PI X tg iter wi)
  (hg:∀ C s₀ H₀ ex,PG (n8 X N scope C s₀ H₀ ex) tg g) (ht:∀ C s₀ H₀ ex,PTs (n8 X N scope C s₀ H₀ ex) ifs ti) (he:∀ C s₀ H₀ ex,PE (n8 X N scope C s₀ H₀ ex) elt te)
  (hs:∀ x,foldedSetIterable iter X.env x=pure x:=by intro _; rfl):PE X (.ListComp elt [⟨tg,iter,ifs,0⟩] scope pos) (aLJ nt fv wi g ti te):=by
 intro pins s σ H Q I h;rw[eval_ListComp];refine wpAny_comprehension_free (use:=none) rfl hs (aI3 (B.cells I)) B.kind B.names (thn (hi pins s σ H _ I h) fun xv s1 h1=>thn h1 fun itv s2 h2=>?_);obtain⟨it,fp,tn,J,H2,rfl,I2,T,st2,f2,W,⟨m0,w0⟩,turn⟩:=h2;refine aF2 hc B hg ht he I2 T st2 f2 w0 turn (RR:=fun acc C=>compPost (model X.prog X.w) X.A X.xe none (EP X pins σ Q) acc C) fun D C s' hC hn hq=>?_;obtain⟨m,hm⟩:=hn;refine⟨m,hm,fun h' sb=>?_⟩;obtain⟨H',I',_,q'⟩:=hq h' sb;exact⟨.ref D,H',I',rfl,q'⟩
end
end L2
namespace L2
open PySem PySem.Spec PyProof.Rows
def aPC (scope osc:Scope):List (Str×NameKind):=scope.names.map fun(n,k)=>if (k==.free&&osc.kind==.function&&osc.names.lookup n==some .cell) then(n,.cell) else(n,k)
def aP8 (osc:Scope)(ON N:List Str)(scope:Scope)(nt:Nat)(fv:List Nat):Bool:=
 scope.kind==.function&&scope.names.all (fun y=>y.2 != .cell)&&scope.names.all (fun y=>y.2 != .local||scope.names.lookup y.1==some .local) &&
 scope.names.all (fun y=>y.2 != .free||osc.names.lookup y.1==some .cell)&&N.length==nt+fv.length &&
 (List.range fv.length).all fun i=>match N[nt+i]?,fv[i]? with
  | some x,some j=>ON[j]?==some x&&osc.names.lookup x==some .cell&&(aPC scope osc).lookup x==some .cell
  | _,_=>false
theorem aBV {X:Cx}{osc:Scope}{ON N:List Str}{scope:Scope}{nt:Nat}{fv:List Nat}(h:aP8 osc ON N scope nt fv=true)(e1:X.env.scope=osc:=by rfl)(e2:X.N=ON:=by rfl):BlkOk X N scope nt fv:=by
 subst e1 e2;unfold aP8 at h;simp only[Bool.and_eq_true,List.all_eq_true,Bool.or_eq_true,bne_iff_ne,ne_eq,beq_iff_eq] at h;obtain⟨⟨⟨⟨⟨h1,h2⟩,h3⟩,h4⟩,h5⟩,h6⟩:=h;refine⟨h1,h2,fun y hy e=>?_,fun y hy e=>?_,h5,fun i x e=>?_⟩
 ·rcases h3 y hy with z|z
  ·exact absurd e z
  ·exact z
 ·rcases h4 y hy with z|z
  ·exact absurd e z
  ·exact z
 ·have hi:i<fv.length:=by
   have:=(List.getElem?_eq_some_iff.mp e).1;omega
  have q:=h6 i (List.mem_range.mpr hi);rw[e,List.getElem?_eq_getElem hi] at q;simp only[Bool.and_eq_true,beq_iff_eq] at q;obtain⟨⟨q1,q2⟩,q3⟩:=q;exact⟨fv[i],List.getElem?_eq_getElem hi,q1,q2,q3⟩
end L2
namespace L2.VS
open PySem PySem.Spec PyProof.Rows
section
variable {P0:Addr→Hp→Prop}
def aHN:MT:=fun Γ Q=>Q true Γ
theorem aEK:VTT P0 aKL aHN:=fun _ _ _ _ _ _ _ r m k=>k _ _ _ _ m (Same.refl _) r
def aMM:Option Sl→Sl
 | some (.val d)=>.val d
 | some .pen=>.pen
 | some (.pub B)=>.pub B
 | _=>.no
def aGQ (nt:Nat)(fv:List Nat)(Γ:En):En:=List.replicate nt .no++fv.map fun j=>aMM Γ[j]?
def zK (g:MG)(t:MT)(e:ME)(Γb:En):List D→List D→(List D→Prop)→Prop
 | [],acc,Q=>Q acc
 | d::ds,acc,Q=>g d Γb fun Γ1=>t Γ1 fun b Γ2=>if b=true then e Γ2 fun v _=>zK g t e Γb ds (acc++[v]) Q else zK g t e Γb ds acc Q
def a9W (nt:Nat)(fv:List Nat)(mi:MD)(g:MG)(t:MT)(e:ME):MO:=fun Γ Q=>mi Γ fun ds Γ1=>ds.length≤1000∧zK g t e (aGQ nt fv Γ1) ds [] fun out=>Q (.own out) Γ1
theorem aLX {F:Fra P0}{Γ:En}{σ:St}{G H G' H':Hp}{nt:Nat}{fv:List Nat}(r:R F Γ σ G H)(rf:Rf (F.sub r.fr) G' H')(s:Same G G'):R (F.sub r.fr) (aGQ nt fv Γ) (blk nt fv σ) G' H':=by
 have at_:∀{i:Nat} {sl:Sl},(aGQ nt fv Γ)[i]?=some sl→sl≠.no→∃(j:Nat) (s0:Sl),Γ[j]?=some s0∧sl=aMM (some s0)∧(blk nt fv σ)[i]?=some ((σ[j]?).getD none):=by
  intro i sl e hn;unfold aGQ at e
  by_cases hi:i<nt
  ·rw[List.getElem?_append_left (by simpa using hi),List.getElem?_replicate] at e;rw[if_pos hi] at e
   cases e
   exact absurd rfl hn
  ·rw[List.getElem?_append_right (by simpa using hi),List.length_replicate,List.getElem?_map] at e
   cases ej:fv[i-nt]? with
   | none=>rw[ej] at e; cases e
   | some j=>
    rw[ej] at e;have e':aMM Γ[j]?=sl:=Option.some.inj e
    cases es:Γ[j]? with
    | none=>rw[es] at e'; exact absurd e'.symm hn
    | some s0=>
     rw[es] at e';refine⟨j,s0,es,e'.symm,?_⟩;unfold blk;rw[List.getElem?_append_right (by simpa using hi),List.length_replicate,List.getElem?_map,ej];rfl
 refine R.of rf (by simp[aGQ,blk]) (fun i sl e=>?_) (fun i B e=>?_) (fun i j x y _ e=>?_)
 ·cases sl with
  | no=>trivial
  | val d=>
   obtain⟨j,s0,h1,h2,h3⟩:=at_ e (by intro z; cases z)
   cases s0 with
   | val d0=>
    cases h2
    obtain⟨v,e1,d1⟩:=r.sl j _ h1;rw[e1] at h3;exact⟨v,h3,Dt.same s _ _ d1⟩
   | _=>cases h2
  | own ds=>
   obtain⟨j,s0,h1,h2,h3⟩:=at_ e (by intro z; cases z)
   cases s0<;>cases h2
  | pen=>
   obtain⟨j,s0,h1,h2,h3⟩:=at_ e (by intro z; cases z)
   cases s0 with
   | pen=>
    obtain⟨p,e1,e2⟩:=r.sl j _ h1;rw[e1] at h3;exact⟨p,h3,e2⟩
   | _=>cases h2
  | con q=>
   obtain⟨j,s0,h1,h2,h3⟩:=at_ e (by intro z; cases z)
   cases s0<;>cases h2
  | pub B=>
   obtain⟨j,s0,h1,h2,h3⟩:=at_ e (by intro z; cases z)
   cases s0 with
   | pub B'=>
    cases h2
    obtain⟨v,e1,e2⟩:=r.sl j _ h1;rw[e1] at h3;exact⟨v,h3,B.mono s e2⟩
   | _=>cases h2
  | box B=>
   obtain⟨j,s0,h1,h2,h3⟩:=at_ e (by intro z; cases z)
   cases s0<;>cases h2
 ·obtain⟨j,s0,h1,h2,h3⟩:=at_ e (by intro z; cases z)
  cases s0<;>cases h2
 ·obtain⟨j,s0,h1,h2,h3⟩:=at_ e (by intro z; cases z)
  cases s0<;>cases h2
theorem a5R {nt:Nat}{fv:List Nat}{wi:TI}{g:TG}{ti:TT}{te:TE}{mi:MD}{mg:MG}{mt:MT}{me:ME}(hi:VI P0 wi mi)(hg:VG P0 (fun i=>decide (i<nt)) g mg)(ht:VTT P0 ti mt)(he:VT P0 te me) :
  VO P0 (aLJ nt fv wi g ti te) (a9W nt fv mi mg mt me):=by
 intro F Γ σ G H Q Qm r m k;refine hi F Γ σ G H _ _ r m fun ds Γ1 J G1 H1 m1 s1 r1 wk=>?_;obtain⟨hsz,m1⟩:=m1;refine⟨fun i n ys H2=>n=ds.length-i∧i≤ds.length∧ys.length≤i∧∃ G2 out,Rf (F.sub r1.fr) G2 H2∧Same G1 G2∧Dts G2 ys out∧zK mg mt me (aGQ nt fv Γ1) (ds.drop i) out fun out=>Qm (.own out) Γ1,
  ⟨ds.length,by simp,Nat.zero_le _,Nat.zero_le _,G1,[],F.subRf r1.fr,Same.refl _,.nil,by simpa using m1⟩,?_⟩
 rintro i n ys H2 ⟨rfl,hle,hy,G2,out,rf2,s2,d2,m2⟩;have rb:=aLX (nt:=nt) (fv:=fv) r1 rf2 s2;obtain⟨go,stop⟩:=wk (F.sub r1.fr) _ _ G2 H2 s2 rb;have small:ys.length≤sizeLine:=pX (by omega)
 by_cases hlt:i<ds.length
 ·refine .inr ⟨(go i ds[i] (by simp[hlt])).1,small,fun x H' hyl=>?_⟩;obtain⟨G3,s3,r3,d3⟩:=(go i ds[i] (by simp[hlt])).2 x H' hyl;rw[List.drop_eq_getElem_cons hlt] at m2;refine hg (F.sub r1.fr) _ _ G3 H' x _ _ _ r3 d3 m2 fun Γ4 σ4 m4 r4 e4=>⟨fun j hj=>e4 j (decide_eq_false (by omega)),?_⟩;refine ht (F.sub r1.fr) _ _ G3 H' _ _ r4 m4 fun b Γ5 G5 H5 m5 s5 r5=>?_
  cases b with
  | true=>
   refine uV (he (F.sub r1.fr) _ _ G5 H5 _ _ r5 m5 fun d Γ6 v G6 H6 m6 s6 r6 d6=>?_);refine⟨ds.length-(i+1),by omega,rfl,hlt,by rw[List.length_append,List.length_singleton]; omega,G6,out++[d],r6.fr,((s2.trans s3).trans s5).trans s6,?_,m6⟩;exact(Dts.same ((s3.trans s5).trans s6) _ _ d2).app (.cons d6 .nil)
  | false=>
   refine u6 ?_;exact⟨ds.length-(i+1),by omega,rfl,hlt,by omega,G5,out,r5.fr,(s2.trans s3).trans s5,Dts.same (s3.trans s5) _ _ d2,m5⟩
 ·have e:i=ds.length:=by omega
  subst e;rw[List.drop_length] at m2;refine .inl ⟨stop,small,fun p hp=>?_⟩;obtain⟨r7,s7⟩:=r1.after rf2;obtain⟨a,b,c⟩:=oO r7 hp d2;exact k _ _ _ _ _ m2 (s1.trans s7) a b c
theorem aL0 {nt:Nat}{fv:List Nat}{mi:MD}{mg:MG}{mt:MT}{me:ME}{Γ:En}{Q:Rv→En→Prop}(h:mi Γ fun ds Γ1=>ds.length≤1000∧zK mg mt me (aGQ nt fv Γ1) ds [] fun out=>Q (.own out) Γ1):a9W nt fv mi mg mt me Γ Q:=h
theorem yG {α:Type}{mg:MG}{mt:MT}{me:ME}{Γb:En}(p:α→Bool)(f:α→D)(enc:α→D):∀(xs:List α) (acc:List D) (Q:List D→Prop),
  (∀ x∈xs,∀(K:List D→Prop) (k:D→Prop) (k0:Prop),(p x=true→k (f x))→(p x=false→k0)→mg (enc x) Γb fun Γ1=>mt Γ1 fun b Γ2=>if b=true then me Γ2 fun v _=>k v else k0) →
  Q (acc++(xs.filter p).map f)→zK mg mt me Γb (xs.map enc) acc Q
 | [],acc,Q,_,q=>by simpa [zK] using q
 | x::xs,acc,Q,h,q=>by
  show mg (enc x) Γb fun Γ1=>mt Γ1 fun b Γ2=>if b=true then me Γ2 fun v _=>zK mg mt me Γb (xs.map enc) (acc++[v]) Q else zK mg mt me Γb (xs.map enc) acc Q
  refine h x List.mem_cons_self Q (fun v=>zK mg mt me Γb (xs.map enc) (acc++[v]) Q) _ (fun hp=>?_) fun hp=>?_
  ·refine yG p f enc xs _ Q (fun y hy=>h y (List.mem_cons_of_mem _ hy)) ?_;simpa [List.filter_cons,hp,List.append_assoc] using q
  ·refine yG p f enc xs _ Q (fun y hy=>h y (List.mem_cons_of_mem _ hy)) ?_;simpa [List.filter_cons,hp] using q
end
end L2.VS
namespace L2
open PySem PySem.Spec PyProof.Rows
section
variable {X:Cx}
def aC2 (n:Nat)(x:Int):Nat:=if x<0 then(x+(n:Int)).toNat else min x.toNat n
def xM {α:Type}(xs:List α)(x:Int)(y:α):List α:=xs.take (aC2 xs.length x)++y::xs.drop (aC2 xs.length x)
theorem a8U {α:Type}(xs:List α)(x:Int)(y:α):(xM xs x y).length=xs.length+1:=by
 unfold xM;rw[List.length_append,List.length_cons,List.length_take,List.length_drop];omega
theorem Vals.ins {xs:List V}{us:List Value}(r:Vals xs us)(x:Int){y:V}{u:Value}(h:RelV y u):Vals (xM xs x y) (xM us x u):=by
 unfold xM;rw[r.length];exact(r.take _).append (.cons h (r.drop _))
def aB1:V→List V→Hp→VK→Prop:=fun x vs H Q=>∃ l xs i y,x=.ref l∧vs=[.int i,y]∧H l=some (.lst xs) ∧ -(2^63)≤i∧i<2^63∧xs.length<sizeLine∧Q .non (upd H l (.lst (xM xs i y)))
theorem a5I:MtM X "list.insert" aB1:=by
 intro pins s σ H x vs v us Q I rx rv h;obtain⟨l,xs,i,y,rfl,rfl,hH,h1,h2,hz,q⟩:=h
 cases rx
 obtain⟨u0,u,rfl,ru0,ru⟩:=rv.two;obtain⟨t,rfl⟩:=ru0;obtain⟨z,its,n,r,hl,e⟩:=I.lstM hH;have hf:Builtin.List.listFitsIndex i=true:=by
  unfold Builtin.List.listFitsIndex;rw[Bool.and_eq_true];exact⟨decide_eq_true h1,decide_eq_true h2⟩
 refine call_meets F.slot_list_insert ⟨_,e,rfl⟩ F.entry_list_insert (F.args_list_insert_3 _ _ _) (PySem.AutoSeq1.list_insert_list_int_val_1 l its.toArray n i t u (by simp[hf]) (by rw[List.size_toArray]; omega)) ⟨e,?_⟩;refine⟨.non,_,I.lset (its':=xM its i u) hH e ?_ (r.ins i ru) ?_,rfl,q⟩
 ·show(its.toArray.extract 0 (if i<0 then(i+(its.toArray.size:Int)).toNat else min i.toNat its.toArray.size)).push u++its.toArray.extract (if i<0 then(i+(its.toArray.size:Int)).toNat else min i.toNat its.toArray.size)=(xM its i u).toArray
  rw[List.size_toArray];unfold xM aC2;generalize (if i<0 then(i+(its.length:Int)).toNat else min i.toNat its.length)=k;apply Array.toList_inj.mp;simp;exact List.take_of_length_le (by simp)
 ·rw[a8U];omega
end
end L2
namespace L2.VS
open PySem PySem.Spec PyProof.Rows
section
variable {P0:Addr→Hp→Prop}
theorem _root_.L2.Dts.ins {G:Hp}{vs:List V}{ds:List D}(r:Dts G vs ds)(x:Int){y:V}{d:D}(h:Dt G y d):Dts G (xM vs x y) (xM ds x d):=by
 unfold xM;rw[r.len];exact(r.tak _).app (.cons h (r.drp _))
def aKB (i:Nat)(x:D)(d:D)(Γ1:En)(Q:Fl→Prop):Prop:=match Γ1[i]?,x with
 | some (.own ds),.int k => -(2^63)≤k∧k<2^63∧ds.length<1000∧Q (.nx (Γ1.set i (.own (xM ds k d))))
 | _,_=>False
def rR (i:Nat)(ma mb:ME):MS:=fun Γ Q=>match Γ[i]? with
 | some (.own _)=>ma Γ fun x Γ1=>mb Γ1 fun d Γ2=>aKB i x d Γ2 Q
 | _=>False
theorem a5L {K:Fg}{i:Nat}{ta tb:TE}{ma mb:ME}(ha:VT P0 ta ma)(hb:VT P0 tb mb){A:Nat→Bool}:VSA P0 A (aBR (tBM K "list" aB1 (vZ i) (lB ta (lB tb a0Y)))) (rR i ma mb):=by
 intro F Γ σ G H E Qm r hm k;unfold rR at hm
 split at hm
 ·rename_i ds0 e0
  obtain⟨p,vs,e1,e2,e3,e4,e5⟩:=r.sl i _ e0;refine⟨_,e1,.inl ⟨rfl,_,SqL.of e4⟩,?_⟩;refine ha F Γ σ G H _ _ r hm fun c Γ1 y G1 H1 m1 s1 r1 d1=>?_;refine hb F Γ1 σ G1 H1 _ _ r1 m1 fun d Γ2 x G2 H2 m2 s2 r2 d2=>?_;unfold aKB at m2
  split at m2
  ·rename_i ds j e
   cases d1
   obtain⟨p',ws,f1,f2,f3,f4,f5⟩:=r2.sl i _ e;rw[e1] at f1; cases f1;refine⟨p,ws,j,x,rfl,rfl,f4,m2.1,m2.2.1,yS (by rw[f5.len]; exact Nat.le_of_lt m2.2.2.1),?_⟩;exact k _ m2.2.2.2 _ _ _ (s1.trans s2) (r2.write e e1 (f5.ins j d2)) fun _ _=>rfl
  ·exact m2.elim
 ·exact hm.elim
theorem aFF {i:Nat}{ma mb:ME}{Γ:En}{Q:Fl→Prop}{ds:List D}(h0:Γ[i]?=some (.own ds))(h:ma Γ fun x Γ1=>mb Γ1 fun d Γ2=>aKB i x d Γ2 Q):rR i ma mb Γ Q:=by
 unfold rR;rw[h0];exact h
theorem aGN {i:Nat}{j:Int}{d:D}{Γ:En}{Q:Fl→Prop}{ds:List D}(h0:Γ[i]?=some (.own ds))(h1 : -(2^63)≤j)(h2:j<2^63)(h3:ds.length<1000)(h:Q (.nx (Γ.set i (.own (xM ds j d))))):aKB i (.int j) d Γ Q:=by
 unfold aKB;rw[h0];exact⟨h1,h2,h3,h⟩
end
end L2.VS
namespace L2
open PySem PySem.Spec PyProof.Rows
section
variable {X:Cx}
end
end L2
namespace L2.VS
open PySem PySem.Spec PyProof.Rows
section
variable {P0:Addr→Hp→Prop}
end
section
variable {P0:Addr→Hp→Prop}
end
section
variable {P0:Addr→Hp→Prop}{K:Fg}
end
end L2.VS
namespace L2
open PySem PySem.Spec PyProof.Rows
section
variable {X:Cx}
end
end L2
namespace L2.VS
open PySem PySem.Spec PyProof.Rows
section
variable {P0:Addr→Hp→Prop}{A:Nat→Bool}
end
end L2.VS
namespace PySem
open Sem (wp)
namespace F
end F
set_option hygiene false in
local macro_rules|`(tactic| walk_at "zr")=>`(tactic| (
 simp only[Bool.false_eq_true,if_false,List.forIn_toArray,List.forIn_cons,List.forIn_nil];refine wpAny_bind (wpAny_bind (wpAny_bind (wpAny_holding ?_)));show wpAny _ _ (Builtin.SmallTypes.nextOf (.ref i1) >>= _) _ _ _;refine wpAny_bind (wpAny_nextOf_list_item (h1.extBut hs₀.extBut D.i1z) (hl1.extBut hs₀.extBut D.l1z) hx fun h₂ h1₂ hs₂=>wpAny_pure ?_);refine wpAny_pure ?_;refine wpAny_bind (wpAny_bind (wpAny_holding ?_));show wpAny _ _ (Builtin.SmallTypes.nextOf (.ref i2) >>= _) _ _ _;refine wpAny_bind (wpAny_nextOf_list_item ((h2.extBut hs₀.extBut D.i2z).extBut hs₂.extBut D.i12.symm) ((hl2.extBut hs₀.extBut D.l2z).extBut hs₂.extBut D.l2i1) hy fun h₄ h2₄ hs₄=>wpAny_pure ?_);refine wpAny_pure (wpAny_pure ?_);show wpAny _ _ (newTuple [x,y] >>= _) _ _ _;refine wpAny_bind (wpAny_newTuple (wpAny_pure ⟨_,rfl,?_⟩))
 replace hs₂:Heap.SameBut i1 h₀ h₂:=hs₂
 replace hs₄:Heap.SameBut i2 h₂ h₄:=hs₄
 have hsz:h₄.objs.size=hp.objs.size:=by rw[hs₄.1,hs₂.1,hs₀.1]
 show Q (.ref h₄.objs.size) ⟨h₄.push { cls:=.type "tuple", data:=.seq #[x,y] },g,d,tk,os⟩;have hz₄:IsZipK h₄ z TI TO (rawInt T) (.bool true):=hs₄.extBut _ _ D.i2z.symm (hs₂.extBut _ _ D.i1z.symm hz₀);have hT₄:IsPair (h₄.push { cls:=.type "tuple", data:=.seq #[x,y] }) h₄.objs.size x y:=Heap.get?_push_size _ rfl;rw[hsz] at hT₄ ⊢;exact hQ _ (Heap.get?_push_of_some _ hz₄) ((h1₂.extBut hs₄.extBut D.i12).at fun o e=>Heap.get?_push_of_some _ e) (h2₄.at fun o e=>Heap.get?_push_of_some _ e) hT₄ (by rw[Heap.size_push,hsz])
  fun c o c1 c2 c3 e=>Heap.get?_push_of_some _ (hs₄.extBut _ _ c3 (hs₂.extBut _ _ c2 (hs₀.extBut _ _ c1 e)))))
set_option hygiene false in
local macro_rules|`(tactic| walk_at "ze")=>`(tactic| (
 simp only[Bool.false_eq_true,if_false,List.forIn_toArray,List.forIn_cons,List.forIn_nil];refine wpAny_bind (wpAny_bind (wpAny_bind (wpAny_holding ?_)));show wpAny _ _ (Builtin.SmallTypes.nextOf (.ref i1) >>= _) _ _ _
 cases hx:xs[k1]? with
 | none=>
  refine wpAny_bind (wpAny_nextOf_list_end hh (h1.extBut hs₀.extBut D.i1z) (hl1.extBut hs₀.extBut D.l1z) hx fun h₂ e hs₂ he=>?_);exact hE h₂ e (fun c o c1 c2 c3 x=>hs₂ _ _ c2 (hs₀.extBut _ _ c1 x)) he
 | some x=>
  have hy:ys[k2]?=none:=by rcases hend with h|h; rw[hx] at h; cases h; exact h
  refine wpAny_bind (wpAny_nextOf_list_item (h1.extBut hs₀.extBut D.i1z) (hl1.extBut hs₀.extBut D.l1z) hx fun h₂ h1₂ hs₂=>wpAny_pure ?_);refine wpAny_pure ?_;refine wpAny_bind (wpAny_bind (wpAny_holding ?_));show wpAny _ _ (Builtin.SmallTypes.nextOf (.ref i2) >>= _) _ _ _;refine wpAny_bind (wpAny_nextOf_list_end hh ((h2.extBut hs₀.extBut D.i2z).extBut hs₂.extBut D.i12.symm) ((hl2.extBut hs₀.extBut D.l2z).extBut hs₂.extBut D.l2i1) hy fun h₄ e hs₄ he=>?_);exact hE h₄ e (fun c o c1 c2 c3 x=>hs₄ _ _ c3 (hs₂.extBut _ _ c2 (hs₀.extBut _ _ c1 x))) he))
section
variable {prog:Program}{w:World}{A:Around}{E:Value→Shared→Prop}{s:Shared}
end
end PySem
namespace PySem
open Sem (wp)
section
variable {prog:Program}{w:World}{A:Around}{R:Result→Shared→Prop}
end
section
variable {prog:Program}{w:World}{A:Around}{E:Value→Shared→Prop}{s:Shared}
end
end PySem
namespace L2
open PySem PySem.Spec PyProof.Rows
section
variable {X:Cx}{pins:List (Addr×Obj)}{σ:List (Option V)}{H:Hp}{s:Shared}
end
end L2
namespace L2.VS
open PySem PySem.Spec PyProof.Rows
section
variable {P0:Addr→Hp→Prop}{K:Fg}
end
end L2.VS
namespace L2
open PySem PySem.Spec PyProof.Rows
section
variable {X:Cx}{pins:List (Addr×Obj)}{σ:List (Option V)}{H:Hp}{s:Shared}
theorem Inv.turnedL {h':Heap}{t':Nat}{ch:List Addr}{T:Addr}{o:HO}(I:Inv X pins σ H s)(k:∀ b u,b∉ch→s.heap.get? b=some u→h'.get? b=some u)(hch:∀ b∈ch,aA5 X pins H b)(hT:s.heap.objs.size≤T)
  (new:ObjOk X.prog X.w (upd H T o) h' T o):Inv X pins σ (upd H T o) { s with heap:=h',toks:=t' }:=by
 have hn:=I.hok.fresh hT;have nch:∀ b u,H b=some u→b∉ch:=fun b u e z=>by rw[(hch b z).1] at e; cases e
 refine I.step (g':=s.gens) (d':=s.drawn) (ch:=ch) (fun b hb=>⟨(hch b hb).2.2.2.1,(hch b hb).2.1,(hch b hb).2.2.2.2.1,(hch b hb).2.2.2.2.2⟩) (fun b o _ _ hc e _=>k b o hc e) (fun b o _ _ hc e _=>⟨o.slots,k b o hc e⟩)
  (fun b u _ e n=>by rw[aY (Nat.ne_of_lt (Nat.lt_of_lt_of_le (Heap.lt_size e) hT))]; exact n) (fun b o hc e=>⟨o,k b o hc e⟩) (fun b xs q=>by rw[aY (bJ q hn)]; exact q) (fun b u xs q=>by rw[aY (bJ q hn)]; exact q)
  (fun b ps q=>⟨#[],by rw[aY (bJ q hn),q]; simp⟩) (fun m hm=>?_) (fun b u e=>?_) I.bare
 ·obtain⟨o,es,ep,ho,r⟩:=hm;exact⟨o,es,ep,k _ o (fun z=>(hch _ z).2.1 rfl) ho,r⟩
 ·by_cases hb:b=T
  ·subst hb; rw[bA] at e; cases e; exact new
  ·rw[aY hb] at e;refine(I.hok b u e).stay (fun c v hc q=>k c v ?_ q) (fun c q=>by rw[aY (bJ q hn)]; exact q) fun c xs q=>by rw[aY (bJ q hn)]; exact q
   rcases hc with z|z
   ·rw[z]; exact nch b u e
   ·exact nch c _ z
theorem Inv.turnedC {h':Heap}{t':Nat}{ch:List Addr}(I:Inv X pins σ H s)(k:∀ b u,b∉ch→s.heap.get? b=some u→h'.get? b=some u)(hch:∀ b∈ch,aA5 X pins H b):Inv X pins σ H { s with heap:=h',toks:=t' }:=by
 have nch:∀ b u,H b=some u→b∉ch:=fun b u e z=>by rw[(hch b z).1] at e; cases e
 refine I.step (g':=s.gens) (d':=s.drawn) (ch:=ch) (fun b hb=>⟨(hch b hb).2.2.2.1,(hch b hb).2.1,(hch b hb).2.2.2.2.1,(hch b hb).2.2.2.2.2⟩) (fun b o _ _ hc e _=>k b o hc e) (fun b o _ _ hc e _=>⟨o.slots,k b o hc e⟩)
  (fun b u _ e n=>n) (fun b o hc e=>⟨o,k b o hc e⟩) (fun b xs q=>q) (fun b u xs q=>q) (fun b ps q=>⟨#[],by rw[q]; simp⟩) (fun m hm=>?_) (fun b u e=>?_) I.bare
 ·obtain⟨o,es,ep,ho,r⟩:=hm;exact⟨o,es,ep,k _ o (fun z=>(hch _ z).2.1 rfl) ho,r⟩
 ·refine(I.hok b u e).stay (fun c v hc q=>k c v ?_ q) (fun _ q=>q) fun _ _ q=>q;rcases hc with z|z
  ·rw[z]; exact nch b u e
  ·exact nch c _ z
end
def Ite (K:Fg)(a:Addr):It:=
  ⟨fun i H=>∃ xs x,SqL K H a xs∧xs[i]?=some x,
   fun i H v H'=>∃ T x,v=.ref T∧H T=none∧H'=upd H T (.tup [.int (i:Int),x])∧∀ xs,SqL K H a xs→xs[i]?=some x,
   fun i H=>∃ xs,SqL K H a xs∧xs.length≤i⟩
theorem aCR {P:Program}{w:World}{K:Fg}{elts:List Expr}{cx}{tp:Pos}{e it a:Addr}(hne:e≠it):Turn P w K (.Tuple elts cx tp) (Ite K a) [e,it] e
  (fun i h=>(∃ old,IsEnum h e it (i:Int) old)∧h.IsListIter it a i) where
 mem:=by simp
 obj:=fun i h st c hc=>by
  obtain⟨⟨old,he⟩,⟨o1,e1,c1,d1⟩⟩:=st;simp only[List.mem_cons,List.not_mem_nil,or_false] at hc;rcases hc with rfl|rfl
  ·exact⟨_,he,fun v z=>by cases z⟩
  ·exact⟨o1,e1,fun v z=>by rw[d1] at z; cases z⟩
 keep:=fun i h h' st k=>by
  obtain⟨⟨old,he⟩,h1⟩:=st;exact⟨⟨old,k e (by simp) _ he⟩,h1.at fun o q=>k it (by simp) o q⟩
 item:=by
  intro X hP hw hK hc i pins s σ H E I hf st hg;subst hP hw hK;obtain⟨xs,x,qx,ex⟩:=hg;obtain⟨ix,rx,px,zx⟩:=I.list qx;obtain⟨ux,gx,rux⟩:=rx.get ex;obtain⟨⟨old,he⟩,h1⟩:=st;refine wpAny_pyNext_enum_item he h1 px.isList (x:=ux) (by simpa using gx) hne fun h' a1 a2 a3 a4 kp=>?_;refine⟨_,rfl,wpAny_letOwnedTupleGo_enum a1 fun h'' he' hs'=>?_⟩;have hs':Heap.SameBut e h' h'':=hs';have nT:s.heap.objs.size≠e:=Nat.ne_of_gt (Heap.lt_size he);have hT:h''.get? s.heap.objs.size=some { cls:=.type "tuple", data:=.seq #[.int i s.toks,ux] }:=hs'.extBut _ _ nT a3;have I2:Inv X pins σ (upd H s.heap.objs.size (.tup [.int (i:Int),x])) { s with heap:=h'',toks:=s.toks+1 }:=I.turnedL (t':=s.toks+1) (ch:=[e,it])
   (fun c o hc q=>hs'.extBut _ _ (fun q=>hc (by simp[q])) (kp c o (fun q=>hc (by simp[q])) (fun q=>hc (by simp[q])) q))
   hf (Nat.le_refl _) ⟨pX (by show 2≤1000; decide),[.int i s.toks,ux],.cons ⟨_,rfl⟩ (.cons rux .nil),⟨_,hT,rfl,_,rfl⟩⟩
  have fr:=I.hok.fresh (Nat.le_refl s.heap.objs.size);refine⟨.ref s.heap.objs.size,_,I2,rfl,⟨_,x,rfl,fr,rfl,fun xs' q1=>by rw[I.list_inj q1 qx]; exact ex⟩,⟨⟨_,by rw[Int.natCast_add]; exact he'⟩,a2.extBut hs'.extBut (Ne.symm hne)⟩,fun c hc=>?_⟩;have lt:c<s.heap.objs.size:=by
   simp only[List.mem_cons,List.not_mem_nil,or_false] at hc;rcases hc with rfl|rfl
   ·exact Heap.lt_size he
   ·obtain⟨_,q,_⟩:=h1; exact Heap.lt_size q
  rw[aY (Nat.ne_of_lt lt)];exact(hf c hc).1
 done:=by
  intro X hP hw hK hc i pins s σ H E I hf st hg;subst hP hw hK;obtain⟨xs,qx,hle⟩:=hg;obtain⟨ix,rx,px,zx⟩:=I.list qx;obtain⟨⟨old,he⟩,h1⟩:=st;have lx:=rx.length;refine wpAny_pyNext_enum_end (I.ok.hd hc) he h1 px.isList (by simp; omega) fun h' kp=>⟨rfl,I.turnedC (t':=s.toks) (ch:=[e,it]) (fun c o hc q=>?_) hf⟩;exact kp c o (fun q=>hc (by simp[q])) q
 self:=fun _ _ _ _ _ st h=>wpAny_pyIter_enum st.1.choose_spec h
section
variable {X:Cx}
def aL7 (K:Fg)(ta:TA):TI:=fun σ H R=>ta σ H fun vs H1=>∃ p xs,vs=[.ref p]∧SqL K H1 p xs∧R (Ite K p) H1
theorem aHZ {a:Expr}{ta:TA}{p pos tp:Pos}{elts:List Expr}{cx}(hg:Gl X "enumerate")(hm:X.mg "enumerate" = none)(ha:PA X [a] ta)(hs:starEach [a] X.env=[(false,eval a X.env)]:=by rfl) :
  PI X (.Tuple elts cx tp) (.Call (.Name "enumerate" p) [a] [] pos) (aL7 X.K ta):=by
 intro pins s σ H R I h;refine wpAny_Call_Name_kw (a07 I hg hm boot_enumerate ?_ (by decide) (by decide));refine PyProof.Rows.callWith_type1 (rest:=[]) (thn (ha pos pins s σ H _ I h) fun us s1 ⟨vs,H1,I1,r1,p,xs,e,hp,k⟩=>?_) hs rfl;subst e
 cases r1 with
 | cons ra rc=>
  cases rc
  cases ra
  obtain⟨ix,rx,px,zx⟩:=I1.list hp;refine call_enumerate_list px.isList fun h' he hit sz kp=>?_;refine wpAny_pyIter_enum he ?_;have I2:Inv X pins σ H1 { s1 with heap:=h' }:=I1.kept (t':=s1.toks) kp;refine⟨_,[s1.heap.objs.size+1,s1.heap.objs.size],_,_,H1,rfl,I2,aCR (Nat.ne_of_gt (Nat.lt_succ_self _)),⟨⟨_,he⟩,hit⟩,fun c hc=>?_,k⟩;have hle:s1.heap.objs.size≤c:=by
   simp only[List.mem_cons,List.not_mem_nil,or_false] at hc;rcases hc with rfl|rfl
   ·exact Nat.le_succ _
   ·exact Nat.le_refl _
  exact I1.fpOk hle (I1.hok.fresh hle)
end
end L2
namespace L2.VS
open PySem PySem.Spec PyProof.Rows
section
variable {P0:Addr→Hp→Prop}{K:Fg}
def zP (ds:List D):List D:=(List.range ds.length).map fun(i:Nat)=>PyData.tuple [.int (i:Int),ds.getD i .none]
def aO1 (ma:ME):MD:=fun Γ Q=>ma Γ fun x Γ1=>match x with
 | .list ds=>Q (zP ds) Γ1
 | _=>False
theorem aIC {ta:TE}{ma:ME}(ha:VT P0 ta ma):VI P0 (aL7 K (lB ta a0Y)) (aO1 ma):=by
 intro F Γ σ G H Q Qm r m k;refine ha F Γ σ G H _ _ r m fun d Γ1 x G1 H1 m1 s1 r1 d1=>?_
 split at m1
 ·rename_i ds
  cases d1 with
  | @lst p xs _ hp rs=>
   refine⟨p,xs,rfl,SqL.of (r1.fr.sub _ _ hp),k _ _ _ _ _ m1 s1 r1 fun F3 Γ3 σ3 G3 H3 s3 r3=>⟨fun i d e=>?_,?_⟩⟩
   ·have hp3:=SqL.of (K:=K) (r3.fr.sub _ _ (s3 _ _ hp));have hi:i<ds.length:=by
     have:=(List.getElem?_eq_some_iff.mp e).1;unfold zP at this;simpa using this
    have ed:d=.tuple [.int (i:Int),ds[i]]:=by
     unfold zP at e;rw[List.getElem?_map,List.getElem?_range hi] at e
     cases e
     simp[List.getD_eq_getElem?_getD,List.getElem?_eq_getElem hi]
    subst ed;obtain⟨v1,g1,dv1⟩:=Dts.get rs (List.getElem?_eq_getElem hi);refine⟨⟨xs,v1,hp3,g1⟩,fun v H4 hy=>?_⟩;obtain⟨T,x',rfl,hT,rfl,hx⟩:=hy;have h1:=hx xs hp3;rw[g1] at h1; cases h1;have g:=mY (r3.fr.gfresh hT) (.tup [.int (i:Int),v1]);exact⟨_,g,r3.new hT,.tup bA (.cons (.int _) (.cons (Dt.same (s3.trans g) _ _ dv1) .nil))⟩
   ·refine⟨xs,SqL.of (r3.fr.sub _ _ (s3 _ _ hp)),?_⟩;have l1:=rs.len;have l3:(zP ds).length=ds.length:=by unfold zP; rw[List.length_map,List.length_range]
    rw[l3,l1];exact Nat.le_refl _
 ·exact m1.elim
theorem aLY {ma:ME}{Γ:En}{Q:List D→En→Prop}(h:ma Γ fun x Γ1=>match x with|.list ds=>Q (zP ds) Γ1|_=>False):aO1 ma Γ Q:=h
end
end L2.VS
namespace L2
open PySem PySem.Spec PyProof.Rows
section
variable {X:Cx}
end
end L2
namespace L2.VS
open PySem PySem.Spec PyProof.Rows
section
variable {P0:Addr→Hp→Prop}
end
section
variable {P0:Addr→Hp→Prop}{ta tb:TE}{ma mb:ME}
end
end L2.VS
namespace LT
abbrev Ln:=Rat×Rat
def pl (l:Ln)(t:Rat):Rat:=l.1+l.2*t
def mt (l k:Ln):Rat:=(k.1-l.1)/(l.2-k.2)
theorem aAH {l k:Ln}(h:l.2≠k.2)(t:Rat):pl l t-pl k t=(l.2-k.2)*(t-mt l k):=by
 unfold pl mt;have e:=Rat.div_mul_cancel (a:=k.1-l.1) (b:=l.2-k.2) (by grind);generalize (k.1-l.1)/(l.2-k.2)=m at *;grind
theorem a6O {l k:Ln}(h:l.2≠k.2):mt k l=mt l k:=by
 unfold mt;have e:=Rat.div_mul_cancel (a:=k.1-l.1) (b:=l.2-k.2) (by grind);have e':=Rat.div_mul_cancel (a:=l.1-k.1) (b:=k.2-l.2) (by grind);generalize (k.1-l.1)/(l.2-k.2)=m at *;generalize (l.1-k.1)/(k.2-l.2)=n at *;have:(l.2-k.2)*(m-n)=0:=by grind
 rcases Rat.mul_eq_zero.mp this with z|z<;>grind
theorem aG7 {l k:Ln}(h:l.2≠k.2){t:Rat}:pl l t=pl k t↔t=mt l k:=by
 have e:=aAH h t;constructor
 ·intro z;have:(l.2-k.2)*(t-mt l k)=0:=by grind
  rcases Rat.mul_eq_zero.mp this with z|z<;>grind
 ·intro z;rw[z] at e ⊢;grind
def ahB (l k:Ln)(i j:Int)(t:Rat):Bool:=if pl l t=pl k t then(if l.2=k.2 then decide (i<j) else decide (k.2<l.2)) else decide (pl k t<pl l t)
theorem aBW {l k:Ln}{i j:Int}{t:Rat}(h:l.2≠k.2)(ht:t<mt l k):ahB l k i j t=decide (l.2<k.2):=by
 have e:=aAH h t;have n:pl l t≠pl k t:=fun z=>by have:=(aG7 h).mp z; grind
 unfold ahB;rw[if_neg n,decide_eq_decide];have hm:0<mt l k-t:=by grind
 constructor
 ·intro z;apply Classical.byContradiction;intro c;have:=Rat.mul_pos (a:=l.2-k.2) (b:=mt l k-t) (by grind) hm;grind
 ·intro z;have:=Rat.mul_pos (a:=k.2-l.2) (b:=mt l k-t) (by grind) hm;grind
theorem aDZ {l k:Ln}{i j:Int}{t:Rat}(h:l.2≠k.2)(ht:mt l k≤t):ahB l k i j t=decide (k.2<l.2):=by
 have e:=aAH h t;unfold ahB
 by_cases hq:pl l t=pl k t
 ·rw[if_pos hq,if_neg h]
 ·have hm:0<t-mt l k:=by
   have:t≠mt l k:=fun z=>hq ((aG7 h).mpr z);grind
  rw[if_neg hq,decide_eq_decide];constructor
  ·intro z;apply Classical.byContradiction;intro c;have:=Rat.mul_pos (a:=k.2-l.2) (b:=t-mt l k) (by grind) hm;grind
  ·intro z;have:=Rat.mul_pos (a:=l.2-k.2) (b:=t-mt l k) (by grind) hm;grind
theorem a1I {l k:Ln}{i j:Int}{t:Rat}(h:l.2=k.2):ahB l k i j t=if l.1=k.1 then decide (i<j) else decide (k.1<l.1):=by
 unfold ahB pl;rw[h]
 by_cases c:l.1=k.1
 ·rw[if_pos (by rw[c]),if_pos rfl,if_pos c]
 ·rw[if_neg (by grind),if_neg c,decide_eq_decide];grind
def nxC (l k:Ln)(t:Rat):Option Rat:=if l.2=k.2 then none else if t<mt l k then some (mt l k) else none
theorem wC {l k:Ln}{t m:Rat}(h:nxC l k t=some m):l.2≠k.2∧t<m∧m=mt l k:=by
 unfold nxC at h
 by_cases hs:l.2=k.2
 ·rw[if_pos hs] at h; cases h
 ·rw[if_neg hs] at h
  by_cases ht:t<mt l k
  ·rw[if_pos ht] at h; cases h; exact⟨hs,ht,rfl⟩
  ·rw[if_neg ht] at h; cases h
def mtO (l k:Ln):Option Rat:=if l.2=k.2 then none else some (mt l k)
end LT
namespace LT
theorem a1U {l k:Ln}{i j:Int}{t:Rat}:ahB l k i j t=true↔pl k t<pl l t∨(pl l t=pl k t∧(k.2<l.2∨(l.2=k.2∧i<j))):=by
 unfold ahB
 by_cases h1:pl l t=pl k t
 ·rw[if_pos h1]
  by_cases h2:l.2=k.2
  ·rw[if_pos h2,decide_eq_true_eq]; grind
  ·rw[if_neg h2,decide_eq_true_eq]; grind
 ·rw[if_neg h1,decide_eq_true_eq]; grind
theorem aBQ {l k m:Ln}{i j n:Int}{t:Rat}(h1:ahB l k i j t=true)(h2:ahB k m j n t=true):ahB l m i n t=true:=by
 rw[a1U] at *;grind
theorem aDI {l k:Ln}{i j:Int}{t:Rat}(h1:ahB l k i j t=true):ahB k l j i t=false:=by
 cases h:ahB k l j i t with
 | false=>rfl
 | true=>
  rw[a1U] at *;grind
theorem aAJ {l k:Ln}{i j:Int}{t:Rat}(h:i≠j):ahB l k i j t=true∨ahB k l j i t=true:=by
 rw[a1U,a1U];grind
def ahN (ls:List Ln)(t:Rat)(i j:Nat):Bool:=match ls[i]?,ls[j]? with
 | some l,some k=>ahB l k i j t
 | _,_=>false
theorem jQ {ls:List Ln}{t:Rat}{i j:Nat}{l k:Ln}(h1:ls[i]?=some l)(h2:ls[j]?=some k):ahN ls t i j=ahB l k i j t:=by unfold ahN; rw[h1,h2]
structure Strict (a:Nat→Nat→Bool)(n:Nat):Prop where
 asymm:∀ i j,i<n→j<n→a i j=true→a j i=false
 trans:∀ i j k,i<n→j<n→k<n→a i j=true→a j k=true→a i k=true
 total:∀ i j,i<n→j<n→i≠j→a i j=true∨a j i=true
theorem Strict.flip {a:Nat→Nat→Bool}{n i j:Nat}(h:Strict a n)(hi:i<n)(hj:j<n)(hij:i≠j):a j i = !a i j:=by
 cases e:a i j with
 | true=>rw[h.asymm i j hi hj e]; rfl
 | false=>
  rcases h.total i j hi hj hij with z|z
  ·rw[e] at z; cases z
  ·rw[z]; rfl
theorem fY (ls:List Ln)(t:Rat):Strict (ahN ls t) ls.length:=by
 refine⟨fun i j hi hj h=>?_,fun i j k hi hj hk h1 h2=>?_,fun i j hi hj hij=>?_⟩
 ·rw[jQ (List.getElem?_eq_getElem hi) (List.getElem?_eq_getElem hj)] at h;rw[jQ (List.getElem?_eq_getElem hj) (List.getElem?_eq_getElem hi)];exact aDI h
 ·rw[jQ (List.getElem?_eq_getElem hi) (List.getElem?_eq_getElem hj)] at h1;rw[jQ (List.getElem?_eq_getElem hj) (List.getElem?_eq_getElem hk)] at h2;rw[jQ (List.getElem?_eq_getElem hi) (List.getElem?_eq_getElem hk)];exact aBQ h1 h2
 ·rw[jQ (List.getElem?_eq_getElem hi) (List.getElem?_eq_getElem hj),jQ (List.getElem?_eq_getElem hj) (List.getElem?_eq_getElem hi)];exact aAJ (by omega)
abbrev Srt (a:Nat→Nat→Bool)(xs:List Nat):Prop:=xs.Pairwise fun x y=>a x y=true
def eE (a:Nat→Nat→Bool)(xs:List Nat)(k:Nat):List Nat:=((xs.filter fun o => !a k o)++[k])++xs.filter fun o=>a k o
theorem a8W {α:Type}(p:α→Bool):∀ xs:List α,(xs.filter fun o => !p o).length+(xs.filter fun o=>p o).length=xs.length
 | []=>rfl
 | x::xs=>by
  have:=a8W p xs
  cases h:p x<;>simp[h]<;>omega
theorem a75 {a:Nat→Nat→Bool}{n k:Nat}{xs:List Nat}(h:Strict a n)(hk:k<n)(hx:∀ x∈xs,x<n∧x≠k)(hs:Srt a xs):Srt a (eE a xs k):=by
 unfold eE Srt;have front:∀ x∈xs.filter (fun o => !a k o),a x k=true:=fun x m=>by
  obtain⟨m1,m2⟩:=List.mem_filter.mp m;obtain⟨b1,b2⟩:=hx x m1;rw[h.flip hk b1 (Ne.symm b2)];exact m2
 have back:∀ x∈xs.filter (fun o=>a k o),a k x=true:=fun x m=>(List.mem_filter.mp m).2;have lt1:∀ x∈xs.filter (fun o => !a k o),x<n:=fun x m=>(hx x (List.mem_filter.mp m).1).1;have lt2:∀ x∈xs.filter (fun o=>a k o),x<n:=fun x m=>(hx x (List.mem_filter.mp m).1).1;rw[List.pairwise_append];refine⟨?_,hs.filter _,fun x m y m2=>?_⟩
 ·rw[List.pairwise_append];refine⟨hs.filter _,List.pairwise_singleton _ _,fun x m y m2=>?_⟩;rw[List.mem_singleton.mp m2];exact front x m
 ·rcases List.mem_append.mp m with m|m
  ·exact h.trans x k y (lt1 x m) hk (lt2 y m2) (front x m) (back y m2)
  ·rw[List.mem_singleton.mp m];exact back y m2
theorem a3V {a:Nat→Nat→Bool}{n k:Nat}:∀{xs:List Nat},Strict a n→k<n→(∀ x∈xs,x<n∧x≠k)→Srt a xs →
  xs.take (xs.filter fun o => !a k o).length=xs.filter (fun o => !a k o)∧xs.drop (xs.filter fun o => !a k o).length=xs.filter (fun o=>a k o)
 | [],_,_,_,_=>⟨rfl,rfl⟩
 | x::xs,h,hk,hx,hs=>by
  obtain⟨p1,q1⟩:=List.pairwise_cons.mp hs;obtain⟨b1,b2⟩:=hx x List.mem_cons_self;have ih:=a3V (xs:=xs) h hk (fun y hy=>hx y (List.mem_cons_of_mem _ hy)) q1
  cases e:a k x with
  | false=>simp only[List.filter_cons,e,Bool.not_false,if_true,List.length_cons,List.take_succ_cons,List.drop_succ_cons,ih.1,ih.2,Bool.false_eq_true,if_false]; exact⟨trivial,trivial⟩
  | true=>
   have all:∀ y∈xs,a k y=true:=fun y hy=>h.trans k x y hk b1 (hx y (List.mem_cons_of_mem _ hy)).1 e (p1 y hy);have f0:xs.filter (fun o => !a k o)=[]:=by
    rw[List.filter_eq_nil_iff];intro y hy;rw[all y hy]; simp
   have f1:xs.filter (fun o=>a k o)=xs:=List.filter_eq_self.mpr all;simp only[List.filter_cons,e,Bool.not_true,Bool.false_eq_true,if_false,f0,f1,if_true];exact⟨rfl,rfl⟩
end LT
namespace LT
def Leads (ls:List Ln)(t:Rat)(i:Nat):Prop:=i<ls.length∧∀ j,j<ls.length→j≠i→ahN ls t i j=true
theorem Leads.unique {ls:List Ln}{t:Rat}{i j:Nat}(h:Leads ls t i)(g:Leads ls t j):i=j:=by
 apply Classical.byContradiction;intro c;have h1:=h.2 j g.1 (Ne.symm c);have h2:=g.2 i h.1 c;rw[(fY ls t).asymm i j h.1 g.1 h1] at h2
 cases h2
def gG (ls:List Ln)(t:Rat):Nat→Nat
 | 0=>0
 | n+1=>if ahN ls t (n+1) (gG ls t n)=true then n+1 else gG ls t n
def cP (ls:List Ln)(t:Rat):Nat:=gG ls t (ls.length-1)
theorem yJ (ls:List Ln)(t:Rat):∀ n,gG ls t n≤n
 | 0=>Nat.le_refl _
 | n+1=>by
  have ih:=yJ ls t n;have e:gG ls t (n+1)=if ahN ls t (n+1) (gG ls t n)=true then n+1 else gG ls t n:=rfl
  rw[e]
  split<;>omega
theorem a4U (ls:List Ln)(t:Rat):∀ n,n<ls.length→∀ j,j≤n→j≠gG ls t n→ahN ls t (gG ls t n) j=true
 | 0,_,j,hj,hn=>absurd (show j=gG ls t 0 by show j=0; omega) hn
 | n+1,hl,j,hj,hn=>by
  have ih:=a4U ls t n (by omega);have le:=yJ ls t n;have st:=fY ls t;have e:gG ls t (n+1)=if ahN ls t (n+1) (gG ls t n)=true then n+1 else gG ls t n:=rfl
  rw[e] at hn ⊢
  by_cases c:ahN ls t (n+1) (gG ls t n)=true
  ·rw[if_pos c] at hn ⊢
   by_cases d:j=gG ls t n
   ·rw[d]; exact c
   ·exact st.trans _ (gG ls t n) _ hl (by omega) (by omega) c (ih j (by omega) d)
  ·rw[if_neg c] at hn ⊢
   by_cases d:j=n+1
   ·rw[d,st.flip hl (show gG ls t n<ls.length by omega) (by omega)]
    cases h:ahN ls t (n+1) (gG ls t n) with
    | true=>exact absurd h c
    | false=>rfl
   ·exact ih j (by omega) hn
theorem mQ {ls:List Ln}(h:ls≠[])(t:Rat):Leads ls t (cP ls t):=by
 have hl:=List.length_pos_iff.mpr h;have le:=yJ ls t (ls.length-1);refine⟨by unfold cP; omega,fun j hj hn=>a4U ls t (ls.length-1) (by omega) j (by omega) hn⟩
theorem Leads.eq {ls:List Ln}{t:Rat}{i:Nat}(h:Leads ls t i):i=cP ls t:=h.unique (mQ (by rintro rfl; exact absurd h.1 (by simp)) t)
def aDT (ls:List Ln)(a b:Rat):Prop:=∃(i j:Nat) (l k:Ln),ls[i]?=some l∧ls[j]?=some k∧l.2≠k.2∧a<mt l k∧mt l k≤b
theorem a5G {ls:List Ln}{a b:Rat}(hab:a≤b)(h:¬aDT ls a b)(i j:Nat):ahN ls b i j=ahN ls a i j:=by
 unfold ahN
 cases hi:ls[i]? with
 | none=>rfl
 | some l=>
  cases hj:ls[j]? with
  | none=>rfl
  | some k=>
   show ahB l k i j b=ahB l k i j a
   by_cases hs:l.2=k.2
   ·rw[a1I hs,a1I hs]
   ·by_cases h1:mt l k≤a
    ·rw[aDZ hs h1,aDZ hs (by grind)]
    ·by_cases h2:b<mt l k
     ·rw[aBW hs h2,aBW hs (by grind)]
     ·exact absurd ⟨i,j,l,k,hi,hj,hs,by grind,by grind⟩ h
theorem Leads.const {ls:List Ln}{a b:Rat}{i:Nat}(hab:a≤b)(h:¬aDT ls a b):Leads ls a i↔Leads ls b i:=by
 unfold Leads;constructor
 ·exact fun g=>⟨g.1,fun j hj hn=>by rw[a5G hab h]; exact g.2 j hj hn⟩
 ·exact fun g=>⟨g.1,fun j hj hn=>by rw[← a5G hab h]; exact g.2 j hj hn⟩
def Fr (lo:Option Rat)(t:Rat):Prop:=match lo with
 | none=>True
 | some s=>s≤t
def Bf (lo:Option Rat)(t:Rat):Prop:=match lo with
 | none=>True
 | some s=>s<t
def RowFrom (ls:List Ln)(lo:Option Rat)(r:Nat):List (Nat×Rat)→Prop
 | []=>∀ t,Fr lo t→Leads ls t r
 | p::rest=>Bf lo p.2∧p.1≠r∧(∀ t,Fr lo t→t<p.2→Leads ls t r)∧RowFrom ls (some p.2) p.1 rest
theorem RowFrom.at {ls:List Ln}{s:Rat}{r:Nat}:∀{rest:List (Nat×Rat)},RowFrom ls (some s) r rest→Leads ls s r
 | [],h=>h s (show s≤s by grind)
 | p::rest,h=>h.2.2.1 s (show s≤s by grind) h.1
theorem RowFrom.unique {ls:List Ln}:∀{xs ys:List (Nat×Rat)} {lo:Option Rat} {r:Nat},RowFrom ls lo r xs→RowFrom ls lo r ys→xs=ys
 | [],[],_,_,_,_=>rfl
 | [],p::ys,lo,r,h,g=>by
  have h1:=h p.2 (by have:=g.1; cases lo with|none=>trivial|some s=>exact(show s≤p.2 by have:s<p.2:=this; grind));exact absurd (g.2.2.2.at.unique h1) g.2.1
 | p::xs,[],lo,r,h,g=>by
  have h1:=g p.2 (by have:=h.1; cases lo with|none=>trivial|some s=>exact(show s≤p.2 by have:s<p.2:=this; grind));exact absurd (h.2.2.2.at.unique h1) h.2.1
 | p::xs,q::ys,lo,r,h,g=>by
  have hp:Fr lo p.2:=by have:=h.1; cases lo with|none=>trivial|some s=>exact(show s≤p.2 by have:s<p.2:=this; grind)
  have hq:Fr lo q.2:=by have:=g.1; cases lo with|none=>trivial|some s=>exact(show s≤q.2 by have:s<q.2:=this; grind)
  have e:p.2=q.2:=by
   apply Classical.byContradiction;intro c
   by_cases d:p.2<q.2
   ·exact absurd (h.2.2.2.at.unique (g.2.2.1 p.2 hp d)) h.2.1
   ·exact absurd (g.2.2.2.at.unique (h.2.2.1 q.2 hq (by grind))) g.2.1
  have h2:=h.2.2.2;rw[e] at h2;have e1:p.1=q.1:=h2.at.unique g.2.2.2.at;rw[e1] at h2;have e2:=RowFrom.unique h2 g.2.2.2;rw[e2,show p=q from Prod.ext e1 e]
theorem RowFrom.first {ls:List Ln}{lo:Option Rat}{r1 r2:Nat}{xs ys:List (Nat×Rat)}(h:RowFrom ls lo r1 xs)(g:RowFrom ls lo r2 ys):r1=r2:=by
 cases lo with
 | some s=>exact h.at.unique g.at
 | none=>
  have early:∀{r:Nat} {zs:List (Nat×Rat)},RowFrom ls none r zs→∃ u,∀ t,t<u→Leads ls t r:=fun{r zs} k=>by
   cases zs with
   | nil=>exact⟨0,fun t _=>k t trivial⟩
   | cons p zs=>exact⟨p.2,fun t ht=>k.2.2.1 t trivial ht⟩
  obtain⟨u,hu⟩:=early h;obtain⟨v,hv⟩:=early g
  by_cases c:u≤v
  ·exact(hu (u-1) (by grind)).unique (hv (u-1) (by grind))
  ·exact(hu (v-1) (by grind)).unique (hv (v-1) (by grind))
def eU (ls:List Ln)(last:Nat):List Rat→List (Nat×Rat)
 | []=>[]
 | t::ts=>if cP ls t=last then eU ls last ts else(cP ls t,t)::eU ls (cP ls t) ts
theorem xX {ls:List Ln}(hne:ls≠[]):∀(ts:List Rat) (lo mb:Option Rat) (last:Nat),ts.Pairwise (·<·)→(∀ s∈ts,Bf lo s)→(∀ s∈ts,Bf mb s) →
  (∀ t,Fr lo t→(∀ s∈ts,t<s)→Leads ls t last)→(∀ s,(∃(i j:Nat) (l k:Ln),ls[i]?=some l∧ls[j]?=some k∧l.2≠k.2∧mt l k=s)→Bf mb s→s∈ts)→RowFrom ls lo last (eU ls last ts)
 | [],lo,mb,last,_,_,_,h,_=>fun t ht=>h t ht fun _ hs=>(nomatch hs)
 | t::ts,lo,mb,last,hp,hb,hb2,h,hm=>by
  obtain⟨p1,p2⟩:=List.pairwise_cons.mp hp;have hbt:=hb t List.mem_cons_self;have hbt2:=hb2 t List.mem_cons_self;have up:∀ s,Bf (some t) s→Bf mb s:=fun s hs=>by
   have hs:t<s:=hs
   cases mb with
   | none=>trivial
   | some s0=>exact(show s0<s by have:s0<t:=hbt2; grind)
  have hm':∀ s,(∃(i j:Nat) (l k:Ln),ls[i]?=some l∧ls[j]?=some k∧l.2≠k.2∧mt l k=s)→Bf (some t) s→s∈ts:=fun s hs hb'=>by
   rcases List.mem_cons.mp (hm s hs (up s hb')) with c|c
   ·have:t<s:=hb'; grind
   ·exact c
  have next:∀ u,t≤u→(∀ s∈ts,u<s)→Leads ls u (cP ls t):=fun u hu hs=>by
   refine(Leads.const hu ?_).mp (mQ hne t)
   rintro⟨i,j,l,k,e1,e2,e3,e4,e5⟩
   have:=hs _ (hm' (mt l k) ⟨i,j,l,k,e1,e2,e3,rfl⟩ e4);grind
  have before:∀ u,Fr lo u→u<t→Leads ls u last:=fun u hu ht=>h u hu fun s hs=>by
   rcases List.mem_cons.mp hs with c|c
   ·rw[c]; exact ht
   ·have:=p1 s c; grind
  show RowFrom ls lo last (if cP ls t=last then _ else _)
  by_cases c:cP ls t=last
  ·rw[if_pos c];refine xX hne ts lo (some t) last p2 (fun s hs=>hb s (List.mem_cons_of_mem _ hs)) (fun s hs=>p1 s hs) (fun u hu hs=>?_) hm'
   by_cases d:u<t
   ·exact before u hu d
   ·rw[← c]; exact next u (by grind) hs
  ·rw[if_neg c];exact⟨hbt,c,before,xX hne ts (some t) (some t) (cP ls t) p2 (fun s hs=>p1 s hs) (fun s hs=>p1 s hs) (fun u hu hs=>next u hu hs) hm'⟩
end LT
namespace LT
def slo (ls:List Ln)(i:Nat):Rat:=match ls[i]? with
 | some l=>l.2
 | none=>0
theorem qR {ls:List Ln}{i:Nat}{l:Ln}(h:ls[i]?=some l):slo ls i=l.2:=by unfold slo; rw[h]
theorem aL2 {ls:List Ln}{t:Rat}{i j:Nat}(h:ahN ls t i j=true):∃ l k,ls[i]?=some l∧ls[j]?=some k∧ahB l k i j t=true:=by
 unfold ahN at h
 cases e1:ls[i]? with
 | none=>rw[e1] at h; cases h
 | some l=>
  cases e2:ls[j]? with
  | none=>rw[e1,e2] at h; cases h
  | some k=>rw[e1,e2] at h; exact⟨l,k,rfl,rfl,h⟩
theorem aAG {ls:List Ln}{t u:Rat}{i j:Nat}(h:ahN ls t i j=true)(hs:slo ls j≤slo ls i)(hu:t≤u):ahN ls u i j=true:=by
 obtain⟨l,k,e1,e2,h⟩:=aL2 h;rw[qR e1,qR e2] at hs;rw[jQ e1 e2]
 by_cases c:l.2=k.2
 ·rw[a1I c] at h ⊢; exact h
 ·by_cases d:mt l k≤t
  ·rw[aDZ c (by grind),decide_eq_true_eq]; grind
  ·rw[aBW c (by grind),decide_eq_true_eq] at h; grind
theorem stretch {lo:Option Rat}{s u:Rat}(h:Bf lo s)(hu:u<s):∃ v,u≤v∧v<s∧Fr lo v:=by
 cases lo with
 | none=>exact⟨u,by grind,hu,trivial⟩
 | some a=>
  have h:a<s:=h
  by_cases c:a≤u
  ·exact⟨u,by grind,hu,c⟩
  ·exact⟨a,by grind,h,(show a≤a by grind)⟩
def o4 (t:Rat)(r:Nat)(rest:List (Nat×Rat)):Nat:=rest.foldl (fun f p=>if t<p.2 then f else p.1) r
theorem a5C {ls:List Ln}{t:Rat}:∀{rest:List (Nat×Rat)} {s:Rat} {q r:Nat},RowFrom ls (some s) q rest→t<s→o4 t r rest=r
 | [],_,_,_,_,_=>rfl
 | p::rest,s,q,r,h,ht=>by
  have hb:s<p.2:=h.1;show o4 t (if t<p.2 then r else p.1) rest=r;rw[if_pos (by grind)];exact a5C h.2.2.2 (by grind)
theorem uO {ls:List Ln}{t:Rat}:∀{rest:List (Nat×Rat)} {lo:Option Rat} {r:Nat},RowFrom ls lo r rest→Fr lo t→Leads ls t (o4 t r rest)
 | [],_,_,h,ht=>h t ht
 | p::rest,lo,r,h,ht=>by
  show Leads ls t (o4 t (if t<p.2 then r else p.1) rest)
  by_cases c:t<p.2
  ·rw[if_pos c,a5C h.2.2.2 c]; exact h.2.2.1 t ht c
  ·rw[if_neg c]; exact uO h.2.2.2 (show p.2≤t by grind)
theorem aAZ {ls:List Ln}:∀{rest:List (Nat×Rat)} {lo:Option Rat} {r:Nat},RowFrom ls lo r rest→∀ x∈r::rest.map Prod.fst,∃ t,Leads ls t x
 | [],lo,r,h,x,hx=>by
  rw[List.mem_singleton.mp hx]
  cases lo with
  | none=>exact⟨0,h 0 trivial⟩
  | some s=>exact⟨s,h s (show s≤s by grind)⟩
 | p::rest,lo,r,h,x,hx=>by
  rcases List.mem_cons.mp hx with z|z
  ·rw[z];obtain⟨v,_,v2,v3⟩:=stretch (u:=p.2-1) h.1 (by grind);exact⟨v,h.2.2.1 v v3 v2⟩
  ·exact aAZ h.2.2.2 x z
end LT
namespace LT
def a3I (a:Nat→Nat→Bool)(rs:List Nat):List Nat:=rs.foldl (eE a) []
theorem ordStep_mem {a:Nat→Nat→Bool}{xs:List Nat}{k x:Nat}:x∈eE a xs k↔x∈xs∨x=k:=by
 unfold eE;simp only[List.mem_append,List.mem_filter,List.mem_singleton]
 cases a k x<;>simp[or_comm]
theorem a5U {a:Nat→Nat→Bool}{xs:List Nat}{k:Nat}:(eE a xs k).length=xs.length+1:=by
 have e:=a8W (fun o=>a k o) xs;unfold eE;simp only[List.length_append,List.length_singleton];omega
theorem aAW (a:Nat→Nat→Bool)(rs:List Nat)(k:Nat):a3I a (rs++[k])=eE a (a3I a rs) k:=by unfold a3I; rw[List.foldl_append]; rfl
theorem a4K {a:Nat→Nat→Bool}:∀(rs acc:List Nat) (x:Nat),x∈rs.foldl (eE a) acc↔x∈acc∨x∈rs
 | [],acc,x=>by simp
 | r::rs,acc,x=>by
  show x∈rs.foldl (eE a) (eE a acc r)↔_;rw[a4K rs,ordStep_mem,List.mem_cons];grind
theorem ordL_mem {a:Nat→Nat→Bool}{rs:List Nat}{x:Nat}:x∈a3I a rs↔x∈rs:=by unfold a3I; rw[a4K]; simp
theorem a4H {a:Nat→Nat→Bool}:∀(rs acc:List Nat),(rs.foldl (eE a) acc).length=acc.length+rs.length
 | [],acc=>rfl
 | r::rs,acc=>by
  show(rs.foldl (eE a) (eE a acc r)).length=_
  rw[a4H rs,a5U,List.length_cons];omega
theorem a2O {a:Nat→Nat→Bool}{rs:List Nat}:(a3I a rs).length=rs.length:=by unfold a3I; rw[a4H]; simp
theorem a4M {a:Nat→Nat→Bool}{n:Nat}(h:Strict a n):∀(rs acc:List Nat),(∀ x∈rs,x<n)→(∀ x∈acc,x<n)→rs.Nodup→(∀ x∈acc,x∉rs)→Srt a acc→Srt a (rs.foldl (eE a) acc)
 | [],acc,_,_,_,_,hs=>hs
 | r::rs,acc,h1,h2,h3,h4,hs=>by
  obtain⟨n1,n2⟩:=List.nodup_cons.mp h3;have hr:=h1 r List.mem_cons_self;refine a4M h rs (eE a acc r) (fun x hx=>h1 x (List.mem_cons_of_mem _ hx)) (fun x hx=>?_) n2 (fun x hx hm=>?_) (a75 h hr (fun x hx=>⟨h2 x hx,fun e=>h4 x hx (by rw[e]; exact List.mem_cons_self)⟩) hs)
  ·rcases ordStep_mem.mp hx with z|z
   ·exact h2 x z
   ·rw[z]; exact hr
  ·rcases ordStep_mem.mp hx with z|z
   ·exact h4 x z (List.mem_cons_of_mem _ hm)
   ·exact n1 (by rw[← z]; exact hm)
theorem a8N {a:Nat→Nat→Bool}{n:Nat}{rs:List Nat}(h:Strict a n)(h1:∀ x∈rs,x<n)(h2:rs.Nodup):Srt a (a3I a rs):=
 a4M h rs [] h1 (fun x hx=>nomatch hx) h2 (fun x hx=>nomatch hx) List.Pairwise.nil
end LT
namespace LT
def mtN (ls:List Ln)(i j:Nat):Rat:=match ls[i]?,ls[j]? with
 | some l,some k=>mt l k
 | _,_=>0
theorem a4I {ls:List Ln}{i j:Nat}{l k:Ln}(h1:ls[i]?=some l)(h2:ls[j]?=some k):mtN ls i j=mt l k:=by unfold mtN; rw[h1,h2]
def wO (ls:List Ln)(L n:Nat)(b:Option (Nat×Rat)):Option (Nat×Rat):=
 if slo ls L<slo ls n then(match b with
  | none=>some (n,mtN ls L n)
  | some c=>if mtN ls L n=c.2 then(if ahN ls (mtN ls L n) n c.1=true then some (n,mtN ls L n) else some c) else if mtN ls L n<c.2 then some (n,mtN ls L n) else some c)
 else b
def aCL (ls:List Ln)(L:Nat):Nat→Option (Nat×Rat)
 | 0=>none
 | n+1=>wO ls L n (aCL ls L n)
def nlN (ls:List Ln)(L:Nat):Option (Nat×Rat):=aCL ls L ls.length
theorem xY {ls:List Ln}{L:Nat}:∀ n,aCL ls L n=none→∀ j,j<n→¬slo ls L<slo ls j
 | 0,_,j,hj=>absurd hj (by omega)
 | n+1,h,j,hj=>by
  have h:wO ls L n (aCL ls L n)=none:=h;unfold wO at h
  split at h
  ·split at h
   ·cases h
   ·split at h
    ·split at h<;>cases h
    ·split at h<;>cases h
  ·rename_i c
   by_cases e:j=n
   ·rw[e]; exact c
   ·exact xY n h j (by omega)
structure NlOk (ls:List Ln)(L n:Nat)(c:Nat×Rat):Prop where
 lt:c.1<n
 st:slo ls L<slo ls c.1
 tm:c.2=mtN ls L c.1
 mn:∀ j,j<n→slo ls L<slo ls j→c.2≤mtN ls L j
 tie:∀ j,j<n→slo ls L<slo ls j→mtN ls L j=c.2→j≠c.1→ahN ls c.2 c.1 j=true
theorem sH {ls:List Ln}{L:Nat}:∀ n,n≤ls.length→∀ c,aCL ls L n=some c→NlOk ls L n c
 | 0,_,c,h=>by cases h
 | n+1,hn,c,h=>by
  have ih:=sH (ls:=ls) (L:=L) n (by omega);have S:=fun t=>fY ls t;have h:wO ls L n (aCL ls L n)=some c:=h;unfold wO at h
  split at h
  ·rename_i hs
   cases hb:aCL ls L n with
   | none=>
    rw[hb] at h
    cases h
    have no:=xY n hb;refine⟨by show n<n+1; omega,hs,rfl,fun j hj hj2=>?_,fun j hj hj2 _ hne=>?_⟩
    ·by_cases e:j=n
     ·rw[e]; exact Rat.le_refl
     ·exact absurd hj2 (no j (by omega))
    ·exact absurd hj2 (no j (by have:j≠n:=hne; omega))
   | some b=>
    rw[hb] at h;have B:=ih b hb;dsimp only at h
    by_cases e1:mtN ls L n=b.2
    ·rw[if_pos e1] at h
     by_cases e2:ahN ls (mtN ls L n) n b.1=true
     ·rw[if_pos e2] at h
      cases h
      refine⟨by show n<n+1; omega,hs,rfl,fun j hj hj2=>?_,fun j hj hj2 hm hne=>?_⟩
      ·by_cases e:j=n
       ·rw[e]; exact Rat.le_refl
       ·show mtN ls L n≤_; rw[e1]; exact B.mn j (by omega) hj2
      ·have hj3:j<n:=by have:j≠n:=hne; omega
       show ahN ls (mtN ls L n) n j=true
       by_cases e:j=b.1
       ·rw[e]; exact e2
       ·have t1:=B.tie j hj3 hj2 (by rw[hm]; exact e1) e;rw[← e1] at t1;exact(S _).trans n b.1 j (by omega) (by have:=B.lt; omega) (by omega) e2 t1
     ·rw[if_neg e2] at h
      cases h
      refine⟨by have:=B.lt; omega,B.st,B.tm,fun j hj hj2=>?_,fun j hj hj2 hm hne=>?_⟩
      ·by_cases e:j=n
       ·rw[e,e1]; exact Rat.le_refl
       ·exact B.mn j (by omega) hj2
      ·by_cases e:j=n
       ·rw[e];have hb1:=B.lt;rw[e1] at e2
        rcases(S c.2).total c.1 n (by omega) (by omega) (by omega) with z|z
        ·exact z
        ·exact absurd z e2
       ·exact B.tie j (by omega) hj2 hm hne
    ·rw[if_neg e1] at h
     by_cases e2:mtN ls L n<b.2
     ·rw[if_pos e2] at h
      cases h
      refine⟨by show n<n+1; omega,hs,rfl,fun j hj hj2=>?_,fun j hj hj2 hm hne=>?_⟩
      ·by_cases e:j=n
       ·rw[e]; exact Rat.le_refl
       ·have:=B.mn j (by omega) hj2;show mtN ls L n≤mtN ls L j;grind
      ·have:=B.mn j (by have:j≠n:=hne; omega) hj2;have hm:mtN ls L j=mtN ls L n:=hm;grind
     ·rw[if_neg e2] at h
      cases h
      refine⟨by have:=B.lt; omega,B.st,B.tm,fun j hj hj2=>?_,fun j hj hj2 hm hne=>?_⟩
      ·by_cases e:j=n
       ·rw[e]; grind
       ·exact B.mn j (by omega) hj2
      ·by_cases e:j=n
       ·rw[e] at hm; exact absurd hm e1
       ·exact B.tie j (by omega) hj2 hm hne
  ·rename_i hs
   have B:=ih c h;refine⟨by have:=B.lt; omega,B.st,B.tm,fun j hj hj2=>?_,fun j hj hj2 hm hne=>?_⟩
   ·by_cases e:j=n
    ·rw[e] at hj2; exact absurd hj2 hs
    ·exact B.mn j (by omega) hj2
   ·by_cases e:j=n
    ·rw[e] at hj2; exact absurd hj2 hs
    ·exact B.tie j (by omega) hj2 hm hne
theorem a0D {ls:List Ln}{i j:Nat}{t:Rat}(hi:i<ls.length)(hj:j<ls.length)(hs:slo ls i<slo ls j)(ht:t<mtN ls i j):ahN ls t i j=true:=by
 have e1:ls[i]?=some ls[i]:=List.getElem?_eq_getElem hi;have e2:ls[j]?=some ls[j]:=List.getElem?_eq_getElem hj;rw[qR e1,qR e2] at hs;rw[a4I e1 e2] at ht;rw[jQ e1 e2,aBW (by grind) ht,decide_eq_true hs]
theorem yN {ls:List Ln}{i j:Nat}{t:Rat}(hi:i<ls.length)(hj:j<ls.length)(hs:slo ls i<slo ls j)(ht:mtN ls i j≤t):ahN ls t j i=true:=by
 have e1:ls[i]?=some ls[i]:=List.getElem?_eq_getElem hi;have e2:ls[j]?=some ls[j]:=List.getElem?_eq_getElem hj;rw[qR e1,qR e2] at hs;rw[a4I e1 e2] at ht;rw[jQ e2 e1,aDZ (by grind) (by rw[a6O (by grind)]; exact ht),decide_eq_true hs]
def LeadFr (ls:List Ln)(lo:Option Rat)(L:Nat):Prop:=∀ t,Fr lo t→∃ u,u≤t∧Fr lo u∧Leads ls u L
theorem LeadFr.at {ls:List Ln}{s:Rat}{L:Nat}(h:Leads ls s L):LeadFr ls (some s) L:=fun t ht=>⟨s,ht,(show s≤s by grind),h⟩
theorem row_end {ls:List Ln}{lo:Option Rat}{L:Nat}(h:LeadFr ls lo L)(hn:nlN ls L=none):RowFrom ls lo L []:=by
 intro t ht;obtain⟨u,hu,_,hl⟩:=h t ht;refine⟨hl.1,fun j hj hne=>aAG (hl.2 j hj hne) ?_ hu⟩;have:=xY _ hn j hj;grind
theorem a8H {ls:List Ln}{lo:Option Rat}{L:Nat}{c:Nat×Rat}(h:LeadFr ls lo L)(hc:nlN ls L=some c) :
  Bf lo c.2∧c.1≠L∧(∀ t,Fr lo t→t<c.2→Leads ls t L)∧Leads ls c.2 c.1:=by
 have C:=sH _ (Nat.le_refl _) c hc;have lead:∀ u,Leads ls u L→∀ t,u≤t→t<c.2→Leads ls t L:=fun u hl t hu ht=>by
  refine⟨hl.1,fun j hj hne=>?_⟩
  by_cases hs:slo ls L<slo ls j
  ·exact a0D hl.1 hj hs (by have:=C.mn j hj hs; grind)
  ·exact aAG (hl.2 j hj hne) (by grind) hu
 have hne:c.1≠L:=fun e=>by have:=C.st; rw[e] at this; grind
 have up:∀ u,Leads ls u L→u<c.2:=fun u hl=>by
  apply Classical.byContradiction;intro hge;have h1:=hl.2 c.1 C.lt hne;have h2:=yN (t:=u) hl.1 C.lt C.st (by rw[← C.tm]; grind);rw[(fY ls u).asymm _ _ hl.1 C.lt h1] at h2
  cases h2
 have some_u:∃ u,Fr lo u∧Leads ls u L:=by
  cases lo with
  | none=>obtain⟨u,_,h2,h3⟩:=h 0 trivial; exact⟨u,h2,h3⟩
  | some s=>obtain⟨u,_,h2,h3⟩:=h s (show s≤s by grind); exact⟨u,h2,h3⟩
 obtain⟨u0,f0,l0⟩:=some_u;have hu0:=up u0 l0;refine⟨?_,hne,fun t ht hlt=>?_,C.lt,fun j hj hjc=>?_⟩
 ·cases lo with
  | none=>trivial
  | some s=>
   have f0:s≤u0:=f0;show s<c.2;grind
 ·obtain⟨u,hu,_,hl⟩:=h t ht;exact lead u hl t hu hlt
 ·have S:=fY ls c.2;have cL:ahN ls c.2 c.1 L=true:=yN l0.1 C.lt C.st (by rw[← C.tm]; exact Rat.le_refl)
  by_cases e:j=L
  ·rw[e]; exact cL
  ·by_cases hs:slo ls L<slo ls j
   ·by_cases hm:mtN ls L j=c.2
    ·exact C.tie j hj hs hm hjc
    ·have:=C.mn j hj hs;exact S.trans _ L _ C.lt l0.1 hj cL (a0D l0.1 hj hs (by grind))
   ·exact S.trans _ L _ C.lt l0.1 hj cL (aAG (l0.2 j hj e) (by grind) (by grind))
def oH (l k:Ln):Bool:=if l.2=k.2 then decide (k.1<l.1) else decide (l.2<k.2)
def qM (ls:List Ln):Nat→Nat
 | 0=>0
 | n+1=>match ls[n+1]?,ls[qM ls n]? with
  | some l,some k=>if oH l k=true then n+1 else qM ls n
  | _,_=>qM ls n
def flN (ls:List Ln):Nat:=qM ls (ls.length-1)
theorem a1S (ls:List Ln):∀ n,qM ls n≤n
 | 0=>Nat.le_refl _
 | n+1=>by
  have ih:=a1S ls n;unfold qM
  split
  ·split<;>omega
  ·omega
def aIM (ls:List Ln)(i j:Nat):Prop:=∃ l k,ls[i]?=some l∧ls[j]?=some k∧(l.2<k.2∨(l.2=k.2∧(k.1<l.1∨(k.1=l.1∧i<j))))
theorem a0Q (ls:List Ln):∀ n,n<ls.length→∀ j,j≤n→j≠qM ls n→aIM ls (qM ls n) j
 | 0,_,j,hj,hn=>absurd (show j=qM ls 0 by show j=0; omega) hn
 | n+1,hl,j,hj,hn=>by
  have ih:=a0Q ls n (by omega);have le:=a1S ls n;have e1:ls[n+1]?=some ls[n+1]:=List.getElem?_eq_getElem hl;have e2:ls[qM ls n]?=some ls[qM ls n]:=List.getElem?_eq_getElem (by omega);have e:qM ls (n+1)=if oH ls[n+1] ls[qM ls n]=true then n+1 else qM ls n:=by
   show(match ls[n+1]?,ls[qM ls n]? with|some l,some k=>if oH l k=true then n+1 else qM ls n|_,_=>qM ls n)=_
   rw[e1,e2]
  rw[e] at hn ⊢
  by_cases c:oH ls[n+1] ls[qM ls n]=true
  ·rw[if_pos c] at hn ⊢;unfold oH at c
   by_cases d:j=qM ls n
   ·rw[d];refine⟨_,_,e1,e2,?_⟩
    split at c
    ·exact .inr ⟨by assumption,.inl (of_decide_eq_true c)⟩
    ·exact .inl (of_decide_eq_true c)
   ·obtain⟨l,k,f1,f2,h⟩:=ih j (by omega) d;rw[e2] at f1; cases f1;refine⟨_,k,e1,f2,?_⟩
    split at c
    ·have:=of_decide_eq_true c; grind
    ·have:=of_decide_eq_true c; grind
  ·rw[if_neg c] at hn ⊢
   by_cases d:j=n+1
   ·rw[d];refine⟨_,_,e2,e1,?_⟩;unfold oH at c
    split at c
    ·have:¬ls[qM ls n].1<ls[n+1].1:=fun h=>c (decide_eq_true h)
     by_cases z:ls[n+1].1=ls[qM ls n].1
     ·exact .inr ⟨by grind,.inr ⟨z,by omega⟩⟩
     ·exact .inr ⟨by grind,.inl (by grind)⟩
    ·have:¬ls[n+1].2<ls[qM ls n].2:=fun h=>c (decide_eq_true h);exact .inl (by grind)
   ·exact ih j (by omega) hn
def mK (ls:List Ln)(i:Nat)(t:Rat):Nat→Rat
 | 0=>t
 | n+1=>if mtN ls i n≤mK ls i t n then mtN ls i n-1 else mK ls i t n
theorem yQ (ls:List Ln)(i:Nat)(t:Rat):∀ n,mK ls i t n≤t
 | 0=>Rat.le_refl
 | n+1=>by
  have ih:=yQ ls i t n;unfold mK
  split<;>grind
theorem xH (ls:List Ln)(i:Nat)(t:Rat):∀ n j,j<n→mK ls i t n<mtN ls i j
 | 0,j,hj=>absurd hj (by omega)
 | n+1,j,hj=>by
  have ih:=xH ls i t n;unfold mK
  by_cases e:j=n
  ·rw[e]; split<;>grind
  ·have:=ih j (by omega)
   split<;>grind
theorem aFC {ls:List Ln}(h:ls≠[]):LeadFr ls none (flN ls):=by
 intro t _;have hl:=List.length_pos_iff.mpr h;have le:=a1S ls (ls.length-1);have hf:flN ls<ls.length:=by unfold flN; omega
 refine⟨mK ls (flN ls) t ls.length,yQ ls _ t _,trivial,hf,fun j hj hne=>?_⟩;obtain⟨l,k,e1,e2,hh⟩:=a0Q ls (ls.length-1) (by omega) j (by omega) hne;have e1:ls[flN ls]?=some l:=e1;have hb:=xH ls (flN ls) t ls.length j hj;rw[a4I e1 e2] at hb;rw[jQ e1 e2]
 by_cases c:l.2=k.2
 ·rw[a1I c];rcases hh with z|⟨_,z|⟨z1,z2⟩⟩
  ·grind
  ·rw[if_neg (by grind),decide_eq_true z]
  ·rw[if_pos z1.symm];exact decide_eq_true (by have:flN ls<j:=z2; omega)
 ·rw[aBW c hb];exact decide_eq_true (by grind)
end LT
namespace PySem
open Sem (wp)
open AutoSeq1 (wpAny_loadPart')
section
variable {prog:Program}{w:World}{A:Around}{E:Value→Shared→Prop}{s:Shared}{d it:Addr}{es:Array DictEntry}{ep:Nat}
end
section
variable {prog:Program}{w:World}{K:Type}[DecidableEq K]{knd:HeapKind prog w K}{A:Around}{E:Value→Shared→Prop}{s:Shared}
end
end PySem
namespace L2
open PySem PySem.Spec PyProof.Rows
section
variable {P:Program}{w:World}{H:Hp}{h:Heap}{p:Addr}{xs:List (List Int×Addr×Addr)}{ep:Nat}
end
section
variable {X:Cx}
variable {o e:Expr}{es:List Expr}{to:TE}{t:TA}{name:Str}{apos cpos:Pos}{id:String}{r:V→List V→Hp→VK→Prop}
end
end L2
namespace L2.VS
open PySem PySem.Spec PyProof.Rows
section
variable {P0:Addr→Hp→Prop}{A:Nat→Bool}
end
end L2.VS
namespace L2
open PySem PySem.Spec PyProof.Rows
end L2
namespace L2.VS
open PySem PySem.Spec PyProof.Rows
section
variable {P0:Addr→Hp→Prop}{A:Nat→Bool}
section
variable {F:Fra P0}{Γ:En}{σ:St}{G H:Hp}
end
end
end L2.VS
namespace L2
open PySem PySem.Calls PyProof.Rows PySem.W
section
variable {cmp:Nat→Nat→(Bool→Shared→Prop)→Shared→Prop}
end
section
variable {prog:Program}{w:World}{A:Around}{E:Value→Shared→Prop}{s:Shared}{Q:Bool→Shared→Prop}
end
section
variable {prog:Program}{w:World}{A:Around}{E:Value→Shared→Prop}{s:Shared}
end
end L2
namespace L2
open PySem PySem.Spec PyProof.Rows
theorem ObjOk.there {P:Program}{w:World}{H:Hp}{h:Heap}{a:Addr}{o:HO}(x:ObjOk P w H h a o):∃ u,h.get? a=some u:=by
 cases o with
 | lst xs=>obtain⟨_,_,_,_,e⟩:=x; exact⟨_,e⟩
 | tup xs=>obtain⟨_,_,_,o,e,_⟩:=x; exact⟨_,e⟩
 | dK kvs=>obtain⟨_,_,_,_,o,_,_,e,_⟩:=x; exact⟨_,e⟩
 | dT kvs=>obtain⟨_,_,_,_,o,_,_,e,_⟩:=x; exact⟨_,e⟩
 | set S n=>obtain⟨o,_,_,_,e,_⟩:=x; exact⟨_,e⟩
 | ins C dx fs=>obtain⟨_,_,_,e,_⟩:=x; exact⟨_,e⟩
 | own y=>obtain⟨_,e⟩:=x; exact⟨_,e⟩
 | xd fs=>obtain⟨_,⟨_,_,_,e,_⟩,_⟩:=x; exact⟨_,e⟩
 | rng lo hi=>obtain⟨_,_,_,e⟩:=x; exact⟨_,e⟩
 | frz ob u=>obtain⟨e,_⟩:=x; exact⟨_,e⟩
 | tbl ps=>exact⟨_,show h.get? a=some _ from x⟩
 | met f y=>exact⟨_,show h.get? a=some _ from x⟩
 | ext φ=>obtain⟨_,⟨_,e⟩,_⟩:=x; exact⟨_,e⟩
theorem aLN {h:Heap}{L:Addr}{m m':Mg}(a:h.Ns L m)(b:h.Ns L m'):m=m':=by
 obtain⟨o,es,ep,h1,h2,_,h3⟩:=a;obtain⟨o',es',ep',g1,g2,_,g3⟩:=b;rw[h1] at g1; cases g1;rw[h2] at g2; cases g2
 funext x
 rw[← h3 x,g3 x]
section
variable {X:Cx}
end
end L2
namespace L2.VS
open PySem PySem.Spec PyProof.Rows
section
variable {P0:Addr→Hp→Prop}{A:Nat→Bool}
end
section
variable {P0:Addr→Hp→Prop}{A:Nat→Bool}
end
end L2.VS
namespace L2
open PySem PySem.Spec PyProof.Rows
def aLO:TE:=fun _ H Q=>∀ p,H p=none→Q (.ref p) (upd H p (.dK []))
theorem aD0 {X:Cx}{pos:Pos}:PE X (.Dict [] [] pos) aLO:=by
 intro pins s σ H Q I h;have big:sysModules<s.heap.objs.size:=Nat.lt_trans (by decide) (show mainGlobals<s.heap.objs.size from(I.mod.glob.keeps I.bk).lt);have ok:ObjOk X.prog X.w (upd H s.heap.objs.size (.dK [])) (s.heap.push { cls:=.type "dict", data:=.dict #[] }) s.heap.objs.size (.dK []):=⟨Nat.zero_le _,beq_eq_false_iff_ne.mpr (Ne.symm (Nat.ne_of_lt big)),[],.nil,Heap.DictOf.new _⟩;exact wpAny_Dict_empty ⟨.ref s.heap.objs.size,_,I.laid (a:=s.heap.objs.size) (o:=.dK []) (t':=s.toks) (fun _ _ q=>Heap.get?_push_of_some _ q) (Nat.le_refl _) ok,rfl,h _ (I.hok.fresh (Nat.le_refl _))⟩
namespace VS
variable {P0:Addr→Hp→Prop}
def aEL:ME:=fun Γ Q=>Q (.dict []) Γ
theorem aCW:VT P0 aLO aEL:=by
 intro F Γ σ G H Q Qm r m k p hp;have g:=mY (r.fr.gfresh hp) (.dK []);exact k _ _ _ _ _ m g (r.new hp) (.dic (.inl bA) .nil)
theorem aJS {Γ:En}{Q:D→En→Prop}(h:Q (.dict []) Γ):aEL Γ Q:=h
end VS
end L2
namespace L2.VS
open PySem PySem.Spec PyProof.Rows
section
variable {P0:Addr→Hp→Prop}{S:Type}
structure Fam (S:Type) where
 box:Addr→S→Bx
 pin:∀{p s v fp G H},(box p s).P v fp G H→v=.ref p
def RvP (G H:Hp)(v:V)(fp:List Addr):Rv→Prop
 | .val d=>fp=[]∧Dt G v d
 | .own ds=>∃ p vs,fp=[p]∧v=.ref p∧H p=some (.lst vs)∧Dts G vs ds
 | .box B=>B.P v fp G H
section
variable {G G' H H':Hp}{v:V}{fp fp':List Addr}
theorem RvP.mono (g:Same G G'):∀{rv:Rv},RvP G H v fp rv→RvP G' H v fp rv
 | .val _,h=>⟨h.1,Dt.same g _ _ h.2⟩
 | .own _,h=>let ⟨p,vs,a,b,c,d⟩:=h; ⟨p,vs,a,b,c,Dts.same g _ _ d⟩
 | .box B,h=>B.mono g h
theorem RvP.loc (k:∀ b∈fp,H' b=H b):∀{rv:Rv},RvP G H v fp rv→RvP G H' v fp rv
 | .val _,h=>h
 | .own _,h=>let ⟨p,vs,a,b,c,d⟩:=h; ⟨p,vs,a,b,(k p (by rw[a]; exact List.mem_singleton.mpr rfl)).trans c,d⟩
 | .box B,h=>B.loc k h
theorem RvP.dom:∀{rv:Rv},RvP G H v fp rv→∀ b∈fp,∃ o,H b=some o
 | .val _,h=>fun b hb=>by rw[h.1] at hb; cases hb
 | .own _,h=>fun b hb=>by
  obtain⟨p,vs,a,_,c,_⟩:=h;rw[a] at hb;rw[List.mem_singleton.mp hb];exact⟨_,c⟩
 | .box B,h=>B.dom h
theorem RvP.uniq:∀{rv:Rv},RvP G H v fp rv→RvP G H v fp' rv→fp=fp'
 | .val _,h,g=>h.1.trans g.1.symm
 | .own _,h,g=>by
  obtain⟨p,_,a,b,_⟩:=h;obtain⟨q,_,c,d,_⟩:=g;rw[b] at d
  cases d
  rw[a,c]
 | .box B,h,g=>B.uniq h g
theorem RvP.nt:∀{rv:Rv},RvP G H v fp rv→∀ b∈fp,∀ xs,H b=some (.tup xs)→∃ q∈fp,V.ref q∈xs∧∃ vs,H q=some (.lst vs)
 | .val _,h=>fun b hb=>by rw[h.1] at hb; cases hb
 | .own _,h=>fun b hb xs e=>by
  obtain⟨p,vs,a,_,c,_⟩:=h;rw[a] at hb;rw[List.mem_singleton.mp hb,c] at e
  cases e
 | .box B,h=>B.nt h
end
def bKp (W:Fam S)(rv:Rv)(p:Addr)(s:S):Bx where
 P:=fun v fp G H=>∃ f1 f2,fp=f1++f2∧RvP G H v f1 rv∧(W.box p s).P (.ref p) f2 G H∧∀ b∈f1,b∉f2
 mono:=fun g ⟨f1,f2,e,a,b,c⟩=>⟨f1,f2,e,a.mono g,(W.box p s).mono g b,c⟩
 loc:=fun k ⟨f1,f2,e,a,b,c⟩=>⟨f1,f2,e,a.loc fun x hx=>k x (by rw[e]; exact List.mem_append_left _ hx),(W.box p s).loc (fun x hx=>k x (by rw[e]; exact List.mem_append_right _ hx)) b,c⟩
 dom:=fun⟨f1,f2,e,a,b,c⟩ x hx=>by
  rw[e] at hx;exact(List.mem_append.mp hx).elim (a.dom x) ((W.box p s).dom b x)
 uniq:=fun⟨f1,f2,e,a,b,_⟩ ⟨g1,g2,e',a',b',_⟩=>by rw[e,e',a.uniq a',(W.box p s).uniq b b']
 nt:=fun⟨f1,f2,e,a,b,_⟩ x hx xs z=>by
  rw[e] at hx;rcases List.mem_append.mp hx with h|h
  ·obtain⟨q,h1,h2⟩:=a.nt x h xs z;exact⟨q,by rw[e]; exact List.mem_append_left _ h1,h2⟩
  ·obtain⟨q,h1,h2⟩:=(W.box p s).nt b x h xs z;exact⟨q,by rw[e]; exact List.mem_append_right _ h1,h2⟩
 view:=none
 vok:=fun _ z=>nomatch z
def aD1 (W:Fam S)(m:MO):MS:=fun Γ Q=>m Γ fun rv Γ1=>∃ p s,Γ1[0]?=some (.box (W.box p s))∧Q (.rt (.box (bKp W rv p s)))
theorem a6M {W:Fam S}{A:Nat→Bool}{t:TE}{m:MO}(h:VO P0 t m):VSA P0 A (aN2 t) (aD1 W m):=by
 intro F Γ σ G H E Qm r hm k;refine h F Γ σ G H _ _ r hm fun rv Γ1 v G1 H1 m1 s1 r1 v1 a1=>?_;obtain⟨p,s,e,q⟩:=m1;obtain⟨fps,h1,h2⟩:=r1.fps;have h0:=h1 0 _ e;obtain⟨w,ew,pw,nw⟩:=id h0;have z:=W.pin pw;subst z;refine k _ q v G1 H1 s1 r1.fr ?_
 cases rv with
 | val d=>exact⟨_,⟨[],fps 0,rfl,⟨rfl,v1⟩,pw,fun b hb=>nomatch hb⟩,nw⟩
 | own ds=>
  obtain⟨u,vs,rfl,e1,e2,e3,e4⟩:=v1;refine⟨_,⟨[u],fps 0,rfl,⟨u,vs,rfl,rfl,e3,e4⟩,pw,fun b hb=>?_⟩,fun b hb=>?_⟩
  ·rw[List.mem_singleton.mp hb];exact a1 0 _ _ e h0 u rfl
  ·rcases List.mem_append.mp hb with hb|hb
   ·rw[List.mem_singleton.mp hb];exact⟨e1,e2⟩
   ·exact nw b hb
 | box B=>
  obtain⟨fp,e1,e2⟩:=v1;refine⟨_,⟨fp,fps 0,rfl,e1,pw,fun b hb=>a1 0 _ _ fp e h0 e1 b hb⟩,fun b hb=>?_⟩;rcases List.mem_append.mp hb with hb|hb
  ·exact e2 b hb
  ·exact nw b hb
abbrev Lm (S:Type):=Addr→S→List Sl→(Rv→S→Prop)→Prop
def aLL (W:Fam S)(n:Nat)(b:MS):Lm S:=fun p s as Q=>b (.box (W.box p s)::(as++List.replicate n .no)) fun fl=>match fl with
 | .rt rv=>∃ rv0 s',rv=.box (bKp W rv0 p s')∧Q rv0 s'
 | .nx Γ=>∃ s',Γ[0]?=some (.box (W.box p s'))∧Q (.val .none) s'
 | _=>False
def spL (P0:Addr→Hp→Prop)(W:Fam S)(n:Nat)(f:Lm S):Sp:=fun vs H Q _=>∃(F:Fra P0) (p:Addr) (s:S) (fp:List Addr) (ws:List V) (as:List Sl) (Qm:Rv→S→Prop),vs=.ref p::ws∧(∀ b,F.H0 b=if b∈fp then none else H b)∧Rf F F.G0 H ∧
 (W.box p s).P (.ref p) fp F.G0 H∧(∀ b∈fp,F.G0 b=none)∧Paired (vL F F.G0) ws as∧as.length+1=n∧f p s as Qm ∧
 ∀ rv s' r f1 f2 G' H',Qm rv s'→Rf F G' H'→RvP G' H' r f1 rv→(W.box p s').P (.ref p) f2 G' H'→(∀ b∈f1,b∉f2)→(∀ b∈f1++f2,F.H0 b=none∧G' b=none)→Q r H'
theorem aIT {F:Fra P0}{G:Hp}{ws:List V}{as:List Sl}{i k m:Nat}{s:Sl}(pr:Paired (vL F G) ws as)(e:(as++List.replicate k Sl.no)[i]?=some s)(hne:s≠.no) :
  ∃ v,(ws.map some++List.replicate m none)[i]?=some (some v)∧vL F G v s:=by
 induction pr generalizing i with
 | nil=>
  rw[List.nil_append,List.getElem?_replicate] at e
  split at e
  ·cases e; exact absurd rfl hne
  ·cases e
 | cons a b ih=>
  cases i with
  | zero=>cases e; exact⟨_,rfl,a⟩
  | succ i=>exact ih e
theorem aAC {W:Fam S}{n k:Nat}{N:List Str}{t:TS}{b:MS}(h:VS P0 t b)(hN:N.length=n+k){vs:List V}{H:Hp}{Q:VK}{E:XK}(hs:spL P0 W n (aLL W k b) vs H Q E) :
  t { nx:=fun _ H'=>Q .non H',rt:=Q } (start N vs) H:=by
 obtain⟨F,p,s,fp,ws,as,Qm,rfl,hH,rf,hP,hG,pr,hl,hm,q⟩:=hs;have hlen:ws.length=as.length:=Paired.length pr;have r:R F (.box (W.box p s)::(as++List.replicate k .no)) (start N (.ref p::ws)) F.G0 H:=by
  refine⟨rf,?_,fun i=>if i=0 then fp else[],fun i u e=>?_,fun i j u z _ _ hij b hb hc=>?_⟩
  ·unfold start;simp only[List.length_cons,List.length_append,List.length_replicate,List.length_map];omega
  ·cases i with
   | zero=>
    cases e
    exact⟨.ref p,rfl,hP,fun b hb=>⟨by have hb:b∈fp:=hb; rw[hH,if_pos hb],hG b hb⟩⟩
   | succ i=>
    have e:(as++List.replicate k Sl.no)[i]?=some u:=e;have at_:u≠.no→∃ v,(start N (.ref p::ws))[i+1]?=some (some v)∧vL F F.G0 v u:=fun hne=>by
     obtain⟨v,ev,av⟩:=aIT (m:=N.length-(ws.length+1)) pr e hne;exact⟨v,ev,av⟩
    cases u with
    | no=>rfl
    | val d=>
     obtain⟨v,ev,av⟩:=at_ (by intro z; cases z)
     exact⟨rfl,v,ev,av⟩
    | own ds=>
     obtain⟨v,ev,av⟩:=at_ (by intro z; cases z)
     exact av.elim
    | pen=>
     obtain⟨v,ev,q,rfl,eq⟩:=at_ (by intro z; cases z)
     exact⟨rfl,q,ev,eq⟩
    | con q=>
     obtain⟨v,ev,av⟩:=at_ (by intro z; cases z)
     have av:v=.ref q:=av;rw[av] at ev;exact⟨rfl,ev⟩
    | pub B=>
     obtain⟨v,ev,av⟩:=at_ (by intro z; cases z)
     exact⟨rfl,v,ev,av⟩
    | box B=>
     obtain⟨v,ev,av⟩:=at_ (by intro z; cases z)
     exact av.elim
  ·dsimp only at hb hc
   split at hb
   ·rename_i hi
    split at hc
    ·rename_i hj; exact hij (hi.trans hj.symm)
    ·cases hc
   ·cases hb
 refine h F _ _ _ _ _ _ r hm fun fl hq=>?_
 cases fl with
 | nx Γ=>
  intro σ G' H' _ r' _;obtain⟨s',e,hq⟩:=hq;obtain⟨fps,h1,_⟩:=r'.fps;obtain⟨w,ew,pw,nw⟩:=h1 0 _ e;have z:=W.pin pw;subst z;exact q _ _ _ [] _ _ _ hq r'.fr ⟨rfl,.non⟩ pw (fun b hb=>nomatch hb) nw
 | rt rv=>
  intro v G' H' _ f' v';obtain⟨rv0,s',rfl,hq⟩:=hq;obtain⟨g,⟨f1,f2,rfl,a,b,c⟩,d⟩:=v';exact q _ _ _ _ _ _ _ hq f' a b c d
 | bk Γ=>exact hq.elim
 | ct Γ=>exact hq.elim
theorem aHG {W:Fam S}{n:Nat}{f:Lm S}{ps:List Str}(h:ps.length=n):∀ vs H Q E,spL P0 W n f vs H Q E→vs.length=ps.length:=by
 rintro vs H Q E ⟨F,p,s,fp,ws,as,Qm,rfl,_,_,_,_,pr,hl,_⟩;rw[List.length_cons,Paired.length pr,hl,h]
theorem _root_.L2.Fun.okL {P:Program}{w:World}{K:Fg}{mg:Mg}{base:Heap}{x qual:Str}{st:Stmt}{f:Addr}{fd:FuncData}{N ps:List Str}{k n j:Nat}{b:MS}{W:Fam S}
  (F:Fun K x qual st f fd) (S0:FnScope N ps (aR st)) (hn:ps.length=n) (hN:N.length=n+j)
  (hb:∀(cdv:Value) (A:Around) (outer:List Env) (s:Shared) (H:Hp) (E:XK),Room k (A.deeper (envOfC qual (aR st) s.heap.objs.size f cdv)) →
   SsX P0 (aGA CX0 P w K mg base N qual (aR st) f cdv A outer s H E).nox (lG st) b):FnOk P w K mg base CX0 (k+1) f fd ps (spL P0 W n (aLL W j b)):=by
 refine F.ok S0 (aHG hn) fun cdv A outer s H vs Q E hr hs=>?_;obtain⟨t,h1,h2⟩:=hb cdv A outer s H E hr;exact⟨t,h1,aAC h2 hN hs⟩
def a83 (W:Fam S)(n:Nat)(f:Lm S)(i:Nat)(m:MA):MO:=fun Γ Q=>∃ p,(∃ s,Γ[i]?=some (.box (W.box p s)))∧m Γ fun as Γ1=>∃ s1,Γ1[i]?=some (.box (W.box p s1))∧as.length+1=n∧f p s1 as fun rv s'=>Q rv (Γ1.set i (.box (W.box p s')))
def Fra.less (F:Fra P0){G H:Hp}(r:Rf F G H)(fp:List Addr)(hf:∀ b∈fp,F.H0 b=none):Fra P0 where
 H0:=fun b=>if b∈fp then none else H b
 G0:=G
 pen:=F.pen
 stab:=fun p e H1 H2 h=>F.stab p e H1 H2 fun b o z=>by
  obtain⟨o',e'⟩:=r.dom z;exact h b o' (by rw[if_neg (fun hb=>by rw[hf b hb] at z; cases z)]; exact e')
 pin:=F.pin
 pin0:=fun p e=>by
  obtain⟨o,z⟩:=F.pin0 p e;obtain⟨o',e'⟩:=F.pin p e H (r.pn p e);exact⟨o',by rw[if_neg (fun hb=>by rw[hf p hb] at z; cases z)]; exact e'⟩
 pg:=fun p e=>by
  obtain⟨o,e0⟩:=F.pin0 p e;rw[r.g0 p o e0];exact F.pg p e
end
section
variable {P0:Addr→Hp→Prop}
theorem aK3 {S:Type}{W:Fam S}{n:Nat}{b:MS}{p:Addr}{s:S}{as:List Sl}{Q:Rv→S→Prop}(h:b (.box (W.box p s)::(as++List.replicate n .no)) fun fl=>match fl with
 | .rt rv=>∃ rv0 s',rv=.box (bKp W rv0 p s')∧Q rv0 s'
 | .nx Γ=>∃ s',Γ[0]?=some (.box (W.box p s'))∧Q (.val .none) s'
 | _=>False):aLL W n b p s as Q:=h
end
section
variable {P0:Addr→Hp→Prop}
section
variable {C:Addr}{x:Str}{i:Nat}
variable {E:XK}
end
end
section
variable {P0:Addr→Hp→Prop}
end
section
variable {P0:Addr→Hp→Prop}{S:Type}
structure PartAt (W:Fam S)(p:Addr)(B:S→Bx)(v:V)(s:S)(fp f0:List Addr)(G H:Hp):Prop where
 sub:∀ b∈f0,b∈fp
 own:(W.box p s).P (.ref p) f0 G H
 back:∀ s' f0' G' H',Same G G'→(W.box p s').P (.ref p) f0' G' H'→(∀ b∈fp,b∉f0→H' b=H b∧b∉f0')→∃ fp',(B s').P v fp' G' H'∧∀ b∈fp',b∈f0'∨(b∈fp∧b∉f0)
def PartOf (W:Fam S)(p:Addr)(B:S→Bx):Prop:=∀{s v fp G H},(B s).P v fp G H→∃ f0,PartAt W p B v s fp f0 G H
theorem PartOf.self {W:Fam S}{p:Addr}:PartOf W p (W.box p):=fun{s v fp G H} h=>by
 have z:=W.pin h;subst z;exact⟨fp,fun _ h=>h,h,fun s' f' G' H' _ h' _=>⟨f',h',fun b hb=>.inl hb⟩⟩
section
variable {W:Fam S}{B:S→Bx}{i:Nat}{p:Addr}{s1 s':S}{F:Fra P0}{Γ1:En}{σ:St}{G1 H1 G' H':Hp}{v:V}{fp f0 f1 f2:List Addr}
theorem R.unlend (r1:R F Γ1 σ G1 H1)(e1:Γ1[i]?=some (.box (B s1)))(hi:SlF F G1 H1 σ[i]? fp (.box (B s1)))(hv:σ[i]?=some (some v))(hp:PartAt W p B v s1 fp f0 G1 H1)(hF:∀ b∈f0,F.H0 b=none)
  (f':Rf (F.less r1.fr f0 hF) G' H') (b2:(W.box p s').P (.ref p) f2 G' H') (d2:∀ b∈f2,(F.less r1.fr f0 hF).H0 b=none∧G' b=none) :
  Same G1 G'∧R F (Γ1.set i (.box (B s'))) σ G' H'∧(∀ b,(F.less r1.fr f0 hF).H0 b=none→F.H0 b=none) ∧
  ∀ f1:List Addr,(∀ b∈f1,(F.less r1.fr f0 hF).H0 b=none)→(∀ b∈f1,b∉f2)→∀(j:Nat) (u:Sl) (fq:List Addr),(Γ1.set i (.box (B s')))[j]?=some u→SlF F G' H' σ[j]? fq u→∀ x∈f1,x∉fq:=by
 obtain⟨fps,h1,h2⟩:=r1.fps;have z:=SlF.det hi (h1 i _ e1);subst z;obtain⟨v',ev',pv',nw⟩:=id hi;rw[hv] at ev'
 cases ev'
 have h0:∀ b,(F.less r1.fr f0 hF).H0 b=if b∈f0 then none else H1 b:=fun _=>rfl
 have inH:∀ b o,F.H0 b=some o→(if b∈f0 then none else H1 b)≠none:=fun b o z=>by
  obtain⟨o',e'⟩:=r1.fr.dom z;rw[if_neg (fun hb=>by rw[hF b hb] at z; cases z),e'];exact fun y=>nomatch y
 have nF:∀ b,(F.less r1.fr f0 hF).H0 b=none→F.H0 b=none:=fun b z=>by
  cases y:F.H0 b with
  | none=>rfl
  | some o=>exact absurd z (inH b o y)
 have nw0:∀ b∈f0,G1 b=none:=fun b hb=>(nw b (hp.sub b hb)).2;have sG:Same G1 G':=fun b o z=>by
  have hH:=r1.fr.sub b o z;have hb:b∉f0:=fun hb=>by rw[nw0 b hb] at z; cases z
  exact(f'.g0 b o (by rw[h0,if_neg hb]; exact hH)).trans z
 have rf:Rf F G' H':=by
  refine⟨f'.sub,fun b o z=>?_,fun b o z hb=>?_,f'.pn⟩
  ·obtain⟨o',e'⟩:=r1.fr.dom z;have hb:b∉f0:=fun hb=>by rw[hF b hb] at z; cases z
   exact(f'.g0 b o' (by rw[h0,if_neg hb]; exact e')).trans (r1.fr.g0 b o z)
  ·have hb':b∉f0:=fun hb=>by rw[hF b hb] at z; cases z
   exact f'.h0 b o (by rw[h0,if_neg hb']; exact r1.fr.h0 b o z hb) hb
 have stay:∀ b,F.H0 b=none→G1 b=none→(∃ o,H1 b=some o)→b∉f0→(F.less r1.fr f0 hF).H0 b≠none∧G' b=none∧H' b=H1 b:=fun b m1 m2 m3 hb=>by
  obtain⟨o,m3⟩:=m3;have y:(F.less r1.fr f0 hF).H0 b=some o:=by rw[h0,if_neg hb]; exact m3
  refine⟨by rw[y]; exact(fun z=>nomatch z),(f'.g0 b o y).trans m2,?_⟩;rw[m3];exact f'.h0 b o y (F.pen_ne m1)
 have oth:∀(j:Nat) (u:Sl),j≠i→Γ1[j]?=some u→∀ b∈fps j,(F.less r1.fr f0 hF).H0 b≠none∧G' b=none∧H' b=H1 b:=fun j u hj ej b hb=>by
  obtain⟨m1,m2,m3⟩:=(h1 j u ej).mine hb;exact stay b m1 m2 m3 fun z=>h2 j i u _ ej e1 hj b hb (hp.sub b z)
 have mine:∀ b∈fps i,b∉f0→(F.less r1.fr f0 hF).H0 b≠none∧G' b=none∧H' b=H1 b:=fun b hb hn=>by
  obtain⟨m1,m2,m3⟩:=(h1 i _ e1).mine hb;exact stay b m1 m2 m3 hn
 obtain⟨fp',pB,hfp⟩:=hp.back s' f2 G' H' sG b2 fun b hb hn=>⟨(mine b hb hn).2.2,fun z=>(mine b hb hn).1 (d2 b z).1⟩;have back:∀(j:Nat) (u:Sl),j≠i→(Γ1.set i (.box (B s')))[j]?=some u→Γ1[j]?=some u:=fun j u hj ej=>by rw[List.getElem?_set_ne (Ne.symm hj)] at ej; exact ej
 have hil:i<Γ1.length:=(List.getElem?_eq_some_iff.mp e1).1;have new:R F (Γ1.set i (.box (B s'))) σ G' H':=by
  refine⟨rf,by rw[List.length_set]; exact r1.len,fun j=>if j=i then fp' else fps j,fun j u ej=>?_,fun j l u z ej el hjl b hb hc=>?_⟩
  ·dsimp only
   by_cases hj:j=i
   ·subst hj;rw[if_pos rfl];rw[List.getElem?_set_self hil] at ej
    cases ej
    refine⟨v,hv,pB,fun x hx=>?_⟩;rcases hfp x hx with hx|⟨hx,hn⟩
    ·exact⟨nF x (d2 x hx).1,(d2 x hx).2⟩
    ·exact⟨(nw x hx).1,(mine x hx hn).2.1⟩
   ·rw[if_neg hj];have ej:=back j u hj ej;exact(h1 j u ej).go sG fun x hx=>(oth j u hj ej x hx).2
  ·dsimp only at hb hc;have cross:∀(l:Nat) (z:Sl),l≠i→Γ1[l]?=some z→∀ b∈fp',b∉fps l:=fun l z hl el b hb hc=>by
    rcases hfp b hb with hb|⟨hb,_⟩
    ·exact(oth l z hl el b hc).1 (d2 b hb).1
    ·exact h2 i l _ z e1 el (Ne.symm hl) b hb hc
   by_cases hj:j=i
   ·rw[if_pos hj] at hb;have hl':l≠i:=fun y=>hjl (hj.trans y.symm);rw[if_neg hl'] at hc;exact cross l z hl' (back l z hl' el) b hb hc
   ·rw[if_neg hj] at hb
    by_cases hl':l=i
    ·rw[if_pos hl'] at hc;exact cross j u hj (back j u hj ej) b hc hb
    ·rw[if_neg hl'] at hc;exact h2 j l u z (back j u hj ej) (back l z hl' el) hjl b hb hc
 refine⟨sG,new,nF,fun f1 hf1 ap j u fq ej hu x hx hxf=>?_⟩
 by_cases hj:j=i
 ·subst hj;rw[List.getElem?_set_self hil] at ej
  cases ej
  obtain⟨w,ew2,pw2,_⟩:=hu;rw[hv] at ew2
  cases ew2
  rw[(B s').uniq pw2 pB] at hxf;rcases hfp x hxf with h|⟨h,hn⟩
  ·exact ap x hx h
  ·exact(mine x h hn).1 (hf1 x hx)
 ·have ej:=back j u hj ej;have y:=SlF.det hu ((h1 j u ej).go sG fun x hx=>(oth j u hj ej x hx).2);rw[y] at hxf;exact(oth j u hj ej x hxf).1 (hf1 x hx)
theorem aAM {n:Nat}{f:Lm S}{as:List Sl}{rs:List V}{Q:VK}{E:XK}{Qm:Rv→En→Prop}(hB:PartOf W p B)(r1:R F Γ1 σ G1 H1)(e1:Γ1[i]?=some (.box (B s1)))(d1:Paired (vL F G1) rs as)(hl:as.length+1=n)
  (hf:f p s1 as fun rv s'=>Qm rv (Γ1.set i (.box (B s')))) (k:∀ rv Γ' r G' H',Qm rv Γ'→Same G1 G'→R F Γ' σ G' H'→RvO F G' H' r rv→Apart F Γ' σ G' H' r rv→Q r H'):spL P0 W n f (.ref p::(rs++[])) H1 Q E:=by
 obtain⟨fps,h1,h2⟩:=r1.fps;have hi:=h1 i _ e1;obtain⟨v,ew',pw',nw⟩:=id hi;obtain⟨f0,hp⟩:=hB pw';have hF:∀ b∈f0,F.H0 b=none:=fun b hb=>(nw b (hp.sub b hb)).1;refine⟨F.less r1.fr f0 hF,p,s1,f0,rs,as,fun rv s'=>Qm rv (Γ1.set i (.box (B s'))),by rw[List.append_nil],fun b=>rfl,
  ⟨r1.fr.sub,fun _ _ _=>rfl,fun b o z _=>?_,r1.fr.pn⟩,hp.own,fun b hb=>(nw b (hp.sub b hb)).2,Paired.imp' (fun a s h=>by cases s<;>exact h) d1,hl,hf,fun rv s' v1 f1 f2 G' H' hq f' a b c d=>?_⟩
 ·have z:(if b∈f0 then none else H1 b)=some o:=z
  split at z
  ·cases z
  ·exact z
 ·obtain⟨sG,new,nF,apart⟩:=r1.unlend e1 hi ew' hp hF f' b (fun x hx=>d x (List.mem_append_right _ hx));have apart:=apart f1 (fun x hx=>(d x (List.mem_append_left _ hx)).1) c;refine k rv _ v1 G' H' hq sG new ?_ ?_
  ·cases rv with
   | val d'=>exact a.2
   | own ds=>
    obtain⟨u,vs,e2,e3,e4,e5⟩:=a;have hu:=d u (List.mem_append_left _ (by rw[e2]; exact List.mem_singleton.mpr rfl));exact⟨u,vs,e3,nF u hu.1,hu.2,e4,e5⟩
   | box B=>exact⟨f1,a,fun x hx=>⟨nF x (d x (List.mem_append_left _ hx)).1,(d x (List.mem_append_left _ hx)).2⟩⟩
  ·cases rv with
   | val d'=>trivial
   | own ds=>
    intro j u fq ej hu y ey hy;obtain⟨u',vs,e2,e3,e4,e5⟩:=a;rw[e3] at ey
    cases ey
    exact apart j u fq ej hu _ (by rw[e2]; exact List.mem_singleton.mpr rfl) hy
   | box B=>
    intro j u fq g ej hu hg x hx;have y:g=f1:=B.uniq hg a;rw[y] at hx;exact apart j u fq ej hu x hx
end
end
section
section
variable {S:Type}{W:Fam S}{n i:Nat}{f:Lm S}{m:MA}{Γ Γ1:En}{p:Addr}{s:S}{as:List Sl}
def lnK (W:Fam S)(n:Nat)(f:Lm S)(i:Nat)(p:Addr)(Q:Rv→En→Prop)(as:List Sl)(Γ1:En):Prop:=∃ s1,Γ1[i]?=some (.box (W.box p s1))∧as.length+1=n∧f p s1 as fun rv s'=>Q rv (Γ1.set i (.box (W.box p s')))
theorem aK7 {Q:Rv→En→Prop}(h0:Γ[i]?=some (.box (W.box p s)))(h:m Γ (lnK W n f i p Q)):a83 W n f i m Γ Q:=⟨p,⟨s,h0⟩,h⟩
theorem aO5 {Q:Rv→En→Prop}(h0:Γ1[i]?=some (.box (W.box p s)))(hl:as.length+1=n)(h:f p s as fun rv s'=>Q rv (Γ1.set i (.box (W.box p s')))):lnK W n f i p Q as Γ1:=⟨s,h0,hl,h⟩
def rtK (W:Fam S)(Q:Fl→Prop)(rv:Rv)(Γ1:En):Prop:=∃ p s,Γ1[0]?=some (.box (W.box p s))∧Q (.rt (.box (bKp W rv p s)))
theorem aJ4 {mo:MO}{Q:Fl→Prop}(h:mo Γ (rtK W Q)):aD1 W mo Γ Q:=h
theorem aMU {rv:Rv}{Q:Fl→Prop}(h0:Γ1[0]?=some (.box (W.box p s)))(h:Q (.rt (.box (bKp W rv p s)))):rtK W Q rv Γ1:=⟨p,s,h0,h⟩
theorem aK2 {rv:Rv}{Q:Rv→S→Prop}(h:Q rv s):∃ rv0 s',Rv.box (bKp W rv p s)=.box (bKp W rv0 p s')∧Q rv0 s':=⟨rv,s,rfl,h⟩
variable {L w0 w1:Addr}{s0 s1:S}{mj:ME}
end
end
section
variable {P0:Addr→Hp→Prop}
def Bx.Cut (B:Bx):Prop:=∀{v fp G G' H},a9L G G'→B.P v fp G H→B.P v fp G' H
section
variable {F:Fra P0}{Γ Γ1:En}{σ:St}{G H G1 H1:Hp}{bs:List Bool}
end
section
variable {bs:List Bool}{Γ Γ1:En}
end
end
section
variable {P0:Addr→Hp→Prop}{S:Type}
end
section
variable {P0:Addr→Hp→Prop}{S:Type}
section
variable {C:Addr}{i:Nat}
theorem a7J {W:Fam S}{n:Nat}{m:Str}{f:Lm S}{t:TA}{ma:MA}{E:XK}(hW:∀{p s v fp G H},(W.box p s).P v fp G H→∃ dx fs,H p=some (.ins C dx fs)∧fs.lookup m=none)(h:VA P0 t ma):VO P0 (aBM C m (spL P0 W n f) [] E (vZ i) t) (a83 W n f i ma):=by
 intro F Γ σ G H Q Qm r hm k;obtain⟨p,⟨s,e⟩,hm⟩:=hm;obtain⟨v,fp,ev,pv,_⟩:=r.sl i _ e;have z:=W.pin pv;subst z;obtain⟨dx,fs,hp,hl⟩:=hW pv;refine⟨.ref p,ev,p,dx,fs,rfl,hp,hl,h F Γ σ G H _ _ r hm fun as Γ1 rs G1 H1 m1 g1 r1 d1=>?_⟩;obtain⟨s1,e1,hn,hf⟩:=m1;exact aAM (Qm:=Qm) PartOf.self r1 e1 d1 hn hf fun rv Γ' r' G' H' q g'=>k rv Γ' r' G' H' q (g1.trans g')
end
end
section
variable {P0:Addr→Hp→Prop}
end
section
variable {P0:Addr→Hp→Prop}{A:Nat→Bool}
inductive DkRel (G:Hp):List (Key×V)→List (Int×D)→Prop
 | nil:DkRel G [] []
 | cons {n:Int} {v:V} {d:D} {kvs:List (Key×V)} {kds:List (Int×D)} (h:Dt G v d) (r:DkRel G kvs kds):DkRel G ((Sum.inl n,v)::kvs) ((n,d)::kds)
theorem DkRel.same {G G':Hp}(g:Same G G'){kvs:List (Key×V)}{kds:List (Int×D)}(h:DkRel G kvs kds):DkRel G' kvs kds:=by
 induction h with
 | nil=>exact .nil
 | cons h _ ih=>exact .cons (Dt.same g _ _ h) ih
theorem DkRel.len {G:Hp}{kvs:List (Key×V)}{kds:List (Int×D)}(h:DkRel G kvs kds):kvs.length=kds.length:=by
 induction h with
 | nil=>rfl
 | cons _ _ ih=>rw[List.length_cons,List.length_cons,ih]
def rY:List (Int×D)→Int→Option D
 | [],_=>none
 | (n,d)::r,k=>if n=k then some d else rY r k
def a0G:List (Int×D)→Int→D→List (Int×D)
 | [],_,_=>[]
 | (n,d)::r,k,e=>(if n=k then(n,e) else(n,d))::a0G r k e
def pA (kds:List (Int×D))(k:Int)(d:D):List (Int×D):=if (rY kds k).isSome then a0G kds k d else kds++[(k,d)]
def jF:List (Int×D)→Int→List (Int×D)
 | [],_=>[]
 | (n,d)::r,k=>if n=k then jF r k else(n,d)::jF r k
theorem DkRel.val {G:Hp}{kvs:List (Key×V)}{kds:List (Int×D)}(h:DkRel G kvs kds)(k:Int):(a0V kvs (Sum.inl k:Key)=none∧rY kds k=none)∨∃ v d,a0V kvs (Sum.inl k:Key)=some v∧rY kds k=some d∧Dt G v d:=by
 induction h with
 | nil=>exact .inl ⟨rfl,rfl⟩
 | @cons n v d kvs kds h r ih=>
  by_cases e:n=k
  ·refine .inr ⟨v,d,wH (by rw[e]),?_,h⟩;unfold rY; rw[if_pos e]
  ·rw[wA (fun z=>e (Sum.inl.inj z))];unfold rY; rw[if_neg e]; exact ih
theorem DkRel.some {G:Hp}{kvs:List (Key×V)}{kds:List (Int×D)}(h:DkRel G kvs kds){k:Int}{d:D}(e:rY kds k=some d):∃ v,a0V kvs (Sum.inl k:Key)=some v∧Dt G v d:=by
 rcases h.val k with⟨_,z⟩|⟨v,d',a,b,c⟩
 ·rw[e] at z; cases z
 ·rw[e] at b; cases b; exact⟨v,a,c⟩
theorem DkRel.isSome {G:Hp}{kvs:List (Key×V)}{kds:List (Int×D)}(h:DkRel G kvs kds)(k:Int):(a0V kvs (Sum.inl k:Key)).isSome=(rY kds k).isSome:=by
 rcases h.val k with⟨a,z⟩|⟨v,d',a,b,c⟩
 ·rw[a,z]; rfl
 ·rw[a,b]; rfl
theorem DkRel.repl {G:Hp}{kvs:List (Key×V)}{kds:List (Int×D)}(h:DkRel G kvs kds)(k:Int){v:V}{d:D}(dv:Dt G v d):DkRel G (kvs.map fun kv=>if kv.1=(Sum.inl k:Key) then(kv.1,v) else kv) (a0G kds k d):=by
 induction h with
 | nil=>exact .nil
 | @cons n u e kvs kds h r ih=>
  unfold a0G;rw[List.map_cons]
  by_cases z:n=k
  ·rw[if_pos z,if_pos (congrArg Sum.inl z)]; exact .cons dv ih
  ·rw[if_neg z,if_neg (fun y=>z (Sum.inl.inj y))]; exact .cons h ih
theorem DkRel.snoc {G:Hp}{kvs:List (Key×V)}{kds:List (Int×D)}(h:DkRel G kvs kds)(k:Int){v:V}{d:D}(dv:Dt G v d):DkRel G (kvs++[(Sum.inl k,v)]) (kds++[(k,d)]):=by
 induction h with
 | nil=>exact .cons dv .nil
 | cons h _ ih=>exact .cons h ih
theorem DkRel.put {G:Hp}{kvs:List (Key×V)}{kds:List (Int×D)}(h:DkRel G kvs kds)(k:Int){v:V}{d:D}(dv:Dt G v d):DkRel G (putK kvs (Sum.inl k:Key) v) (pA kds k d):=by
 unfold putK pA;rw[a1E,h.isSome k]
 by_cases z:(rY kds k).isSome=true
 ·rw[if_pos z,if_pos z]; exact h.repl k dv
 ·rw[if_neg z,if_neg z]; exact h.snoc k dv
theorem DkRel.drop {G:Hp}{kvs:List (Key×V)}{kds:List (Int×D)}(h:DkRel G kvs kds)(k:Int):DkRel G (uJ kvs (Sum.inl k:Key)) (jF kds k):=by
 induction h with
 | nil=>exact .nil
 | @cons n u e kvs kds h r ih=>
  unfold jF
  by_cases z:n=k
  ·rw[if_pos z,aDL (congrArg Sum.inl z)]; exact ih
  ·rw[if_neg z,aAX (fun y=>z (Sum.inl.inj y))]; exact .cons h ih
def dkD (kds:List (Int×D)):List (D×D):=kds.map fun kd=>(.int kd.1,kd.2)
theorem DkRel.dtk {G:Hp}{kvs:List (Key×V)}{kds:List (Int×D)}(h:DkRel G kvs kds):Dtk G kvs (dkD kds):=by
 induction h with
 | nil=>exact .nil
 | cons h _ ih=>exact .cons h ih
theorem Dtk.rel {G:Hp}:∀{kds:List (Int×D)} {kvs:List (Key×V)},Dtk G kvs (dkD kds)→DkRel G kvs kds
 | [],_,e=>by cases e; exact .nil
 | (n,d)::kds,_,e=>by
  cases e with
  | cons e1 e2=>exact .cons e1 (Dtk.rel e2)
def bDk (kds:List (Int×D)):Bx where
 P v fp G H:=∃ p kvs,v=.ref p∧fp=[p]∧H p=some (.dK kvs)∧DkRel G kvs kds
 mono g h:=by
  obtain⟨p,kvs,h1,h2,h3,h4⟩:=h;exact⟨p,kvs,h1,h2,h3,h4.same g⟩
 loc k h:=by
  obtain⟨p,kvs,h1,h2,h3,h4⟩:=h;subst h2;exact⟨p,kvs,h1,rfl,(k p List.mem_cons_self).trans h3,h4⟩
 dom h b hb:=by
  obtain⟨p,kvs,h1,h2,h3,h4⟩:=h;subst h2;rw[List.mem_singleton.mp hb]; exact⟨_,h3⟩
 uniq h g:=by
  obtain⟨p,kvs,h1,h2,h3,h4⟩:=h;obtain⟨p',kvs',g1,g2,g3,g4⟩:=g;rw[h1] at g1; cases g1;rw[h2,g2]
 nt h b hb ys e:=by
  obtain⟨p,kvs,h1,h2,h3,h4⟩:=h;subst h2;rw[List.mem_singleton.mp hb,h3] at e; cases e
 view:=some (.dict (dkD kds))
 vok h e g k:=by
  obtain⟨p,kvs,rfl,rfl,h3,h4⟩:=h
  cases e
  exact .dic (.inl ((k p List.mem_cons_self).trans h3)) (h4.same g).dtk
def aC8:MO:=fun Γ Q=>Q (.box (bDk [])) Γ
theorem aDX:VO P0 aGM aC8:=by
 intro F Γ σ G H Q Qm r m k p hp;have hP:(bDk []).P (.ref p) [p] G (upd H p (.dK [])):=⟨p,[],rfl,rfl,bA,.nil⟩;refine k _ _ _ _ _ m (Same.refl _) (r.newP hp) ⟨[p],hP,fun b hb=>?_⟩ (Apart.newB r (fun fp h b hb=>?_) (Same.refl _) fun b o _ g e=>⟨g,by rw[aY (bJ e hp)]; exact e⟩)
 ·rw[List.mem_singleton.mp hb]; exact⟨r.fr.fresh hp,r.fr.gfresh hp⟩
 ·rw[(bDk []).uniq h hP] at hb;rw[List.mem_singleton.mp hb]; exact hp
theorem R.dk {F:Fra P0}{Γ:En}{σ:St}{G H:Hp}(r:R F Γ σ G H){i:Nat}{kds:List (Int×D)}(e:Γ[i]?=some (.box (bDk kds))):∃ p kvs,σ[i]?=some (some (.ref p))∧H p=some (.dK kvs)∧DkRel G kvs kds∧F.H0 p=none∧G p=none:=by
 obtain⟨v,fp,e1,⟨p,kvs,rfl,rfl,h3,h4⟩,e3⟩:=r.sl i _ e;obtain⟨p1,p2⟩:=e3 p List.mem_cons_self;exact⟨p,kvs,e1,h3,h4,p1,p2⟩
def aDO (i:Nat)(mj:ME):ME:=fun Γ Q=>(∃ kds,Γ[i]?=some (.box (bDk kds)))∧mj Γ fun x Γ1=>∃ kds k d,Γ1[i]?=some (.box (bDk kds))∧x=.int k∧rY kds k=some d∧Q d Γ1
theorem aFM {i:Nat}{tj:TE}{mj:ME}(hj:VT P0 tj mj):VT P0 (aF8 (vZ i) tj) (aDO i mj):=by
 intro F Γ σ G H Q Qm r hm k;obtain⟨⟨kds,e⟩,hm⟩:=hm;obtain⟨p,kvs,ep,_⟩:=r.dk e;refine⟨.ref p,ep,hj F Γ σ G H _ _ r hm fun x Γ1 y G1 H1 m1 g1 r1 d1=>?_⟩;obtain⟨kds1,n,d,e1,rfl,hd,q⟩:=m1;obtain⟨p',kvs1,ep',hp,rel,_,_⟩:=r1.dk e1;rw[ep] at ep'
 cases ep'
 cases d1
 obtain⟨v,hv,dv⟩:=rel.some hd;refine⟨p,v,rfl,?_,k _ _ _ _ _ q g1 r1 dv⟩;have z:=DGet.k (k:=Sum.inl n) hp;rw[hv] at z;exact z
theorem R.dkW {F:Fra P0}{Γ:En}{σ:St}{G H:Hp}(r:R F Γ σ G H){i:Nat}{p:Addr}{kds kds':List (Int×D)}{kvs':List (Key×V)}(e:Γ[i]?=some (.box (bDk kds)))(ep:σ[i]?=some (some (.ref p)))(rel:DkRel G kvs' kds'):R F (Γ.set i (.box (bDk kds'))) σ G (upd H p (.dK kvs')):=by
 obtain⟨p',kvs,ep',hp,_,p1,p2⟩:=r.dk e;rw[ep] at ep'; cases ep';refine r.writeF e (r.fr.priv p1 p2) fun fp hf=>?_;obtain⟨v,w1,⟨p',kvs1,rfl,rfl,_,_⟩,w3⟩:=hf;rw[ep] at w1; cases w1;refine⟨[p],⟨.ref p,ep,⟨p,kvs',rfl,rfl,bA,rel⟩,w3⟩,fun z hz _=>⟨aY fun y=>hz (by rw[y]; exact List.mem_cons_self),hz⟩⟩
def a81 (i:Nat)(m mj:ME):MS:=fun Γ Q=>m Γ fun d Γ1=>(∃ kds,Γ1[i]?=some (.box (bDk kds)))∧mj Γ1 fun x Γ2=>∃ kds k,Γ2[i]?=some (.box (bDk kds))∧x=.int k∧kds.length<1000∧Q (.nx (Γ2.set i (.box (bDk (pA kds k d)))))
theorem a7Q {i:Nat}{t tj:TE}{m mj:ME}(h:VT P0 t m)(hj:VT P0 tj mj):VSA P0 A (aHY (vZ i) tj t) (a81 i m mj):=by
 intro F Γ σ G H E Qm r hm k;refine h F Γ σ G H _ _ r hm fun d Γ1 v G1 H1 m1 g1 r1 d1=>?_;obtain⟨⟨kds,e⟩,m1⟩:=m1;obtain⟨p,_,ep,_⟩:=r1.dk e;refine⟨.ref p,ep,hj F Γ1 σ G1 H1 _ _ r1 m1 fun x Γ2 u G2 H2 m2 g2 r2 d2=>?_⟩;obtain⟨kds2,n,e2,rfl,hl,q⟩:=m2;obtain⟨p',kvs,ep',hp,rel,_,_⟩:=r2.dk e2;rw[ep] at ep'; cases ep'
 cases d2
 refine⟨p,_,rfl,DPut.k (k:=Sum.inl n) hp (by rw[rel.len]; exact Nat.lt_of_lt_of_le hl (by decide)),?_⟩;exact k _ q σ G2 _ (g1.trans g2) (r2.dkW e2 ep (rel.put n (Dt.same g2 _ _ d1))) fun _ _=>rfl
def aCJ (i:Nat)(mj:ME):ME:=fun Γ Q=>(∃ kds,Γ[i]?=some (.box (bDk kds)))∧mj Γ fun x Γ1=>∃ kds k d,Γ1[i]?=some (.box (bDk kds))∧x=.int k∧rY kds k=some d∧Q d (Γ1.set i (.box (bDk (jF kds k))))
theorem aFH {i:Nat}{tj:TE}{mj:ME}(hj:VT P0 tj mj):VT P0 (aDG (vZ i) tj) (aCJ i mj):=by
 intro F Γ σ G H Q Qm r hm k;obtain⟨⟨kds,e⟩,hm⟩:=hm;obtain⟨p,kvs0,ep,hp0,_⟩:=r.dk e;refine⟨.ref p,ep,p,rfl,.inl ⟨kvs0,.inl hp0⟩,hj F Γ σ G H _ _ r hm fun x Γ1 y G1 H1 m1 g1 r1 d1=>?_⟩;obtain⟨kds1,n,d,e1,rfl,hd,q⟩:=m1;obtain⟨p',kvs1,ep',hp,rel,_,_⟩:=r1.dk e1;rw[ep] at ep'
 cases ep'
 cases d1
 obtain⟨v,hv,dv⟩:=rel.some hd;exact⟨kvs1,Sum.inl n,v,hp,rfl,hv,k _ _ _ _ _ q g1 (r1.dkW e1 ep (rel.drop n)) dv⟩
theorem DGet.kr {H:Hp}{a:Addr}{kvs:List (Key×V)}{k:Key}(e:Rd H a (.dK kvs)):DGet H a (kV k) (a0V kvs k):=.inl ⟨kvs,k,e,rfl,rfl⟩
theorem hu1 {a:Nat}(h:a+64<cLine):a+1<cLine:=Nat.lt_of_le_of_lt (Nat.add_le_add_left (by decide) _) h
def sZ (ma mj:ME):ME:=fun Γ Q=>ma Γ fun y Γ1=>mj Γ1 fun x Γ2=>∃ kds k d,y=.dict (dkD kds)∧x=.int k∧rY kds k=some d∧Q d Γ2
theorem iV {ta tj:TE}{ma mj:ME}(ha:VT P0 ta ma)(hj:VT P0 tj mj):VT P0 (aF8 ta tj) (sZ ma mj):=by
 intro F Γ σ G H Q Qm r hm k;refine ha F Γ σ G H _ _ r hm fun y Γ1 v G1 H1 m1 g1 r1 d1=>?_;refine hj F Γ1 σ G1 H1 _ _ r1 m1 fun x Γ2 u G2 H2 m2 g2 r2 d2=>?_;obtain⟨kds,n,d,rfl,rfl,hd,q⟩:=m2
 cases d2
 cases d1 with
 | @dic p kvs _ hp rs=>
  obtain⟨w,hw,dw⟩:=((Dtk.rel rs).same g2).some hd;refine⟨p,w,rfl,?_,k _ _ _ _ _ q (g1.trans g2) r2 dw⟩;have z:=DGet.kr (k:=Sum.inl n) ((hp.same g2).same r2.fr.sub);rw[hw] at z;exact z
end
end L2.VS
namespace L2
open PySem PySem.Calls PyProof.Rows PySem.W
section
variable {prog:Program}{w:World}{A:Around}{E:Value→Shared→Prop}{s:Shared}
end
end L2
namespace L2
open PySem PySem.Spec PyProof.Rows
theorem aD3 {its:List Value}{ns:List Int}(h:IntsAre its ns):Paired RelV (ns.map V.int) its:=by
 induction h with
 | nil=>exact .nil
 | cons n t _ ih=>exact .cons ⟨t,rfl⟩ ih
section
variable {X:Cx}
end
def qW (ns:List Int):List Int:=ns.mergeSort fun a b=>decide (a≤b)
theorem a79 (ns:List Int):(qW ns).Perm ns:=List.mergeSort_perm _ _
theorem aDC (ns:List Int):(qW ns).Pairwise (·≤·):=by
 have h:(qW ns).Pairwise fun a b=>decide (a≤b)=true:=List.pairwise_mergeSort (fun a b c h g=>by simp only[decide_eq_true_eq] at h g ⊢; omega) (fun a b=>by simp only[Bool.or_eq_true,decide_eq_true_eq]; omega) ns;exact h.imp fun h=>of_decide_eq_true h
theorem xZ {xs ns:List Int}(hp:xs.Perm ns)(hu:xs.Pairwise (·≤·)):qW ns=xs:=
 List.Perm.eq_of_pairwise (le:=(·≤·)) (fun a b _ _ h g=>by omega) (aDC ns) hu ((a79 ns).trans hp.symm)
end L2
namespace L2.VS
open PySem PySem.Spec PyProof.Rows
section
variable {P0:Addr→Hp→Prop}{ta:TE}{ma:ME}{K:Fg}
theorem xP {G:Hp}:∀(ns:List Int),Dts G (ns.map V.int) (ns.map PyData.int)
 | []=>.nil
 | n::k=>.cons (.int n) (xP k)
end
end L2.VS
namespace L2
open PySem PySem.Spec PyProof.Rows
theorem aDK {ns:List Int}{vs:List Value}(hl:vs.length=ns.length)(h:∀(j:Nat) (v:Value),vs[j]?=some v→∃ t,v=.int (ns.getD j 0) t):IntsAre vs ns:=by
 induction ns generalizing vs with
 | nil=>
  cases vs with
  | nil=>exact .nil
  | cons a b=>cases hl
 | cons n ns ih=>
  cases vs with
  | nil=>cases hl
  | cons v vs=>
   obtain⟨t,rfl⟩:=h 0 v rfl;exact .cons _ t (ih (Nat.succ.inj hl) fun j u e=>h (j+1) u e)
def aFU:List V→Hp→VK→Prop:=fun xs H Q=>∃(p:Addr) (kvs:List (Key×V)) (ns:List Int),xs=[.ref p]∧Rd H p (.dK kvs)∧kvs.map (·.1)=ns.map Sum.inl∧ns.length<64 ∧
 ∀(ns':List Int) q,ns'.Perm ns→ns'.Pairwise (·≤·)→H q=none→Q (.ref q) (upd H q (.lst (ns'.map V.int)))
section
variable {X:Cx}
theorem lU (hc:X.calm=true):a2F X (.builtin "sorted") aFU:=by
 intro pins s σ H xs us Q I r h;obtain⟨p,kvs,ns,rfl,hp,hk,h64,q⟩:=h;obtain⟨u,rfl,rx⟩:=vals1 r
 cases rx
 obtain⟨hz,lo,vs,hkv,hD⟩:=a3F I.hok hp;obtain⟨ep,hat⟩:=hD.dictAt;have hlen:vs.length=ns.length:=by
  rw[← hkv.length,←List.length_map (f:=(·.1)) (as:=kvs),hk,List.length_map]
 refine Calls.call_function_entry kind_sorted plain_sorted entry_sorted (args_sorted1 _) ?_;unfold Builtin.«sorted»; refine wpAny_bind (m:=checkCount "sorted" 1 1 _) (wpAny_pure ?_);refine wpAny_bind (PySem.W.kdu_collect (A:=X.A.in1) (PySem.W.kdl_dict (knd:=dJ X.prog X.w) (kvs:=vs) (ep:=ep) lo) (I.ok.hd hc) hat (by rw[hlen,sizeLine_eq]; omega) fun h' tk acc kp hacc=>?_);have hl:acc.toList.length=ns.length:=by rw[Array.length_toList,hacc.1,hlen]
 have hI:IntsAre acc.toList ns:=by
  refine aDK hl fun j v e=>?_;obtain⟨k,x,hx,hkk⟩:=hacc.2 j v (by rw[← Array.getElem?_toList]; exact e);have hj:j<ns.length:=by rw[← hl]; exact(List.getElem?_eq_some_iff.mp e).1
  have e1:(vs.map (·.1))[j]?=some k:=by rw[List.getElem?_map,hx]; rfl
  rw[← hkv.keys,hk,List.getElem?_map,List.getElem?_eq_getElem hj] at e1
  cases e1
  rcases cM ((tZ X.prog X.w _ _).symm.trans hkk) with⟨i,t,a,b⟩|⟨_,_,a,_⟩
  ·cases a
   refine⟨t,?_⟩;rw[b,List.getD_eq_getElem?_getD,List.getElem?_eq_getElem hj]; rfl
  ·cases a
 refine wpAny_bind (wpAny_newList ?_ (by rw[hl,sizeLine_eq]; omega));have hoL:(h'.push (seqObj "list" acc.toList.toArray 0)).get? h'.objs.size=some (seqObj "list" acc.toList.toArray 0):=Heap.get?_push_size _ rfl;refine wpAny_bind (wpAny_holding (wpAny_call_entry slot_list_sort ⟨_,hoL,rfl⟩ entry_list_sort (list_sort_tree (s:={ s with heap:=h'.push (seqObj "list" acc.toList.toArray 0),toks:=tk }) hoL hI (by rw[hl]; exact h64) fun out ns' a1 a2 a3=>⟨_,rfl,?_⟩) (args_list_sort _)));refine wpAny_pure ⟨_,rfl,?_⟩;obtain⟨c,hd⟩:=sortedHeap_at (out:=out) hoL;have kp2:∀ b o,s.heap.get? b=some o→(sortedHeap (h'.push (seqObj "list" acc.toList.toArray 0)) h'.objs.size acc.toList out).get? b=some o:=fun b o e=>by
  have e':=kp b o e;have hlt:=Heap.lt_size e';rw[sortedHeap_old (Nat.ne_of_lt hlt) (by rw[Heap.size_push]; exact Nat.lt_succ_of_lt hlt)];exact Heap.get?_push_of_some _ e'
 have hD0:s.heap.get? h'.objs.size=none:=by
  cases e:s.heap.get? h'.objs.size with
  | none=>rfl
  | some o=>exact absurd (Heap.lt_size (kp _ _ e)) (Nat.lt_irrefl _)
 have HD:H h'.objs.size=none:=by
  cases e:H h'.objs.size with
  | none=>rfl
  | some o=>
   obtain⟨u,hu⟩:=(I.hok _ o e).there;rw[hD0] at hu; cases hu
 generalize h'.objs.size=D at *;generalize sortedHeap (h'.push (seqObj "list" acc.toList.toArray 0)) D acc.toList out=h2 at *;obtain⟨m,hn,_⟩:=id I.loc;have hn':h2.Ns X.env.locals m:=by
  obtain⟨oL,b1,b2,hL,b3⟩:=hn;exact⟨oL,b1,b2,kp2 _ _ hL,b3⟩
 have neD:∀ b o,H b=some o→b≠D:=fun b o e z=>by rw[z,HD] at e; cases e
 have hok:HOk X.prog X.w (upd H D (.lst (ns'.map V.int))) h2:=fun b o e=>by
  by_cases hb:b=D
  ·subst hb;rw[bA] at e
   cases e
   refine⟨?_,out.toList,c,aD3 a1,by simpa using hd⟩;rw[List.length_map,a2.length_eq,sizeLine_eq]; omega
  ·rw[aY hb] at e;exact(I.hok b o e).stay (fun b' u _ hu=>kp2 b' u hu) (fun b' z=>by rw[aY (neD _ _ z)]; exact z) fun b' xs z=>by rw[aY (neD _ _ z)]; exact z
 have I':Inv X pins σ (upd H D (.lst (ns'.map V.int))) { s with heap:=h2,gens:=s.gens,drawn:=s.drawn,toks:=tk }:=I.step (ch:=[]) (fun _ z=>nomatch z) (fun b o hb _ _ e _=>kp2 b o e) (fun b o hb _ _ e _=>⟨o.slots,kp2 b o e⟩)
  (fun b o _ e n=>by rw[aY (fun z=>by rw[z,hD0] at e; cases e)]; exact n)
  (fun b o _ e=>⟨o,kp2 b o e⟩)
  (fun b xs z=>by rw[aY (neD _ _ z)]; exact z) (fun b o u z=>by rw[aY (neD _ _ z)]; exact z) (fun b ps z=>⟨#[],by rw[aY (neD _ _ z)]; simpa using z⟩)
  (fun m' hm=>aLN hn hm▸hn') hok I.bare
 exact⟨.ref D,_,I',rfl,q ns' D a2 a3 HD⟩
end
end L2
namespace L2.VS
open PySem PySem.Spec PyProof.Rows
section
variable {P0:Addr→Hp→Prop}
theorem DkRel.keys {G:Hp}{kvs:List (Key×V)}{kds:List (Int×D)}(h:DkRel G kvs kds):kvs.map (·.1)=(kds.map (·.1)).map Sum.inl:=by
 induction h with
 | nil=>rfl
 | cons _ _ ih=>rw[List.map_cons,List.map_cons,List.map_cons,ih]
def u5 (ma:ME):MO:=fun Γ Q=>ma Γ fun y Γ1=>∃ kds:List (Int×D),y=.dict (dkD kds)∧kds.length<64∧Q (.own ((qW (kds.map (·.1))).map PyData.int)) Γ1
theorem tR {ta:TE}{ma:ME}(ha:VT P0 ta ma):VO P0 (tCB aFU (lB ta a0Y)) (u5 ma):=by
 intro F Γ σ G H Q Qm r m k;refine ha F Γ σ G H _ _ r m fun x Γ1 v G1 H1 m1 s1 r1 d1=>?_;obtain⟨kds,rfl,h64,m1⟩:=m1
 cases d1 with
 | @dic p kvs _ hp rs=>
  refine⟨p,kvs,kds.map (·.1),rfl,hp.same r1.fr.sub,(Dtk.rel rs).keys,by rw[List.length_map]; exact h64,fun ns' l hpm hup hl2=>?_⟩;obtain⟨a,b,c⟩:=oO r1 hl2 (xP ns');rw[xZ hpm hup] at m1;exact k _ _ _ _ _ m1 s1 a b c
end
end L2.VS
namespace L2
open PySem PySem.Spec PyProof.Rows
end L2
namespace L2.VS
open PySem PySem.Spec PyProof.Rows
section
variable {P0:Addr→Hp→Prop}
end
section
variable {P0:Addr→Hp→Prop}{A:Nat→Bool}
structure FS where
 d:Addr
 p:Addr
 kds:List (Int×D)
 jn:Int
 la:D
def aLU (s:FS)(vl:V):List (Str×V):=[("running", .ref s.p),("joined", .int s.jn),("last", vl)]
structure FdAt (C w:Addr)(s:FS)(kvs:List (Key×V))(vl:V)(H:Hp):Prop where
 i:H w=some (.ins C s.d (aLU s vl))
 d:H s.d=some (.own w)
 k:H s.p=some (.dK kvs)
structure FdDt (s:FS)(kvs:List (Key×V))(vl:V)(G:Hp):Prop where
 k:DkRel G kvs s.kds
 l:Dt G vl s.la
theorem FdAt.at {C w:Addr}{s:FS}{kvs:List (Key×V)}{vl:V}{H H':Hp}(h:FdAt C w s kvs vl H)(k:∀ b∈[w,s.d,s.p],H' b=H b):FdAt C w s kvs vl H':=
 ⟨(k w (by simp)).trans h.i,(k s.d (by simp)).trans h.d,(k s.p (by simp)).trans h.k⟩
theorem FdAt.same {C w:Addr}{s:FS}{kvs:List (Key×V)}{vl:V}{H H':Hp}(h:FdAt C w s kvs vl H)(g:Same H H'):FdAt C w s kvs vl H':=⟨g _ _ h.i,g _ _ h.d,g _ _ h.k⟩
theorem FdDt.same {s:FS}{kvs:List (Key×V)}{vl:V}{G G':Hp}(h:FdDt s kvs vl G)(g:Same G G'):FdDt s kvs vl G':=⟨h.k.same g,Dt.same g _ _ h.l⟩
theorem FdAt.dom {C w:Addr}{s:FS}{kvs:List (Key×V)}{vl:V}{H:Hp}(h:FdAt C w s kvs vl H):∀ y∈[w,s.d,s.p],∃ o,H y=some o∧∀ xs,o≠.tup xs:=fun y hy=>by
 simp only[List.mem_cons,List.not_mem_nil,or_false] at hy;rcases hy with rfl|rfl|rfl
 ·exact⟨_,h.i,fun _ z=>nomatch z⟩
 ·exact⟨_,h.d,fun _ z=>nomatch z⟩
 ·exact⟨_,h.k,fun _ z=>nomatch z⟩
def qN (C w:Addr)(s:FS):Pb where
 P:=fun v G=>v=.ref w∧∃ kvs vl,FdAt C w s kvs vl G∧FdDt s kvs vl G
 mono:=fun g ⟨a,kvs,vl,b,c⟩=>⟨a,kvs,vl,b.same g,c.same g⟩
def bQ (C:Addr):Fam FS where
  box:=fun w s=>
    { P:=fun v fp G H=>v=.ref w∧fp=[w,s.d,s.p]∧∃ kvs vl,FdAt C w s kvs vl H∧FdDt s kvs vl G
      mono:=fun g ⟨a,b,kvs,vl,c,e⟩=>⟨a,b,kvs,vl,c,e.same g⟩
      loc:=fun k ⟨a,b,kvs,vl,c,e⟩=>⟨a,b,kvs,vl,c.at (fun y hy=>k y (by rw[b]; exact hy)),e⟩
      dom:=fun⟨a,b,kvs,vl,c,e⟩ y hy=>by
        rw[b] at hy;obtain⟨o,ho,_⟩:=c.dom y hy;exact⟨o,ho⟩
      uniq:=fun h g=>h.2.1.trans g.2.1.symm
      nt:=fun⟨a,b,kvs,vl,c,e⟩ y hy xs q=>by
        rw[b] at hy;obtain⟨o,ho,hn⟩:=c.dom y hy;rw[ho] at q;exact absurd (Option.some.inj q) (hn xs)
      view:=none
      vok:=fun _ z=>nomatch z
      pv:=some (qN C w s)
      pok:=fun⟨a,b,kvs,vl,c,e⟩ y g k=>by
        cases y
        exact⟨a,kvs,vl,c.at (fun y hy=>k y (by rw[b]; exact hy)),e.same g⟩ }
  pin:=fun h=>h.1
def InF (C w:Addr)(s:FS)(sl:Sl):Prop:=sl=.box ((bQ C).box w s)∨sl=.pub (qN C w s)
section
variable {C:Addr}{i:Nat}
theorem R.fd {F:Fra P0}{Γ:En}{σ:St}{G H:Hp}{w:Addr}{s:FS}{sl:Sl}(r:R F Γ σ G H)(e:Γ[i]?=some sl)(h:InF C w s sl):∃ kvs vl,σ[i]?=some (some (.ref w))∧FdAt C w s kvs vl H∧FdDt s kvs vl G:=by
 rcases h with rfl|rfl
 ·obtain⟨v,fp,e1,⟨rfl,_,kvs,vl,b,c⟩,_⟩:=r.sl i _ e;exact⟨kvs,vl,e1,b,c⟩
 ·obtain⟨v,e1,rfl,kvs,vl,b,c⟩:=r.sl i _ e;exact⟨kvs,vl,e1,b.same r.fr.sub,c⟩
def xF (C:Addr)(i:Nat):ME:=fun Γ Q=>∃ w s sl,Γ[i]?=some sl∧InF C w s sl∧Q (.int s.jn) Γ
theorem a6P {K:Fg}(cl:Cls K C)(na:NoAttr K C "joined"):VT P0 (aJJ K (vZ i) "joined") (xF C i):=by
 intro F Γ σ G H Q Qm r hm k;obtain⟨w,s,sl,e,h,q⟩:=hm;obtain⟨kvs,vl,ew,a,b⟩:=r.fd e h;exact⟨.ref w,ew,w,C,s.d,_,.int s.jn,rfl,a.i,cl,na,rfl,k _ _ _ _ _ q (Same.refl _) r (.int _)⟩
def aF7 (C:Addr)(i:Nat)(mj:ME):ME:=fun Γ Q=>∃ w s,(∃ sl,Γ[i]?=some sl∧InF C w s sl)∧mj Γ fun x Γ1=>(∃ sl,Γ1[i]?=some sl∧InF C w s sl)∧∃ k d,x=.int k∧rY s.kds k=some d∧Q d Γ1
theorem aAO {K:Fg}{tj:TE}{mj:ME}(cl:Cls K C)(na:NoAttr K C "running")(hj:VT P0 tj mj):VT P0 (aF8 (aJJ K (vZ i) "running") tj) (aF7 C i mj):=by
 intro F Γ σ G H Q Qm r hm k;obtain⟨w,s,⟨sl,e,h⟩,hm⟩:=hm;obtain⟨kvs,vl,ew,a,b⟩:=r.fd e h;refine⟨.ref w,ew,w,C,s.d,_,.ref s.p,rfl,a.i,cl,na,rfl,hj F Γ σ G H _ _ r hm fun x Γ1 y G1 H1 m1 g1 r1 d1=>?_⟩;obtain⟨⟨sl1,e1,h1⟩,n,d,rfl,hd,q⟩:=m1;obtain⟨kvs1,vl1,_,a1,b1⟩:=r1.fd e1 h1
 cases d1
 obtain⟨v,hv,dv⟩:=b1.k.some hd;refine⟨s.p,v,rfl,?_,k _ _ _ _ _ q g1 r1 dv⟩;have z:=DGet.k (k:=Sum.inl n) a1.k;rw[hv] at z;exact z
theorem R.fdI {F:Fra P0}{Γ:En}{σ:St}{G H:Hp}{w:Addr}{s:FS}(r:R F Γ σ G H)(e:Γ[i]?=some (.box ((bQ C).box w s))){n:Int}{y:V}{d:D}(dy:Dt G y d):R F (Γ.set i (.box ((bQ C).box w { s with jn:=n,la:=d }))) σ G (upd H w (.ins C s.d (aLU { s with jn:=n } y))):=by
 obtain⟨v,fp,ev,⟨rfl,rfl,kvs,vl,a,b⟩,nf⟩:=r.sl i _ e;have hw:=nf w (by simp);refine r.writeF e (r.fr.priv hw.1 hw.2) fun fp h=>?_;obtain⟨u,eu2,⟨rfl,rfl,_⟩,nf2⟩:=h;have ed:s.d≠w:=a9F a.d a.i (by intro z; cases z);have ek:s.p≠w:=a9F a.k a.i (by intro z; cases z);refine⟨[w,s.d,s.p],⟨.ref w,ev,⟨rfl,rfl,kvs,y,⟨?_,?_,?_⟩,⟨b.k,dy⟩⟩,nf2⟩,fun b hb _=>?_⟩
 ·rw[bA]; rfl
 ·show upd H w _ s.d=_;rw[aY ed]; exact a.d
 ·show upd H w _ s.p=_;rw[aY ek]; exact a.k
 ·exact⟨aY fun y=>hb (by rw[y]; simp),hb⟩
theorem R.fdK {F:Fra P0}{Γ:En}{σ:St}{G H:Hp}{w:Addr}{s:FS}(r:R F Γ σ G H)(e:Γ[i]?=some (.box ((bQ C).box w s))){kvs':List (Key×V)}{kds':List (Int×D)}(rel:DkRel G kvs' kds'):R F (Γ.set i (.box ((bQ C).box w { s with kds:=kds' }))) σ G (upd H s.p (.dK kvs')):=by
 obtain⟨v,fp,ev,⟨rfl,rfl,kvs,vl,a,b⟩,nf⟩:=r.sl i _ e;have hw:=nf s.p (by simp);refine r.writeF e (r.fr.priv hw.1 hw.2) fun fp h=>?_;obtain⟨u,eu2,⟨rfl,rfl,_⟩,nf2⟩:=h;have ed:s.d≠s.p:=a9F a.d a.k (by intro z; cases z);have ew:w≠s.p:=a9F a.i a.k (by intro z; cases z);refine⟨[w,s.d,s.p],⟨.ref w,ev,⟨rfl,rfl,kvs',vl,⟨?_,?_,?_⟩,⟨rel,b.l⟩⟩,nf2⟩,fun b hb _=>?_⟩
 ·show upd H s.p _ w=_;rw[aY ew]; exact a.i
 ·show upd H s.p _ s.d=_;rw[aY ed]; exact a.d
 ·show upd H s.p _ s.p=_;rw[bA]
 ·exact⟨aY fun y=>hb (by rw[y]; simp),hb⟩
def a1Z (C:Addr)(i:Nat)(m:ME):MS:=fun Γ Q=>m Γ fun d Γ1=>∃ w s,Γ1[i]?=some (.box ((bQ C).box w s))∧Q (.nx (Γ1.set i (.box ((bQ C).box w { s with la:=d }))))
theorem a9K {K:Fg}{t:TE}{m:ME}(cl:Cls K C)(na:NoAttr K C "last")(h:VT P0 t m):VSA P0 A (aOU K (vZ i) t "last") (a1Z C i m):=by
 intro F Γ σ G H E Qm r hm k;refine h F Γ σ G H _ _ r hm fun d Γ1 y G1 H1 m1 g1 r1 d1=>?_;obtain⟨w,s,e,q⟩:=m1;obtain⟨kvs,vl,ev,a,b⟩:=r1.fd e (.inl rfl);refine⟨.ref w,ev,w,C,s.d,_,rfl,a.i,cl,na,(by show 3<1000; decide),?_⟩;exact k _ q σ G1 _ g1 (r1.fdI (n:=s.jn) e d1) fun _ _=>rfl
def a1L (C:Addr)(i:Nat)(n:Int):MS:=fun Γ Q=>∃ w s,Γ[i]?=some (.box ((bQ C).box w s))∧Q (.nx (Γ.set i (.box ((bQ C).box w { s with jn:=s.jn+n }))))
theorem a97 {K:Fg}{n:Int}(cl:Cls K C)(na:NoAttr K C "joined"):VSA P0 A (aD2 K (vZ i) (tC (.int n)) aOJ "joined") (a1L C i n):=by
 intro F Γ σ G H E Qm r hm k;obtain⟨w,s,e,q⟩:=hm;obtain⟨kvs,vl,ev,a,b⟩:=r.fd e (.inl rfl);refine⟨.ref w,ev,w,C,s.d,_,.int s.jn,rfl,a.i,cl,na,rfl,?_⟩;refine⟨s.jn,n,rfl,rfl,s.d,_,a.i,(by show 3<1000; decide),?_⟩;exact k _ q σ G _ (Same.refl _) (r.fdI (n:=s.jn+n) e b.l) fun _ _=>rfl
def a8D (C:Addr)(i:Nat)(m mj:ME):MS:=fun Γ Q=>m Γ fun d Γ1=>∃ w s,Γ1[i]?=some (.box ((bQ C).box w s))∧mj Γ1 fun x Γ2=>∃ k,Γ2[i]?=some (.box ((bQ C).box w s))∧x=.int k∧s.kds.length<1000∧Q (.nx (Γ2.set i (.box ((bQ C).box w { s with kds:=pA s.kds k d }))))
theorem a8Z {K:Fg}{t tj:TE}{m mj:ME}(cl:Cls K C)(na:NoAttr K C "running")(h:VT P0 t m)(hj:VT P0 tj mj):VSA P0 A (aHY (aJJ K (vZ i) "running") tj t) (a8D C i m mj):=by
 intro F Γ σ G H E Qm r hm k;refine h F Γ σ G H _ _ r hm fun d Γ1 v G1 H1 m1 g1 r1 d1=>?_;obtain⟨w,s,e,m1⟩:=m1;obtain⟨kvs,vl,ev,a,b⟩:=r1.fd e (.inl rfl);refine⟨.ref w,ev,w,C,s.d,_,.ref s.p,rfl,a.i,cl,na,rfl,hj F Γ1 σ G1 H1 _ _ r1 m1 fun x Γ2 u G2 H2 m2 g2 r2 d2=>?_⟩;obtain⟨n,e2,rfl,hl,q⟩:=m2;obtain⟨kvs2,vl2,ev2,a2,b2⟩:=r2.fd e2 (.inl rfl)
 cases d2
 refine⟨s.p,_,rfl,DPut.k (k:=Sum.inl n) a2.k (by rw[b2.k.len]; exact Nat.lt_of_lt_of_le hl (by decide)),?_⟩;exact k _ q σ G2 _ (g1.trans g2) (r2.fdK e2 (b2.k.put n (Dt.same g2 _ _ d1))) fun _ _=>rfl
def aCE (C:Addr)(i:Nat)(mj:ME):ME:=fun Γ Q=>∃ w s,Γ[i]?=some (.box ((bQ C).box w s))∧mj Γ fun x Γ1=>∃ k d,Γ1[i]?=some (.box ((bQ C).box w s))∧x=.int k∧rY s.kds k=some d∧Q d (Γ1.set i (.box ((bQ C).box w { s with kds:=jF s.kds k })))
theorem aEF {K:Fg}{tj:TE}{mj:ME}(cl:Cls K C)(na:NoAttr K C "running")(hj:VT P0 tj mj):VT P0 (aDG (aJJ K (vZ i) "running") tj) (aCE C i mj):=by
 intro F Γ σ G H Q Qm r hm k;obtain⟨w,s,e,hm⟩:=hm;obtain⟨kvs,vl,ev,a,b⟩:=r.fd e (.inl rfl);refine⟨.ref w,ev,w,C,s.d,_,.ref s.p,rfl,a.i,cl,na,rfl,s.p,rfl,.inl ⟨kvs,.inl a.k⟩,hj F Γ σ G H _ _ r hm fun x Γ1 y G1 H1 m1 g1 r1 d1=>?_⟩;obtain⟨n,d,e1,rfl,hd,q⟩:=m1;obtain⟨kvs1,vl1,ev1,a1,b1⟩:=r1.fd e1 (.inl rfl)
 cases d1
 obtain⟨v,hv,dv⟩:=b1.k.some hd;exact⟨kvs1,Sum.inl n,v,a1.k,rfl,hv,k _ _ _ _ _ q g1 (r1.fdK e1 (b1.k.drop n)) dv⟩
theorem aGF {m:Str}(hm:∀ s vl,(aLU s vl).lookup m=none){p:Addr}{s:FS}{v:V}{fp:List Addr}{G H:Hp}(h:((bQ C).box p s).P v fp G H):∃ dx fs,H p=some (.ins C dx fs)∧fs.lookup m=none:=by
 obtain⟨_,_,kvs,vl,a,_⟩:=h;exact⟨_,_,a.i,hm s vl⟩
def a2C (C:Addr):Sp:=fun vs H Q _=>∃(w d:Addr),vs=[.ref w]∧H w=some (.ins C d [])∧∀ p,H p=none→Q .non (upd (upd H p (.dK [])) w (.ins C d [("running", .ref p),("joined", .int 0),("last", .non)]))
def aB4 (C:Addr):MO:=fun Γ Q=>∀ w d p,Q (.box ((bQ C).box w ⟨d,p,[],0,.none⟩)) Γ
theorem aEY {E:XK}:VO P0 (aK6 C (a2C C) [] E a0Y) (aB4 C):=by
 intro F Γ σ G H Q Qm r hm k w d hw hd hdw;refine⟨w,d,rfl,bA,fun p hp=>⟨rfl,?_⟩⟩;have pw:p≠w:=fun z=>by rw[z,bA] at hp; cases hp
 have pd:p≠d:=fun z=>by rw[z,aY hdw,bA] at hp; cases hp
 have hp0:H p=none:=by rw[aY pw,aY pd] at hp; exact hp
 have g3:∀ b o,H b=some o→upd (upd (upd (upd H d (.own w)) w (.ins C d [])) p (.dK [])) w (.ins C d [("running", .ref p),("joined", .int 0),("last", .non)]) b=some o:=fun b o e=>by
  rw[aY (bJ e hw),aY (bJ e hp0),aY (bJ e hw),aY (bJ e hd)];exact e
 have r1:=(((r.newP (o:=.own w) hd).newP (p:=w) (o:=.ins C d []) (by rw[aY (Ne.symm hdw)]; exact hw)).newP (o:=.dK []) hp);have rf:Rf F G (upd (upd (upd (upd H d (.own w)) w (.ins C d [])) p (.dK [])) w (.ins C d [("running", .ref p),("joined", .int 0),("last", .non)])):=r1.fr.priv (r.fr.fresh hw) (r.fr.gfresh hw);have r2:R F Γ σ G (upd (upd (upd (upd H d (.own w)) w (.ins C d [])) p (.dK [])) w (.ins C d [("running", .ref p),("joined", .int 0),("last", .non)])):=r.keep rf (Same.refl _) fun q u _ _ g h=>⟨g,g3 q u h⟩;have hP:((bQ C).box w ⟨d,p,[],0,.none⟩).P (.ref w) [w,d,p] G (upd (upd (upd (upd H d (.own w)) w (.ins C d [])) p (.dK [])) w (.ins C d [("running", .ref p),("joined", .int 0),("last", .non)])):=
  ⟨rfl,rfl,[],.non,⟨bA,(by show upd _ w _ d=_; rw[aY hdw,aY (Ne.symm pd),aY hdw,bA]),(by show upd _ w _ p=_; rw[aY pw,bA])⟩,⟨.nil,.non⟩⟩
 have fr:∀ b∈[w,d,p],H b=none:=fun b hb=>by
  simp only[List.mem_cons,List.not_mem_nil,or_false] at hb;rcases hb with rfl|rfl|rfl
  ·exact hw
  ·exact hd
  ·exact hp0
 refine k _ _ _ _ _ (hm w d p) (Same.refl _) r2 ⟨[w,d,p],hP,fun b hb=>⟨r.fr.fresh (fr b hb),r.fr.gfresh (fr b hb)⟩⟩ (Apart.newB r (fun fp h b hb=>?_) (Same.refl _) fun b o _ g e=>⟨g,g3 b o e⟩);rw[Bx.uniq _ h hP] at hb;exact fr b hb
def sS (C:Addr):Sp:=fun vs H Q _=>∃(w d p:Addr) (fs:List (Str×V)) (kvs:List (Key×V)) (ns:List Int),vs=[.ref w]∧H w=some (.ins C d fs)∧fs.lookup ("running" : Str)=some (V.ref p)∧H p=some (.dK kvs)∧kvs.map (·.1)=ns.map Sum.inl∧ns.length<64 ∧
 ∀(ns':List Int) q,ns'.Perm ns→ns'.Pairwise (·≤·)→H q=none→Q (.ref q) (upd H q (.lst (ns'.map V.int)))
def pR (C:Addr)(i:Nat):MO:=fun Γ Q=>∃ w s sl,Γ[i]?=some sl∧InF C w s sl∧s.kds.length<64∧Q (.own ((qW (s.kds.map (·.1))).map PyData.int)) Γ
theorem v4 {E:XK}:VO P0 (aBM C "runners" (sS C) [] E (vZ i) a0Y) (pR C i):=by
 intro F Γ σ G H Q Qm r hm k;obtain⟨w,s,sl,e,h,h64,m⟩:=hm;obtain⟨kvs,vl,ew,a,b⟩:=r.fd e h;refine⟨.ref w,ew,w,s.d,_,rfl,a.i,rfl,w,s.d,s.p,_,kvs,s.kds.map (·.1),rfl,a.i,rfl,a.k,b.k.keys,by rw[List.length_map]; exact h64,fun ns' l hpm hup hl2=>?_⟩;obtain⟨a,b,c⟩:=oO r hl2 (xP ns');rw[xZ hpm hup] at m;exact k _ _ _ _ _ m (Same.refl _) a b c
end
end
section
variable {P0:Addr→Hp→Prop}{A:Nat→Bool}
end
section
section
variable {i j:Nat}{Γ Γ1:En}{Q:D→En→Prop}{Qf:Fl→Prop}{Qo:Rv→En→Prop}{m ma mj:ME}{kds:List (Int×D)}{d:D}{n:Int}{C w:Addr}{s:FS}{sl:Sl}{mo:MO}
theorem aH0 (h:Qo (.box (bDk [])) Γ):aC8 Γ Qo:=h
def dgK (i:Nat)(Q:D→En→Prop)(x:D)(Γ1:En):Prop:=∃ kds k d,Γ1[i]?=some (.box (bDk kds))∧x=.int k∧rY kds k=some d∧Q d Γ1
theorem aIF (h0:Γ[i]?=some (.box (bDk kds)))(h:mj Γ (dgK i Q)):aDO i mj Γ Q:=⟨⟨kds,h0⟩,h⟩
theorem aNN (h0:Γ1[i]?=some (.box (bDk kds)))(hd:rY kds n=some d)(h:Q d Γ1):dgK i Q (.int n) Γ1:=⟨kds,n,d,h0,rfl,hd,h⟩
def dpK (i:Nat)(d:D)(Q:Fl→Prop)(x:D)(Γ2:En):Prop:=∃ kds k,Γ2[i]?=some (.box (bDk kds))∧x=.int k∧kds.length<1000∧Q (.nx (Γ2.set i (.box (bDk (pA kds k d)))))
def dpJ (i:Nat)(mj:ME)(Q:Fl→Prop)(d:D)(Γ1:En):Prop:=(∃ kds,Γ1[i]?=some (.box (bDk kds)))∧mj Γ1 (dpK i d Q)
theorem aHA (h:m Γ (dpJ i mj Qf)):a81 i m mj Γ Qf:=h
theorem aMK (h0:Γ1[i]?=some (.box (bDk kds)))(h:mj Γ1 (dpK i d Qf)):dpJ i mj Qf d Γ1:=⟨⟨kds,h0⟩,h⟩
theorem aKU (h0:Γ1[i]?=some (.box (bDk kds)))(hl:kds.length<1000)(h:Qf (.nx (Γ1.set i (.box (bDk (pA kds n d)))))):dpK i d Qf (.int n) Γ1:=⟨kds,n,h0,rfl,hl,h⟩
def dqK (i:Nat)(Q:D→En→Prop)(x:D)(Γ1:En):Prop:=∃ kds k d,Γ1[i]?=some (.box (bDk kds))∧x=.int k∧rY kds k=some d∧Q d (Γ1.set i (.box (bDk (jF kds k))))
theorem aIA (h0:Γ[i]?=some (.box (bDk kds)))(h:mj Γ (dqK i Q)):aCJ i mj Γ Q:=⟨⟨kds,h0⟩,h⟩
theorem aNP (h0:Γ1[i]?=some (.box (bDk kds)))(hd:rY kds n=some d)(h:Q d (Γ1.set i (.box (bDk (jF kds n))))):dqK i Q (.int n) Γ1:=⟨kds,n,d,h0,rfl,hd,h⟩
def dxK (y:D)(Q:D→En→Prop)(x:D)(Γ2:En):Prop:=∃ kds k d,y=.dict (dkD kds)∧x=.int k∧rY kds k=some d∧Q d Γ2
def dxJ (mj:ME)(Q:D→En→Prop)(y:D)(Γ1:En):Prop:=mj Γ1 (dxK y Q)
theorem aJP (h:ma Γ (dxJ mj Q)):sZ ma mj Γ Q:=h
theorem aNV {y:D}(h:mj Γ1 (dxK y Q)):dxJ mj Q y Γ1:=h
theorem vP (hd:rY kds n=some d)(h:Q d Γ1):dxK (.dict (dkD kds)) Q (.int n) Γ1:=⟨kds,n,d,rfl,rfl,hd,h⟩
def sdK (Q:Rv→En→Prop)(y:D)(Γ1:En):Prop:=∃ kds:List (Int×D),y=.dict (dkD kds)∧kds.length<64∧Q (.own ((qW (kds.map (·.1))).map PyData.int)) Γ1
theorem aFG (h:ma Γ (sdK Qo)):u5 ma Γ Qo:=h
theorem aFB (hl:kds.length<64)(h:Qo (.own ((qW (kds.map (·.1))).map PyData.int)) Γ1):sdK Qo (.dict (dkD kds)) Γ1:=⟨kds,rfl,hl,h⟩
theorem a95 (h0:Γ[i]?=some (.box ((bQ C).box w s)))(h:Q (.int s.jn) Γ):xF C i Γ Q:=⟨w,s,_,h0,.inl rfl,h⟩
def fxK (C:Addr)(i:Nat)(w:Addr)(s:FS)(Q:D→En→Prop)(x:D)(Γ1:En):Prop:=(∃ sl,Γ1[i]?=some sl∧InF C w s sl)∧∃ k d,x=.int k∧rY s.kds k=some d∧Q d Γ1
theorem aIW (h0:Γ[i]?=some (.box ((bQ C).box w s)))(h:mj Γ (fxK C i w s Q)):aF7 C i mj Γ Q:=⟨w,s,⟨_,h0,.inl rfl⟩,h⟩
theorem aNS (h0:Γ1[i]?=some (.box ((bQ C).box w s)))(hd:rY s.kds n=some d)(h:Q d Γ1):fxK C i w s Q (.int n) Γ1:=⟨⟨_,h0,.inl rfl⟩,n,d,rfl,hd,h⟩
def aOC (C:Addr)(i:Nat)(Q:Fl→Prop)(d:D)(Γ1:En):Prop:=∃ w s,Γ1[i]?=some (.box ((bQ C).box w s))∧Q (.nx (Γ1.set i (.box ((bQ C).box w { s with la:=d }))))
theorem aDJ (h:m Γ (aOC C i Qf)):a1Z C i m Γ Qf:=h
theorem aJ3 (h0:Γ1[i]?=some (.box ((bQ C).box w s)))(h:Qf (.nx (Γ1.set i (.box ((bQ C).box w { s with la:=d }))))):aOC C i Qf d Γ1:=⟨w,s,h0,h⟩
theorem aAN (h0:Γ[i]?=some (.box ((bQ C).box w s)))(h:Qf (.nx (Γ.set i (.box ((bQ C).box w { s with jn:=s.jn+n }))))):a1L C i n Γ Qf:=⟨w,s,h0,h⟩
def fpK (C:Addr)(i:Nat)(d:D)(w:Addr)(s:FS)(Q:Fl→Prop)(x:D)(Γ2:En):Prop:=∃ k,Γ2[i]?=some (.box ((bQ C).box w s))∧x=.int k∧s.kds.length<1000∧Q (.nx (Γ2.set i (.box ((bQ C).box w { s with kds:=pA s.kds k d }))))
def fpJ (C:Addr)(i:Nat)(mj:ME)(Q:Fl→Prop)(d:D)(Γ1:En):Prop:=∃ w s,Γ1[i]?=some (.box ((bQ C).box w s))∧mj Γ1 (fpK C i d w s Q)
theorem aHE (h:m Γ (fpJ C i mj Qf)):a8D C i m mj Γ Qf:=h
theorem aNU (h0:Γ1[i]?=some (.box ((bQ C).box w s)))(h:mj Γ1 (fpK C i d w s Qf)):fpJ C i mj Qf d Γ1:=⟨w,s,h0,h⟩
theorem aLG (h0:Γ1[i]?=some (.box ((bQ C).box w s)))(hl:s.kds.length<1000)(h:Qf (.nx (Γ1.set i (.box ((bQ C).box w { s with kds:=pA s.kds n d }))))):fpK C i d w s Qf (.int n) Γ1:=⟨n,h0,rfl,hl,h⟩
def fqK (C:Addr)(i:Nat)(w:Addr)(s:FS)(Q:D→En→Prop)(x:D)(Γ1:En):Prop:=∃ k d,Γ1[i]?=some (.box ((bQ C).box w s))∧x=.int k∧rY s.kds k=some d∧Q d (Γ1.set i (.box ((bQ C).box w { s with kds:=jF s.kds k })))
theorem aGW (h0:Γ[i]?=some (.box ((bQ C).box w s)))(h:mj Γ (fqK C i w s Q)):aCE C i mj Γ Q:=⟨w,s,h0,h⟩
theorem aNX (h0:Γ1[i]?=some (.box ((bQ C).box w s)))(hd:rY s.kds n=some d)(h:Q d (Γ1.set i (.box ((bQ C).box w { s with kds:=jF s.kds n })))):fqK C i w s Q (.int n) Γ1:=⟨n,d,h0,rfl,hd,h⟩
theorem aHU (h:∀ w d p,Qo (.box ((bQ C).box w ⟨d,p,[],0,.none⟩)) Γ):aB4 C Γ Qo:=h
theorem zB (h0:Γ[i]?=some sl)(hs:InF C w s sl)(hl:s.kds.length<64)(h:Qo (.own ((qW (s.kds.map (·.1))).map PyData.int)) Γ):pR C i Γ Qo:=⟨w,s,sl,h0,hs,hl,h⟩
end
end
section
variable {P0:Addr→Hp→Prop}{A:Nat→Bool}
theorem aE3 {F:Fra P0}{Γ1:En}{σ:St}{G1 H1:Hp}{n:Nat}{f:Fm}{as:List Sl}{rs:List V}{Q:VK}{E:XK}{Qm:Rv→En→Prop}(r1:R F Γ1 σ G1 H1)(d1:Paired (vL F G1) rs as)(hl:as.length=n)(hf:f as fun rv=>Qm rv Γ1)
  (k:∀ rv r G' H',Qm rv Γ1→Same G1 G'→R F Γ1 σ G' H'→RvO F G' H' r rv→Apart F Γ1 σ G' H' r rv→Q r H'):spM P0 n f (rs++[]) H1 Q E:=by
 refine⟨F.sub r1.fr,as,fun rv=>Qm rv Γ1,rfl,F.subRf r1.fr,?_,hl,hf,fun rv v G2 H2 q f2 v2=>?_⟩
 ·rw[List.append_nil];exact Paired.imp' (fun a s h=>by cases s<;>exact h) d1
 ·obtain⟨r2,s2⟩:=r1.after f2;refine k _ _ _ _ q s2 r2 ?_ ?_
  ·cases rv with
   | val d=>exact v2
   | own ds=>
    obtain⟨p,vs,e,e1,e2,e3,e4⟩:=v2;exact⟨p,vs,e,r1.fr.fresh e1,e2,e3,e4⟩
   | box B=>
    obtain⟨fp,e1,e2⟩:=v2;exact⟨fp,e1,fun b hb=>⟨r1.fr.fresh (e2 b hb).1,(e2 b hb).2⟩⟩
  ·have kp:∀ b o,F.H0 b=none→G1 b=none→H1 b=some o→G2 b=none∧H2 b=some o:=fun b o h1 h2 h3=>⟨(f2.g0 b _ h3).trans h2,f2.h0 b _ h3 (F.pen_ne h1)⟩
   cases rv with
   | val d=>trivial
   | own ds=>
    obtain⟨p,vs,rfl,e1,e2,e3,e4⟩:=v2;exact Apart.new r1 e1 s2 kp
   | box B=>
    obtain⟨fp,e1,e2⟩:=v2;exact Apart.newB r1 (fun f hf b hb=>by rw[B.uniq hf e1] at hb; exact(e2 b hb).1) s2 kp
def aLS (i:Nat)(mr:MA):MA:=fun Γ Q=>∃ B,Γ[i]?=some (.pub B)∧mr Γ fun xs Γ2=>Q (.pub B::xs) Γ2
theorem aIZ {i:Nat}{tr:TA}{mr:MA}(hr:VA P0 tr mr):VA P0 (lB (vZ i) tr) (aLS i mr):=by
 intro F Γ σ G H Q Qm r hm k;obtain⟨B,e,hm⟩:=hm;obtain⟨v,ev,pv⟩:=r.sl i _ e;exact⟨v,ev,hr F Γ σ G H _ _ r hm fun as Γ1 rs G1 H1 m1 g1 r1 d1=>k _ _ _ _ _ m1 g1 r1 (.cons (B.mono g1 pv) d1)⟩
def aH9 (C:Addr)(m:Str)(B:Pb):Prop:=∀{v:V} {G:Hp},B.P v G→∃ a dx fs,v=.ref a∧G a=some (.ins C dx fs)∧fs.lookup m=none
def aCA (C:Addr)(m:Str)(n:Nat)(f:Fm)(i:Nat)(ma:MA):MO:=fun Γ Q=>∃ B,Γ[i]?=some (.pub B)∧aH9 C m B∧ma Γ fun as Γ1=>as.length+1=n∧f (.pub B::as) fun rv=>Q rv Γ1
theorem aF3 {C:Addr}{m:Str}{n i:Nat}{f:Fm}{t:TA}{ma:MA}{E:XK}(h:VA P0 t ma):VO P0 (aBM C m (spM P0 n f) [] E (vZ i) t) (aCA C m n f i ma):=by
 intro F Γ σ G H Q Qm r hm k;obtain⟨B,e,hB,hm⟩:=hm;obtain⟨v,ev,pv⟩:=r.sl i _ e;obtain⟨a,dx,fs,rfl,ha,hl⟩:=hB pv;refine⟨.ref a,ev,a,dx,fs,rfl,r.fr.sub _ _ ha,hl,h F Γ σ G H _ _ r hm fun as Γ1 rs G1 H1 m1 g1 r1 d1=>?_⟩;exact aE3 (E:=E) (rs:=.ref a::rs) (as:=.pub B::as) r1 (.cons (show vL F G1 (.ref a) (.pub B) from B.mono g1 pv) d1) m1.1 m1.2 fun rv r' G' H' q g'=>k rv Γ1 r' G' H' q (g1.trans g')
theorem aC1 {C w:Addr}{s:FS}{m:Str}(hm:∀ s vl,(aLU s vl).lookup m=none):aH9 C m (qN C w s):=fun h=>by
 obtain⟨rfl,kvs,vl,a,_⟩:=h;exact⟨w,s.d,_,rfl,a.i,hm s vl⟩
section
variable {C CF:Addr}{i:Nat}{K:Fg}
end
end
section
variable {P0:Addr→Hp→Prop}{A:Nat→Bool}
section
variable {F:Fra P0}{Γ:En}{σ:St}{G H:Hp}
end
section
variable {C CF:Addr}{i:Nat}{K:Fg}
end
end
section
variable {P0:Addr→Hp→Prop}
section
variable {i j:Nat}{Γ Γ1:En}{Q:D→En→Prop}{Qf:Fl→Prop}{Qo:Rv→En→Prop}{m:ME}{ma:MA}{mo:MO}{C CF w:Addr}{s:RS}{sl:Sl}{f:Fm}
theorem aKS {B:Pb}{mr:MA}{Qa:List Sl→En→Prop}(h0:Γ[i]?=some (.pub B))(h:mr Γ fun xs Γ2=>Qa (.pub B::xs) Γ2):aLS i mr Γ Qa:=⟨B,h0,h⟩
theorem aI4 {mth:Str}{n:Nat}{B:Pb}(h0:Γ[i]?=some (.pub B))(hB:aH9 C mth B)(h:ma Γ fun as Γ1=>as.length+1=n∧f (.pub B::as) fun rv=>Qo rv Γ1):aCA C mth n f i ma Γ Qo:=⟨B,h0,hB,h⟩
end
end
end L2.VS
namespace L2
open PySem PySem.Spec PyProof.Rows
def aCV:List V→Hp→VK→Prop:=fun xs H Q=>∃(p:Addr) (kvs:List (Key×V)),xs=[.ref p]∧Rd H p (.dK kvs)∧∀ q,H q=none→Q (.ref q) (upd H q (.dK kvs))
theorem a6R {X:Cx}:a2F X (.type "dict") aCV:=by
 intro pins s σ H xs us Q I r h;obtain⟨p,kvs,rfl,hp,q⟩:=h;obtain⟨u,rfl,rx⟩:=vals1 r
 cases rx
 exact aFK I hp fun p s' hp I'=>⟨.ref p,_,I',rfl,q p hp⟩
end L2
namespace L2.VS
open PySem PySem.Spec PyProof.Rows
section
variable {P0:Addr→Hp→Prop}
def a6C (ma:ME):MO:=fun Γ Q=>ma Γ fun y Γ1=>∃ kds,y=.dict (dkD kds)∧Q (.box (bDk kds)) Γ1
theorem aA9 {ta:TE}{ma:ME}(ha:VT P0 ta ma):VO P0 (tCB aCV (lB ta a0Y)) (a6C ma):=by
 intro F Γ σ G H Q Qm r hm k;refine ha F Γ σ G H _ _ r hm fun y Γ1 v G1 H1 m1 g1 r1 d1=>?_;obtain⟨kds,rfl,m1⟩:=m1
 cases d1 with
 | @dic p kvs _ hp rs=>
  refine⟨p,kvs,rfl,hp.same r1.fr.sub,fun l hl=>?_⟩;have hP:(bDk kds).P (.ref l) [l] G1 (upd H1 l (.dK kvs)):=⟨l,kvs,rfl,rfl,bA,Dtk.rel rs⟩;refine k _ _ _ _ _ m1 g1 (r1.newP hl) ⟨[l],hP,fun b hb=>?_⟩ (Apart.newB r1 (fun fp h b hb=>?_) (Same.refl _) fun b o _ g e=>⟨g,by rw[aY (bJ e hl)]; exact e⟩)
  ·rw[List.mem_singleton.mp hb]; exact⟨r1.fr.fresh hl,r1.fr.gfresh hl⟩
  ·rw[(bDk kds).uniq h hP] at hb;rw[List.mem_singleton.mp hb]; exact hl
def dcK (Q:Rv→En→Prop)(y:D)(Γ1:En):Prop:=∃ kds,y=.dict (dkD kds)∧Q (.box (bDk kds)) Γ1
theorem aE6 {ma:ME}{Γ:En}{Q:Rv→En→Prop}(h:ma Γ (dcK Q)):a6C ma Γ Q:=h
theorem aNT {kds:List (Int×D)}{Q:Rv→En→Prop}{Γ1:En}(h:Q (.box (bDk kds)) Γ1):dcK Q (.dict (dkD kds)) Γ1:=⟨kds,rfl,h⟩
end
section
variable {P0:Addr→Hp→Prop}{A:Nat→Bool}
section
variable {G G' H H':Hp}{vs vs':List V}{fs fs':List (List Addr)}{Bs Bs':List Bx}
end
def aC6 (m:MO):MO:=fun Γ Q=>m (zR Γ) fun rv Γ1=>(∃ B,rv=.box B∧B.Cut)∧Γ1=zR Γ∧Q rv Γ
theorem aED {t:TE}{m:MO}(h:VO P0 t m):VO P0 t (aC6 m):=by
 intro F Γ σ G H Q Qm r hm k;obtain⟨s0,r0⟩:=r.pubAll;refine h F _ σ _ H _ _ r0 hm fun rv Γ1 x G1 H1 m1 s1 r1 d1 a1=>?_;obtain⟨⟨B,rfl,hc⟩,rfl,q⟩:=m1;obtain⟨s2,r2,t2⟩:=r.back s1 r1;obtain⟨fp,e1,e2⟩:=d1;have hP:=hc t2 e1;refine k _ _ _ _ _ q s2 r2 ⟨fp,hP,fun b hb=>⟨(e2 b hb).1,?_⟩⟩ fun i s fq f ei hf hg b hb hq=>?_
 ·unfold oZ
  split
  ·rfl
  ·exact(e2 b hb).2
 ·rw[B.uniq hg hP] at hb;obtain⟨fps,f1,f2⟩:=r.fps;have h0:=f1 i s ei;have own:=(r.backG s1 r1.fr).1;have h3:SlF F (oZ F Γ σ G H G1) H1 σ[i]? (fps i) s:=h0.go s2 fun b hb=>by
   have ho:OwnA F Γ σ G H b:=⟨i,s,fps i,ei,h0,hb⟩;exact⟨wQ ho,(own b ho).2⟩
  rw[hf.det h3] at hq;have ho:OwnA F Γ σ G H b:=⟨i,s,fps i,ei,h0,hq⟩;obtain⟨_,_,o,e'⟩:=ho.at;have:=(own b ho).1;rw[(e2 b hb).2,e'] at this; cases this
end
end L2.VS
namespace L2
open PySem PySem.Spec PyProof.Rows
def ItK (o:Obj)(p:Addr)(kvs:List (Key×V)):It:=
 ⟨fun i H=>H p=some (.frz o (.dK kvs))∧i<kvs.length,fun i H x H'=>H'=H∧∃ k v,kvs[i]?=some (k,v)∧x=kV k,fun i H=>H p=some (.frz o (.dK kvs))∧kvs.length≤i⟩
theorem aGR {P:Program}{w:World}{H:Hp}{h:Heap}{p:Addr}{o:Obj}{kvs:List (Key×V)}{es:Array DictEntry}{ep:Nat}(ok:HOk P w H h)(e:H p=some (.frz o (.dK kvs)))(hd:o.data=.dict es ep) :
  ∃ vs,KV kvs vs∧h.DictAt (dJ P w) p vs ep∧(p==sysModules)=false:=by
 obtain⟨hg,_,y,vs,kv,o1,es1,ep1,h1,h2,h3,h4⟩:=(show ObjOk P w H h p (.frz o (.dK kvs)) from ok p _ e);rw[hg] at h1; cases h1;rw[hd] at h3; cases h3;exact⟨vs,kv,⟨o,es,hg,h2,hd,h4⟩,y⟩
theorem aIN {P:Program}{w:World}{K:Fg}{tg:Expr}{o:Obj}{es:Array DictEntry}{ep:Nat}(hd:o.data=.dict es ep)(p it:Addr)(kvs:List (Key×V)):Turn P w K tg (ItK o p kvs) [it] it (fun i h=>h.IsKeyIter it p i kvs.length ep) where
 mem:=by simp
 obj:=fun i h st b hb=>by
  have e:b=it:=by simpa using hb
  subst e;obtain⟨o,e,c,d⟩:=st;exact⟨o,e,fun v z=>by rw[d] at z; cases z⟩
 keep:=fun i h h' st k=>let ⟨o,ho,r⟩:=st; ⟨o,k it (by simp) o ho,r⟩
 item:=by
  intro X hP hw hK hc i pins s σ H E I hf st hg;subst hP hw hK;obtain⟨hp,hi⟩:=hg;obtain⟨vs,kv,hat,_⟩:=aGR I.hok hp hd;obtain⟨f0,f1,f2,f3,f4,f5⟩:=hf it (by simp);have hl:vs.length=kvs.length:=kv.length.symm;have hi':i<vs.length:=by rw[hl]; exact hi
  rw[← hl] at st;refine wpAny_pyNext_dict_item st hat (k:=vs[i].1) (v:=vs[i].2) (List.getElem?_eq_getElem hi') fun key h' hk st' sb=>?_;have I1:Inv X pins σ H { s with heap:=h' }:=I.turned (t':=s.toks) (fun b o hb e=>(sb.2 b hb).trans e) f0 f1 f3 f4 f5;rw[hl] at st';obtain⟨o',e,c,d⟩:=id st';have ke:kvs[i].1=vs[i].1:=by
   have e1:(kvs.map (·.1))[i]?=(vs.map (·.1))[i]?:=by rw[kv.keys]
   rw[List.getElem?_map,List.getElem?_map,List.getElem?_eq_getElem hi,List.getElem?_eq_getElem hi'] at e1;exact Option.some.inj e1
  refine⟨key,rfl,aH1 (s:={ s with heap:=h' }) e c d (by decide) ⟨kV kvs[i].1,H,I1,?_,⟨rfl,_,_,List.getElem?_eq_getElem hi,rfl⟩,st',fun b hb=>(hf b hb).1⟩⟩;rw[ke];rcases cM ((tZ X.prog X.w _ _).symm.trans hk) with⟨j,t,a,b⟩|⟨j,t,a,b⟩
  ·rw[a,b]; exact⟨t,rfl⟩
  ·rw[a,b]; exact⟨t,rfl⟩
 done:=by
  intro X hP hw hK hc i pins s σ H E I hf st hg;subst hP hw hK;obtain⟨hp,hi⟩:=hg;obtain⟨vs,kv,hat,_⟩:=aGR I.hok hp hd;obtain⟨f0,f1,f2,f3,f4,f5⟩:=hf it (by simp);have hl:vs.length=kvs.length:=kv.length.symm;rw[← hl] at st;exact wpAny_pyNext_dict_end (I.ok.hd hc) st hat (List.getElem?_eq_none (by omega)) fun h' eb=>⟨rfl,I.turned (t':=s.toks) (fun b o hb e=>eb b o hb e) f0 f1 f3 f4 f5⟩
 self:=fun _ _ _ _ _ st h=>wpAny_pyIter_keyiter st h
theorem Inv.freeze {X:Cx}{pins:List (Addr×Obj)}{σ:St}{H:Hp}{s:Shared}{p:Addr}{kvs:List (Key×V)}(I:Inv X pins σ H s)(e:H p=some (.dK kvs)):∃ o es ep,o.data=Data.dict es ep∧Inv X pins σ (upd H p (.frz o (.dK kvs))) s:=by
 obtain⟨z,y,vs,kv,o,es,ep,h1,h2,h3,h4⟩:=(show ObjOk X.prog X.w H s.heap p (.dK kvs) from I.hok p _ e);have ne:∀ b,H b=none→upd H p (.frz o (.dK kvs)) b=none:=fun b hb=>by
  rw[aY (Ne.symm (bJ e hb))]; exact hb
 have nt:∀{b:Addr} {u:HO},H b=some u→u≠.dK kvs→upd H p (.frz o (.dK kvs)) b=some u:=fun{b u} hb hu=>by
  rw[aY (a9F hb e hu)]; exact hb
 refine⟨o,es,ep,h3,⟨I.ok,I.os,I.bare,⟨I.base.keep,I.base.slot,fun b ob q n hx=>ne b (I.base.free b ob q n hx),I.base.there,fun b xs q=>nt (I.base.tups b xs q) (by intro z; cases z),fun b ob u q=>nt (I.base.frzs b ob u q) (by intro z; cases z),fun b ps q=>?_⟩,I.loc,I.cell,ne _ I.free,fun x c q=>ne _ (I.freeC x c q),fun q hq=>?_,fun b u q=>?_,I.len⟩⟩
 ·obtain⟨m,q'⟩:=I.base.tbls b ps q;exact⟨m,nt q' (by intro z; cases z)⟩
 ·obtain⟨a1,a2,a3⟩:=I.pin q hq;exact⟨a1,ne _ a2,a3⟩
 ·have st:∀{b:Addr} {u:HO},ObjOk X.prog X.w H s.heap b u→ObjOk X.prog X.w (upd H p (.frz o (.dK kvs))) s.heap b u:=fun h=>h.stay (fun _ _ _ q=>q) (fun c q=>nt q (by intro z; cases z)) fun c xs q=>nt q (by intro z; cases z)
  by_cases hb:b=p
  ·subst hb;rw[bA] at q
   cases q
   exact⟨h1,st (I.hok _ _ e)⟩
  ·rw[aY hb] at q;exact st (I.hok b u q)
section
variable {X:Cx}{tg:Expr}
def iDk (tl:TE):TI:=fun σ H R=>tl σ H fun x H1=>∃ p kvs,x=.ref p∧((H1 p=some (.dK kvs)∧∀ o,R (ItK o p kvs) (upd H1 p (.frz o (.dK kvs))))∨∃ o,H1 p=some (.frz o (.dK kvs))∧R (ItK o p kvs) H1)
theorem aLK {l:Expr}{tl:TE}(hl:PE X l tl):PI X tg l (iDk tl):=by
 intro pins s σ H R I h;refine thn (hl pins s σ H _ I h) fun v s1 ⟨x,H1,I1,r1,q1⟩=>?_;obtain⟨p,kvs,e,q⟩:=q1;subst e
 cases r1
 obtain⟨o,es,ep,H2,hd,I2,hp,q⟩:∃ o es ep H2,o.data=Data.dict es ep∧Inv X pins σ H2 s1∧H2 p=some (.frz o (.dK kvs))∧R (ItK o p kvs) H2:=by
  rcases q with⟨hp,q⟩|⟨o,hp,q⟩
  ·obtain⟨o,es,ep,hd,I2⟩:=I1.freeze hp;exact⟨o,es,ep,_,hd,I2,bA,q o⟩
  ·obtain⟨hg,_,_,vs,kv,o1,es,ep,h1,h2,h3,h4⟩:=(show ObjOk X.prog X.w H1 s1.heap p (.frz o (.dK kvs)) from I1.hok p _ hp);rw[hg] at h1; cases h1;exact⟨o,es,ep,H1,h3,I1,hp,q⟩
 obtain⟨vs,kv,hat,y⟩:=aGR I2.hok hp hd;have hlen:vs.length=kvs.length:=kv.length.symm;refine wpAny_pyIter_dict y hat ?_;refine⟨s1.heap.objs.size,[s1.heap.objs.size],_,_,H2,rfl,I2.kept (t':=s1.toks) fun b o e=>Heap.get?_push_of_some _ e,aIN hd p _ kvs,?_,fun b hb=>?_,q⟩
 ·rw[← hlen];exact⟨_,Heap.get?_push_size _ rfl,rfl,rfl⟩
 ·have e:b=s1.heap.objs.size:=by simpa using hb
  subst e;exact I2.fpOk (Nat.le_refl _) (I2.hok.fresh (Nat.le_refl _))
end
end L2
namespace L2.VS
open PySem PySem.Spec PyProof.Rows
section
variable {P0:Addr→Hp→Prop}
def pDk (kds:List (Int×D)):Pb where
 P v G:=∃ p o kvs,v=.ref p∧G p=some (.frz o (.dK kvs))∧DkRel G kvs kds
 mono g h:=by
  obtain⟨p,o,kvs,h1,h2,h3⟩:=h;exact⟨p,o,kvs,h1,g _ _ h2,h3.same g⟩
def aN4 (i:Nat):ME:=fun Γ Q=>∃ kds,Γ[i]?=some (.pub (pDk kds))∧Q (.dict (dkD kds)) Γ
theorem aKW {i:Nat}:VT P0 (vZ i) (aN4 i):=by
 intro F Γ σ G H Q Qm r m k;obtain⟨kds,e,m⟩:=m;obtain⟨v,ev,p,o,kvs,rfl,h2,h3⟩:=r.sl i _ e;exact⟨.ref p,ev,k _ _ _ _ _ m (Same.refl _) r (.dic (.inr ⟨o,h2⟩) h3.dtk)⟩
def aEN (kds:List (Int×D)):List D:=kds.map fun kd=>.int kd.1
def aKH (i:Nat):MD:=fun Γ Q=>∃ kds:List (Int×D),(Γ[i]?=some (.box (bDk kds))∧Q (aEN kds) (Γ.set i (.pub (pDk kds))))∨(Γ[i]?=some (.pub (pDk kds))∧Q (aEN kds) Γ)
theorem aH7 {G:Hp}{kvs:List (Key×V)}{kds:List (Int×D)}(h:DkRel G kvs kds):∀{j:Nat} {k:Key} {v:V},kvs[j]?=some (k,v)→∃ n d,k=Sum.inl n∧kds[j]?=some (n,d):=by
 induction h with
 | nil=>intro j k v e; cases e
 | @cons n v d kvs kds h r ih=>
  intro j k v' e
  cases j with
  | zero=>cases e; exact⟨n,d,rfl,rfl⟩
  | succ j=>exact ih e
theorem aBN {o:Obj}{p:Addr}{G:Hp}{kvs:List (Key×V)}{kds:List (Int×D)}(hp:G p=some (.frz o (.dK kvs)))(rel:DkRel G kvs kds):Walk P0 (ItK o p kvs) G (aEN kds):=by
 intro F2 Γ2 σ2 G2 H2 s2 r2;have hq:H2 p=some (.frz o (.dK kvs)):=r2.fr.sub _ _ (s2 _ _ hp);have hl:(aEN kds).length=kvs.length:=by rw[rel.len]; exact List.length_map ..
 refine⟨fun i d e=>?_,hq,Nat.le_of_eq hl.symm⟩;have hi:i<kvs.length:=by rw[← hl]; exact(List.getElem?_eq_some_iff.mp e).1
 refine⟨⟨hq,hi⟩,fun x H' hy=>⟨G2,Same.refl _,?_⟩⟩;obtain⟨rfl,k,v,e1,rfl⟩:=hy;refine⟨r2,?_⟩;obtain⟨n,d',rfl,e2⟩:=aH7 rel e1;unfold aEN at e;rw[List.getElem?_map,e2] at e
 cases e
 exact .int n
theorem aL4 {i:Nat}:VI P0 (iDk (vZ i)) (aKH i):=by
 intro F Γ σ G H Q Qm r m k;obtain⟨kds,⟨e,m⟩|⟨e,m⟩⟩:=m
 ·obtain⟨p,kvs,ep,hp,rel,p1,p2⟩:=r.dk e;refine⟨.ref p,ep,p,kvs,rfl,.inl ⟨hp,fun o=>?_⟩⟩;have g:=mY p2 (.frz o (.dK kvs));obtain⟨fps,h1,h2⟩:=r.fps;have hi:i<Γ.length:=(List.getElem?_eq_some_iff.mp e).1;have ho:fps i=[p]:=by
   obtain⟨v,w1,⟨p',kvs1,rfl,q2,_,_⟩,w3⟩:=h1 i _ e;rw[ep] at w1; cases w1;exact q2
  have back:∀{m z},m≠i→(Γ.set i (.pub (pDk kds)))[m]?=some z→Γ[m]?=some z:=fun{m z} hm e=>by rw[List.getElem?_set_ne (Ne.symm hm)] at e; exact e
  have away:∀{j:Nat} {s:Sl},j≠i→Γ[j]?=some s→∀ b∈fps j,b≠p:=fun{j s} hj ej b hb z=>h2 j i s _ ej e hj b hb (by rw[ho,z]; exact List.mem_cons_self);have fr:Rf F (upd G p (.frz o (.dK kvs))) (upd H p (.frz o (.dK kvs))):=by
   have a:=r.fr.priv (o:=.frz o (.dK kvs)) p1 p2;exact a.give p1 bA
  refine k _ _ (ItK o p kvs) _ _ m g ⟨fr,by rw[List.length_set]; exact r.len,fun j=>if j=i then[] else fps j,fun j s ej=>?_,fun j l s t ej el hjl b hb hc=>?_⟩ (aBN bA (rel.same g))
  ·dsimp only
   by_cases hj:j=i
   ·subst hj;rw[List.getElem?_set_self hi] at ej
    cases ej
    rw[if_pos rfl];exact⟨rfl,.ref p,ep,p,o,kvs,rfl,bA,rel.same g⟩
   ·rw[if_neg hj];refine(h1 j s (back hj ej)).go g fun b hb=>?_;have:=away hj (back hj ej) b hb;rw[aY this,aY this];exact⟨((h1 j s (back hj ej)).mine hb).2.1,rfl⟩
  ·dsimp only at hb hc
   by_cases hj:j=i
   ·rw[if_pos hj] at hb; cases hb
   ·by_cases hl:l=i
    ·rw[if_pos hl] at hc; cases hc
    ·rw[if_neg hj] at hb;rw[if_neg hl] at hc;exact h2 j l s t (back hj ej) (back hl el) hjl b hb hc
 ·obtain⟨v,ev,p,o,kvs,rfl,h2,h3⟩:=r.sl i _ e;exact⟨.ref p,ev,p,kvs,rfl,.inr ⟨o,r.fr.sub _ _ h2,k _ _ (ItK o p kvs) _ _ m (Same.refl _) r (aBN h2 h3)⟩⟩
theorem aML {i:Nat}{kds:List (Int×D)}{Γ:En}{Q:List D→En→Prop}(e:Γ[i]?=some (.box (bDk kds)))(h:Q (aEN kds) (Γ.set i (.pub (pDk kds)))):aKH i Γ Q:=⟨kds,.inl ⟨e,h⟩⟩
theorem aJZ {i:Nat}{kds:List (Int×D)}{Γ:En}{Q:List D→En→Prop}(e:Γ[i]?=some (.pub (pDk kds)))(h:Q (aEN kds) Γ):aKH i Γ Q:=⟨kds,.inr ⟨e,h⟩⟩
theorem aMR {i:Nat}{kds:List (Int×D)}{Γ:En}{Q:D→En→Prop}(e:Γ[i]?=some (.pub (pDk kds)))(h:Q (.dict (dkD kds)) Γ):aN4 i Γ Q:=⟨kds,e,h⟩
theorem DkRel.sameU {G G':Hp}(g:a9L G G'){kvs:List (Key×V)}{kds:List (Int×D)}(h4:DkRel G kvs kds):(∀ kd∈kds,qD kd.2=true)→DkRel G' kvs kds:=by
 induction h4 with
 | nil=>exact fun _=>.nil
 | cons h r ih=>exact fun z=>.cons (Dt.sameU g _ _ (z _ List.mem_cons_self) h) (ih fun kd hk=>z kd (List.mem_cons_of_mem _ hk))
theorem aKK {kds:List (Int×D)}(z:∀ kd∈kds,qD kd.2=true):(bDk kds).Cut:=fun g ⟨p,kvs,h1,h2,h3,h4⟩=>⟨p,kvs,h1,h2,h3,h4.sameU g z⟩
end
end L2.VS
namespace PySem
section
variable {prog:Program}{w:World}{K:Type}[DecidableEq K]{knd:KeyKind prog w K}{A:Around}{E:Value→Shared→Prop}{s:Shared}
theorem a93 {nm:String}{a b:Addr}{xs:List (K×Value)}{Q:Bool→Shared→Prop}(ha:(a==sysModules)=false)(hb:(b==sysModules)=false)
  (da:s.heap.DictOf knd a xs) (db:s.heap.DictOf knd b []) (h:Q xs.isEmpty s) :
  wpAny (model prog w) A (Builtin.Dict.samePairs nm a b) Q E s:=by
 obtain⟨oa,es,ep,hoa,_,hda,_,hia,_⟩:=da;obtain⟨ob,es',ep',hob,_,hdb,_,hib,_⟩:=db;have hza:es.size=xs.length:=by rw[← Array.length_toList]; exact hia.length
 have hzb:es'.size=0:=by rw[← Array.length_toList,hib.length]; rfl
 unfold Builtin.Dict.samePairs Builtin.Dict.showsAll;rw[if_neg (show ¬(a==sysModules)=true by rw[ha]; exact Bool.false_ne_true),if_neg (show ¬(b==sysModules)=true by rw[hb]; exact Bool.false_ne_true)];refine wpAny_bind (wpAny_pure (wpAny_bind (wpAny_pure ?_)));refine wpAny_bind (wpAny_dictEntries hoa hda ?_);dsimp only;refine wpAny_bind (wpAny_dictEntries hob hdb ?_)
 cases xs with
 | cons x xs=>
  rw[if_pos (by rw[hza,hzb]; simp)];show wpAny (model prog w) A (pure false) Q E s;exact wpAny_pure h
 | nil=>
  have hsz:es.size=es'.size:=by rw[hza,hzb]; rfl
  rw[if_neg (by rw[hsz]; simp)];refine wpAny_bind (wpAny_dictEpoch hoa hda ?_);refine wpAny_bind ?_;rw[Std.Legacy.Range.forIn_eq_forIn_range'];simp only[Std.Legacy.Range.size,Nat.sub_zero,Nat.add_sub_cancel,Nat.div_one];rw[show es.size=0 from hza];exact wpAny_pure (wpAny_pure h)
theorem aEW {a b:Addr}{xs:List (K×Value)}{Q:Value→Shared→Prop}(ha:(a==sysModules)=false)(hb:(b==sysModules)=false)(hu:A.units<cLine)
  (da:s.heap.DictOf knd a xs) (db:s.heap.DictOf knd b []) (h:Q (.bool (!xs.isEmpty)) s) :
  wpAny (model prog w) A (compareOp .NotEq (.ref a) (.ref b)) Q E s:=by
 refine wpAny_richCompare_same_room (op:=.NotEq) da.typeIs db.typeIs PySem.F.slot_dict_ne (wpAny_call_entry PySem.F.slot_dict_ne da.typeIs PySem.F.entry_dict_ne ?_ (PySem.F.args_dict_ne_2 _ _)) hu;show wpAny _ _ (Builtin.Dict.dictSlotArgs "__ne__" ⟨[.ref a,.ref b],[]⟩ >>= _) _ _ s;refine wpAny_bind ?_;unfold Builtin.Dict.dictSlotArgs;refine wpAny_bind (wpAny_notOrdered_dict da.typeIs ?_);show wpAny _ _ (pure (Value.ref a,Value.ref b)) _ _ s;refine wpAny_pure ?_;refine wpAny_bind (wpAny_isInstance (T := "dict") db.typeIs PySem.F.sub_dict_dict ?_);simp only[Bool.not_true,Bool.false_eq_true,if_false];refine wpAny_bind (wpAny_pure (wpAny_bind (wpAny_pure ?_)));refine wpAny_bind (a93 ha hb da db ?_);refine wpAny_pure ⟨_,rfl,?_,?_⟩
 ·exact fun x=>nomatch x
 ·rw[show(xs.isEmpty==false) = !xs.isEmpty by cases xs.isEmpty<;>rfl];exact h
end
end PySem
namespace L2
open PySem PySem.Spec PyProof.Rows
def aP4:R2:=fun x y H Q=>∃(p:Addr) (kvs:List (Key×V)) (p':Addr),x=.ref p∧y=.ref p'∧Rd H p (.dK kvs)∧Rd H p' (.dK [])∧Q (.bl (!kvs.isEmpty)) H
theorem aJM {X:Cx}(hu:X.A.units+64<cLine):OpR X (compareOp .NotEq) aP4:=by
 intro pins s σ H x y v u Q I rx ry h;obtain⟨p,kvs,p',rfl,rfl,e1,e2,q⟩:=h
 cases rx
 cases ry
 obtain⟨_,h1,vs,kv,hD⟩:=a3F I.hok e1;obtain⟨_,h2,vs',kv',hD'⟩:=a3F I.hok e2
 cases kv'
 refine aEW h1 h2 (by omega) hD hD' ⟨.bl (!kvs.isEmpty),H,I,?_,q⟩;have hl:=kv.length
 cases kvs with
 | nil=>cases vs with
  | nil=>rfl
  | cons=>cases hl
 | cons=>cases vs with
  | nil=>cases hl
  | cons=>rfl
end L2
namespace L2.VS
open PySem PySem.Spec PyProof.Rows
section
variable {P0:Addr→Hp→Prop}
def aO2 (ma mb:ME):ME:=fun Γ Q=>ma Γ fun x Γ1=>mb Γ1 fun y Γ2=>∃ kds:List (Int×D),x=.dict (dkD kds)∧y=.dict []∧Q (.bool (!kds.isEmpty)) Γ2
theorem aJ1 {ta tb:TE}{ma mb:ME}(ha:VT P0 ta ma)(hb:VT P0 tb mb):VT P0 (tOp aP4 ta tb) (aO2 ma mb):=by
 intro F Γ σ G H Q Qm r hm k;refine ha F Γ σ G H _ _ r hm fun x Γ1 v G1 H1 m1 g1 r1 d1=>?_;refine hb F Γ1 σ G1 H1 _ _ r1 m1 fun y Γ2 u G2 H2 m2 g2 r2 d2=>?_;obtain⟨kds,rfl,rfl,q⟩:=m2
 cases d1 with
 | @dic p kvs _ hp rs=>
  cases d2 with
  | @dic p' kvs' _ hp' rs'=>
   cases rs'
   have hl:=(Dtk.rel rs).len;refine⟨p,kvs,p',rfl,rfl,(hp.same g2).same r2.fr.sub,hp'.same r2.fr.sub,?_⟩;have e:kvs.isEmpty=kds.isEmpty:=by
    cases kvs with
    | nil=>cases kds with
     | nil=>rfl
     | cons=>cases hl
    | cons=>cases kds with
     | nil=>cases hl
     | cons=>rfl
   rw[e];exact k _ _ _ _ _ q (g1.trans g2) r2 (.bl _)
def n0K (x:D)(Q:D→En→Prop)(y:D)(Γ2:En):Prop:=∃ kds:List (Int×D),x=.dict (dkD kds)∧y=.dict []∧Q (.bool (!kds.isEmpty)) Γ2
def n0J (mb:ME)(Q:D→En→Prop)(x:D)(Γ1:En):Prop:=mb Γ1 (n0K x Q)
theorem aM6 {ma mb:ME}{Γ:En}{Q:D→En→Prop}(h:ma Γ (n0J mb Q)):aO2 ma mb Γ Q:=h
theorem aMC {mb:ME}{x:D}{Γ1:En}{Q:D→En→Prop}(h:mb Γ1 (n0K x Q)):n0J mb Q x Γ1:=h
theorem aM8 {kds:List (Int×D)}{Γ2:En}{Q:D→En→Prop}(h:Q (.bool (!kds.isEmpty)) Γ2):n0K (.dict (dkD kds)) Q (.dict []) Γ2:=⟨kds,rfl,rfl,h⟩
end
end L2.VS
namespace My
open PySem PySem.Spec PyProof.Rows L2 L2.VS LT
def top (i:Nat):Stmt:=PySem.Challenge.pw_leadtimes_k36_leaders_of_races.main.body.getD i (.Pass ⟨0,0,0,0⟩)
set_option hygiene false in
local macro_rules|`(tactic| walk_at "vn")=>`(tactic| dsimp only[List.set_cons_zero,List.set_cons_succ,List.set_nil,Rv.sl,Rv.d,nbQ,List.replicate,List.cons_append,List.nil_append,zR,List.map_cons,List.map_nil])
set_option hygiene false in
local macro_rules|`(tactic| walk_at "v1")=>`(tactic| first
 | (with_reducible first
  | apply aN6|apply aO4|apply aO3|apply aNF|apply aPJ|apply aNG
  | refine aMS (by with_unfolding_all rfl) ?_
  | apply i_c|apply aNB|apply aKE|apply aJY
  | refine aK0 (by with_unfolding_all rfl) ?_
  | apply aLM|apply aMJ|apply aKQ|apply aO8|apply aM3|apply aPI|apply aPA|apply i_I|apply i_U|apply aPH|apply aPM
  | apply aN5|apply aPU|apply aN1|apply aKA|apply aKX|apply aLW|apply aJW|apply aMP|apply aNH|apply aMH|apply aJT|apply aO6|apply aM2
  | apply aN7|apply aNY|apply aK1|apply aL1|apply aPR
  | refine aPB (by with_unfolding_all rfl) ?_
  | apply aEU|apply aHC|apply aNA|apply aMW|apply aPS|apply aL8|apply aKD|apply aIL|apply aGZ|apply aEA|apply aNI|apply aN9|apply aMO|apply aME|apply aPF
  | refine aEP (by with_unfolding_all rfl) ?_
  | refine aI2 (by with_unfolding_all rfl) ?_
  | refine aJF (by with_unfolding_all rfl) ?_
  | refine aHS (by with_unfolding_all rfl) ?_
  | refine aJ9 (by with_unfolding_all rfl) ?_
  | refine i_moveV (by with_unfolding_all rfl) ?_
  | apply cB (aGV _)|apply cB (aHP _)|apply cB (aEG _)|apply cB (aF6 _)
  | apply uV|apply u6
  | refine isT (by with_unfolding_all rfl) ?_
  | refine isF (by with_unfolding_all rfl) ?_
  | refine aPV (by with_unfolding_all rfl) ?_
  | refine isNF (by with_unfolding_all rfl) ?_
  | apply aM0|apply aM7
  | refine And.intro rfl ?_
  | refine And.intro (Nat.le_of_ble_eq_true (by with_unfolding_all rfl)) ?_
  | refine And.intro (aNZ (by assumption) (by assumption)) ?_
  | (refine And.intro (good_int _) (And.intro (good_int _) ?_); rw[aHO])
  | (refine And.intro (mL _) (And.intro (mL _) ?_); rw[a2D])
  | (refine And.intro (good_line _) (And.intro (good_line _) ?_); rw[eqv_line])
  | (refine And.intro (good_bool _) (And.intro (good_bool _) ?_); rw[eqv_bool]))
 | dsimp only[Rv.d,Rv.sl,nbQ,Bool.not_true,Bool.not_false,isN,uX])
set_option hygiene false in
local macro_rules|`(tactic| walk_at "vs")=>`(tactic| repeat (walk_at "v1"))
set_option hygiene false in
local macro_rules|`(tactic| walk_at "w1")=>`(tactic| first
 | walk_at "v1"
 | with_reducible apply aL0
 | with_reducible refine aFF (by with_unfolding_all rfl) ?_
 | with_reducible apply aLY
 | with_reducible apply aJS
 | with_reducible refine i_ixC (by with_unfolding_all rfl) ?_)
set_option hygiene false in
local macro_rules|`(tactic| walk_at "ws")=>`(tactic| repeat (walk_at "w1"))
set_option hygiene false in
local macro_rules|`(tactic| walk_at "l1")=>`(tactic| first
 | walk_at "w1"
 | with_reducible refine aK7 (by with_unfolding_all rfl) ?_
 | with_reducible refine aO5 (by with_unfolding_all rfl) rfl ?_
 | with_reducible apply aJ4
 | with_reducible refine aMU (by with_unfolding_all rfl) ?_
 | with_reducible apply aK2
 | with_reducible apply i_compLn)
set_option hygiene false in
local macro_rules|`(tactic| walk_at "ls")=>`(tactic| repeat (walk_at "l1"))
set_option hygiene false in
local macro_rules|`(tactic| walk_at "kp")=>`(tactic| repeat (with_unfolding_all first
 | exact kept_n
 | apply kept_f
 | refine kept_t cut_pen ?_
 | refine kept_t cut_walk ?_
 | refine kept_t cut_lst ?_))
set_option hygiene false in
local macro_rules|`(tactic| walk_at "m1")=>`(tactic| first
 | walk_at "l1"
 | with_reducible refine i_slJ (by with_unfolding_all rfl) ?_)
set_option hygiene false in
local macro_rules|`(tactic| walk_at "ms")=>`(tactic| repeat (walk_at "m1"))
set_option hygiene false in
local macro_rules|`(tactic| walk_at "f1")=>`(tactic| first
 | walk_at "m1"
 | with_reducible apply aH0
 | with_reducible refine aIF (by with_unfolding_all rfl) ?_
 | with_reducible apply aHA
 | with_reducible refine aMK (by with_unfolding_all rfl) ?_
 | with_reducible refine aIA (by with_unfolding_all rfl) ?_
 | with_reducible apply aJP
 | with_reducible apply aNV
 | with_reducible apply aFG
 | with_reducible refine a95 (by with_unfolding_all rfl) ?_
 | with_reducible refine aIW (by with_unfolding_all rfl) ?_
 | with_reducible apply aDJ
 | with_reducible refine aJ3 (by with_unfolding_all rfl) ?_
 | with_reducible refine aAN (by with_unfolding_all rfl) ?_
 | with_reducible apply aHE
 | with_reducible refine aNU (by with_unfolding_all rfl) ?_
 | with_reducible refine aGW (by with_unfolding_all rfl) ?_
 | with_reducible refine i_rev (by with_unfolding_all rfl) ?_)
set_option hygiene false in
local macro_rules|`(tactic| walk_at "fs")=>`(tactic| repeat (walk_at "f1"))
set_option hygiene false in
local macro_rules|`(tactic| walk_at "k1")=>`(tactic| first
 | walk_at "f1"
 | with_reducible apply aE6
 | with_reducible apply aM6
 | with_reducible apply aMC
 | with_reducible apply aM8
 | with_reducible refine aMR (by with_unfolding_all rfl) ?_
 | with_reducible refine aJZ (by with_unfolding_all rfl) ?_
 | with_reducible refine aML (by with_unfolding_all rfl) ?_)
set_option hygiene false in
local macro_rules|`(tactic| walk_at "ks")=>`(tactic| repeat (walk_at "k1"))
set_option hygiene false in
local macro_rules|`(tactic| walk_at "kf")=>`(tactic| (try simp only[List.cons_append,List.nil_append,List.replicate_succ,List.replicate_zero,List.set_cons_zero,List.set_cons_succ]); walk_at "ks")
def bB:Fm:=aFE
def uC:MS:=
 (fK (cO (aD5 (aI1 "int" (aN 0)) (aIG (aI1 "bool" (aN 0))))))
def gP:Fm:=mFn 0 uC
def iQ:MS:=
 (fK (cO (aN 2)))
def iJ:MS:=
 (cA (dF 4 (cO (aLV (aN 2) (aN 3))))
  (cA (dF 2 (cO (aN 3)))
  (dF 3 (cO (aN 4)))))
def g8:MS:=
 (cA (dF 2 (cO (aI6 (aN 0))))
  (cA (dF 3 (cO (aI6 (aN 1))))
  (cA (a3P (eO (mNe (aN 3) (mC (.int 0))))
  iJ)
  iQ)))
def cI:Fm:=mFn 3 g8
def rA:MS:=
 (fK (cO (qC (bG (aCC (aN 0) (aN 2)) (bG (aCC (aN 1) (aN 2)) fU)))))
def qF:MS:=
 (cA (dF 2 (cO (bW (b8 2 cI (bC (aN 0) (bC (aN 1) c7))))))
  (cA (mIf (eO (mLt (aN 1) (mC (.int 0))))
  (dF 2 (cO (aFR (aN 2))))
  mNx)
  rA))
def rP:MS:=
 (cA (mIf (mOr (aGO (eO (bW (b8 1 gP (bC (aN 0) c7))))) (mOr (aGO (eO (bW (b8 1 gP (bC (aN 1) c7))))) (eO (mEq (aN 1) (mC (.int 0))))))
  aG9
  mNx)
  qF)
def cJ:Fm:=mFn 1 rP
def a2J:MS:=
 (fK (b8 2 cJ (bC (a9H (vW (mIx (aN 0) (mC (.int 0))) (mIx (aN 1) (mC (.int 1)))) (vW (mIx (aN 1) (mC (.int 0))) (mIx (aN 0) (mC (.int 1))))) (bC (vW (mIx (aN 0) (mC (.int 1))) (mIx (aN 1) (mC (.int 1)))) c7))))
def pW:Fm:=mFn 0 a2J
def jL:MS:=
 (fK (b8 2 cJ (bC (aIO (vW (mIx (aN 0) (mC (.int 0))) (mIx (aN 1) (mC (.int 1)))) (vW (mIx (aN 1) (mC (.int 0))) (mIx (aN 0) (mC (.int 1))))) (bC (vW (mIx (aN 0) (mC (.int 1))) (mIx (aN 1) (mC (.int 1)))) c7))))
def bZ:Fm:=mFn 0 jL
def oG:MS:=
 (fK (b8 2 cJ (bC (vW (mIx (aN 0) (mC (.int 0))) (mIx (aN 1) (mC (.int 0)))) (bC (vW (mIx (aN 0) (mC (.int 1))) (mIx (aN 1) (mC (.int 1)))) c7))))
def dG:Fm:=mFn 0 oG
def mF:MS:=
 (fK (b8 2 cJ (bC (vW (mIx (aN 0) (mC (.int 0))) (mIx (aN 1) (mC (.int 1)))) (bC (vW (mIx (aN 0) (mC (.int 1))) (mIx (aN 1) (mC (.int 0)))) c7))))
def fD:Fm:=mFn 0 mF
def yP:MS:=
 (fK (cO (mLt (vW (mIx (aN 0) (mC (.int 0))) (mIx (aN 1) (mC (.int 1)))) (vW (mIx (aN 1) (mC (.int 0))) (mIx (aN 0) (mC (.int 1)))))))
def cC:Fm:=mFn 0 yP
def uT:MS:=
 (fK (b8 2 pW (bC (mIx (aN 0) (mC (.int 0))) (bC (bW (b8 2 dG (bC (mIx (aN 0) (mC (.int 1))) (bC (aN 1) c7)))) c7))))
def gZ:Fm:=mFn 0 uT
def lJ:MS:=
 (fK (cO (qC (bG (bW (b8 2 bZ (bC (aN 1) (bC (bW (b8 2 dG (bC (aN 2) (bC (aN 0) c7)))) c7)))) (bG (aN 2) fU)))))
def dU:Fm:=mFn 0 lJ
def v7:MS:=
 (cA (dF 2 (cO (bW (b8 2 bZ (bC (mIx (aN 1) (mC (.int 0))) (bC (mIx (aN 0) (mC (.int 0))) c7))))))
  (cA (dF 3 (cO (bW (b8 2 bZ (bC (mIx (aN 0) (mC (.int 1))) (bC (mIx (aN 1) (mC (.int 1))) c7))))))
  (fK (cO (qC (bG (mC (.str "at")) (bG (bW (b8 2 fD (bC (aN 2) (bC (aN 3) c7)))) fU)))))))
def xQ:MS:=
 (cA (mIf (eO (mEq (mIx (aN 0) (mC (.int 1))) (mIx (aN 1) (mC (.int 1)))))
  (fK (aNK (eO (mEq (mIx (aN 0) (mC (.int 0))) (mIx (aN 1) (mC (.int 0))))) (cO (qC (bG (mC (.str "always")) fU))) (cO (qC (bG (mC (.str "never")) fU)))))
  mNx)
  v7)
def lW:Fm:=mFn 2 xQ
def uR:MS:=
 (fK (cO (qC (bG (bW (b8 2 gZ (bC (mIx (aN 0) (aN 1)) (bC (aN 2) c7)))) (bG (mIx (mIx (aN 0) (aN 1)) (mC (.int 1))) (bG (aN 1) fU))))))
def gY:Fm:=mFn 0 uR
def lY:MS:=
 (fK (cO (mLt (mIx (aN 0) (mC (.int 2))) (mIx (aN 1) (mC (.int 2))))))
def lV:MS:=
 (cA (mIf (eO (mNe (mIx (aN 0) (mC (.int 1))) (mIx (aN 1) (mC (.int 1)))))
  (fK (b8 2 cC (bC (mIx (aN 1) (mC (.int 1))) (bC (mIx (aN 0) (mC (.int 1))) c7))))
  mNx)
  lY)
def lL:MS:=
 (cA (mIf (eO (mNe (mIx (aN 0) (mC (.int 0))) (mIx (aN 1) (mC (.int 0)))))
  (fK (b8 2 cC (bC (mIx (aN 1) (mC (.int 0))) (bC (mIx (aN 0) (mC (.int 0))) c7))))
  mNx)
  lV)
def dY:Fm:=mFn 0 lL
def uF:MS:=
 (fK (b8 2 dY (bC (bW (b8 3 gY (bC (aN 0) (bC (aN 1) (bC (aN 3) c7))))) (bC (bW (b8 3 gY (bC (aN 0) (bC (aN 2) (bC (aN 3) c7))))) c7))))
def j8:Fm:=mFn 0 uF
def jO:MS:=
 (fK (b8 2 cC (bC (mIx (aN 1) (mC (.int 0))) (bC (mIx (aN 0) (mC (.int 0))) c7))))
def iU:MS:=
 (cA (mIf (eO (mNe (mIx (aN 0) (mC (.int 1))) (mIx (aN 1) (mC (.int 1)))))
  (fK (b8 2 cC (bC (mIx (aN 0) (mC (.int 1))) (bC (mIx (aN 1) (mC (.int 1))) c7))))
  mNx)
  jO)
def cV:Fm:=mFn 0 iU
def lQ:MS:=
 (fK (cO (aN 1)))
def lZ:MS:=
 (mIf (eO (bW (b8 2 cV (bC (mIx (aN 0) (aN 2)) (bC (mIx (aN 0) (aN 1)) c7)))))
  (dF 1 (cO (aN 2)))
  mNx)
def lA:MS:=
 (cA (dF 1 (cO (mC (.int 0))))
  (cA (a2V (aHF (bG (mC (.int 1)) (bG (a09 (aN 0)) fU))) (gN 2)
  lZ)
  lQ))
def dX:Fm:=mFn 2 lA
def m8:MS:=
 (fK (b8 4 j8 (bC (aN 0) (bC (aN 1) (bC (mIx (aN 3) (mC (.int 0))) (bC (aN 2) c7))))))
def kZ:MS:=
 (cA (mIf (eO (mNe (aN 2) (mIx (aN 3) (mC (.int 1)))))
  (fK (b8 2 cC (bC (aN 2) (bC (mIx (aN 3) (mC (.int 1))) c7))))
  mNx)
  m8)
def dW:Fm:=mFn 0 kZ
def nP:MS:=
 (fK (cO (aN 2)))
def nO:MS:=
 (mIf (eO (bW (b8 2 cC (bC (mIx (mIx (aN 0) (aN 1)) (mC (.int 1))) (bC (mIx (mIx (aN 0) (aN 3)) (mC (.int 1))) c7)))))
  (cA (dF 4 (cO (mIx (bW (b8 2 lW (bC (mIx (aN 0) (aN 1)) (bC (mIx (aN 0) (aN 3)) c7)))) (mC (.int 1)))))
  (mIf (mOr (eO (aIV (aN 2))) (eO (bW (b8 4 dW (bC (aN 0) (bC (aN 3) (bC (aN 4) (bC (aN 2) c7))))))))
  (dF 2 (cO (qC (bG (aN 3) (bG (aN 4) fU)))))
  mNx))
  mNx)
def mV:MS:=
 (cA (dF 2 (cO (mC .none)))
  (cA (a2V (aD4 (bG (a09 (aN 0)) fU)) (gN 3)
  nO)
  nP))
def eZ:Fm:=mFn 3 mV
def oF:MS:=
 (fK (sI 1))
def oX:MS:=
 (cA (gR 1 (aN 2))
  (dF 2 (cO (bW (b8 2 eZ (bC (aN 0) (bC (mIx (aN 2) (mC (.int 0))) c7)))))))
def uW:MS:=
 (cA (dF 1 (vG fU))
  (cA (dF 2 (cO (qC (bG (bW (b8 1 dX (bC (aN 0) c7))) (bG (mC .none) fU)))))
  (cA (a3P (eO (aBU (aN 2)))
  oX)
  oF)))
def wJ:MS:=
 (cA (mIf (eO (mEq (a09 (aN 0)) (mC (.int 0))))
  (fK (vG fU))
  mNx)
  uW)
def oU:Fm:=mFn 2 wJ
def qY:MS:=
 (fK (cO (aN 2)))
def qU:MS:=
 (mIf (aGO (eO (bW (b8 2 cC (bC (aN 1) (bC (mIx (aN 3) (mC (.int 1))) c7))))))
  (dF 2 (cO (mIx (aN 3) (mC (.int 0)))))
  mNx)
def rM:MS:=
 (cA (dF 2 (cO (mIx (mIx (aN 0) (mC (.int 0))) (mC (.int 0)))))
  (cA (a2V (a5V (bW (aLR (aN 0) (pSo (mC (.int 1))) pNo))) (gN 3)
  qU)
  qY))
def jG:Fm:=mFn 2 rM
def lM (c:Addr):MS:=
 (cA (dF 2 (cO (xF c 0)))
  (cA (a8D c 0 (aN 1) (aN 2))
  (cA (a1L c 0 1)
  (aD1 (bQ c) (cO (aN 2))))))
def iB (c:Addr):Lm FS:=aLL (bQ c) 1 (lM c)
def wW (c:Addr):MS:=
 (aD1 (bQ c) (cO (mC .none)))
def wN (c:Addr):MS:=
 (cA (mIf (eO (mEq (mIx (aN 1) (mC (.int 0))) (mC (.str "leave"))))
  (aAS (aCE c 0 (mIx (aN 1) (mC (.int 2)))))
  (cA (dF 2 (cO (bW (b8 2 gZ (bC (aF7 c 0 (mIx (aN 1) (mC (.int 2)))) (bC (mIx (aN 1) (mC (.int 1))) c7))))))
  (a8D c 0 (bW (b8 3 dU (bC (mIx (aN 1) (mC (.int 1))) (bC (aN 2) (bC (mIx (aN 1) (mC (.int 3))) c7))))) (mIx (aN 1) (mC (.int 2))))))
  (wW c))
def aC5 (c:Addr):MS:=
 (cA (a1Z c 0 (mIx (aN 1) (mC (.int 1))))
  (cA (mIf (eO (mEq (mIx (aN 1) (mC (.int 0))) (mC (.str "join"))))
  (aD1 (bQ c) (a83 (bQ c) 2 (iB c) 0 (bC (bW (b8 3 dU (bC (mIx (aN 1) (mC (.int 1))) (bC (mIx (aN 1) (mC (.int 2))) (bC (mIx (aN 1) (mC (.int 3))) c7))))) c7)))
  mNx)
  (wN c)))
def a7L (c:Addr):Lm FS:=aLL (bQ c) 1 (aC5 c)
def yD (c:Addr):MS:=
 (fK (a9W 1 [0] (a5V (bW (pR c 0))) (gN 0) aHN (aF7 c 1 (aN 0))))
def s8 (c:Addr):Fm:=mFn 1 (yD c)
def uZ (c:Addr):MS:=
 (fK (sI 5))
def pF (c:Addr):MS:=
 (mIf (aEX (eO (bW (b8 2 cC (bC (aN 1) (bC (mIx (aN 6) (mC (.int 1))) c7))))) (mOr (eO (aIV (aN 2))) (eO (bW (b8 2 cC (bC (mIx (aN 6) (mC (.int 1))) (bC (aN 2) c7)))))))
  (gR 5 (qC (bG (mIx (aN 3) (mIx (aN 6) (mC (.int 0)))) (bG (mIx (aN 6) (mC (.int 1))) fU))))
  mNx)
def uY (c:Addr):MS:=
 (cA (dF 4 (cO (bW (b8 1 oU (bC (bW (aCA c "lines_running" 1 (s8 c) 0 c7)) c7)))))
  (cA (dF 5 (vG (bG (qC (bG (mIx (aN 3) (bW (b8 2 jG (bC (aN 4) (bC (aN 1) c7))))) (bG (aN 1) fU))) fU)))
  (cA (a2V (a5V (bW (aLR (aN 4) (pSo (mC (.int 1))) pNo))) (gN 6)
  (pF c))
  (uZ c))))
def a74 (c:Addr):MS:=
 (cA (dF 3 (cO (bW (pR c 0))))
  (cA (mIf (eO (mEq (aN 3) (bW (vG fU))))
  (fK (vG (bG (qC (bG (mC .none) (bG (aN 1) fU))) fU)))
  mNx)
  (uY c)))
def tY (c:Addr):Fm:=mFn 4 (a74 c)
def lO (c:Addr):MS:=
 (fK (sI 1))
def fC (c:Addr):MS:=
 (mIf (xN (eO (mNe (mIx (aN 6) (mC (.int 0))) (mIx (mIx (aN 1) (aFR (mC (.int 1)))) (mC (.int 0))))))
  (gR 1 (aN 6))
  mNx)
def lN (c:Addr):MS:=
 (cA (aAS (bW (a83 (bQ c) 2 (a7L c) 2 (bC (aN 4) c7))))
  (cA (dF 5 (cO (aO0 (eO (mLt (a9H (aN 3) (mC (.int 1))) (a09 (aN 0)))) (mIx (mIx (aN 0) (a9H (aN 3) (mC (.int 1)))) (mC (.int 1))) (mC .none))))
  (mIf (eO (mNe (aN 5) (mIx (aN 4) (mC (.int 1)))))
  (a2V (a5V (bW (a3S (b8 3 (tY c) (aLS 2 (bC (mIx (aN 4) (mC (.int 1))) (bC (aN 5) c7))))))) (gN 6)
  (fC c))
  mNx)))
def o8 (c:Addr):MS:=
 (cA (dF 1 (vG (bG (qC (bG (mC .none) (bG (mC .none) fU))) fU)))
  (cA (dF 2 (aB4 c))
  (cA (a2V (aO1 (aN 0)) (gT 2 (a0S (gN 3) (a0S (gN 4) aF4)))
  (lN c))
  (lO c))))
def eY (c:Addr):Fm:=mFn 6 (o8 c)
def pJ:MS:=
 (fK (cO (qC (bG (aCC (aN 0) (aN 2)) (bG (aCC (aN 1) (aN 2)) fU)))))
def o9:MS:=
 (cA (mIf (eO (mLt (aN 1) (mC (.int 0))))
  (dF 2 (cO (aIO (mC (.int 0)) (aN 2))))
  mNx)
  pJ)
def oN:MS:=
 (aM4 2 3 (bG (aN 3) (bG (aLV (aN 2) (aN 3)) fU)))
def pK:MS:=
 (cA (dF 2 (cO (aI6 (aN 0))))
  (cA (dF 3 (cO (aI6 (aN 1))))
  (cA (a3P (eO (mGt (aN 3) (mC (.int 0))))
  oN)
  o9)))
def bV:Fm:=mFn 2 pK
def uE:MS:=
 (fK (b8 2 bV (bC (a9H (vW (mIx (aN 0) (mC (.int 0))) (mIx (aN 1) (mC (.int 1)))) (vW (vW (aN 2) (mIx (aN 1) (mC (.int 0)))) (mIx (aN 0) (mC (.int 1))))) (bC (vW (mIx (aN 0) (mC (.int 1))) (mIx (aN 1) (mC (.int 1)))) c7))))
def cQ:Fm:=mFn 0 uE
def rO:MS:=
 (fK (b8 2 bV (bC (vW (mIx (aN 0) (mC (.int 0))) (mIx (aN 1) (mC (.int 0)))) (bC (vW (mIx (aN 0) (mC (.int 1))) (mIx (aN 1) (mC (.int 1)))) c7))))
def eQ:Fm:=mFn 0 rO
def uK:MS:=
 (fK (cO (mLt (vW (mIx (aN 0) (mC (.int 0))) (mIx (aN 1) (mC (.int 1)))) (vW (mIx (aN 1) (mC (.int 0))) (mIx (aN 0) (mC (.int 1)))))))
def cD:Fm:=mFn 0 uK
def uA:MS:=
 (fK (b8 3 cQ (bC (mIx (aN 0) (mC (.int 0))) (bC (bW (b8 2 eQ (bC (mIx (aN 0) (mC (.int 1))) (bC (aN 1) c7)))) (bC (mC (.int 1)) c7)))))
def dZ:Fm:=mFn 0 uA
def nA:MS:=
 (fK (cO (qC (bG (bW (b8 3 cQ (bC (aN 1) (bC (bW (b8 2 eQ (bC (aN 2) (bC (aN 0) c7)))) (bC (aFR (mC (.int 1))) c7))))) (bG (aN 2) fU)))))
def f9:Fm:=mFn 0 nA
def qT:MS:=
 (fK (cO (mLt (aN 1) (aN 2))))
def qG:MS:=
 (cA (mIf (eO (mNe (mIx (sZ (aN 0) (aN 1)) (mC (.int 1))) (mIx (sZ (aN 0) (aN 2)) (mC (.int 1)))))
  (fK (b8 2 cD (bC (mIx (sZ (aN 0) (aN 2)) (mC (.int 1))) (bC (mIx (sZ (aN 0) (aN 1)) (mC (.int 1))) c7))))
  mNx)
  qT)
def rE:MS:=
 (cA (dF 4 (cO (bW (b8 2 dZ (bC (sZ (aN 0) (aN 1)) (bC (aN 3) c7))))))
  (cA (dF 5 (cO (bW (b8 2 dZ (bC (sZ (aN 0) (aN 2)) (bC (aN 3) c7))))))
  (cA (mIf (eO (mNe (aN 4) (aN 5)))
  (fK (b8 2 cD (bC (aN 5) (bC (aN 4) c7))))
  mNx)
  qG)))
def gW:Fm:=mFn 2 rE
def p7:MS:=
 (cA (dF 5 (cO (bW (b8 3 cQ (bC (mIx (sZ (aN 0) (aN 2)) (mC (.int 0))) (bC (mIx (sZ (aN 0) (aN 1)) (mC (.int 0))) (bC (aFR (mC (.int 1))) c7)))))))
  (cA (dF 6 (cO (bW (b8 2 bV (bC (vW (mIx (aN 5) (mC (.int 0))) (mIx (aN 4) (mC (.int 1)))) (bC (vW (mIx (aN 5) (mC (.int 1))) (mIx (aN 4) (mC (.int 0)))) c7))))))
  (fK (cO (mIx (bW (vG (bG (mC .none) (bG (aN 6) fU)))) (a96 (bW (b8 2 cD (bC (aN 3) (bC (aN 6) c7))))))))))
def oR:MS:=
 (cA (dF 4 (cO (bW (b8 3 cQ (bC (mIx (sZ (aN 0) (aN 1)) (mC (.int 1))) (bC (mIx (sZ (aN 0) (aN 2)) (mC (.int 1))) (bC (aFR (mC (.int 1))) c7)))))))
  (cA (mIf (eO (mEq (mIx (aN 4) (mC (.int 0))) (mC (.int 0))))
  (fK (cO (mC .none)))
  mNx)
  p7))
def dH:Fm:=mFn 3 oR
def oJ:MS:=
 (fK (b8 2 bV (bC (vW (bW (b8 2 bB (q8 0 (bC (mC (.int 1000000000)) c7)))) (mIx (bW (vG (bG (mC (.int 1)) (bG (aFR (mC (.int 1))) fU)))) (bW (b8 2 bB (q8 0 (bC (mC (.int 2)) c7)))))) (bC (a9H (mC (.int 1)) (bW (b8 2 bB (q8 0 (bC (mC (.int 12)) c7))))) c7))))
def o7:MS:=
 (cA (mIf (eO (mEq (aN 1) (mC (.int 1))))
  (fK (b8 2 bV (bC (aIO (bW (b8 2 bB (q8 0 (bC (mC (.int 61)) c7)))) (mC (.int 30))) (bC (a9H (mC (.int 1)) (bW (b8 2 bB (q8 0 (bC (mC (.int 4)) c7))))) c7))))
  mNx)
  oJ)
def pD:MS:=
 (cA (mIf (eO (mEq (aN 1) (mC (.int 0))))
  (fK (cO (qC (bG (aIO (bW (b8 2 bB (q8 0 (bC (mC (.int 7)) c7)))) (mC (.int 3))) (bG (mC (.int 1)) fU)))))
  mNx)
  o7)
def cN:Fm:=mFn 0 pD
def lF:MS:=
 (fK (cO (aD5 (mLt (aI6 (mIx (aN 0) (mC (.int 0)))) (mC (.int 1000000000))) (mLt (mIx (aN 0) (mC (.int 1))) (mC (.int 13))))))
def cF:Fm:=mFn 0 lF
def lK:MS:=
 (cA (dF 8 (cO (bW (b8 3 cQ (bC (aN 2) (bC (mIx (bW (vG (bG (qC (bG (mC (.int 1)) (bG (mC (.int 1)) fU))) (bG (qC (bG (mC (.int 1)) (bG (mC (.int 2)) fU))) (bG (qC (bG (bW (b8 2 bB (q8 0 (bC (mC (.int 9)) c7)))) (bG (mC (.int 1)) fU))) (bG (qC (bG (mC (.int 1)) (bG (mC (.int 3)) fU))) fU)))))) (bW (b8 2 bB (q8 0 (bC (mC (.int 4)) c7))))) (bC (mC (.int 1)) c7)))))))
  (fK (cO (mIx (bW (vG (bG (aN 2) (bG (aN 8) fU)))) (a96 (bW (b8 1 cF (bC (aN 8) c7))))))))
def qK:MS:=
 (cA (dF 4 (cO (bW (u5 (aN 1)))))
  (cA (mIf (aEX (eO (mEq (aN 3) (mC (.int 2)))) (eO (mGt (a09 (aN 4)) (mC (.int 1)))))
  (cA (dF 5 (cO (bW (b8 2 bB (q8 0 (bC (a09 (aN 4)) c7))))))
  (cA (dF 6 (cO (aLV (a9H (a9H (aN 5) (mC (.int 1))) (bW (b8 2 bB (q8 0 (bC (aIO (a09 (aN 4)) (mC (.int 1))) c7))))) (a09 (aN 4)))))
  (cA (dF 7 (cO (bW (b8 4 dH (bC (aN 1) (bC (mIx (aN 4) (aN 5)) (bC (mIx (aN 4) (aN 6)) (bC (aN 2) c7))))))))
  (mIf (aEX (eO (aBU (aN 7))) (eO (bW (b8 1 cF (bC (aN 7) c7)))))
  (fK (cO (aN 7)))
  mNx))))
  mNx)
  lK))
def rW:MS:=
 (cA (dF 3 (cO (bW (b8 2 bB (q8 0 (bC (mC (.int 5)) c7))))))
  (cA (mIf (eO (mLt (aN 3) (mC (.int 2))))
  (fK (cO (aN 2)))
  mNx)
  qK))
def gM:Fm:=mFn 6 rW
def lH:MS:=
 (fK (b8 2 cN (q8 0 (bC (aN 3) c7))))
def rH:MS:=
 (cA (mIf (aEX (eO (aO2 (aN 1) aEL)) (eO (mEq (bW (b8 2 bB (q8 0 (bC (mC (.int 2)) c7)))) (mC (.int 0)))))
  (cA (dF 4 (cO (bW (u5 (aN 1)))))
  (cA (dF 5 (cO (bW (b8 2 dZ (bC (sZ (aN 1) (mIx (aN 4) (bW (b8 2 bB (q8 0 (bC (a09 (aN 4)) c7)))))) (bC (aN 2) c7))))))
  (mIf (eO (bW (b8 1 cF (bC (aN 5) c7))))
  (fK (cO (aN 5)))
  mNx)))
  mNx)
  lH)
def gK:Fm:=mFn 2 rH
def j6:MS:=
 (fK (sI 3))
def uH:MS:=
 (cA (dF 3 (a6C (aN 0)))
  (cA (mIf (eO (mEq (mIx (aN 1) (mC (.int 0))) (mC (.str "join"))))
  (a81 3 (bW (b8 3 f9 (bC (mIx (aN 1) (mC (.int 1))) (bC (mIx (aN 1) (mC (.int 2))) (bC (mIx (aN 1) (mC (.int 3))) c7))))) (aN 2))
  (mIf (eO (mEq (mIx (aN 1) (mC (.int 0))) (mC (.str "leave"))))
  (aAS (aCJ 3 (mIx (aN 1) (mC (.int 2)))))
  (a81 3 (bW (b8 3 f9 (bC (mIx (aN 1) (mC (.int 1))) (bC (bW (b8 2 dZ (bC (aDO 3 (mIx (aN 1) (mC (.int 2)))) (bC (mIx (aN 1) (mC (.int 1))) c7)))) (bC (mIx (aN 1) (mC (.int 3))) c7))))) (mIx (aN 1) (mC (.int 2))))))
  j6))
def fP:Fm:=mFn 1 uH
def vD:MS:=
 (fK (sI 4))
def jT:MS:=
 (cA (dF 5 (cO (bW (b8 3 fP (bC (aN 5) (bC (aN 11) (bC (aN 6) c7)))))))
  (cA (dF 6 (cO (a9H (aN 6) (a96 (mEq (mIx (aN 11) (mC (.int 0))) (mC (.str "join")))))))
  (gR 4 (aN 11))))
def oV:MS:=
 (dF 11 (cO (qC (bG (mC (.str "turn")) (bG (aN 7) (bG (mIx (aN 10) (bW (b8 2 bB (q8 0 (bC (a09 (aN 10)) c7))))) (bG (aN 12) fU)))))))
def v9:MS:=
 (cA (dF 7 (cO (bW (b8 3 gM (q8 0 (bC (aN 5) (bC (aN 7) c7)))))))
  (cA (dF 9 (cO (bW (b8 2 bB (q8 0 (bC (mC (.int 7)) c7))))))
  (cA (dF 10 (cO (bW (u5 (aN 5)))))
  (cA (mIf (mOr (eO (mEq (aN 10) (bW (vG fU)))) (aEX (eO (mLt (aN 9) (mC (.int 3)))) (eO (mLt (a09 (aN 10)) (aN 2)))))
  (dF 11 (cO (qC (bG (mC (.str "join")) (bG (aN 7) (bG (bW (b8 4 gK (q8 0 (bC (aN 5) (bC (aN 7) (bC (aN 3) c7)))))) (bG (bW (b8 2 cN (q8 0 (bC (aN 3) c7)))) fU)))))))
  (mIf (eO (mEq (aN 9) (mC (.int 3))))
  (dF 11 (cO (qC (bG (mC (.str "leave")) (bG (aN 7) (bG (mIx (aN 10) (bW (b8 2 bB (q8 0 (bC (a09 (aN 10)) c7))))) fU))))))
  (cA (dF 12 (cO (bW (b8 2 cN (q8 0 (bC (aN 3) c7))))))
  (cA (mIf (eO (mEq (bW (b8 2 bB (q8 0 (bC (mC (.int 3)) c7)))) (mC (.int 0))))
  (dF 12 (cO (mIx (sZ (aN 5) (mIx (aN 10) (bW (b8 2 bB (q8 0 (bC (a09 (aN 10)) c7)))))) (mC (.int 1)))))
  mNx)
  oV))))
  jT))))
def xV:MS:=
 (cA (dF 3 (cO (mIx (bW (vG (bG (mC (.int 0)) (bG (mC (.int 0)) (bG (mC (.int 1)) (bG (mC (.int 0)) (bG (mC (.int 1)) (bG (mC (.int 2)) fU)))))))) (bW (b8 2 bB (q8 0 (bC (mC (.int 6)) c7)))))))
  (cA (dF 4 (vG fU))
  (cA (dF 5 (cO aEL))
  (cA (dF 6 (cO (mC (.int 0))))
  (cA (dF 7 (cO (bW (b8 2 cN (q8 0 (bC (bW (b8 2 bB (q8 0 (bC (mC (.int 2)) c7)))) c7))))))
  (cA (a2V (aD4 (bG (bW (b8 2 bB (q8 0 (bC (a9H (aN 1) (mC (.int 1))) c7)))) fU)) (gN 8)
  v9)
  vD))))))
def p6:Fm:=mFn 10 xV
def tG:MS:=
 (fK (sI 2))
def sU:MS:=
 (cA (dF 2 (aC6 (b8 3 fP (bC (aN 2) (bC (aN 4) (bC (aN 3) c7))))))
  (dF 3 (cO (a9H (aN 3) (a96 (mEq (mIx (aN 4) (mC (.int 0))) (mC (.str "join"))))))))
def t6:MS:=
 (cA (mIf (eO (bW (b8 2 cD (bC (aN 1) (bC (mIx (aN 4) (mC (.int 1))) c7)))))
  (fK (sI 2))
  mNx)
  sU)
def u9:MS:=
 (cA (dF 2 aC8)
  (cA (dF 3 (cO (mC (.int 0))))
  (cA (a2V (a5V (aN 0)) (gN 4)
  t6)
  tG)))
def fQ:Fm:=mFn 3 u9
def qX:MS:=
 (fK (sI 3))
def rB:MS:=
 (rR 3 (aC3 (a09 (bW (a9W 1 [2,4,1] (a5V (aN 3)) (gN 0) (eO (bW (b8 4 gW (bC (aN 1) (bC (aN 0) (bC (aN 2) (bC (aN 3) c7))))))) (aN 0))))) (aN 4))
def rF:MS:=
 (cA (dF 2 (cO (bW (b8 2 fQ (bC (aN 0) (bC (aN 1) c7))))))
  (cA (dF 3 (vG fU))
  (cA (a2V (a5V (bW (u5 (aN 2)))) (gN 4)
  rB)
  qX)))
def gQ:Fm:=mFn 4 rF
def nZ:MS:=
 (fK (sI 4))
def nY:MS:=
 (mIf (eO (mLt (aN 5) (aN 6)))
  (cA (dF 7 (cO (bW (b8 4 dH (bC (aN4 3) (bC (aN 5) (bC (aN 6) (bC (aN 1) c7))))))))
  (mIf (xN (aEX (eO (aBU (aN 7))) (aEX (eO (mIn true (aN 7) (aN 4))) (mOr (eO (aIV (aN 2))) (eO (bW (b8 2 cD (bC (aN 7) (bC (aN 2) c7)))))))))
  (rR 4 (aC3 (a09 (bW (a9W 1 [7] (a5V (aN 4)) (gN 0) (eO (bW (b8 2 cD (bC (aN 0) (bC (aN 1) c7))))) (aN 0))))) (aN 7))
  mNx))
  mNx)
def nQ:MS:=
 (a2V (aKH 3) (gN 6)
  nY)
def nH:MS:=
 (cA (dF 3 (b8 2 fQ (bC (aN 0) (bC (aN 1) c7))))
  (cA (dF 4 (vG fU))
  (cA (a2V (aKH 3) (gN 5)
  nQ)
  nZ)))
def fB:Fm:=mFn 6 nH
def jV:MS:=
 (fK (cO (aN 3)))
def kO:MS:=
 (cA (a1J 1 (dF 5 (cO (mIx (bW (aIS (aN 1) (bW (vG (bG (mC .none) fU))))) (a9H (aN 4) (mC (.int 1)))))))
  (a1J 1 (dF 3 (cO (bW (aIS (bW (aIS (aN 3) (bW (vG (bG (mIx (aN 1) (aN 4)) fU))))) (bW (b8 3 fB (bC (aN 0) (bC (mIx (aN 1) (aN 4)) (bC (aN 5) c7)))))))))))
def kI:MS:=
 (cA (dF 3 (cO (bW (vG fU))))
  (cA (a1J 1 (a2V (aD4 (bG (a09 (aN 1)) fU)) (gN 4)
  kO))
  jV))
def kE:MS:=
 (mIf (xN (eO (mIn true (mIx (aN 2) (mC (.int 1))) (aN 1))))
  (gR 1 (mIx (aN 2) (mC (.int 1))))
  mNx)
def jC:MS:=
 (cA (dF 1 (vG fU))
  (cA (a2V (a5V (aN 0)) (gN 2)
  kE)
  kI))
def dD:Fm:=mFn 5 jC
def oE:MS:=
 (fK (sI 1))
def o6:MS:=
 (cA (dF 3 (cO (mIx (bW (aIS (bW (b8 2 gQ (bC (aN 0) (bC (aN 2) c7)))) (bW (vG (bG (mC .none) fU))))) (mC (.int 0)))))
  (mIf (xN (eO (mNe (aN 3) (mIx (mIx (aN 1) (aFR (mC (.int 1)))) (mC (.int 0))))))
  (gR 1 (qC (bG (aN 3) (bG (aN 2) fU))))
  mNx))
def yM:MS:=
 (cA (dF 1 (vG (bG (qC (bG (mC .none) (bG (mC .none) fU))) fU)))
  (cA (a2V (a5V (bW (b8 1 dD (bC (aN 0) c7)))) (gN 2)
  o6)
  oE))
def pH:Fm:=mFn 3 yM
def qP:MS:=
 (fK (cO (mC (.bool true))))
def qL:MS:=
 (mIf (mOr (aGO (eO (aI1 "tuple" (aN 1)))) (mOr (eO (mNe (a09 (aN 1)) (mC (.int 2)))) (eO (aI1 "bool" (mIx (aN 1) (mC (.int 0)))))))
  (fK (cO (mC (.bool false))))
  mNx)
def qJ:MS:=
 (cA (a2V (a5V (aN 0)) (gN 1)
  qL)
  qP)
def rJ:MS:=
 (cA (mIf (aGO (eO (aI1 "list" (aN 0))))
  (fK (cO (mC (.bool false))))
  mNx)
  qJ)
def jB:Fm:=mFn 1 rJ
def a0B (c:Addr):MS:=
 (cA (gR 7 (qC (bG (mC (.int 0)) (bG (mC .none) fU))))
  (cA (a3Q 5)
  (fK (cO (aD5 (mEq (bW (b8 1 (eY c) (bC (bW (a2L (aN 4))) c7))) (aN 6)) (mEq (bW (b8 1 (eY c) (bC (bW (vG fU)) c7))) (bW (vG (bG (qC (bG (mC .none) (bG (mC .none) fU))) fU)))))))))
def z6 (c:Addr):MS:=
 (cA (aMA (mIx (bW (vG (bG (qC (bG (mC (.int 10)) (bG (mC (.int 4)) fU))) (bG (qC (bG (mC (.int 10)) (bG (mC (.int 4)) fU))) (bG (qC (bG (mC (.int 10)) (bG (mC (.int 4)) fU))) (bG (qC (bG (mC (.int 8)) (bG (mC (.int 7)) fU))) fU)))))) (bW (b8 2 bB (q8 1 (bC (mC (.int 4)) c7))))) (gT 2 (a0S (gN 2) (a0S (gN 3) aF4))))
  (cA (dF 4 (cO (bW (b8 3 p6 (q8 1 (bC (aN 2) (bC (aN 3) c7)))))))
  (cA (dF 5 (a2L (aN 4)))
  (cA (dF 6 (cO (bW (b8 1 pH (bC (aN 4) c7)))))
  (cA (dF 7 (a3S (b8 1 (eY c) (bC (aN 5) c7))))
  (cA (mIf (xN (mOr (aGO (eO (bW (b8 1 jB (bC (aN 7) c7))))) (mOr (eO (mNe (aN 7) (aN 6))) (eO (mNe (aN 5) (aN 4))))))
  (fK (cO (mC (.bool false))))
  mNx)
  (a0B c)))))))
local macro_rules|`(tactic| walk_at "rd1")=>`(tactic| first
 | refine⟨_,rfl,?_⟩
 | refine⟨_,_,rfl,rfl,?_⟩
 | refine And.intro rfl ?_
 | refine And.intro (aCT rfl) ?_
 | refine⟨_,_,_,_,rfl,rfl,SqT.of (by assumption),rfl,?_⟩
 | refine⟨_,_,_,_,rfl,rfl,SqL.of (by assumption),rfl,?_⟩
 | refine⟨_,_,_,_,rfl,rfl,SqL.of bA,rfl,?_⟩
 | refine⟨_,_,_,_,rfl,rfl,(by assumption),rfl,?_⟩
 | refine⟨_,_,_,_,rfl,rfl,bA,rfl,?_⟩
 | refine⟨_,_,by assumption,by assumption,mL _,mL _,?_⟩
 | refine⟨_,_,by assumption,by assumption,good_line _,good_line _,?_⟩
 | refine And.intro (aNZ (by assumption) (by assumption)) ?_
 | refine And.intro (.inl (by decide)) ?_
 | refine And.intro (aER (by decide) (by decide)) ?_
 | refine And.intro (.inr (by decide)) ?_
 | refine⟨_,_,rfl,.inl (by assumption),?_⟩
 | refine⟨_,_,rfl,.inr (SqT.of (by assumption)),?_⟩
 | refine And.intro (by assumption) ?_
 | refine And.intro ⟨by decide,by decide⟩ ?_
 | refine And.intro ⟨by decide,by decide,by decide⟩ ?_
 | refine And.intro (show(0:Int)<_ by decide) ?_
 | refine And.intro (by decide) ?_
 | refine⟨_,_,rfl,?_⟩)
local macro_rules|`(tactic| walk_at "rd")=>`(tactic| repeat walk_at "rd1")
section
variable (P0:Addr→Hp→Prop)(P:Program)(w:World)(K:Fg)(mg:Mg)(base:Heap)
abbrev sX:Prop:=Cal P w K mg base 1 "greatest_divisor" ["one", "other"] (spM P0 2 cI)
abbrev a99:Prop:=Cal P w K mg base 1 "is_whole" ["thing"] (spM P0 1 gP)
abbrev n6:Prop:=Cal P w K mg base 2 "number_of" ["top", "bottom"] (spM P0 2 cJ)
abbrev aE9:Prop:=Cal P w K mg base 3 "sum_of" ["a", "b"] (spM P0 2 pW)
abbrev vC:Prop:=Cal P w K mg base 3 "product_of" ["a", "b"] (spM P0 2 dG)
abbrev oY:Prop:=Cal P w K mg base 3 "difference_of" ["a", "b"] (spM P0 2 bZ)
abbrev a2A:Prop:=Cal P w K mg base 3 "quotient_of" ["a", "b"] (spM P0 2 fD)
abbrev a0L:Prop:=Cal P w K mg base 4 "place_at" ["line", "time"] (spM P0 2 gZ)
abbrev m9:Prop:=Cal P w K mg base 1 "is_less" ["a", "b"] (spM P0 2 cC)
abbrev a01:Prop:=Cal P w K mg base 2 "stands_ahead" ["one", "other"] (spM P0 2 dY)
abbrev a9V:Prop:=Cal P w K mg base 5 "standing" ["lines", "runner", "time"] (spM P0 3 gY)
abbrev vO:Prop:=Cal P w K mg base 2 "leads_at_first" ["one", "other"] (spM P0 2 cV)
abbrev a91:Prop:=Cal P w K mg base 6 "is_ahead" ["lines", "one", "other", "time"] (spM P0 4 j8)
abbrev zU:Prop:=Cal P w K mg base 7 "comes_sooner" ["lines", "runner", "time", "told"] (spM P0 4 dW)
abbrev aB2:Prop:=Cal P w K mg base 4 "meeting" ["one", "other"] (spM P0 2 lW)
abbrev a1H:Prop:=Cal P w K mg base 8 "next_leader" ["lines", "leader"] (spM P0 2 eZ)
abbrev a02:Prop:=Cal P w K mg base 3 "first_leader" ["lines"] (spM P0 1 dX)
abbrev zY:Prop:=Cal P w K mg base 4 "line_through" ["time", "place", "slope"] (spM P0 3 dU)
abbrev a6Y:Prop:=Cal P w K mg base 2 "leader_by" ["row", "time"] (spM P0 2 jG)
abbrev aBE:Prop:=Cal P w K mg base 9 "leaders" ["lines"] (spM P0 1 oU)
abbrev aIH (c:Addr):Prop:=Cal P w K mg base 10 "leads" ["field", "since", "till"] (spM P0 3 (tY c))
abbrev iZ:Prop:=Cal P w K mg base 1 "_law_lowest" ["_law_top", "_law_bottom"] (spM P0 2 bV)
abbrev nG:Prop:=Cal P w K mg base 2 "_law_plus" ["_law_a", "_law_b", "_law_sign"] (spM P0 3 cQ)
abbrev vA:Prop:=Cal P w K mg base 2 "_law_times" ["_law_a", "_law_b"] (spM P0 2 eQ)
abbrev mW:Prop:=Cal P w K mg base 1 "_law_less" ["_law_a", "_law_b"] (spM P0 2 cD)
abbrev rC:Prop:=Cal P w K mg base 3 "_law_spot" ["_law_line", "_law_time"] (spM P0 2 dZ)
abbrev mH:Prop:=Cal P w K mg base 1 "_law_take" ["_law_pen", "_law_many"] (spM P0 2 bB)
abbrev oW:Prop:=Cal P w K mg base 1 "_law_is_small" ["_law_number_here"] (spM P0 1 cF)
abbrev tM:Prop:=Cal P w K mg base 3 "_law_change" ["_law_lines", "_law_one", "_law_other", "_law_time"] (spM P0 4 dH)
abbrev sO:Prop:=Cal P w K mg base 2 "_law_number" ["_law_pen", "_law_kind"] (spM P0 2 cN)
abbrev zO:Prop:=Cal P w K mg base 3 "_law_through" ["_law_time", "_law_place_here", "_law_slope"] (spM P0 3 f9)
abbrev yU:Prop:=Cal P w K mg base 4 "_law_done" ["_law_known", "_law_deed", "_law_joined"] (spM P0 3 fP)
abbrev a4J:Prop:=Cal P w K mg base 4 "_law_place" ["_law_pen", "_law_known", "_law_time", "_law_kind"] (spM P0 4 gK)
abbrev a2X:Prop:=Cal P w K mg base 4 "_law_later" ["_law_pen", "_law_known", "_law_time"] (spM P0 3 gM)
abbrev a5E:Prop:=Cal P w K mg base 4 "_law_ahead" ["_law_lines", "_law_one", "_law_other", "_law_time"] (spM P0 4 gW)
abbrev wY:Prop:=Cal P w K mg base 5 "_law_then" ["_law_log_here", "_law_time"] (spM P0 2 fQ)
abbrev zM:Prop:=Cal P w K mg base 6 "_law_changes" ["_law_log_here", "_law_time", "_law_behind"] (spM P0 3 fB)
abbrev vR:Prop:=Cal P w K mg base 7 "_law_all_times" ["_law_log_here"] (spM P0 1 dD)
abbrev a4B:Prop:=Cal P w K mg base 6 "_law_order" ["_law_log_here", "_law_time"] (spM P0 2 gQ)
end
theorem scM {N ps:List Str}{sc:Scope}(a:sc.kind=.function:=by rfl)(b:sc.isCoroutine=false:=by rfl)(c:sc.isGenerator=false:=by rfl)(d:N.Nodup:=by decide +kernel)(e:N.take ps.length=ps:=by rfl)(f:∀ x∈ps,sc.names.lookup x=some .local∨sc.names.lookup x=some .cell:=by decide +kernel)(g:∀ y∈sc.names,y.2≠.free:=by decide +kernel):FnScope N ps sc:=⟨a,b,c,d,e,f,g⟩
set_option hygiene false in
local macro_rules|`(tactic| walk_at "lc")=>`(tactic| first|exact Or.inl rfl|exact Or.inr rfl)
section
variable {P0:Addr→Hp→Prop}{P:Program}{w:World}{K:Fg}{mg:Mg}{base:Heap}{f:Addr}{fd:FuncData}
abbrev m7:Stmt:=top 33
theorem sc_law_take:FnScope ["_law_pen", "_law_many", "_law_at", "_law_cell", "_law_number_here", "_law_found"] ["_law_pen", "_law_many"] (aR m7):=scM
theorem a70  (F:Fun K "_law_take" "_law_take" m7 f fd)(B:Bl K mg) :
  FnOk P w K mg base CX0 1 f fd ["_law_pen", "_law_many"] (aG4 K):=by
 refine F.ok sc_law_take (fun vs H Q E h=>?_) (fun cdv A outer s H vs Q E hr h=>?_)
 ·obtain⟨pen,a,ns,m,rfl,⟨z0,k0,hz0,hk0,hp0,hS0⟩,hm,hm2,q⟩:=h;rfl
 have hu:=hr.units;obtain⟨pen,a,ns,m,rfl,⟨z0,k0,hz0,hk0,hp0,hS0⟩,hm,hm2,q⟩:=h;refine⟨_,(aG (wG PassesOwn.never (bD aMB (aU ix_list (pv 0) aC (fun _ _=>rfl)) aC (bM _)) (aG (aZ (i:=2) sc_law_take.nd rfl (Or.inl rfl) (aU ix_list (pv 0) aC (fun _ _=>rfl)))
   (aG (a8O (bU gD (pv 2) aC) (aCH (pv 0) aC set_list))
   (aG (aZ (i:=3) sc_law_take.nd rfl (Or.inl rfl) (bU gD (bU a8M aC (pv 2)) aC))
   (aG (cW (bD aGY (bN bL rfl B.len_ boot_len (aA (aU ix_list (pv 0) aC (fun _ _=>rfl)) aD)) aC (bM _)) (aL (aZ (i:=3) sc_law_take.nd rfl (Or.inl rfl) (aU ix_list (aU ix_list (pv 0) aC (fun _ _=>rfl)) (bU qI (pv 2) (bN bL rfl B.len_ boot_len (aA (aU ix_list (pv 0) aC (fun _ _=>rfl)) aD))) (fun _ _=>rfl)))) bR)
   (aG (cW (PW.pt (zA (bD aM5 (pv 2) (bN bL rfl B.len_ boot_len (aA (aU ix_list (pv 0) aC (fun _ _=>rfl)) aD)) (bM _)) (v6 (bD sE (pv 3) (a1D (v:=1000000000000000000) (by decide) ⟨by decide,by decide,by decide⟩) (bM _))))) (aG (aZ (i:=4) sc_law_take.nd rfl (Or.inl rfl) (bU qI (bU a8M (bU gD (bU gD (bU qI (pv 3) aC) (bU a8M aC (pv 2))) aC) aC) aC))
   (aL (bF (bU qI (bU aAU (bU qI (bU a8M (pv 4) (bU gD (bU gD (bU qI (pv 4) aC) (pv 2)) aC)) aC) aC) (pv 1))))) bR)
   (aL (a8O (bU a0C (pv 3) (a1D (v:=1000000000000000000) (by decide) ⟨by decide,by decide,by decide⟩)) (aCH (pv 0) aC set_list)))))))))
   (aG (aZ (i:=5) sc_law_take.nd rfl (Or.inl rfl) (bU qI (aU ix_list (pv 0) aC (fun _ _=>rfl)) (pv 1)))
   (aG (a8O (bU aAU (aU ix_list (pv 0) aC (fun _ _=>rfl)) (pv 1)) (aCH (pv 0) aC set_list))
   (aL (bF (pv 5)))))),?_⟩
 refine⟨fun n σ H2=>∃ z k c f g,σ=[some (.ref pen),some (.int m),c,f,g,none]∧0≤z∧0≤k∧H2 pen=some (.lst [.ref a,.int z,.int k])∧SqL K H2 a (ns.map V.int)∧SameX pen H H2∧n=((ns.length:Int)-k).toNat,
  ⟨_,z0,k0,none,none,none,rfl,hz0,hk0,hp0,hS0,SameX.refl _ _,rfl⟩,?_⟩
 rintro n σ H2 ⟨z,k,c,f,g,rfl,hz,hk,hp,hS,hX,rfl⟩;have hl:(ns.map V.int).length=ns.length:=List.length_map _;have hS3:∀ o,SqL K (upd H2 pen o) a (ns.map V.int):=fun o=>aOP hp hS (j9 o);walk_at "rd";refine fZ (fun e=>?_) (fun e=>?_)
 ·have e0:z=0:=aCD e;subst e0;have hS4:=hS3 (.lst [.ref a,.int 0,.int (k+1)]);refine⟨_,fun _ _ h=>h,?_⟩;walk_at "rd";refine fZ (fun e1=>?a) (fun e1=>?b)
  case' a=>
   have e1':0<(ns.length:Int):=by
    rw[hl] at e1;exact e1
   have h1:=Int.emod_nonneg k (b:=(ns.length:Int)) (by omega);have h2:=Int.emod_lt_of_pos k e1';obtain⟨j,hj⟩:∃ j:Nat,k%(ns.length:Int)=(j:Int):=⟨(k%(ns.length:Int)).toNat,by omega⟩;have hi:j<ns.length:=by omega
   have hv:atI (ns.map V.int) (k%((ns.map V.int).length:Int))=some (.int ns[j]):=by
    rw[hl,hj];refine aDH ?_;rw[List.getElem?_map,List.getElem?_eq_getElem hi];rfl
   have hpos:0<((ns.map V.int).length:Int):=by rw[hl]; exact e1'
   walk_at "rd";refine⟨_,_,_,_,rfl,rfl,hS4,hv,?_⟩
  all_goals
   walk_at "rd";refine fZ (fun e2=>uV ?_) (fun e2=>?_)
   ·walk_at "rd";exact q _ _ (Int.emod_nonneg _ (by omega)) (Int.emod_lt_of_pos _ hm) ⟨0,k+1,by omega,by omega,bA,hS4⟩ (hX.trans (j9 _))
   ·walk_at "rd";refine fZ (fun e3=>?_) (fun e3=>?_)
    ·walk_at "rd";exact q _ _ (Int.emod_nonneg _ (by omega)) (Int.emod_lt_of_pos _ hm) ⟨0,k+1,by omega,by omega,bA,hS4⟩ (hX.trans (j9 _))
    ·walk_at "rd";rw[hl] at e2;refine⟨_,?_,_,k+1,_,_,_,rfl,?_,?_,bA,aOP bA hS4 (j9 _),(hX.trans (j9 _)).trans (j9 _),rfl⟩<;>omega
 ·have e0:z≠0:=aBY e;have hcd:aOB z m:=⟨hm,hm2⟩;walk_at "rd";refine q _ _ (Int.emod_nonneg _ (by omega)) (Int.emod_lt_of_pos _ hm) ⟨z/m,k,Int.ediv_nonneg hz (by omega),hk,bA,hS3 _⟩ (hX.trans (j9 _))
theorem a4W {a:Addr}{ns:List Int}  (F:Fun K "_law_take" "_law_take" m7 f fd)(B:Bl K mg) :
  FnOk P w K mg base CX0 1 f fd ["_law_pen", "_law_many"] (spM (bY K a ns) 2 bB):=(a70 F B).imp aHQ
abbrev pY:Stmt:=top 5
theorem a5W:FnScope ["thing"] ["thing"] (aR pY):=scM
theorem a5S  (F:Fun K "is_whole" "is_whole" pY f fd)(B:Bl K mg)(Kt:Kit K) :
  FnOk P w K mg base CX0 1 f fd ["thing"] (spM P0 1 gP):=
 F.okV a5W rfl rfl fun cdv A outer s H E hr=>
 have hu:=hr.units
 ⟨_,(aL (bF (aB5 (bN t7 rfl B.isinstance_ boot_isinstance (aA (pv 0) (aA (xU (v:=.ty "int") rfl B.int_ boot_int rfl) aD))) (aBB (aLB (bN t7 rfl B.isinstance_ boot_isinstance (aA (pv 0) (aA (xU (v:=.ty "bool") rfl B.bool_ boot_bool rfl) aD)))))))),
  ((bK (aX (aBS (a3A Kt (by decide) aB) (aKG (a3A Kt (by decide) aB))))):VS P0 _ uC)⟩
abbrev eN:Stmt:=top 6
theorem sc_greatest_divisor:FnScope ["one", "other", "divisor", "rest", "left_over"] ["one", "other"] (aR eN):=scM
theorem rN  (F:Fun K "greatest_divisor" "greatest_divisor" eN f fd)(B:Bl K mg)(Kt:Kit K) :
  FnOk P w K mg base CX0 1 f fd ["one", "other"] (spM P0 2 cI):=
 F.okV sc_greatest_divisor rfl rfl fun cdv A outer s H E hr=>
 have hu:=hr.units
 ⟨_,(aG (aZ (i:=2) sc_greatest_divisor.nd rfl (by walk_at "lc") (bN sJ rfl B.abs_ boot_abs (aA (pv 0) aD)))
   (aG (aZ (i:=3) sc_greatest_divisor.nd rfl (by walk_at "lc") (bN sJ rfl B.abs_ boot_abs (aA (pv 1) aD)))
   (aG (wG PassesOwn.never (bD (lX hu) (pv 3) aC (bM _)) (aG (aZ (i:=4) sc_greatest_divisor.nd rfl (by walk_at "lc") (bU qI (pv 2) (pv 3)))
   (aG (aZ (i:=2) sc_greatest_divisor.nd rfl (by walk_at "lc") (pv 3))
   (aL (aZ (i:=3) sc_greatest_divisor.nd rfl (by walk_at "lc") (pv 4))))))
   (aL (bF (pv 2)))))),
  ((aQ (b7 (aX (a4L aB)))
   (aQ (b7 (aX (a4L aB)))
   (aQ (a2K (bH (uU aB aF)) (aQ (b7 (aX (aB0 aB aB)))
   (aQ (b7 (aX aB))
   (b7 (aX aB)))))
   (bK (aX aB))))):VS P0 _ g8)⟩
abbrev mO:Stmt:=top 7
theorem sc_number_of:FnScope ["top", "bottom", "divisor"] ["top", "bottom"] (aR mO):=scM
theorem a4D  (F:Fun K "number_of" "number_of" mO f fd)(B:Bl K mg)(Kt:Kit K)
  (c_greatest_divisor:sX P0 P w K mg base)
  (c_is_whole:a99 P0 P w K mg base) :
  FnOk P w K mg base CX0 2 f fd ["top", "bottom"] (spM P0 2 cJ):=
 F.okV sc_number_of rfl rfl fun cdv A outer s H E hr=>
 have hu:=hr.units
 ⟨_,(aG (cW (PW.pt (zA (a0I (gF (aJ c_is_whole hr rfl (aA (pv 0) aD)))) (zA (a0I (gF (aJ c_is_whole hr rfl (aA (pv 1) aD)))) (v6 (bD (fH hu) (pv 1) aC (bM _)))))) (aL aFD) bR)
   (aG (aZ (i:=2) sc_number_of.nd rfl (by walk_at "lc") (aJ c_greatest_divisor hr rfl (aA (pv 0) (aA (pv 1) aD))))
   (aG (cW (bD sE (pv 1) aC (bM _)) (aL (aZ (i:=2) sc_number_of.nd rfl (by walk_at "lc") (a7H wL (pv 2)))) bR)
   (aL (bF (cU (aA (bU vV (pv 0) (pv 2)) (aA (bU vV (pv 1) (pv 2)) aD)))))))),
  ((aQ (dC (qH (uB (o5 (aP (aM (aH aB aV))))) (qH (uB (o5 (aP (aM (aH aB aV))))) (bH (kY aB aF)))) aF0 eF)
   (aQ (b7 (aX (aP (aM (aH aB (aH aB aV))))))
   (aQ (dC (bH (uM aB aF)) (b7 (aX (xO aB))) eF)
   (bK (aX (cT (aO (a1V aB aB) (aO (a1V aB aB) bO)))))))):VS P0 _ rP)⟩
abbrev wF:Stmt:=top 8
theorem aD9:FnScope ["a", "b"] ["a", "b"] (aR wF):=scM
theorem aDF  (F:Fun K "sum_of" "sum_of" wF f fd)(B:Bl K mg)(Kt:Kit K)
  (c_number_of:n6 P0 P w K mg base) :
  FnOk P w K mg base CX0 3 f fd ["a", "b"] (spM P0 2 pW):=
 F.okV aD9 rfl rfl fun cdv A outer s H E hr=>
 have hu:=hr.units
 ⟨_,(aL (bF (aJ c_number_of hr rfl (aA (bU gD (bU cR (aU aK (pv 0) aC (fun _ _=>rfl)) (aU aK (pv 1) aC (fun _ _=>rfl))) (bU cR (aU aK (pv 1) aC (fun _ _=>rfl)) (aU aK (pv 0) aC (fun _ _=>rfl)))) (aA (bU cR (aU aK (pv 0) aC (fun _ _=>rfl)) (aU aK (pv 1) aC (fun _ _=>rfl))) aD))))),
  ((bK (aM (aH (nJ (eX (aW aB aF) (aW aB aF)) (eX (aW aB aF) (aW aB aF))) (aH (eX (aW aB aF) (aW aB aF)) aV)))):VS P0 _ a2J)⟩
abbrev fW:Stmt:=top 9
theorem vI:FnScope ["a", "b"] ["a", "b"] (aR fW):=scM
theorem vN  (F:Fun K "difference_of" "difference_of" fW f fd)(B:Bl K mg)(Kt:Kit K)
  (c_number_of:n6 P0 P w K mg base) :
  FnOk P w K mg base CX0 3 f fd ["a", "b"] (spM P0 2 bZ):=
 F.okV vI rfl rfl fun cdv A outer s H E hr=>
 have hu:=hr.units
 ⟨_,(aL (bF (aJ c_number_of hr rfl (aA (bU a0C (bU cR (aU aK (pv 0) aC (fun _ _=>rfl)) (aU aK (pv 1) aC (fun _ _=>rfl))) (bU cR (aU aK (pv 1) aC (fun _ _=>rfl)) (aU aK (pv 0) aC (fun _ _=>rfl)))) (aA (bU cR (aU aK (pv 0) aC (fun _ _=>rfl)) (aU aK (pv 1) aC (fun _ _=>rfl))) aD))))),
  ((bK (aM (aH (a2W (eX (aW aB aF) (aW aB aF)) (eX (aW aB aF) (aW aB aF))) (aH (eX (aW aB aF) (aW aB aF)) aV)))):VS P0 _ jL)⟩
abbrev kJ:Stmt:=top 10
theorem a1K:FnScope ["a", "b"] ["a", "b"] (aR kJ):=scM
theorem a1Q  (F:Fun K "product_of" "product_of" kJ f fd)(B:Bl K mg)(Kt:Kit K)
  (c_number_of:n6 P0 P w K mg base) :
  FnOk P w K mg base CX0 3 f fd ["a", "b"] (spM P0 2 dG):=
 F.okV a1K rfl rfl fun cdv A outer s H E hr=>
 have hu:=hr.units
 ⟨_,(aL (bF (aJ c_number_of hr rfl (aA (bU cR (aU aK (pv 0) aC (fun _ _=>rfl)) (aU aK (pv 1) aC (fun _ _=>rfl))) (aA (bU cR (aU aK (pv 0) aC (fun _ _=>rfl)) (aU aK (pv 1) aC (fun _ _=>rfl))) aD))))),
  ((bK (aM (aH (eX (aW aB aF) (aW aB aF)) (aH (eX (aW aB aF) (aW aB aF)) aV)))):VS P0 _ oG)⟩
abbrev j0:Stmt:=top 11
theorem a05:FnScope ["a", "b"] ["a", "b"] (aR j0):=scM
theorem zH  (F:Fun K "quotient_of" "quotient_of" j0 f fd)(B:Bl K mg)(Kt:Kit K)
  (c_number_of:n6 P0 P w K mg base) :
  FnOk P w K mg base CX0 3 f fd ["a", "b"] (spM P0 2 fD):=
 F.okV a05 rfl rfl fun cdv A outer s H E hr=>
 have hu:=hr.units
 ⟨_,(aL (bF (aJ c_number_of hr rfl (aA (bU cR (aU aK (pv 0) aC (fun _ _=>rfl)) (aU aK (pv 1) aC (fun _ _=>rfl))) (aA (bU cR (aU aK (pv 0) aC (fun _ _=>rfl)) (aU aK (pv 1) aC (fun _ _=>rfl))) aD))))),
  ((bK (aM (aH (eX (aW aB aF) (aW aB aF)) (aH (eX (aW aB aF) (aW aB aF)) aV)))):VS P0 _ mF)⟩
abbrev sV:Stmt:=top 12
theorem a9O:FnScope ["a", "b"] ["a", "b"] (aR sV):=scM
theorem a9E  (F:Fun K "is_less" "is_less" sV f fd)(B:Bl K mg)(Kt:Kit K) :
  FnOk P w K mg base CX0 1 f fd ["a", "b"] (spM P0 2 cC):=
 F.okV a9O rfl rfl fun cdv A outer s H E hr=>
 have hu:=hr.units
 ⟨_,(aL (bF (kW sE (bU cR (aU aK (pv 0) aC (fun _ _=>rfl)) (aU aK (pv 1) aC (fun _ _=>rfl))) (bU cR (aU aK (pv 1) aC (fun _ _=>rfl)) (aU aK (pv 0) aC (fun _ _=>rfl))) (bM _)))),
  ((bK (aX (uM (eX (aW aB aF) (aW aB aF)) (eX (aW aB aF) (aW aB aF))))):VS P0 _ yP)⟩
abbrev pP:Stmt:=top 14
theorem a78:FnScope ["line", "time"] ["line", "time"] (aR pP):=scM
theorem a5Z  (F:Fun K "place_at" "place_at" pP f fd)(B:Bl K mg)(Kt:Kit K)
  (c_sum_of:aE9 P0 P w K mg base)
  (c_product_of:vC P0 P w K mg base) :
  FnOk P w K mg base CX0 4 f fd ["line", "time"] (spM P0 2 gZ):=
 F.okV a78 rfl rfl fun cdv A outer s H E hr=>
 have hu:=hr.units
 ⟨_,(aL (bF (aJ c_sum_of hr rfl (aA (aU aK (pv 0) aC (fun _ _=>rfl)) (aA (aJ c_product_of hr rfl (aA (aU aK (pv 0) aC (fun _ _=>rfl)) (aA (pv 1) aD))) aD))))),
  ((bK (aM (aH (aW aB aF) (aH (aP (aM (aH (aW aB aF) (aH aB aV)))) aV)))):VS P0 _ uT)⟩
abbrev iD:Stmt:=top 15
theorem yW:FnScope ["time", "place", "slope"] ["time", "place", "slope"] (aR iD):=scM
theorem wZ  (F:Fun K "line_through" "line_through" iD f fd)(B:Bl K mg)(Kt:Kit K)
  (c_difference_of:oY P0 P w K mg base)
  (c_product_of:vC P0 P w K mg base) :
  FnOk P w K mg base CX0 4 f fd ["time", "place", "slope"] (spM P0 3 dU):=
 F.okV yW rfl rfl fun cdv A outer s H E hr=>
 have hu:=hr.units
 ⟨_,(aL (bF (cU (aA (aJ c_difference_of hr rfl (aA (pv 1) (aA (aJ c_product_of hr rfl (aA (pv 2) (aA (pv 0) aD))) aD))) (aA (pv 2) aD))))),
  ((bK (aX (cT (aO (aP (aM (aH aB (aH (aP (aM (aH aB (aH aB aV)))) aV)))) (aO aB bO))))):VS P0 _ lJ)⟩
abbrev tL:Stmt:=top 16
theorem sc_meeting:FnScope ["one", "other", "gap", "closing"] ["one", "other"] (aR tL):=scM
theorem a9R  (F:Fun K "meeting" "meeting" tL f fd)(B:Bl K mg)(Kt:Kit K)
  (c_quotient_of:a2A P0 P w K mg base)
  (c_difference_of:oY P0 P w K mg base) :
  FnOk P w K mg base CX0 4 f fd ["one", "other"] (spM P0 2 lW):=
 F.okV sc_meeting rfl rfl fun cdv A outer s H E hr=>
 have hu:=hr.units
 ⟨_,(aG (cW (bD (fH hu) (aU aK (pv 0) aC (fun _ _=>rfl)) (aU aK (pv 1) aC (fun _ _=>rfl)) (bM _)) (aL (bF (a8J (bD (fH hu) (aU aK (pv 0) aC (fun _ _=>rfl)) (aU aK (pv 1) aC (fun _ _=>rfl)) (bM _)) (cU (aA nU aD)) (cU (aA nU aD))))) bR)
   (aG (aZ (i:=2) sc_meeting.nd rfl (by walk_at "lc") (aJ c_difference_of hr rfl (aA (aU aK (pv 1) aC (fun _ _=>rfl)) (aA (aU aK (pv 0) aC (fun _ _=>rfl)) aD))))
   (aG (aZ (i:=3) sc_meeting.nd rfl (by walk_at "lc") (aJ c_difference_of hr rfl (aA (aU aK (pv 0) aC (fun _ _=>rfl)) (aA (aU aK (pv 1) aC (fun _ _=>rfl)) aD))))
   (aL (bF (cU (aA nU (aA (aJ c_quotient_of hr rfl (aA (pv 2) (aA (pv 3) aD))) aD)))))))),
  ((aQ (dC (bH (kY (aW aB aF) (aW aB aF))) (bK (aKC (bH (kY (aW aB aF) (aW aB aF))) (aX (cT (aO nW bO))) (aX (cT (aO nW bO))))) eF)
   (aQ (b7 (aX (aP (aM (aH (aW aB aF) (aH (aW aB aF) aV))))))
   (aQ (b7 (aX (aP (aM (aH (aW aB aF) (aH (aW aB aF) aV))))))
   (bK (aX (cT (aO nW (aO (aP (aM (aH aB (aH aB aV)))) bO)))))))):VS P0 _ xQ)⟩
abbrev pN:Stmt:=top 17
theorem a6W:FnScope ["lines", "runner", "time"] ["lines", "runner", "time"] (aR pN):=scM
theorem a6Z  (F:Fun K "standing" "standing" pN f fd)(B:Bl K mg)(Kt:Kit K)
  (c_place_at:a0L P0 P w K mg base) :
  FnOk P w K mg base CX0 5 f fd ["lines", "runner", "time"] (spM P0 3 gY):=
 F.okV a6W rfl rfl fun cdv A outer s H E hr=>
 have hu:=hr.units
 ⟨_,(aL (bF (cU (aA (aJ c_place_at hr rfl (aA (aU aK (pv 0) (pv 1) (fun _ _=>rfl)) (aA (pv 2) aD))) (aA (aU aK (aU aK (pv 0) (pv 1) (fun _ _=>rfl)) aC (fun _ _=>rfl)) (aA (pv 1) aD)))))),
  ((bK (aX (cT (aO (aP (aM (aH (aW aB aB) (aH aB aV)))) (aO (aW (aW aB aB) aF) (aO aB bO)))))):VS P0 _ uR)⟩
abbrev iH:Stmt:=top 18
theorem wK:FnScope ["one", "other"] ["one", "other"] (aR iH):=scM
theorem xW  (F:Fun K "stands_ahead" "stands_ahead" iH f fd)(B:Bl K mg)(Kt:Kit K)
  (c_is_less:m9 P0 P w K mg base) :
  FnOk P w K mg base CX0 2 f fd ["one", "other"] (spM P0 2 dY):=
 F.okV wK rfl rfl fun cdv A outer s H E hr=>
 have hu:=hr.units
 ⟨_,(aG (cW (bD (lX hu) (aU aK (pv 0) aC (fun _ _=>rfl)) (aU aK (pv 1) aC (fun _ _=>rfl)) (bM _)) (aL (bF (aJ c_is_less hr rfl (aA (aU aK (pv 1) aC (fun _ _=>rfl)) (aA (aU aK (pv 0) aC (fun _ _=>rfl)) aD))))) bR)
   (aG (cW (bD (lX hu) (aU aK (pv 0) aC (fun _ _=>rfl)) (aU aK (pv 1) aC (fun _ _=>rfl)) (bM _)) (aL (bF (aJ c_is_less hr rfl (aA (aU aK (pv 1) aC (fun _ _=>rfl)) (aA (aU aK (pv 0) aC (fun _ _=>rfl)) aD))))) bR)
   (aL (bF (kW sE (aU aK (pv 0) aC (fun _ _=>rfl)) (aU aK (pv 1) aC (fun _ _=>rfl)) (bM _)))))),
  ((aQ (dC (bH (uU (aW aB aF) (aW aB aF))) (bK (aM (aH (aW aB aF) (aH (aW aB aF) aV)))) eF)
   (aQ (dC (bH (uU (aW aB aF) (aW aB aF))) (bK (aM (aH (aW aB aF) (aH (aW aB aF) aV)))) eF)
   (bK (aX (uM (aW aB aF) (aW aB aF)))))):VS P0 _ lL)⟩
abbrev pO:Stmt:=top 19
theorem a68:FnScope ["lines", "one", "other", "time"] ["lines", "one", "other", "time"] (aR pO):=scM
theorem a6H  (F:Fun K "is_ahead" "is_ahead" pO f fd)(B:Bl K mg)(Kt:Kit K)
  (c_stands_ahead:a01 P0 P w K mg base)
  (c_standing:a9V P0 P w K mg base) :
  FnOk P w K mg base CX0 6 f fd ["lines", "one", "other", "time"] (spM P0 4 j8):=
 F.okV a68 rfl rfl fun cdv A outer s H E hr=>
 have hu:=hr.units
 ⟨_,(aL (bF (aJ c_stands_ahead hr rfl (aA (aJ c_standing hr rfl (aA (pv 0) (aA (pv 1) (aA (pv 3) aD)))) (aA (aJ c_standing hr rfl (aA (pv 0) (aA (pv 2) (aA (pv 3) aD)))) aD))))),
  ((bK (aM (aH (aP (aM (aH aB (aH aB (aH aB aV))))) (aH (aP (aM (aH aB (aH aB (aH aB aV))))) aV)))):VS P0 _ uF)⟩
abbrev fL:Stmt:=top 23
theorem uQ:FnScope ["one", "other"] ["one", "other"] (aR fL):=scM
theorem uP  (F:Fun K "leads_at_first" "leads_at_first" fL f fd)(B:Bl K mg)(Kt:Kit K)
  (c_is_less:m9 P0 P w K mg base) :
  FnOk P w K mg base CX0 2 f fd ["one", "other"] (spM P0 2 cV):=
 F.okV uQ rfl rfl fun cdv A outer s H E hr=>
 have hu:=hr.units
 ⟨_,(aG (cW (bD (lX hu) (aU aK (pv 0) aC (fun _ _=>rfl)) (aU aK (pv 1) aC (fun _ _=>rfl)) (bM _)) (aL (bF (aJ c_is_less hr rfl (aA (aU aK (pv 0) aC (fun _ _=>rfl)) (aA (aU aK (pv 1) aC (fun _ _=>rfl)) aD))))) bR)
   (aL (bF (aJ c_is_less hr rfl (aA (aU aK (pv 1) aC (fun _ _=>rfl)) (aA (aU aK (pv 0) aC (fun _ _=>rfl)) aD)))))),
  ((aQ (dC (bH (uU (aW aB aF) (aW aB aF))) (bK (aM (aH (aW aB aF) (aH (aW aB aF) aV)))) eF)
   (bK (aM (aH (aW aB aF) (aH (aW aB aF) aV))))):VS P0 _ iU)⟩
abbrev iC:Stmt:=top 24
theorem sc_first_leader:FnScope ["lines", "leader", "runner"] ["lines"] (aR iC):=scM
theorem zE  (F:Fun K "first_leader" "first_leader" iC f fd)(B:Bl K mg)(Kt:Kit K)
  (c_leads_at_first:vO P0 P w K mg base) :
  FnOk P w K mg base CX0 3 f fd ["lines"] (spM P0 1 dX):=
 F.okV sc_first_leader rfl rfl fun cdv A outer s H E hr=>
 have hu:=hr.units
 ⟨_,(aG (aZ (i:=1) sc_first_leader.nd rfl (by walk_at "lc") aC)
   (aG (jH PassesOwn.never rfl (aDU rfl B.range_ (aA aC (aA (bN bL rfl B.len_ boot_len (aA (pv 0) aD)) aD))) (dB (i:=2) sc_first_leader.nd rfl (by walk_at "lc")) (aL (cW (gF (aJ c_leads_at_first hr rfl (aA (aU aK (pv 0) (pv 2) (fun _ _=>rfl)) (aA (aU aK (pv 0) (pv 1) (fun _ _=>rfl)) aD)))) (aL (aZ (i:=1) sc_first_leader.nd rfl (by walk_at "lc") (pv 2))) bR)))
   (aL (bF (pv 1))))),
  ((aQ (b7 (aX aF))
   (aQ (jR (aI7 (aO aF (aO (iM aB) bO))) cZ (dC (o5 (aP (aM (aH (aW aB aB) (aH (aW aB aB) aV))))) (b7 (aX aB)) eF))
   (bK (aX aB)))):VS P0 _ lA)⟩
abbrev iG:Stmt:=top 26
theorem z8:FnScope ["lines", "runner", "time", "told"] ["lines", "runner", "time", "told"] (aR iG):=scM
theorem yX  (F:Fun K "comes_sooner" "comes_sooner" iG f fd)(B:Bl K mg)(Kt:Kit K)
  (c_is_ahead:a91 P0 P w K mg base)
  (c_is_less:m9 P0 P w K mg base) :
  FnOk P w K mg base CX0 7 f fd ["lines", "runner", "time", "told"] (spM P0 4 dW):=
 F.okV z8 rfl rfl fun cdv A outer s H E hr=>
 have hu:=hr.units
 ⟨_,(aG (cW (bD (lX hu) (pv 2) (aU aK (pv 3) aC (fun _ _=>rfl)) (bM _)) (aL (bF (aJ c_is_less hr rfl (aA (pv 2) (aA (aU aK (pv 3) aC (fun _ _=>rfl)) aD))))) bR)
   (aL (bF (aJ c_is_ahead hr rfl (aA (pv 0) (aA (pv 1) (aA (aU aK (pv 3) aC (fun _ _=>rfl)) (aA (pv 2) aD)))))))),
  ((aQ (dC (bH (uU aB (aW aB aF))) (bK (aM (aH aB (aH (aW aB aF) aV)))) eF)
   (bK (aM (aH aB (aH aB (aH (aW aB aF) (aH aB aV))))))):VS P0 _ kZ)⟩
abbrev j4:Stmt:=top 25
theorem sc_next_leader:FnScope ["lines", "leader", "told", "runner", "time"] ["lines", "leader"] (aR j4):=scM
theorem a03  (F:Fun K "next_leader" "next_leader" j4 f fd)(B:Bl K mg)(Kt:Kit K)
  (c_is_less:m9 P0 P w K mg base)
  (c_comes_sooner:zU P0 P w K mg base)
  (c_meeting:aB2 P0 P w K mg base) :
  FnOk P w K mg base CX0 8 f fd ["lines", "leader"] (spM P0 2 eZ):=
 F.okV sc_next_leader rfl rfl fun cdv A outer s H E hr=>
 have hu:=hr.units
 ⟨_,(aG (aZ (i:=2) sc_next_leader.nd rfl (by walk_at "lc") eV)
   (aG (jH PassesOwn.never rfl (yO rfl B.range_ (aA (bN bL rfl B.len_ boot_len (aA (pv 0) aD)) aD)) (dB (i:=3) sc_next_leader.nd rfl (by walk_at "lc")) (aL (cW (gF (aJ c_is_less hr rfl (aA (aU aK (aU aK (pv 0) (pv 1) (fun _ _=>rfl)) aC (fun _ _=>rfl)) (aA (aU aK (aU aK (pv 0) (pv 3) (fun _ _=>rfl)) aC (fun _ _=>rfl)) aD)))) (aG (aZ (i:=4) sc_next_leader.nd rfl (by walk_at "lc") (aU aK (aJ c_meeting hr rfl (aA (aU aK (pv 0) (pv 1) (fun _ _=>rfl)) (aA (aU aK (pv 0) (pv 3) (fun _ _=>rfl)) aD))) aC (fun _ _=>rfl)))
   (aL (cW (PW.pt (zA (bD aB7 (pv 2) eV (bM _)) (v6 (gF (aJ c_comes_sooner hr rfl (aA (pv 0) (aA (pv 3) (aA (pv 4) (aA (pv 2) aD))))))))) (aL (aZ (i:=2) sc_next_leader.nd rfl (by walk_at "lc") (cU (aA (pv 3) (aA (pv 4) aD))))) bR))) bR)))
   (aL (bF (pv 2))))),
  ((aQ (b7 (aX iY))
   (aQ (jR (a6B (aO (iM aB) bO)) cZ (dC (o5 (aP (aM (aH (aW (aW aB aB) aF) (aH (aW (aW aB aB) aF) aV))))) (aQ (b7 (aX (aW (aP (aM (aH (aW aB aB) (aH (aW aB aB) aV)))) aF)))
   (dC (qH (bH (aBC aB)) (o5 (aP (aM (aH aB (aH aB (aH aB (aH aB aV)))))))) (b7 (aX (cT (aO aB (aO aB bO))))) eF)) eF))
   (bK (aX aB)))):VS P0 _ mV)⟩
abbrev t8:Stmt:=top 27
theorem sc_leaders:FnScope ["lines", "row", "stretch"] ["lines"] (aR t8):=scM
theorem a9C  (F:Fun K "leaders" "leaders" t8 f fd)(B:Bl K mg)(Kt:Kit K)
  (c_next_leader:a1H P0 P w K mg base)
  (c_first_leader:a02 P0 P w K mg base) :
  FnOk P w K mg base CX0 9 f fd ["lines"] (spM P0 1 oU):=
 F.okV sc_leaders rfl rfl fun cdv A outer s H E hr=>
 have hu:=hr.units
 ⟨_,(aG (cW (bD (fH hu) (bN bL rfl B.len_ boot_len (aA (pv 0) aD)) aC (bM _)) (aL (bF (dR aD))) bR)
   (aG (aZ (i:=1) sc_leaders.nd rfl (by walk_at "lc") (dR aD))
   (aG (aZ (i:=2) sc_leaders.nd rfl (by walk_at "lc") (cU (aA (aJ c_first_leader hr rfl (aA (pv 0) aD)) (aA eV aD))))
   (aG (wG PassesOwn.never (bD a6D (pv 2) eV (bM _)) (aG (gU (a1A PySem.F.plainAttrs_list PySem.F.slot_list_append PySem.F.type_list_append jJ (pv 1) (aA (pv 2) aD)))
   (aL (aZ (i:=2) sc_leaders.nd rfl (by walk_at "lc") (aJ c_next_leader hr rfl (aA (pv 0) (aA (aU aK (pv 2) aC (fun _ _=>rfl)) aD)))))))
   (aL (bF (pv 1))))))),
  ((aQ (dC (bH (kY (iM aB) aF)) (bK (eG bO)) eF)
   (aQ (b7 (eG bO))
   (aQ (b7 (aX (cT (aO (aP (aM (aH aB aV))) (aO iY bO)))))
   (aQ (a2K (bH (a7G aB)) (aQ (jE aB)
   (b7 (aX (aP (aM (aH aB (aH (aW aB aF) aV))))))))
   (bK lC))))):VS P0 _ wJ)⟩
abbrev mR:Stmt:=top 28
theorem sc_leader_by:FnScope ["row", "time", "leader", "stretch"] ["row", "time"] (aR mR):=scM
theorem a3X  (F:Fun K "leader_by" "leader_by" mR f fd)(B:Bl K mg)(Kt:Kit K)
  (c_is_less:m9 P0 P w K mg base) :
  FnOk P w K mg base CX0 2 f fd ["row", "time"] (spM P0 2 jG):=
 F.okV sc_leader_by rfl rfl fun cdv A outer s H E hr=>
 have hu:=hr.units
 ⟨_,(aG (aZ (i:=2) sc_leader_by.nd rfl (by walk_at "lc") (aU aK (aU aK (pv 0) aC (fun _ _=>rfl)) aC (fun _ _=>rfl)))
   (aG (jH PassesOwn.never rfl (jD (a8S aBP (pv 0) (aCY aC) aDM)) (dB (i:=3) sc_leader_by.nd rfl (by walk_at "lc")) (aL (cW (a0I (gF (aJ c_is_less hr rfl (aA (pv 1) (aA (aU aK (pv 3) aC (fun _ _=>rfl)) aD))))) (aL (aZ (i:=2) sc_leader_by.nd rfl (by walk_at "lc") (aU aK (pv 3) aC (fun _ _=>rfl)))) bR)))
   (aL (bF (pv 2))))),
  ((aQ (b7 (aX (aW (aW aB aF) aF)))
   (aQ (jR (jN (aP (aFV aB (aJU aF) aJV))) cZ (dC (uB (o5 (aP (aM (aH aB (aH (aW aB aF) aV)))))) (b7 (aX (aW aB aF))) eF))
   (bK (aX aB)))):VS P0 _ rM)⟩
abbrev rG:Stmt:=inClass (top 21) 4
theorem a5H:FnScope ["self"] ["self"] (aR rG):=scM
theorem a1Y  {c:Addr}(cl:Cls K c)(n_running:NoAttr K c "running")(n_joined:NoAttr K c "joined")(n_last:NoAttr K c "last")(F:Fun K "runners" "Field.runners" rG f fd)(B:Bl K mg):FnOk P w K mg base CX0 1 f fd ["self"] (sS c):=by
 refine F.ok a5H (fun vs H Q E h=>?_) (fun cdv A outer s H vs Q E hr h=>?_)
 ·obtain⟨w,d,p,fs,kvs,ns,rfl,_⟩:=h;rfl
 have hu:=hr.units;obtain⟨w,d,p,fs,kvs,ns,rfl,hw,hl,hp,hk,h64,q⟩:=h;refine⟨_,(aL (bF (bN (lU rfl) rfl B.sorted_ boot_sorted (aA (yZ (pv 0) rfl) aD)))),?_⟩;exact⟨_,rfl,w,c,d,fs,.ref p,rfl,hw,cl,n_running,hl,p,kvs,ns,rfl,.inl hp,hk,h64,fun ns' l h1 h2 h3=>q ns' l h1 h2 h3⟩
abbrev a1O:Stmt:=inClass (top 21) 0
theorem aBD:FnScope ["self"] ["self"] (aR a1O):=scM
theorem aOW {H:Hp}{w:Addr}{o o':HO}:upd (upd H w o) w o'=upd H w o':=by
 funext b
 by_cases h:b=w
 ·rw[h,bA,bA]
 ·rw[aY h,aY h,aY h]
theorem a98  {c:Addr}(cl:Cls K c)(n_running:NoAttr K c "running")(n_joined:NoAttr K c "joined")(n_last:NoAttr K c "last")(F:Fun K "__init__" "Field.__init__" a1O f fd)(B:Bl K mg):FnOk P w K mg base CX0 1 f fd ["self"] (a2C c):=by
 refine F.ok aBD (fun vs H Q E h=>?_) (fun cdv A outer s H vs Q E hr h=>?_)
 ·obtain⟨w,d,rfl,_⟩:=h;rfl
 have hu:=hr.units;obtain⟨w,d,rfl,hw,q⟩:=h;refine⟨_,(aG (a7Z (pv 0) a8I rfl) (aG (a7Z (pv 0) aC rfl) (aL (a7Z (pv 0) eV rfl)))),?_⟩;intro p hp;have pw:w≠p:=fun z=>by rw[z,hp] at hw; cases hw
 refine⟨_,rfl,w,c,d,[],rfl,by rw[aY pw]; exact hw,cl,n_running,by decide,?_⟩;refine⟨_,rfl,w,c,d,_,rfl,bA,cl,n_joined,(by show 1<1000; decide),?_⟩;refine⟨_,rfl,w,c,d,_,rfl,bA,cl,n_last,(by show 2<1000; decide),?_⟩;have z:=q p hp;rw[aOW,aOW];exact z
abbrev lE:Stmt:=inClass (top 21) 3
theorem sc_f_add_runner:FnScope ["self", "line", "runner"] ["self", "line"] (aR lE):=scM
theorem yF  {c:Addr}(cl:Cls K c)(n_running:NoAttr K c "running")(n_joined:NoAttr K c "joined")(n_last:NoAttr K c "last")(F:Fun K "add_runner" "Field.add_runner" lE f fd)(B:Bl K mg)(Kt:Kit K) :
  FnOk P w K mg base CX0 1 f fd ["self", "line"] (spL P0 (bQ c) 2 (iB c)):=
 F.okL sc_f_add_runner rfl rfl fun cdv A outer s H E hr=>
 have hu:=hr.units
 ⟨_,(aG (aZ (i:=2) sc_f_add_runner.nd rfl (by walk_at "lc") (yZ (pv 0) rfl))
   (aG (a2B (hu1 hu) (yZ (pv 0) rfl) (pv 2) (pv 1) rfl)
   (aG (aD8 (pv 0) aC aLH)
   (aL (bF (pv 2)))))),
  ((aQ (b7 (aX (a6P cl n_joined)))
   (aQ (a8Z cl n_running aB aB)
   (aQ (a97 cl n_joined)
   (a6M (aX aB))))):VS P0 _ (lM c))⟩
abbrev aBF:Stmt:=inClass (top 21) 2
theorem sc_f_do:FnScope ["self", "deed", "place"] ["self", "deed"] (aR aBF):=scM
theorem aHI  {c:Addr}(cl:Cls K c)(n_running:NoAttr K c "running")(n_joined:NoAttr K c "joined")(n_last:NoAttr K c "last"){f_add_runner:Addr}{fd_add_runner:FuncData}(M_add_runner:Meth K c "add_runner" f_add_runner)(F_add_runner:FnOk P w K mg base CX0 1 f_add_runner fd_add_runner ["self", "line"] (spL P0 (bQ c) 2 (iB c)))(b_add_runner:Binds K fd_add_runner ["self", "line"] [])(F:Fun K "do" "Field.do" aBF f fd)(B:Bl K mg)(Kt:Kit K)
  (c_line_through:zY P0 P w K mg base)
  (c_place_at:a0L P0 P w K mg base) :
  FnOk P w K mg base CX0 5 f fd ["self", "deed"] (spL P0 (bQ c) 2 (a7L c)):=
 F.okL sc_f_do rfl rfl fun cdv A outer s H E hr=>
 have hu:=hr.units
 ⟨_,(aG (a7Z (pv 0) (aU aK (pv 1) aC (fun _ _=>rfl)) rfl)
   (aG (cW (bD (fH hu) (aU aK (pv 1) aC (fun _ _=>rfl)) nU (bM _)) (aL (bF (aB6 (pv 0) cl M_add_runner F_add_runner (hr.mono (by decide)) b_add_runner .nil a6K (aA (aJ c_line_through hr rfl (aA (aU aK (pv 1) aC (fun _ _=>rfl)) (aA (aU aK (pv 1) aC (fun _ _=>rfl)) (aA (aU aK (pv 1) aC (fun _ _=>rfl)) aD)))) aD)))) bR)
   (aG (cW (bD (fH hu) (aU aK (pv 1) aC (fun _ _=>rfl)) nU (bM _)) (aL (gU (a80 (yZ (pv 0) rfl) (aU aK (pv 1) aC (fun _ _=>rfl)) ⟨rfl,rfl,rfl,rfl⟩))) (aG (aZ (i:=2) sc_f_do.nd rfl (by walk_at "lc") (aJ c_place_at hr rfl (aA (fO (hu1 hu) (yZ (pv 0) rfl) (aU aK (pv 1) aC (fun _ _=>rfl)) (fun _ _=>rfl)) (aA (aU aK (pv 1) aC (fun _ _=>rfl)) aD))))
   (aL (a2B (hu1 hu) (yZ (pv 0) rfl) (aU aK (pv 1) aC (fun _ _=>rfl)) (aJ c_line_through hr rfl (aA (aU aK (pv 1) aC (fun _ _=>rfl)) (aA (pv 2) (aA (aU aK (pv 1) aC (fun _ _=>rfl)) aD)))) rfl))))
   (aL (bF eV))))),
  ((aQ (a9K cl n_last (aW aB aF))
   (aQ (dC (bH (kY (aW aB aF) nW)) (a6M (a7J (aGF (fun _ _=>rfl)) (aH (aP (aM (aH (aW aB aF) (aH (aW aB aF) (aH (aW aB aF) aV))))) aV))) eF)
   (aQ (dC (bH (kY (aW aB aF) nW)) (a71 (aEF cl n_running (aW aB aF))) (aQ (b7 (aX (aP (aM (aH (aAO cl n_running (aW aB aF)) (aH (aW aB aF) aV))))))
   (a8Z cl n_running (aP (aM (aH (aW aB aF) (aH aB (aH (aW aB aF) aV))))) (aW aB aF))))
   (a6M (aX iY))))):VS P0 _ (aC5 c))⟩
abbrev rZ:Stmt:=inClass (top 21) 5
theorem a9D:FnScope ["self", "runner"] ["self"] (aR rZ):=scM
theorem a9U  {c:Addr}(cl:Cls K c)(n_running:NoAttr K c "running")(n_joined:NoAttr K c "joined")(n_last:NoAttr K c "last"){f_runners:Addr}{fd_runners:FuncData}(M_runners:Meth K c "runners" f_runners)(F_runners:FnOk P w K mg base CX0 1 f_runners fd_runners ["self"] (sS c))(b_runners:Binds K fd_runners ["self"] [])(F:Fun K "lines_running" "Field.lines_running" rZ f fd)(B:Bl K mg)(Kt:Kit K) :
  FnOk P w K mg base CX0 2 f fd ["self"] (spM P0 1 (s8 c)):=
 F.okV a9D rfl rfl fun cdv A outer s H E hr=>
 have hu:=hr.units
 ⟨_,(aL (bF (a0U (N:=["runner", "self"]) (nt:=1) (fv:=[0]) rfl (aBV (osc:=aR rZ) (ON:=["self", "runner"]) (by decide +kernel)) (jD (a1X (pv 0) cl M_runners F_runners (hr.mono (by decide)) b_runners .nil a6K)) (fun _ _ _ _=>(dB (i:=0) (show(["runner", "self"]:List Str).Nodup by decide +kernel) rfl (by walk_at "lc"))) (fun _ _ _ _=>aHR) (fun _ _ _ _=>(fO (hu1 hu) (yZ (pv 1) rfl) (pv 0) (fun _ _=>rfl)))))),
  ((bK (a5R (jN (aP v4)) cZ aEK (aAO cl n_running aB))):VS P0 _ (yD c))⟩
abbrev a77:Stmt:=top 30
theorem sc_leads:FnScope ["field", "since", "till", "runners", "row", "told", "stretch"] ["field", "since", "till"] (aR a77):=scM
theorem aE5  {c:Addr}(cl:Cls K c)(n_running:NoAttr K c "running")(n_joined:NoAttr K c "joined")(n_last:NoAttr K c "last"){f_runners:Addr}{fd_runners:FuncData}(M_runners:Meth K c "runners" f_runners)(F_runners:FnOk P w K mg base CX0 1 f_runners fd_runners ["self"] (sS c))(b_runners:Binds K fd_runners ["self"] []){f_lines_running:Addr}{fd_lines_running:FuncData}(M_lines_running:Meth K c "lines_running" f_lines_running)(F_lines_running:FnOk P w K mg base CX0 2 f_lines_running fd_lines_running ["self"] (spM P0 1 (s8 c)))(b_lines_running:Binds K fd_lines_running ["self"] [])(F:Fun K "leads" "leads" a77 f fd)(B:Bl K mg)(Kt:Kit K)
  (c_is_less:m9 P0 P w K mg base)
  (c_leader_by:a6Y P0 P w K mg base)
  (c_leaders:aBE P0 P w K mg base) :
  FnOk P w K mg base CX0 10 f fd ["field", "since", "till"] (spM P0 3 (tY c)):=
 F.okV sc_leads rfl rfl fun cdv A outer s H E hr=>
 have hu:=hr.units
 ⟨_,(aG (aZ (i:=3) sc_leads.nd rfl (by walk_at "lc") (a1X (pv 0) cl M_runners F_runners (hr.mono (by decide)) b_runners .nil a6K))
   (aG (cW (bD (fH hu) (pv 3) (dR aD) (bM _)) (aL (bF (dR (aA (cU (aA eV (aA (pv 1) aD))) aD)))) bR)
   (aG (aZ (i:=4) sc_leads.nd rfl (by walk_at "lc") (aJ c_leaders hr rfl (aA (a1X (pv 0) cl M_lines_running F_lines_running (hr.mono (by decide)) b_lines_running .nil a6K) aD)))
   (aG (aZ (i:=5) sc_leads.nd rfl (by walk_at "lc") (dR (aA (cU (aA (aU aK (pv 3) (aJ c_leader_by hr rfl (aA (pv 4) (aA (pv 1) aD))) (fun _ _=>rfl)) (aA (pv 1) aD))) aD)))
   (aG (jH PassesOwn.never rfl (jD (a8S aBP (pv 4) (aCY aC) aDM)) (dB (i:=6) sc_leads.nd rfl (by walk_at "lc")) (aL (cW (PW.pt (yH (gF (aJ c_is_less hr rfl (aA (pv 1) (aA (aU aK (pv 6) aC (fun _ _=>rfl)) aD)))) (uI (PW.pt (zA (bD aB7 (pv 2) eV (bM _)) (v6 (gF (aJ c_is_less hr rfl (aA (aU aK (pv 6) aC (fun _ _=>rfl)) (aA (pv 2) aD)))))))))) (aL (gU (a1A PySem.F.plainAttrs_list PySem.F.slot_list_append PySem.F.type_list_append jJ (pv 5) (aA (cU (aA (aU aK (pv 3) (aU aK (pv 6) aC (fun _ _=>rfl)) (fun _ _=>rfl)) (aA (aU aK (pv 6) aC (fun _ _=>rfl)) aD))) aD)))) bR)))
   (aL (bF (pv 5)))))))),
  ((aQ (b7 (aX (aP v4)))
   (aQ (dC (bH (kY aB (aP (eG bO)))) (bK (eG (aO (cT (aO iY (aO aB bO))) bO))) eF)
   (aQ (b7 (aX (aP (aM (aH (aP (aF3 aV)) aV)))))
   (aQ (b7 (eG (aO (cT (aO (aW aB (aP (aM (aH aB (aH aB aV))))) (aO aB bO))) bO)))
   (aQ (jR (jN (aP (aFV aB (aJU aF) aJV))) cZ (dC (rD (o5 (aP (aM (aH aB (aH (aW aB aF) aV))))) (qH (bH (aBC aB)) (o5 (aP (aM (aH (aW aB aF) (aH aB aV))))))) (jE (cT (aO (aW aB (aW aB aF)) (aO (aW aB aF) bO)))) eF))
   (bK lC)))))):VS P0 _ (a74 c))⟩
abbrev pI:Stmt:=top 31
theorem sc_leaders_in:FnScope ["log", "row", "field", "at", "deed", "till", "stretch"] ["log"] (aR pI):=scM
theorem a2H  {c:Addr}(cl:Cls K c)(n_running:NoAttr K c "running")(n_joined:NoAttr K c "joined")(n_last:NoAttr K c "last"){fI:Addr}{fdI:FuncData}(hmF:mg "Field" = some (.ref c))(MI:Mk K c fI)(FI:FnOk P w K mg base CX0 1 fI fdI ["self"] (a2C c))(bI:Binds K fdI ["self"] []){f_do:Addr}{fd_do:FuncData}(M_do:Meth K c "do" f_do)(F_do:FnOk P w K mg base CX0 5 f_do fd_do ["self", "deed"] (spL P0 (bQ c) 2 (a7L c)))(b_do:Binds K fd_do ["self", "deed"] [])(F:Fun K "leaders_in" "leaders_in" pI f fd)(B:Bl K mg)(Kt:Kit K)
  (c_leads:aIH P0 P w K mg base c) :
  FnOk P w K mg base CX0 11 f fd ["log"] (spM P0 1 (eY c)):=
 F.okV sc_leaders_in rfl rfl fun cdv A outer s H E hr=>
 have hu:=hr.units
 ⟨_,(aG (aZ (i:=1) sc_leaders_in.nd rfl (by walk_at "lc") (dR (aA (cU (aA eV (aA eV aD))) aD)))
   (aG (aZ (i:=2) sc_leaders_in.nd rfl (by walk_at "lc") (aF5 MI FI (hr.mono (by decide)) rfl hmF bI .nil a6K))
   (aG (jH PassesOwn.never rfl (aHZ rfl B.enumerate_ (aA (pv 0) aD)) (aG1 rfl (vX (dB (i:=3) sc_leaders_in.nd rfl (by walk_at "lc")) (vX (dB (i:=4) sc_leaders_in.nd rfl (by walk_at "lc")) aBT))) (aG (gU (aB6 (pv 2) cl M_do F_do (hr.mono (by decide)) b_do .nil a6K (aA (pv 4) aD)))
   (aG (aZ (i:=5) sc_leaders_in.nd rfl (by walk_at "lc") (a8J (bD sE (bU gD (pv 3) aC) (bN bL rfl B.len_ boot_len (aA (pv 0) aD)) (bM _)) (aU aK (aU aK (pv 0) (bU gD (pv 3) aC) (fun _ _=>rfl)) aC (fun _ _=>rfl)) eV))
   (aL (cW (bD (lX hu) (pv 5) (aU aK (pv 4) aC (fun _ _=>rfl)) (bM _)) (aL (jH PassesOwn.never rfl (jD (aJ c_leads hr rfl (aA (pv 2) (aA (aU aK (pv 4) aC (fun _ _=>rfl)) (aA (pv 5) aD))))) (dB (i:=6) sc_leaders_in.nd rfl (by walk_at "lc")) (aL (cW (bD (lX hu) (aU aK (pv 6) aC (fun _ _=>rfl)) (aU aK (aU aK (pv 1) (a7H wL aC) (fun _ _=>rfl)) aC (fun _ _=>rfl)) (bM _)) (aL (gU (a1A PySem.F.plainAttrs_list PySem.F.slot_list_append PySem.F.type_list_append jJ (pv 1) (aA (pv 6) aD)))) bR)))) bR)))))
   (aL (bF (pv 1)))))),
  ((aQ (b7 (eG (aO (cT (aO iY (aO iY bO))) bO)))
   (aQ (b7 aEY)
   (aQ (jR (aIC aB) (aGE (wB cZ (wB cZ aDD))) (aQ (a71 (aP (a7J (aGF (fun _ _=>rfl)) (aH aB aV))))
   (aQ (b7 (aX (aJB (bH (uM (nJ aB aF) (iM aB))) (aW (aW aB (nJ aB aF)) aF) iY)))
   (dC (bH (uU aB (aW aB aF))) (jR (jN (aP (aBK (aM (aIZ (aH (aW aB aF) (aH aB aV))))))) cZ (dC (tO (bH (uU (aW aB aF) (aW (aW aB (xO aF)) aF)))) (jE aB) eF)) eF))))
   (bK lC)))):VS P0 _ (o8 c))⟩
abbrev jW:Stmt:=top 34
theorem sc_law_lowest:FnScope ["_law_top", "_law_bottom", "_law_one", "_law_other"] ["_law_top", "_law_bottom"] (aR jW):=scM
theorem a2R  (F:Fun K "_law_lowest" "_law_lowest" jW f fd)(B:Bl K mg)(Kt:Kit K) :
  FnOk P w K mg base CX0 1 f fd ["_law_top", "_law_bottom"] (spM P0 2 bV):=
 F.okV sc_law_lowest rfl rfl fun cdv A outer s H E hr=>
 have hu:=hr.units
 ⟨_,(aG (aZ (i:=2) sc_law_lowest.nd rfl (by walk_at "lc") (bN sJ rfl B.abs_ boot_abs (aA (pv 0) aD)))
   (aG (aZ (i:=3) sc_law_lowest.nd rfl (by walk_at "lc") (bN sJ rfl B.abs_ boot_abs (aA (pv 1) aD)))
   (aG (wG PassesOwn.never (bD aGY (pv 3) aC (bM _)) (aL (aJ6 (i:=2) (j:=3) rfl sc_law_lowest.nd rfl rfl (by decide) rfl rfl (aA (pv 3) (aA (bU qI (pv 2) (pv 3)) aD)) rfl)))
   (aG (cW (bD sE (pv 1) aC (bM _)) (aL (aZ (i:=2) sc_law_lowest.nd rfl (by walk_at "lc") (bU a0C aC (pv 2)))) bR)
   (aL (bF (cU (aA (bU vV (pv 0) (pv 2)) (aA (bU vV (pv 1) (pv 2)) aD))))))))),
  ((aQ (b7 (aX (a4L aB)))
   (aQ (b7 (aX (a4L aB)))
   (aQ (a2K (bH (aKT aB aF)) (aJD (aO aB (aO (aB0 aB aB) bO))))
   (aQ (dC (bH (uM aB aF)) (b7 (aX (a2W aF aB))) eF)
   (bK (aX (cT (aO (a1V aB aB) (aO (a1V aB aB) bO))))))))):VS P0 _ pK)⟩
abbrev pQ:Stmt:=top 35
theorem a6U:FnScope ["_law_a", "_law_b", "_law_sign"] ["_law_a", "_law_b", "_law_sign"] (aR pQ):=scM
theorem a66  (F:Fun K "_law_plus" "_law_plus" pQ f fd)(B:Bl K mg)(Kt:Kit K)
  (c_law_lowest:iZ P0 P w K mg base) :
  FnOk P w K mg base CX0 2 f fd ["_law_a", "_law_b", "_law_sign"] (spM P0 3 cQ):=
 F.okV a6U rfl rfl fun cdv A outer s H E hr=>
 have hu:=hr.units
 ⟨_,(aL (bF (aJ c_law_lowest hr rfl (aA (bU gD (bU cR (aU aK (pv 0) aC (fun _ _=>rfl)) (aU aK (pv 1) aC (fun _ _=>rfl))) (bU cR (bU cR (pv 2) (aU aK (pv 1) aC (fun _ _=>rfl))) (aU aK (pv 0) aC (fun _ _=>rfl)))) (aA (bU cR (aU aK (pv 0) aC (fun _ _=>rfl)) (aU aK (pv 1) aC (fun _ _=>rfl))) aD))))),
  ((bK (aM (aH (nJ (eX (aW aB aF) (aW aB aF)) (eX (eX aB (aW aB aF)) (aW aB aF))) (aH (eX (aW aB aF) (aW aB aF)) aV)))):VS P0 _ uE)⟩
abbrev mJ:Stmt:=top 36
theorem a3J:FnScope ["_law_a", "_law_b"] ["_law_a", "_law_b"] (aR mJ):=scM
theorem a3U  (F:Fun K "_law_times" "_law_times" mJ f fd)(B:Bl K mg)(Kt:Kit K)
  (c_law_lowest:iZ P0 P w K mg base) :
  FnOk P w K mg base CX0 2 f fd ["_law_a", "_law_b"] (spM P0 2 eQ):=
 F.okV a3J rfl rfl fun cdv A outer s H E hr=>
 have hu:=hr.units
 ⟨_,(aL (bF (aJ c_law_lowest hr rfl (aA (bU cR (aU aK (pv 0) aC (fun _ _=>rfl)) (aU aK (pv 1) aC (fun _ _=>rfl))) (aA (bU cR (aU aK (pv 0) aC (fun _ _=>rfl)) (aU aK (pv 1) aC (fun _ _=>rfl))) aD))))),
  ((bK (aM (aH (eX (aW aB aF) (aW aB aF)) (aH (eX (aW aB aF) (aW aB aF)) aV)))):VS P0 _ rO)⟩
abbrev pL:Stmt:=top 37
theorem a7E:FnScope ["_law_a", "_law_b"] ["_law_a", "_law_b"] (aR pL):=scM
theorem a7F  (F:Fun K "_law_less" "_law_less" pL f fd)(B:Bl K mg)(Kt:Kit K) :
  FnOk P w K mg base CX0 1 f fd ["_law_a", "_law_b"] (spM P0 2 cD):=
 F.okV a7E rfl rfl fun cdv A outer s H E hr=>
 have hu:=hr.units
 ⟨_,(aL (bF (kW sE (bU cR (aU aK (pv 0) aC (fun _ _=>rfl)) (aU aK (pv 1) aC (fun _ _=>rfl))) (bU cR (aU aK (pv 1) aC (fun _ _=>rfl)) (aU aK (pv 0) aC (fun _ _=>rfl))) (bM _)))),
  ((bK (aX (uM (eX (aW aB aF) (aW aB aF)) (eX (aW aB aF) (aW aB aF))))):VS P0 _ uK)⟩
abbrev pZ:Stmt:=top 38
theorem a7I:FnScope ["_law_line", "_law_time"] ["_law_line", "_law_time"] (aR pZ):=scM
theorem a5X  (F:Fun K "_law_spot" "_law_spot" pZ f fd)(B:Bl K mg)(Kt:Kit K)
  (c_law_plus:nG P0 P w K mg base)
  (c_law_times:vA P0 P w K mg base) :
  FnOk P w K mg base CX0 3 f fd ["_law_line", "_law_time"] (spM P0 2 dZ):=
 F.okV a7I rfl rfl fun cdv A outer s H E hr=>
 have hu:=hr.units
 ⟨_,(aL (bF (aJ c_law_plus hr rfl (aA (aU aK (pv 0) aC (fun _ _=>rfl)) (aA (aJ c_law_times hr rfl (aA (aU aK (pv 0) aC (fun _ _=>rfl)) (aA (pv 1) aD))) (aA aC aD)))))),
  ((bK (aM (aH (aW aB aF) (aH (aP (aM (aH (aW aB aF) (aH aB aV)))) (aH aF aV))))):VS P0 _ uA)⟩
abbrev j7:Stmt:=top 39
theorem zJ:FnScope ["_law_time", "_law_place_here", "_law_slope"] ["_law_time", "_law_place_here", "_law_slope"] (aR j7):=scM
theorem zL  (F:Fun K "_law_through" "_law_through" j7 f fd)(B:Bl K mg)(Kt:Kit K)
  (c_law_plus:nG P0 P w K mg base)
  (c_law_times:vA P0 P w K mg base) :
  FnOk P w K mg base CX0 3 f fd ["_law_time", "_law_place_here", "_law_slope"] (spM P0 3 f9):=
 F.okV zJ rfl rfl fun cdv A outer s H E hr=>
 have hu:=hr.units
 ⟨_,(aL (bF (cU (aA (aJ c_law_plus hr rfl (aA (pv 1) (aA (aJ c_law_times hr rfl (aA (pv 2) (aA (pv 0) aD))) (aA (a7H wL aC) aD)))) (aA (pv 2) aD))))),
  ((bK (aX (cT (aO (aP (aM (aH aB (aH (aP (aM (aH aB (aH aB aV)))) (aH (xO aF) aV))))) (aO aB bO))))):VS P0 _ nA)⟩
abbrev mX:Stmt:=top 40
theorem sc_law_ahead:FnScope ["_law_lines", "_law_one", "_law_other", "_law_time", "_law_here", "_law_there"] ["_law_lines", "_law_one", "_law_other", "_law_time"] (aR mX):=scM
theorem a3D  (F:Fun K "_law_ahead" "_law_ahead" mX f fd)(B:Bl K mg)(Kt:Kit K)
  (c_law_less:mW P0 P w K mg base)
  (c_law_spot:rC P0 P w K mg base) :
  FnOk P w K mg base CX0 4 f fd ["_law_lines", "_law_one", "_law_other", "_law_time"] (spM P0 4 gW):=
 F.okV sc_law_ahead rfl rfl fun cdv A outer s H E hr=>
 have hu:=hr.units
 ⟨_,(aG (aZ (i:=4) sc_law_ahead.nd rfl (by walk_at "lc") (aJ c_law_spot hr rfl (aA (fO (hu1 hu) (pv 0) (pv 1) (fun _ _=>rfl)) (aA (pv 3) aD))))
   (aG (aZ (i:=5) sc_law_ahead.nd rfl (by walk_at "lc") (aJ c_law_spot hr rfl (aA (fO (hu1 hu) (pv 0) (pv 2) (fun _ _=>rfl)) (aA (pv 3) aD))))
   (aG (cW (bD (lX hu) (pv 4) (pv 5) (bM _)) (aL (bF (aJ c_law_less hr rfl (aA (pv 5) (aA (pv 4) aD))))) bR)
   (aG (cW (bD (lX hu) (aU aK (fO (hu1 hu) (pv 0) (pv 1) (fun _ _=>rfl)) aC (fun _ _=>rfl)) (aU aK (fO (hu1 hu) (pv 0) (pv 2) (fun _ _=>rfl)) aC (fun _ _=>rfl)) (bM _)) (aL (bF (aJ c_law_less hr rfl (aA (aU aK (fO (hu1 hu) (pv 0) (pv 2) (fun _ _=>rfl)) aC (fun _ _=>rfl)) (aA (aU aK (fO (hu1 hu) (pv 0) (pv 1) (fun _ _=>rfl)) aC (fun _ _=>rfl)) aD))))) bR)
   (aL (bF (kW sE (pv 1) (pv 2) (bM _)))))))),
  ((aQ (b7 (aX (aP (aM (aH (iV aB aB) (aH aB aV))))))
   (aQ (b7 (aX (aP (aM (aH (iV aB aB) (aH aB aV))))))
   (aQ (dC (bH (uU aB aB)) (bK (aM (aH aB (aH aB aV)))) eF)
   (aQ (dC (bH (uU (aW (iV aB aB) aF) (aW (iV aB aB) aF))) (bK (aM (aH (aW (iV aB aB) aF) (aH (aW (iV aB aB) aF) aV)))) eF)
   (bK (aX (uM aB aB))))))):VS P0 _ rE)⟩
abbrev jY:Stmt:=top 41
theorem sc_law_change:FnScope ["_law_lines", "_law_one", "_law_other", "_law_time", "_law_steep", "_law_apart", "_law_met"] ["_law_lines", "_law_one", "_law_other", "_law_time"] (aR jY):=scM
theorem a1R  (F:Fun K "_law_change" "_law_change" jY f fd)(B:Bl K mg)(Kt:Kit K)
  (c_law_less:mW P0 P w K mg base)
  (c_law_lowest:iZ P0 P w K mg base)
  (c_law_plus:nG P0 P w K mg base) :
  FnOk P w K mg base CX0 3 f fd ["_law_lines", "_law_one", "_law_other", "_law_time"] (spM P0 4 dH):=
 F.okV sc_law_change rfl rfl fun cdv A outer s H E hr=>
 have hu:=hr.units
 ⟨_,(aG (aZ (i:=4) sc_law_change.nd rfl (by walk_at "lc") (aJ c_law_plus hr rfl (aA (aU aK (fO (hu1 hu) (pv 0) (pv 1) (fun _ _=>rfl)) aC (fun _ _=>rfl)) (aA (aU aK (fO (hu1 hu) (pv 0) (pv 2) (fun _ _=>rfl)) aC (fun _ _=>rfl)) (aA (a7H wL aC) aD)))))
   (aG (cW (bD (fH hu) (aU aK (pv 4) aC (fun _ _=>rfl)) aC (bM _)) (aL (bF eV)) bR)
   (aG (aZ (i:=5) sc_law_change.nd rfl (by walk_at "lc") (aJ c_law_plus hr rfl (aA (aU aK (fO (hu1 hu) (pv 0) (pv 2) (fun _ _=>rfl)) aC (fun _ _=>rfl)) (aA (aU aK (fO (hu1 hu) (pv 0) (pv 1) (fun _ _=>rfl)) aC (fun _ _=>rfl)) (aA (a7H wL aC) aD)))))
   (aG (aZ (i:=6) sc_law_change.nd rfl (by walk_at "lc") (aJ c_law_lowest hr rfl (aA (bU cR (aU aK (pv 5) aC (fun _ _=>rfl)) (aU aK (pv 4) aC (fun _ _=>rfl))) (aA (bU cR (aU aK (pv 5) aC (fun _ _=>rfl)) (aU aK (pv 4) aC (fun _ _=>rfl))) aD))))
   (aL (bF (aU aK (dR (aA eV (aA (pv 6) aD))) (jP tQ rfl B.int_ boot_int (aA (aJ c_law_less hr rfl (aA (pv 3) (aA (pv 6) aD))) aD)) (fun _ _=>rfl)))))))),
  ((aQ (b7 (aX (aP (aM (aH (aW (iV aB aB) aF) (aH (aW (iV aB aB) aF) (aH (xO aF) aV)))))))
   (aQ (dC (bH (kY (aW aB aF) aF)) (bK (aX iY)) eF)
   (aQ (b7 (aX (aP (aM (aH (aW (iV aB aB) aF) (aH (aW (iV aB aB) aF) (aH (xO aF) aV)))))))
   (aQ (b7 (aX (aP (aM (aH (eX (aW aB aF) (aW aB aF)) (aH (eX (aW aB aF) (aW aB aF)) aV))))))
   (bK (aX (aW (aP (eG (aO iY (aO aB bO)))) (a1C (aP (aM (aH aB (aH aB aV)))))))))))):VS P0 _ oR)⟩
abbrev jU:Stmt:=top 42
theorem a2N:FnScope ["_law_pen", "_law_kind"] ["_law_pen", "_law_kind"] (aR jU):=scM
theorem a2Q  (F:Fun K "_law_number" "_law_number" jU f fd)(B:Bl K mg)(Kt:Kit K)
  (c_law_lowest:iZ P0 P w K mg base)
  (c_law_take:mH P0 P w K mg base) :
  FnOk P w K mg base CX0 2 f fd ["_law_pen", "_law_kind"] (spM P0 2 cN):=
 F.okV a2N rfl rfl fun cdv A outer s H E hr=>
 have hu:=hr.units
 ⟨_,(aG (cW (bD (fH hu) (pv 1) aC (bM _)) (aL (bF (cU (aA (bU a0C (aJ c_law_take hr rfl (aA (pv 0) (aA aC aD))) aC) (aA aC aD))))) bR)
   (aG (cW (bD (fH hu) (pv 1) aC (bM _)) (aL (bF (aJ c_law_lowest hr rfl (aA (bU a0C (aJ c_law_take hr rfl (aA (pv 0) (aA aC aD))) aC) (aA (bU gD aC (aJ c_law_take hr rfl (aA (pv 0) (aA aC aD)))) aD))))) bR)
   (aL (bF (aJ c_law_lowest hr rfl (aA (bU cR (aJ c_law_take hr rfl (aA (pv 0) (aA (a1D (v:=1000000000) (by decide) ⟨by decide,by decide,by decide⟩) aD))) (aU aK (dR (aA aC (aA (a7H wL aC) aD))) (aJ c_law_take hr rfl (aA (pv 0) (aA aC aD))) (fun _ _=>rfl))) (aA (bU gD aC (aJ c_law_take hr rfl (aA (pv 0) (aA aC aD)))) aD))))))),
  ((aQ (dC (bH (kY aB aF)) (bK (aX (cT (aO (a2W (aP (aM (cY (aH aF aV)))) aF) (aO aF bO))))) eF)
   (aQ (dC (bH (kY aB aF)) (bK (aM (aH (a2W (aP (aM (cY (aH aF aV)))) aF) (aH (nJ aF (aP (aM (cY (aH aF aV))))) aV)))) eF)
   (bK (aM (aH (eX (aP (aM (cY (aH aF aV)))) (aW (aP (eG (aO aF (aO (xO aF) bO)))) (aP (aM (cY (aH aF aV)))))) (aH (nJ aF (aP (aM (cY (aH aF aV))))) aV)))))):VS P0 _ pD)⟩
abbrev iI:Stmt:=top 43
theorem yI:FnScope ["_law_number_here"] ["_law_number_here"] (aR iI):=scM
theorem wV  (F:Fun K "_law_is_small" "_law_is_small" iI f fd)(B:Bl K mg)(Kt:Kit K) :
  FnOk P w K mg base CX0 1 f fd ["_law_number_here"] (spM P0 1 cF):=
 F.okV yI rfl rfl fun cdv A outer s H E hr=>
 have hu:=hr.units
 ⟨_,(aL (bF (aB5 (kW sE (bN sJ rfl B.abs_ boot_abs (aA (aU aK (pv 0) aC (fun _ _=>rfl)) aD)) (a1D (v:=1000000000) (by decide) ⟨by decide,by decide,by decide⟩) (bM _)) (aBB (kW sE (aU aK (pv 0) aC (fun _ _=>rfl)) aC (bM _)))))),
  ((bK (aX (aBS (uM (a4L (aW aB aF)) aF) (uM (aW aB aF) aF)))):VS P0 _ lF)⟩
abbrev mD:Stmt:=top 44
theorem sc_law_later:FnScope ["_law_pen", "_law_known", "_law_time", "_law_way", "_law_running", "_law_one", "_law_other", "_law_met", "_law_more"] ["_law_pen", "_law_known", "_law_time"] (aR mD):=scM
theorem a4T  (F:Fun K "_law_later" "_law_later" mD f fd)(B:Bl K mg)(Kt:Kit K)
  (c_law_is_small:oW P0 P w K mg base)
  (c_law_plus:nG P0 P w K mg base)
  (c_law_take:mH P0 P w K mg base)
  (c_law_change:tM P0 P w K mg base) :
  FnOk P w K mg base CX0 4 f fd ["_law_pen", "_law_known", "_law_time"] (spM P0 3 gM):=
 F.okV sc_law_later rfl rfl fun cdv A outer s H E hr=>
 have hu:=hr.units
 ⟨_,(aG (aZ (i:=3) sc_law_later.nd rfl (by walk_at "lc") (aJ c_law_take hr rfl (aA (pv 0) (aA aC aD))))
   (aG (cW (bD sE (pv 3) aC (bM _)) (aL (bF (pv 2))) bR)
   (aG (aZ (i:=4) sc_law_later.nd rfl (by walk_at "lc") (bN (lU rfl) rfl B.sorted_ boot_sorted (aA (pv 1) aD)))
   (aG (cW (PW.pt (yH (bD (fH hu) (pv 3) aC (bM _)) (uI (bD aGY (bN bL rfl B.len_ boot_len (aA (pv 4) aD)) aC (bM _))))) (aG (aZ (i:=5) sc_law_later.nd rfl (by walk_at "lc") (aJ c_law_take hr rfl (aA (pv 0) (aA (bN bL rfl B.len_ boot_len (aA (pv 4) aD)) aD))))
   (aG (aZ (i:=6) sc_law_later.nd rfl (by walk_at "lc") (bU qI (bU gD (bU gD (pv 5) aC) (aJ c_law_take hr rfl (aA (pv 0) (aA (bU a0C (bN bL rfl B.len_ boot_len (aA (pv 4) aD)) aC) aD)))) (bN bL rfl B.len_ boot_len (aA (pv 4) aD))))
   (aG (aZ (i:=7) sc_law_later.nd rfl (by walk_at "lc") (aJ c_law_change hr rfl (aA (pv 1) (aA (aU aK (pv 4) (pv 5) (fun _ _=>rfl)) (aA (aU aK (pv 4) (pv 6) (fun _ _=>rfl)) (aA (pv 2) aD))))))
   (aL (cW (PW.pt (yH (bD a6D (pv 7) eV (bM _)) (uI (gF (aJ c_law_is_small hr rfl (aA (pv 7) aD)))))) (aL (bF (pv 7))) bR))))) bR)
   (aG (aZ (i:=8) sc_law_later.nd rfl (by walk_at "lc") (aJ c_law_plus hr rfl (aA (pv 2) (aA (aU aK (dR (aA (cU (aA aC (aA aC aD))) (aA (cU (aA aC (aA aC aD))) (aA (cU (aA (aJ c_law_take hr rfl (aA (pv 0) (aA aC aD))) (aA aC aD))) (aA (cU (aA aC (aA aC aD))) aD))))) (aJ c_law_take hr rfl (aA (pv 0) (aA aC aD))) (fun _ _=>rfl)) (aA aC aD)))))
   (aL (bF (aU aK (dR (aA (pv 2) (aA (pv 8) aD))) (jP tQ rfl B.int_ boot_int (aA (aJ c_law_is_small hr rfl (aA (pv 8) aD)) aD)) (fun _ _=>rfl))))))))),
  ((aQ (b7 (aX (aP (aM (cY (aH aF aV))))))
   (aQ (dC (bH (uM aB aF)) (bK (aX aB)) eF)
   (aQ (b7 (aX (aP (tR aB))))
   (aQ (dC (rD (bH (kY aB aF)) (bH (aKT (iM aB) aF))) (aQ (b7 (aX (aP (aM (cY (aH (iM aB) aV))))))
   (aQ (b7 (aX (aB0 (nJ (nJ aB aF) (aP (aM (cY (aH (a2W (iM aB) aF) aV))))) (iM aB))))
   (aQ (b7 (aX (aP (aM (aH aB (aH (aW aB aB) (aH (aW aB aB) (aH aB aV))))))))
   (dC (rD (bH (a7G aB)) (o5 (aP (aM (aH aB aV))))) (bK (aX aB)) eF)))) eF)
   (aQ (b7 (aX (aP (aM (aH aB (aH (aW (aP (eG (aO (cT (aO aF (aO aF bO))) (aO (cT (aO aF (aO aF bO))) (aO (cT (aO (aP (aM (cY (aH aF aV)))) (aO aF bO))) (aO (cT (aO aF (aO aF bO))) bO)))))) (aP (aM (cY (aH aF aV))))) (aH aF aV)))))))
   (bK (aX (aW (aP (eG (aO aB (aO aB bO)))) (a1C (aP (aM (aH aB aV)))))))))))):VS P0 _ rW)⟩
abbrev nD:Stmt:=top 45
theorem sc_law_place:FnScope ["_law_pen", "_law_known", "_law_time", "_law_kind", "_law_running", "_law_place_here"] ["_law_pen", "_law_known", "_law_time", "_law_kind"] (aR nD):=scM
theorem a5B  (F:Fun K "_law_place" "_law_place" nD f fd)(B:Bl K mg)(Kt:Kit K)
  (c_law_number:sO P0 P w K mg base)
  (c_law_take:mH P0 P w K mg base)
  (c_law_is_small:oW P0 P w K mg base)
  (c_law_spot:rC P0 P w K mg base) :
  FnOk P w K mg base CX0 4 f fd ["_law_pen", "_law_known", "_law_time", "_law_kind"] (spM P0 4 gK):=
 F.okV sc_law_place rfl rfl fun cdv A outer s H E hr=>
 have hu:=hr.units
 ⟨_,(aG (cW (PW.pt (yH (bD (aJM hu) (pv 1) aD0 (bM _)) (uI (bD (fH hu) (aJ c_law_take hr rfl (aA (pv 0) (aA aC aD))) aC (bM _))))) (aG (aZ (i:=4) sc_law_place.nd rfl (by walk_at "lc") (bN (lU rfl) rfl B.sorted_ boot_sorted (aA (pv 1) aD)))
   (aG (aZ (i:=5) sc_law_place.nd rfl (by walk_at "lc") (aJ c_law_spot hr rfl (aA (fO (hu1 hu) (pv 1) (aU aK (pv 4) (aJ c_law_take hr rfl (aA (pv 0) (aA (bN bL rfl B.len_ boot_len (aA (pv 4) aD)) aD))) (fun _ _=>rfl)) (fun _ _=>rfl)) (aA (pv 2) aD))))
   (aL (cW (gF (aJ c_law_is_small hr rfl (aA (pv 5) aD))) (aL (bF (pv 5))) bR)))) bR)
   (aL (bF (aJ c_law_number hr rfl (aA (pv 0) (aA (pv 3) aD)))))),
  ((aQ (dC (rD (bH (aJ1 aB aCW)) (bH (kY (aP (aM (cY (aH aF aV)))) aF))) (aQ (b7 (aX (aP (tR aB))))
   (aQ (b7 (aX (aP (aM (aH (iV aB (aW aB (aP (aM (cY (aH (iM aB) aV)))))) (aH aB aV))))))
   (dC (o5 (aP (aM (aH aB aV)))) (bK (aX aB)) eF))) eF)
   (bK (aM (cY (aH aB aV))))):VS P0 _ rH)⟩
abbrev uL:Stmt:=top 46
theorem sc_law_done:FnScope ["_law_known", "_law_deed", "_law_joined", "_law_found"] ["_law_known", "_law_deed", "_law_joined"] (aR uL):=scM
theorem a6G  (hn_dict:mg "dict" = none)(F:Fun K "_law_done" "_law_done" uL f fd)(B:Bl K mg)(Kt:Kit K)
  (c_law_through:zO P0 P w K mg base)
  (c_law_spot:rC P0 P w K mg base) :
  FnOk P w K mg base CX0 4 f fd ["_law_known", "_law_deed", "_law_joined"] (spM P0 3 fP):=
 F.okV sc_law_done rfl rfl fun cdv A outer s H E hr=>
 have hu:=hr.units
 ⟨_,(aG (aZ (i:=3) sc_law_done.nd rfl (by walk_at "lc") (jP a6R rfl hn_dict PyProof.Rows.Boot.«dict» (aA (pv 0) aD)))
   (aG (cW (bD (fH hu) (aU aK (pv 1) aC (fun _ _=>rfl)) nU (bM _)) (aL (a2B (hu1 hu) (pv 3) (pv 2) (aJ c_law_through hr rfl (aA (aU aK (pv 1) aC (fun _ _=>rfl)) (aA (aU aK (pv 1) aC (fun _ _=>rfl)) (aA (aU aK (pv 1) aC (fun _ _=>rfl)) aD)))) rfl)) (aL (cW (bD (fH hu) (aU aK (pv 1) aC (fun _ _=>rfl)) nU (bM _)) (aL (gU (a80 (pv 3) (aU aK (pv 1) aC (fun _ _=>rfl)) ⟨rfl,rfl,rfl,rfl⟩))) (aL (a2B (hu1 hu) (pv 3) (aU aK (pv 1) aC (fun _ _=>rfl)) (aJ c_law_through hr rfl (aA (aU aK (pv 1) aC (fun _ _=>rfl)) (aA (aJ c_law_spot hr rfl (aA (fO (hu1 hu) (pv 3) (aU aK (pv 1) aC (fun _ _=>rfl)) (fun _ _=>rfl)) (aA (aU aK (pv 1) aC (fun _ _=>rfl)) aD))) (aA (aU aK (pv 1) aC (fun _ _=>rfl)) aD)))) rfl)))))
   (aL (bF (pv 3))))),
  ((aQ (b7 (aA9 aB))
   (aQ (dC (bH (kY (aW aB aF) nW)) (a7Q (aP (aM (aH (aW aB aF) (aH (aW aB aF) (aH (aW aB aF) aV))))) aB) (dC (bH (kY (aW aB aF) nW)) (a71 (aFH (aW aB aF))) (a7Q (aP (aM (aH (aW aB aF) (aH (aP (aM (aH (aFM (aW aB aF)) (aH (aW aB aF) aV)))) (aH (aW aB aF) aV))))) (aW aB aF))))
   (bK lC))):VS P0 _ uH)⟩
abbrev tE:Stmt:=top 47
theorem sc_law_log:FnScope ["_law_pen", "_law_most", "_law_room", "_law_kind", "_law_log_here", "_law_known", "_law_joined", "_law_time", "_law_k", "_law_way", "_law_running", "_law_deed", "_law_slope"] ["_law_pen", "_law_most", "_law_room"] (aR tE):=scM
theorem a9M  (F:Fun K "_law_log" "_law_log" tE f fd)(B:Bl K mg)(Kt:Kit K)
  (c_law_take:mH P0 P w K mg base)
  (c_law_done:yU P0 P w K mg base)
  (c_law_number:sO P0 P w K mg base)
  (c_law_place:a4J P0 P w K mg base)
  (c_law_later:a2X P0 P w K mg base) :
  FnOk P w K mg base CX0 5 f fd ["_law_pen", "_law_most", "_law_room"] (spM P0 3 p6):=
 F.okV sc_law_log rfl rfl fun cdv A outer s H E hr=>
 have hu:=hr.units
 ⟨_,(aG (aZ (i:=3) sc_law_log.nd rfl (by walk_at "lc") (aU aK (dR (aA aC (aA aC (aA aC (aA aC (aA aC (aA aC aD))))))) (aJ c_law_take hr rfl (aA (pv 0) (aA aC aD))) (fun _ _=>rfl)))
   (aG (aZ (i:=4) sc_law_log.nd rfl (by walk_at "lc") (dR aD))
   (aG (aZ (i:=5) sc_law_log.nd rfl (by walk_at "lc") aD0)
   (aG (aZ (i:=6) sc_law_log.nd rfl (by walk_at "lc") aC)
   (aG (aZ (i:=7) sc_law_log.nd rfl (by walk_at "lc") (aJ c_law_number hr rfl (aA (pv 0) (aA (aJ c_law_take hr rfl (aA (pv 0) (aA aC aD))) aD))))
   (aG (jH PassesOwn.never rfl (yO rfl B.range_ (aA (aJ c_law_take hr rfl (aA (pv 0) (aA (bU gD (pv 1) aC) aD))) aD)) (dB (i:=8) sc_law_log.nd rfl (by walk_at "lc")) (aG (aZ (i:=7) sc_law_log.nd rfl (by walk_at "lc") (aJ c_law_later hr rfl (aA (pv 0) (aA (pv 5) (aA (pv 7) aD)))))
   (aG (aZ (i:=9) sc_law_log.nd rfl (by walk_at "lc") (aJ c_law_take hr rfl (aA (pv 0) (aA aC aD))))
   (aG (aZ (i:=10) sc_law_log.nd rfl (by walk_at "lc") (bN (lU rfl) rfl B.sorted_ boot_sorted (aA (pv 5) aD)))
   (aG (cW (PW.pt (zA (bD (fH hu) (pv 10) (dR aD) (bM _)) (v6 (PW.pt (yH (bD sE (pv 9) aC (bM _)) (uI (bD sE (bN bL rfl B.len_ boot_len (aA (pv 10) aD)) (pv 2) (bM _)))))))) (aL (aZ (i:=11) sc_law_log.nd rfl (by walk_at "lc") (cU (aA nU (aA (pv 7) (aA (aJ c_law_place hr rfl (aA (pv 0) (aA (pv 5) (aA (pv 7) (aA (pv 3) aD))))) (aA (aJ c_law_number hr rfl (aA (pv 0) (aA (pv 3) aD))) aD))))))) (aL (cW (bD (fH hu) (pv 9) aC (bM _)) (aL (aZ (i:=11) sc_law_log.nd rfl (by walk_at "lc") (cU (aA nU (aA (pv 7) (aA (aU aK (pv 10) (aJ c_law_take hr rfl (aA (pv 0) (aA (bN bL rfl B.len_ boot_len (aA (pv 10) aD)) aD))) (fun _ _=>rfl)) aD)))))) (aG (aZ (i:=12) sc_law_log.nd rfl (by walk_at "lc") (aJ c_law_number hr rfl (aA (pv 0) (aA (pv 3) aD))))
   (aG (cW (bD (fH hu) (aJ c_law_take hr rfl (aA (pv 0) (aA aC aD))) aC (bM _)) (aL (aZ (i:=12) sc_law_log.nd rfl (by walk_at "lc") (aU aK (fO (hu1 hu) (pv 5) (aU aK (pv 10) (aJ c_law_take hr rfl (aA (pv 0) (aA (bN bL rfl B.len_ boot_len (aA (pv 10) aD)) aD))) (fun _ _=>rfl)) (fun _ _=>rfl)) aC (fun _ _=>rfl)))) bR)
   (aL (aZ (i:=11) sc_law_log.nd rfl (by walk_at "lc") (cU (aA nU (aA (pv 7) (aA (aU aK (pv 10) (aJ c_law_take hr rfl (aA (pv 0) (aA (bN bL rfl B.len_ boot_len (aA (pv 10) aD)) aD))) (fun _ _=>rfl)) (aA (pv 12) aD))))))))))))
   (aG (aZ (i:=5) sc_law_log.nd rfl (by walk_at "lc") (aJ c_law_done hr rfl (aA (pv 5) (aA (pv 11) (aA (pv 6) aD)))))
   (aG (aZ (i:=6) sc_law_log.nd rfl (by walk_at "lc") (bU gD (pv 6) (jP tQ rfl B.int_ boot_int (aA (kW (fH hu) (aU aK (pv 11) aC (fun _ _=>rfl)) nU (bM _)) aD))))
   (aL (gU (a1A PySem.F.plainAttrs_list PySem.F.slot_list_append PySem.F.type_list_append jJ (pv 4) (aA (pv 11) aD)))))))))))
   (aL (bF (pv 4))))))))),
  ((aQ (b7 (aX (aW (aP (eG (aO aF (aO aF (aO aF (aO aF (aO aF (aO aF bO)))))))) (aP (aM (cY (aH aF aV)))))))
   (aQ (b7 (eG bO))
   (aQ (b7 (aX aCW))
   (aQ (b7 (aX aF))
   (aQ (b7 (aX (aP (aM (cY (aH (aP (aM (cY (aH aF aV)))) aV))))))
   (aQ (jR (a6B (aO (aP (aM (cY (aH (nJ aB aF) aV)))) bO)) cZ (aQ (b7 (aX (aP (aM (cY (aH aB (aH aB aV)))))))
   (aQ (b7 (aX (aP (aM (cY (aH aF aV))))))
   (aQ (b7 (aX (aP (tR aB))))
   (aQ (dC (qH (bH (kY aB (aP (eG bO)))) (rD (bH (uM aB aF)) (bH (uM (iM aB) aB)))) (b7 (aX (cT (aO nW (aO aB (aO (aP (aM (cY (aH aB (aH aB (aH aB aV)))))) (aO (aP (aM (cY (aH aB aV)))) bO))))))) (dC (bH (kY aB aF)) (b7 (aX (cT (aO nW (aO aB (aO (aW aB (aP (aM (cY (aH (iM aB) aV))))) bO)))))) (aQ (b7 (aX (aP (aM (cY (aH aB aV))))))
   (aQ (dC (bH (kY (aP (aM (cY (aH aF aV)))) aF)) (b7 (aX (aW (iV aB (aW aB (aP (aM (cY (aH (iM aB) aV)))))) aF))) eF)
   (b7 (aX (cT (aO nW (aO aB (aO (aW aB (aP (aM (cY (aH (iM aB) aV))))) (aO aB bO)))))))))))
   (aQ (b7 (aX (aP (aM (aH aB (aH aB (aH aB aV)))))))
   (aQ (b7 (aX (nJ aB (a1C (kY (aW aB aF) nW)))))
   (jE aB))))))))
   (bK lC))))))):VS P0 _ xV)⟩
abbrev pM:Stmt:=top 48
theorem sc_law_then:FnScope ["_law_log_here", "_law_time", "_law_known", "_law_joined", "_law_deed"] ["_law_log_here", "_law_time"] (aR pM):=scM
theorem a5T  (F:Fun K "_law_then" "_law_then" pM f fd)(B:Bl K mg)(Kt:Kit K)
  (c_law_done:yU P0 P w K mg base)
  (c_law_less:mW P0 P w K mg base) :
  FnOk P w K mg base CX0 5 f fd ["_law_log_here", "_law_time"] (spM P0 2 fQ):=
 F.okV sc_law_then rfl rfl fun cdv A outer s H E hr=>
 have hu:=hr.units
 ⟨_,(aG (aZ (i:=2) sc_law_then.nd rfl (by walk_at "lc") a8I)
   (aG (aZ (i:=3) sc_law_then.nd rfl (by walk_at "lc") aC)
   (aG (jH PassesOwn.never rfl (jD (pv 0)) (dB (i:=4) sc_law_then.nd rfl (by walk_at "lc")) (aG (cW (gF (aJ c_law_less hr rfl (aA (pv 1) (aA (aU aK (pv 4) aC (fun _ _=>rfl)) aD)))) (aL (bF (pv 2))) bR)
   (aG (aZ (i:=2) sc_law_then.nd rfl (by walk_at "lc") (aJ c_law_done hr rfl (aA (pv 2) (aA (pv 4) (aA (pv 3) aD)))))
   (aL (aZ (i:=3) sc_law_then.nd rfl (by walk_at "lc") (bU gD (pv 3) (jP tQ rfl B.int_ boot_int (aA (kW (fH hu) (aU aK (pv 4) aC (fun _ _=>rfl)) nU (bM _)) aD))))))))
   (aL (bF (pv 2)))))),
  ((aQ (b7 aDX)
   (aQ (b7 (aX aF))
   (aQ (jR (jN aB) cZ (aQ (dC (o5 (aP (aM (aH aB (aH (aW aB aF) aV))))) (bK lC) eF)
   (aQ (b7 (aED (aM (aH aB (aH aB (aH aB aV))))))
   (b7 (aX (nJ aB (a1C (kY (aW aB aF) nW))))))))
   (bK lC)))):VS P0 _ u9)⟩
abbrev jM:Stmt:=top 49
theorem sc_law_order:FnScope ["_law_log_here", "_law_time", "_law_known", "_law_found", "_law_runner", "_law_other"] ["_law_log_here", "_law_time"] (aR jM):=scM
theorem a3T  (F:Fun K "_law_order" "_law_order" jM f fd)(B:Bl K mg)(Kt:Kit K)
  (c_law_ahead:a5E P0 P w K mg base)
  (c_law_then:wY P0 P w K mg base) :
  FnOk P w K mg base CX0 6 f fd ["_law_log_here", "_law_time"] (spM P0 2 gQ):=
 F.okV sc_law_order rfl rfl fun cdv A outer s H E hr=>
 have hu:=hr.units
 ⟨_,(aG (aZ (i:=2) sc_law_order.nd rfl (by walk_at "lc") (aJ c_law_then hr rfl (aA (pv 0) (aA (pv 1) aD))))
   (aG (aZ (i:=3) sc_law_order.nd rfl (by walk_at "lc") (dR aD))
   (aG (jH PassesOwn.never rfl (jD (bN (lU rfl) rfl B.sorted_ boot_sorted (aA (pv 2) aD))) (dB (i:=4) sc_law_order.nd rfl (by walk_at "lc")) (aL (gU (a1A PySem.F.plainAttrs_list PySem.F.slot_list_insert PySem.F.type_list_insert a5I (pv 3) (aA (bN bL rfl B.len_ boot_len (aA (a0U (N:=["_law_other", "_law_known", "_law_runner", "_law_time"]) (nt:=1) (fv:=[2,4,1]) rfl (aBV (osc:=aR jM) (ON:=["_law_log_here", "_law_time", "_law_known", "_law_found", "_law_runner", "_law_other"]) (by decide +kernel)) (jD (pv 3)) (fun _ _ _ _=>(dB (i:=0) (show(["_law_other", "_law_known", "_law_runner", "_law_time"]:List Str).Nodup by decide +kernel) rfl (by walk_at "lc"))) (fun _ _ _ _=>(aBZ (gF (aJ c_law_ahead hr rfl (aA (pv 1) (aA (pv 0) (aA (pv 2) (aA (pv 3) aD)))))))) (fun _ _ _ _=>(pv 0))) aD)) (aA (pv 4) aD))))))
   (aL (bF (pv 3)))))),
  ((aQ (b7 (aX (aP (aM (aH aB (aH aB aV))))))
   (aQ (b7 (eG bO))
   (aQ (jR (jN (aP (tR aB))) cZ (a5L (aBJ (iM (aP (a5R (jN aB) cZ (o5 (aP (aM (aH aB (aH aB (aH aB (aH aB aV))))))) aB)))) aB))
   (bK lC)))):VS P0 _ rF)⟩
abbrev gA:Stmt:=top 50
theorem sc_law_changes:FnScope ["_law_log_here", "_law_time", "_law_behind", "_law_known", "_law_found", "_law_one", "_law_other", "_law_met", "_law_old"] ["_law_log_here", "_law_time", "_law_behind"] (aR gA):=scM
theorem zV  (F:Fun K "_law_changes" "_law_changes" gA f fd)(B:Bl K mg)(Kt:Kit K)
  (c_law_less:mW P0 P w K mg base)
  (c_law_change:tM P0 P w K mg base)
  (c_law_then:wY P0 P w K mg base) :
  FnOk P w K mg base CX0 6 f fd ["_law_log_here", "_law_time", "_law_behind"] (spM P0 3 fB):=
 F.okV sc_law_changes rfl rfl fun cdv A outer s H E hr=>
 have hu:=hr.units
 ⟨_,(aG (aZ (i:=3) sc_law_changes.nd rfl (by walk_at "lc") (aJ c_law_then hr rfl (aA (pv 0) (aA (pv 1) aD))))
   (aG (aZ (i:=4) sc_law_changes.nd rfl (by walk_at "lc") (dR aD))
   (aG (jH PassesOwn.never rfl (aLK (pv 3)) (dB (i:=5) sc_law_changes.nd rfl (by walk_at "lc")) (aL (jH PassesOwn.never rfl (aLK (pv 3)) (dB (i:=6) sc_law_changes.nd rfl (by walk_at "lc")) (aL (cW (bD sE (pv 5) (pv 6) (bM _)) (aG (aZ (i:=7) sc_law_changes.nd rfl (by walk_at "lc") (aJ c_law_change hr rfl (aA (pv 3) (aA (pv 5) (aA (pv 6) (aA (pv 1) aD))))))
   (aL (cW (PW.pt (yH (bD a6D (pv 7) eV (bM _)) (yH (bD (a4Q hu) (pv 7) (pv 4) (by with_unfolding_all rfl)) (uI (PW.pt (zA (bD aB7 (pv 2) eV (bM _)) (v6 (gF (aJ c_law_less hr rfl (aA (pv 7) (aA (pv 2) aD))))))))))) (aL (gU (a1A PySem.F.plainAttrs_list PySem.F.slot_list_insert PySem.F.type_list_insert a5I (pv 4) (aA (bN bL rfl B.len_ boot_len (aA (a0U (N:=["_law_old", "_law_met"]) (nt:=1) (fv:=[7]) rfl (aBV (osc:=aR gA) (ON:=["_law_log_here", "_law_time", "_law_behind", "_law_known", "_law_found", "_law_one", "_law_other", "_law_met", "_law_old"]) (by decide +kernel)) (jD (pv 4)) (fun _ _ _ _=>(dB (i:=0) (show(["_law_old", "_law_met"]:List Str).Nodup by decide +kernel) rfl (by walk_at "lc"))) (fun _ _ _ _=>(aBZ (gF (aJ c_law_less hr rfl (aA (pv 0) (aA (pv 1) aD)))))) (fun _ _ _ _=>(pv 0))) aD)) (aA (pv 7) aD))))) bR))) bR)))))
   (aL (bF (pv 4)))))),
  ((aQ (b7 (aM (aH aB (aH aB aV))))
   (aQ (b7 (eG bO))
   (aQ (jR aL4 cZ (jR aL4 cZ (dC (bH (uM aB aB)) (aQ (b7 (aX (aP (aM (aH aKW (aH aB (aH aB (aH aB aV))))))))
   (dC (tO (rD (bH (a7G aB)) (rD (bH (aLP aB aB)) (qH (bH (aBC aB)) (o5 (aP (aM (aH aB (aH aB aV))))))))) (a5L (aBJ (iM (aP (a5R (jN aB) cZ (o5 (aP (aM (aH aB (aH aB aV))))) aB)))) aB) eF)) eF)))
   (bK lC)))):VS P0 _ nH)⟩
abbrev fX:Stmt:=top 51
theorem sc_law_all_times:FnScope ["_law_log_here", "_law_found", "_law_deed", "_law_both", "_law_k", "_law_behind"] ["_law_log_here"] (aR fX):=scM
theorem vJ  (F:Fun K "_law_all_times" "_law_all_times" fX f fd)(B:Bl K mg)(Kt:Kit K)
  (c_law_changes:zM P0 P w K mg base) :
  FnOk P w K mg base CX0 7 f fd ["_law_log_here"] (spM P0 1 dD):=
 F.okV sc_law_all_times rfl rfl fun cdv A outer s H E hr=>
 have hu:=hr.units
 ⟨_,(aG (aZ (i:=1) sc_law_all_times.nd rfl (by walk_at "lc") (dR aD))
   (aG (jH PassesOwn.never rfl (jD (pv 0)) (dB (i:=2) sc_law_all_times.nd rfl (by walk_at "lc")) (aL (cW (bD (a4Q hu) (aU aK (pv 2) aC (fun _ _=>rfl)) (pv 1) (by with_unfolding_all rfl)) (aL (gU (a1A PySem.F.plainAttrs_list PySem.F.slot_list_append PySem.F.type_list_append jJ (pv 1) (aA (aU aK (pv 2) aC (fun _ _=>rfl)) aD)))) bR)))
   (aG (aZ (i:=3) sc_law_all_times.nd rfl (by walk_at "lc") (dR aD))
   (aG (jH PassesOwn.never rfl (yO rfl B.range_ (aA (bN bL rfl B.len_ boot_len (aA (pv 1) aD)) aD)) (dB (i:=4) sc_law_all_times.nd rfl (by walk_at "lc")) (aG (aZ (i:=5) sc_law_all_times.nd rfl (by walk_at "lc") (aU aK (bU a7N (pv 1) (dR (aA eV aD))) (bU gD (pv 4) aC) (fun _ _=>rfl)))
   (aL (aZ (i:=3) sc_law_all_times.nd rfl (by walk_at "lc") (bU a7N (bU a7N (pv 3) (dR (aA (aU aK (pv 1) (pv 4) (fun _ _=>rfl)) aD))) (aJ c_law_changes hr rfl (aA (pv 0) (aA (aU aK (pv 1) (pv 4) (fun _ _=>rfl)) (aA (pv 5) aD)))))))))
   (aL (bF (pv 3))))))),
  ((aQ (b7 (eG bO))
   (aQ (jR (jN aB) cZ (dC (tO (bH (aLP (aW aB aF) aB))) (jE (aW aB aF)) eF))
   (aQ (b7 (aX (aP (eG bO))))
   (aQ (aCU (jR (a6B (aO (iM aB) bO)) cZ (aQ (aCU (b7 (aX (aW (aP (a7V aB (aP (eG (aO iY bO))))) (nJ aB aF)))))
   (aCU (b7 (aX (aP (a7V (aP (a7V aB (aP (eG (aO (aW aB aB) bO))))) (aP (aM (aH aB (aH (aW aB aB) (aH aB aV)))))))))))))
   (bK (aX aB)))))):VS P0 _ jC)⟩
abbrev tU:Stmt:=top 52
theorem sc_law_due:FnScope ["_law_log_here", "_law_row", "_law_time", "_law_runner"] ["_law_log_here"] (aR tU):=scM
theorem a9Q  (F:Fun K "_law_due" "_law_due" tU f fd)(B:Bl K mg)(Kt:Kit K)
  (c_law_all_times:vR P0 P w K mg base)
  (c_law_order:a4B P0 P w K mg base) :
  FnOk P w K mg base CX0 8 f fd ["_law_log_here"] (spM P0 1 pH):=
 F.okV sc_law_due rfl rfl fun cdv A outer s H E hr=>
 have hu:=hr.units
 ⟨_,(aG (aZ (i:=1) sc_law_due.nd rfl (by walk_at "lc") (dR (aA (cU (aA eV (aA eV aD))) aD)))
   (aG (jH PassesOwn.never rfl (jD (aJ c_law_all_times hr rfl (aA (pv 0) aD))) (dB (i:=2) sc_law_due.nd rfl (by walk_at "lc")) (aG (aZ (i:=3) sc_law_due.nd rfl (by walk_at "lc") (aU aK (bU a7N (aJ c_law_order hr rfl (aA (pv 0) (aA (pv 2) aD))) (dR (aA eV aD))) aC (fun _ _=>rfl)))
   (aL (cW (bD (lX hu) (pv 3) (aU aK (aU aK (pv 1) (a7H wL aC) (fun _ _=>rfl)) aC (fun _ _=>rfl)) (bM _)) (aL (gU (a1A PySem.F.plainAttrs_list PySem.F.slot_list_append PySem.F.type_list_append jJ (pv 1) (aA (cU (aA (pv 3) (aA (pv 2) aD))) aD)))) bR))))
   (aL (bF (pv 1))))),
  ((aQ (b7 (eG (aO (cT (aO iY (aO iY bO))) bO)))
   (aQ (jR (jN (aP (aM (aH aB aV)))) cZ (aQ (b7 (aX (aW (aP (a7V (aP (aM (aH aB (aH aB aV)))) (aP (eG (aO iY bO))))) aF)))
   (dC (tO (bH (uU aB (aW (aW aB (xO aF)) aF)))) (jE (cT (aO aB (aO aB bO)))) eF)))
   (bK lC))):VS P0 _ yM)⟩
abbrev mG:Stmt:=top 53
theorem sc_law_kinds:FnScope ["_law_found", "_law_row"] ["_law_found"] (aR mG):=scM
theorem a5M  (F:Fun K "_law_kinds" "_law_kinds" mG f fd)(B:Bl K mg)(Kt:Kit K) :
  FnOk P w K mg base CX0 1 f fd ["_law_found"] (spM P0 1 jB):=
 F.okV sc_law_kinds rfl rfl fun cdv A outer s H E hr=>
 have hu:=hr.units
 ⟨_,(aG (cW (a0I (gF (bN t7 rfl B.isinstance_ boot_isinstance (aA (pv 0) (aA (xU (v:=.ty "list") rfl B.list_ boot_list rfl) aD))))) (aL (bF aE2)) bR)
   (aG (jH PassesOwn.never rfl (jD (pv 0)) (dB (i:=1) sc_law_kinds.nd rfl (by walk_at "lc")) (aL (cW (PW.pt (zA (a0I (gF (bN t7 rfl B.isinstance_ boot_isinstance (aA (pv 1) (aA (xU (v:=.ty "tuple") rfl B.tuple_ boot_tuple rfl) aD))))) (zA (bD (lX hu) (bN bL rfl B.len_ boot_len (aA (pv 1) aD)) aC (bM _)) (v6 (gF (bN t7 rfl B.isinstance_ boot_isinstance (aA (aU aK (pv 1) aC (fun _ _=>rfl)) (aA (xU (v:=.ty "bool") rfl B.bool_ boot_bool rfl) aD)))))))) (aL (bF aE2)) bR)))
   (aL (bF aE2)))),
  ((aQ (dC (uB (o5 (a3A Kt (by decide) aB))) (bK (aX aEB)) eF)
   (aQ (jR (jN aB) cZ (dC (qH (uB (o5 (a3A Kt (by decide) aB))) (qH (bH (uU (iM aB) aF)) (o5 (a3A Kt (by decide) (aW aB aF))))) (bK (aX aEB)) eF))
   (bK (aX aEB)))):VS P0 _ rJ)⟩
abbrev aHV:Stmt:=top 54
theorem sc_law:FnScope ["_law_script", "_law_pen", "_law_most", "_law_room", "_law_log_here", "_law_handed", "_law_due_here", "_law_found"] ["_law_script"] (aR aHV):=scM
theorem aL3  {c:Addr}(F:Fun K "law" "law" aHV f fd)(B:Bl K mg)(Kt:Kit K)
  (c_leaders_in:∀ a ns,Cal P w K mg base 11 "leaders_in" ["log"] (spM (bY K a ns) 1 (eY c)))
  (c_law_kinds:∀ a ns,Cal P w K mg base 1 "_law_kinds" ["_law_found"] (spM (bY K a ns) 1 jB))
  (c_law_due:∀ a ns,Cal P w K mg base 8 "_law_due" ["_law_log_here"] (spM (bY K a ns) 1 pH))
  (c_law_log:∀ a ns,Cal P w K mg base 5 "_law_log" ["_law_pen", "_law_most", "_law_room"] (spM (bY K a ns) 3 p6))
  (c_law_take:∀ a ns,Cal P w K mg base 1 "_law_take" ["_law_pen", "_law_many"] (spM (bY K a ns) 2 bB))
  (hL:z6 c (.no::.pen::List.replicate 6 .no) p8) :
  FnOk P w K mg base CX0 12 f fd ["_law_script"] (aE8 K):=by
 refine F.ok sc_law (fun vs H Q E h=>?_) (fun cdv A outer s H vs Q E hr h=>?_)
 ·obtain⟨a,ns,rfl,hS,h63,q⟩:=h;rfl
 have hu:=hr.units;obtain⟨a,ns,rfl,hS,h63,q⟩:=h;have c_leaders_in:=c_leaders_in a ns;have c_law_kinds:=c_law_kinds a ns;have c_law_due:=c_law_due a ns;have c_law_log:=c_law_log a ns;have c_law_take:=c_law_take a ns;exact law_body (k:=6) (aZ (i:=1) sc_law.nd rfl (by walk_at "lc") (dR (aA (pv 0) (aA aC (aA aC aD))))) ⟨_,(aG (a8O (aU aK (dR (aA (cU (aA aC (aA aC aD))) (aA (cU (aA aC (aA aC aD))) (aA (cU (aA aC (aA aC aD))) (aA (cU (aA aC (aA aC aD))) aD))))) (aJ c_law_take hr rfl (aA (pv 1) (aA aC aD))) (fun _ _=>rfl)) (aG1 rfl (vX (dB (i:=2) sc_law.nd rfl (by walk_at "lc")) (vX (dB (i:=3) sc_law.nd rfl (by walk_at "lc")) aBT))))
   (aG (aZ (i:=4) sc_law.nd rfl (by walk_at "lc") (aJ c_law_log hr rfl (aA (pv 1) (aA (pv 2) (aA (pv 3) aD)))))
   (aG (aZ (i:=5) sc_law.nd rfl (by walk_at "lc") (jP v8 rfl B.list_ boot_list (aA (pv 4) aD)))
   (aG (aZ (i:=6) sc_law.nd rfl (by walk_at "lc") (aJ c_law_due hr rfl (aA (pv 4) aD)))
   (aG (aZ (i:=7) sc_law.nd rfl (by walk_at "lc") (aJ c_leaders_in hr rfl (aA (pv 5) aD)))
   (aG (cW (PW.pt (zA (a0I (gF (aJ c_law_kinds hr rfl (aA (pv 7) aD)))) (zA (bD (lX hu) (pv 7) (pv 6) (bM _)) (v6 (bD (lX hu) (pv 5) (pv 4) (bM _)))))) (aL (bF aE2)) bR)
   (aG (gU (a1A PySem.F.plainAttrs_list PySem.F.slot_list_append PySem.F.type_list_append jJ (pv 7) (aA (cU (aA aC (aA eV aD))) aD)))
   (aG (gU (aKJ PySem.F.plainAttrs_list PySem.F.slot_list_clear PySem.F.type_list_clear aFN (pv 5)))
   (aL (bF (aB5 (kW (fH hu) (aJ c_leaders_in hr rfl (aA (jP v8 rfl B.list_ boot_list (aA (pv 4) aD)) aD)) (pv 6) (bM _)) (aBB (kW (fH hu) (aJ c_leaders_in hr rfl (aA (dR aD) aD)) (dR (aA (cU (aA eV (aA eV aD))) aD)) (bM _)))))))))))))),
  ((aQ (aJN (aW (aP (eG (aO (cT (aO aF (aO aF bO))) (aO (cT (aO aF (aO aF bO))) (aO (cT (aO aF (aO aF bO))) (aO (cT (aO aF (aO aF bO))) bO)))))) (aP (aM (cY (aH aF aV))))) (aGE (wB cZ (wB cZ aDD))))
   (aQ (b7 (aX (aP (aM (cY (aH aB (aH aB aV)))))))
   (aQ (b7 (a3H aB))
   (aQ (b7 (aX (aP (aM (aH aB aV)))))
   (aQ (b7 (aBK (aM (aH aB aV))))
   (aQ (dC (tO (qH (uB (o5 (aP (aM (aH aB aV))))) (qH (bH (uU aB aB)) (bH (uU aB aB))))) (bK (aX aEB)) eF)
   (aQ (jE (cT (aO aF (aO iY bO))))
   (aQ aEZ
   (bK (aX (aBS (kY (aP (aM (aH (aP (a3H aB)) aV))) aB) (kY (aP (aM (aH (aP (eG bO)) aV))) (aP (eG (aO (cT (aO iY (aO iY bO))) bO))))))))))))))):VS (bY K a ns) _ (z6 c))⟩ rfl hS hL q
end
section
variable {Q:Rv→Prop}
theorem aCB {i:Int}(q:Q (.val (.bool true))):gP [.val (.int i)] Q:=by
 refine lD ?_;unfold uC;walk_at "vs";exact q
theorem aMQ {a b:Int}(q:Q (.val (.int (Int.gcd a b:Nat)))):cI [.val (.int a),.val (.int b)] Q:=by
 refine lD ?_;unfold g8 iQ iJ;walk_at "vs";refine xK (fun n Γ=>∃ d r x,Γ=[.val (.int a),.val (.int b),.val (.int d),.val (.int r),x]∧0≤d∧0≤r∧Int.gcd d r=Int.gcd a b∧n=r.toNat) _ ⟨_,_,.no,rfl,a8P a,a8P b,aCX a b,rfl⟩ ?_;rintro m Γ ⟨d,r,x,rfl,hd,hr,hg,rfl⟩;walk_at "vs";refine tX (fun c=>?_) (fun c=>?_)
 ·have hp:0<r:=by omega
  walk_at "vs";refine⟨hp,?_⟩;walk_at "vs";have h1:=Int.emod_nonneg d (b:=r) (by omega);have h2:=Int.emod_lt_of_pos d hp;exact⟨_,by omega,_,_,_,rfl,hr,h1,(a88 hd hp).trans hg,rfl⟩
 ·subst c;have e:=aAL hd;rw[hg] at e;walk_at "vs";rw[e] at q;exact q
theorem nC {t b:Int}(h0:b≠0)(hb:Bt 9000 b)(q:Q (.val (bT (Rat.divInt t b)))):cJ [.val (.int t),.val (.int b)] Q:=by
 have g0:=aFT (t:=t) h0;have g1:=aFQ (t:=t) hb h0;refine lD ?_;unfold rP qF rA;walk_at "vs";refine aCB ?_;walk_at "vs";refine aCB ?_;walk_at "vs";refine aJI h0 ?_;walk_at "vs";refine aMQ ?_;walk_at "vs";refine fZ (fun c=>?_) (fun c=>?_)
 ·have n:=a8Q (t:=t) c;walk_at "vs";refine⟨⟨by omega,g1.neg⟩,?_⟩;walk_at "vs";refine⟨⟨by omega,g1.neg⟩,?_⟩;walk_at "vs";rw[n.1,n.2];exact q
 ·have n:=jX (t:=t) (b:=b) (by omega);walk_at "vs";refine⟨⟨g0,g1⟩,?_⟩;walk_at "vs";refine⟨⟨g0,g1⟩,?_⟩;walk_at "vs";rw[n.1,n.2];exact q
theorem aE7 {a b:Rat}(ha:Sz 4000 a)(hb:Sz 4000 b)(q:Q (.val (bT (a+b)))):pW [.val (bT a),.val (bT b)] Q:=by
 obtain⟨a0,a1⟩:=id ha;obtain⟨b0,b1⟩:=id hb;refine lD ?_;unfold a2J;walk_at "vs";refine nC (Int.mul_ne_zero (dM a) (dM b)) ((a1.mul b1).mono (by decide)) ?_;rw[aCN];exact q
theorem jK {a b:Rat}(ha:Sz 4000 a)(hb:Sz 4000 b)(q:Q (.val (bT (a-b)))):bZ [.val (bT a),.val (bT b)] Q:=by
 obtain⟨a0,a1⟩:=id ha;obtain⟨b0,b1⟩:=id hb;refine lD ?_;unfold jL;walk_at "vs";refine nC (Int.mul_ne_zero (dM a) (dM b)) ((a1.mul b1).mono (by decide)) ?_;rw[aGB];exact q
theorem vH {a b:Rat}(ha:Sz 4000 a)(hb:Sz 4000 b)(q:Q (.val (bT (a*b)))):dG [.val (bT a),.val (bT b)] Q:=by
 obtain⟨a0,a1⟩:=id ha;obtain⟨b0,b1⟩:=id hb;refine lD ?_;unfold oG;walk_at "vs";refine nC (Int.mul_ne_zero (dM a) (dM b)) ((a1.mul b1).mono (by decide)) ?_;rw[aD6];exact q
theorem a2U {a b:Rat}(ha:Sz 4000 a)(hb:Sz 4000 b)(h0:b≠0)(q:Q (.val (bT (a/b)))):fD [.val (bT a),.val (bT b)] Q:=by
 obtain⟨a0,a1⟩:=id ha;obtain⟨b0,b1⟩:=id hb;refine lD ?_;unfold mF;walk_at "vs";refine nC (Int.mul_ne_zero (dM a) (a4A h0)) ((a1.mul b0).mono (by decide)) ?_;rw[aCF a h0];exact q
theorem gB {a b:Rat}(ha:Sz 9000 a)(hb:Sz 9000 b)(q:Q (.val (.bool (decide (a<b))))):cC [.val (bT a),.val (bT b)] Q:=by
 obtain⟨a0,a1⟩:=id ha;obtain⟨b0,b1⟩:=id hb;refine lD ?_;unfold yP;walk_at "vs";rw[aIX];exact q
theorem a08 {l:Rat×Rat}{t:Rat}(h1:Sz 900 l.1)(h2:Sz 900 l.2)(h3:Sz 2900 t)(q:Q (.val (bT (l.1+l.2*t)))):gZ [.val (fM l),.val (bT t)] Q:=by
 refine lD ?_;unfold uT;walk_at "vs";refine vH (h2.mono (by decide)) (h3.mono (by decide)) ?_;walk_at "vs";exact aE7 (h1.mono (by decide)) ((h2.mul h3).mono (by decide)) q
def aGT (l k:Rat×Rat):D:=if l.2=k.2 then(if l.1=k.1 then .tuple [.str "always"] else .tuple [.str "never"]) else .tuple [.str "at", bT ((k.1-l.1)/(l.2-k.2))]
theorem aCQ {l k:Rat×Rat}(h1:Sz 900 l.1)(h2:Sz 900 l.2)(h3:Sz 900 k.1)(h4:Sz 900 k.2)(q:Q (.val (aGT l k))):lW [.val (fM l),.val (fM k)] Q:=by
 unfold aGT at q;refine lD ?_;unfold xQ v7;walk_at "vs";refine fZ (fun c=>?_) (fun c=>?_)
 ·rw[if_pos c] at q;walk_at "vs";refine fZ (fun c2=>?_) (fun c2=>?_)
  ·rw[if_pos c2] at q;walk_at "vs";exact q
  ·rw[if_neg c2] at q;walk_at "vs";exact q
 ·rw[if_neg c] at q;walk_at "vs";refine jK (h3.mono (by decide)) (h1.mono (by decide)) ?_;walk_at "vs";refine jK (h2.mono (by decide)) (h4.mono (by decide)) ?_;walk_at "vs";refine a2U ((h3.sub h1).mono (by decide)) ((h2.sub h4).mono (by decide)) (by grind) ?_;walk_at "vs";exact q
theorem tD {t b:Int}(h0:b≠0)(hb:Bt 9000 b)(q:Q (.val (bT (Rat.divInt t b)))):bV [.val (.int t),.val (.int b)] Q:=by
 have g0:=aFT (t:=t) h0;have g1:=aFQ (t:=t) hb h0;refine lD ?_;unfold pK o9 oN pJ;walk_at "vs";refine xK (fun n Γ=>∃ d r,Γ=[.val (.int t),.val (.int b),.val (.int d),.val (.int r)]∧0≤d∧0≤r∧Int.gcd d r=Int.gcd t b∧n=r.toNat) _ ⟨_,_,rfl,a8P t,a8P b,aCX t b,rfl⟩ ?_;rintro m Γ ⟨d,r,rfl,hd,hr,hg,rfl⟩;walk_at "vs";refine fZ (fun c=>?_) (fun c=>?_)
 ·walk_at "vs";refine⟨c,?_⟩;walk_at "vs";have h1:=Int.emod_nonneg d (b:=r) (by omega);have h2:=Int.emod_lt_of_pos d c;exact⟨_,by omega,_,_,rfl,hr,h1,(a88 hd c).trans hg,rfl⟩
 ·have c':r=0:=by omega
  subst c';have e:=aAL hd;rw[hg] at e;subst e;walk_at "vs";refine fZ (fun c=>?_) (fun c=>?_)
  ·have n:=a8Q (t:=t) c;walk_at "vs";rw[Int.zero_sub];refine⟨⟨by omega,g1.neg⟩,?_⟩;walk_at "vs";refine⟨⟨by omega,g1.neg⟩,?_⟩;walk_at "vs";rw[n.1,n.2];exact q
  ·have n:=jX (t:=t) (b:=b) (by omega);walk_at "vs";refine⟨⟨g0,g1⟩,?_⟩;walk_at "vs";refine⟨⟨g0,g1⟩,?_⟩;walk_at "vs";rw[n.1,n.2];exact q
theorem a5K {a b:Rat}{s:Int}(hs:s=1∨s = -1)(ha:Sz 4000 a)(hb:Sz 4000 b)(q:Q (.val (bT (pm s a b)))):cQ [.val (bT a),.val (bT b),.val (.int s)] Q:=by
 obtain⟨a0,a1⟩:=id ha;obtain⟨b0,b1⟩:=id hb;have hs1:=aAD hs;have hs2:=hs1.mul b0;refine lD ?_;unfold uE;walk_at "vs";refine tD (Int.mul_ne_zero (dM a) (dM b)) ((a1.mul b1).mono (by decide)) ?_;rw[aMN];exact q
theorem aC9 {a b:Rat}(ha:Sz 4000 a)(hb:Sz 4000 b)(q:Q (.val (bT (a*b)))):eQ [.val (bT a),.val (bT b)] Q:=by
 obtain⟨a0,a1⟩:=id ha;obtain⟨b0,b1⟩:=id hb;refine lD ?_;unfold rO;walk_at "vs";refine tD (Int.mul_ne_zero (dM a) (dM b)) ((a1.mul b1).mono (by decide)) ?_;rw[aD6];exact q
theorem a0F {a b:Rat}(ha:Sz 9000 a)(hb:Sz 9000 b)(q:Q (.val (.bool (decide (a<b))))):cD [.val (bT a),.val (bT b)] Q:=by
 obtain⟨a0,a1⟩:=id ha;obtain⟨b0,b1⟩:=id hb;refine lD ?_;unfold uK;walk_at "vs";rw[aIX];exact q
theorem a7S {l:Rat×Rat}{t:Rat}(h1:Sz 900 l.1)(h2:Sz 900 l.2)(h3:Sz 2900 t)(q:Q (.val (bT (l.1+l.2*t)))):dZ [.val (fM l),.val (bT t)] Q:=by
 refine lD ?_;unfold uA;walk_at "vs";refine aC9 (h2.mono (by decide)) (h3.mono (by decide)) ?_;walk_at "vs";refine a5K (.inl rfl) (h1.mono (by decide)) ((h2.mul h3).mono (by decide)) ?_;rw[aGK];exact q
end
theorem a1N (i:Int):PyData.tuple [.int i,.int 1]=bT (i:Rat):=by
 unfold bT;rw[Rat.num_intCast,Rat.den_intCast];rfl
theorem aGL {k:Nat}{i:Int}(h1 : -2147483648<i)(h2:i<2147483648)(hk:31≤k:=by decide):Bt k i:=by
 refine Bt.mono (k:=31) ?_ hk;show i.natAbs<2^31;have:(2:Nat)^31=2147483648:=by decide
 omega
theorem a85 {k:Nat}{i:Int}(h1 : -2147483648<i)(h2:i<2147483648)(hk:31≤k:=by decide):Sz k (i:Rat):=aJK (aGL h1 h2 hk) (by omega)
def LinesOk (k:Nat)(ls:List (Rat×Rat)):Prop:=∀ l∈ls,Sz k l.1∧Sz k l.2
def fJ (ls:List (Rat×Rat)):List D:=ls.map fM
theorem LinesOk.get {k:Nat}{ls:List (Rat×Rat)}(h:LinesOk k ls){i:Nat}{l:Rat×Rat}(e:ls[i]?=some l):Sz k l.1∧Sz k l.2:=h l (List.mem_of_getElem? e)
theorem wR {ds:List D}{i:Nat}{d:D}(h:ds[i]?=some d):ixD (.list ds) (.int (i:Int))=some d:=aDH h
theorem a94 (ls:List (Rat×Rat)):(fJ ls).length=ls.length:=by simp[fJ]
section
variable {Q:Rv→Prop}
end
section
variable {Q:Rv→Prop}{ls:List (Rat×Rat)}{i j:Nat}{l k:Rat×Rat}{t:Rat}
theorem pG {ls:List (Rat×Rat)}{i:Nat}{l:Rat×Rat}(h:ls[i]?=some l):ixD (.list (fJ ls)) (.int (i:Int))=some (fM l):=wR (by unfold fJ; rw[List.getElem?_map,h]; rfl)
def tW:Option Rat→D
 | none=>.none
 | some q=>bT q
theorem aG8 (o:Option Rat):Gd 1 (tW o):=by
 cases o with
 | none=>exact gd_none.mono
 | some q=>exact v5 q
theorem aF1 (o:Option Rat):Good (tW o):=(aG8 o).good
theorem vY {l:Rat×Rat}{t:Rat}(h1:Sz 900 l.1)(h2:Sz 900 l.2)(h3:Sz 2900 t):Sz 9000 (pl l t):=(h1.add (h2.mul h3)).mono (by decide)
def a0M (l:Rat×Rat)(t:Rat)(i:Nat):D:=.tuple [bT (pl l t),bT l.2,.int (i:Int)]
theorem a7Y (l:Rat×Rat)(t:Rat)(i:Nat):ixD (a0M l t i) (.int 0)=some (bT (pl l t)):=rfl
theorem a89 (l:Rat×Rat)(t:Rat)(i:Nat):ixD (a0M l t i) (.int 1)=some (bT l.2):=rfl
theorem aGP (l:Rat×Rat)(t:Rat)(i:Nat):ixD (a0M l t i) (.int 2)=some (.int (i:Int)):=rfl
theorem a0R (hi:ls[i]?=some l)(h1:Sz 900 l.1)(h2:Sz 900 l.2)(ht:Sz 2900 t)(q:Q (.val (a0M l t i))) :
  gY [.val (.list (fJ ls)),.val (.int (i:Int)),.val (bT t)] Q:=by
 refine lD ?_;unfold uR;walk_at "vs";refine cB (pG hi) ?_;walk_at "vs";refine a08 h1 h2 ht ?_;walk_at "vs";refine cB (pG hi) ?_;walk_at "vs";exact q
theorem zF (h1:Sz 9000 (pl l t))(h2:Sz 9000 l.2)(h3:Sz 9000 (pl k t))(h4:Sz 9000 k.2)(q:Q (.val (.bool (ahB l k i j t)))) :
  dY [.val (a0M l t i),.val (a0M k t j)] Q:=by
 unfold ahB at q;refine lD ?_;unfold lL lV lY;walk_at "vs";refine cB (a7Y _ _ _) ?_;walk_at "vs";refine cB (a7Y _ _ _) ?_;walk_at "vs";refine tX (fun c=>?_) (fun c=>?_)
 ·rw[if_neg c] at q;walk_at "vs";refine cB (a7Y _ _ _) ?_;walk_at "vs";refine cB (a7Y _ _ _) ?_;walk_at "vs";exact gB h3 h1 q
 ·rw[if_pos c] at q;walk_at "vs";refine cB (a89 _ _ _) ?_;walk_at "vs";refine cB (a89 _ _ _) ?_;walk_at "vs";refine tX (fun c=>?_) (fun c=>?_)
  ·rw[if_neg c] at q;walk_at "vs";refine cB (a89 _ _ _) ?_;walk_at "vs";refine cB (a89 _ _ _) ?_;walk_at "vs";exact gB h4 h2 q
  ·rw[if_pos c] at q;walk_at "vs";refine cB (aGP _ _ _) ?_;walk_at "vs";refine cB (aGP _ _ _) ?_;walk_at "vs";exact q
theorem a9N (hi:ls[i]?=some l)(hj:ls[j]?=some k)(h1:Sz 900 l.1)(h2:Sz 900 l.2)(h3:Sz 900 k.1)(h4:Sz 900 k.2)(ht:Sz 2900 t)(q:Q (.val (.bool (ahB l k i j t)))) :
  j8 [.val (.list (fJ ls)),.val (.int (i:Int)),.val (.int (j:Int)),.val (bT t)] Q:=by
 refine lD ?_;unfold uF;walk_at "vs";refine a0R hi h1 h2 ht ?_;walk_at "vs";refine a0R hj h3 h4 ht ?_;walk_at "vs";exact zF (vY h1 h2 ht) (h2.mono (by decide)) (vY h3 h4 ht) (h4.mono (by decide)) q
end
def fV (ts:List Rat):List D:=ts.map bT
theorem aAF {ts:List Rat}{i:Nat}{d:D}(h:(fV ts)[i]?=some d):∃ t,ts[i]?=some t∧d=bT t:=by
 unfold fV at h;rw[List.getElem?_map] at h
 cases e:ts[i]? with
 | none=>rw[e] at h; cases h
 | some l=>rw[e] at h; cases h; exact⟨l,rfl,rfl⟩
theorem aAK {ts:List Rat}{i:Nat}{t:Rat}(h:ts[i]?=some t):ixD (.list (fV ts)) (.int (i:Int))=some (bT t):=wR (by unfold fV; rw[List.getElem?_map,h]; rfl)
theorem dN (ts:List Rat):(fV ts).length=ts.length:=by simp[fV]
theorem a06 (ts:List Rat):Goods (fV ts):=aEJ (n:=1) fun d h=>by
 obtain⟨t,_,rfl⟩:=List.mem_map.mp h;exact v5 t
theorem aAQ (ts:List Rat)(t:Rat):((fV ts).any fun e=>PyData.eqv e (bT t))=decide (t∈ts):=by
 unfold fV;rw[List.any_map];rw[Bool.eq_iff_iff,List.any_eq_true,decide_eq_true_eq];constructor
 ·rintro⟨x,hx,e⟩
  have:PyData.eqv (bT x) (bT t)=true:=e;rw[a2D] at this;rw[← of_decide_eq_true this]; exact hx
 ·intro h;exact⟨t,h,by show PyData.eqv (bT t) (bT t)=true; rw[a2D]; exact decide_eq_true rfl⟩
def gC (xs:List Nat):List D:=xs.map fun i:Nat=>PyData.int (i:Int)
theorem iK (xs:List Nat):(gC xs).length=xs.length:=by simp[gC]
theorem a4P (xs:List Nat):Good (.list (gC xs)):=(a7X (n:=0) fun d h=>by
 obtain⟨t,_,rfl⟩:=List.mem_map.mp h;exact a0K _).good
theorem oM {xs:List Nat}{i:Nat}(h:i<xs.length):ixD (.list (gC xs)) (.int (i:Int))=some (.int (xs[i]:Int)):=wR (by unfold gC; rw[List.getElem?_map,List.getElem?_eq_getElem h]; rfl)
theorem j5 (xs:List Nat):aHM (.list (gC xs))=some (.int (xs.length:Int)):=by show some (PyData.int ((gC xs).length:Int))=_; rw[iK]
theorem yE (ls:List Ln):aHM (.list (fJ ls))=some (.int (ls.length:Int)):=by show some (PyData.int ((fJ ls).length:Int))=_; rw[a94]
def aA4 (ts:List Rat)(o:Option Rat):List Rat:=match o with
 | none=>ts
 | some t=>if t∈ts then ts else xM ts ((ts.filter fun u=>decide (u<t)).length:Int) t
def a1F (ls:List Ln)(i:Nat):Nat→List Rat→List Rat
 | 0,ts=>ts
 | j+1,ts=>aA4 (a1F ls i j ts) (match ls[i]?,ls[j]? with|some l,some k=>mtO l k|_,_=>none)
def zW (ls:List Ln):Nat→List Rat
 | 0=>[]
 | i+1=>a1F ls i i (zW ls i)
def mts (ls:List Ln):List Rat:=zW ls ls.length
theorem a82 {α β:Type}(f:α→β)(xs:List α)(i:Int)(x:α):(xM xs i x).map f=xM (xs.map f) i (f x):=by
 unfold xM;rw[List.map_append,List.map_cons,List.map_take,List.map_drop,List.length_map]
theorem aBA {α:Type}{xs:List α}{n:Nat}{x:α}(h:n≤xs.length):xM xs (n:Int) x=xs.take n++x::xs.drop n:=by
 unfold xM aC2;rw[if_neg (by omega)];simp[Nat.min_eq_left h]
theorem a8A (ts:List Rat)(o:Option Rat):(aA4 ts o).length≤ts.length+1:=by
 unfold aA4
 split
 ·omega
 ·split
  ·omega
  ·rw[a8U]; omega
theorem aET {α:Type}{xs:List α}{i:Int}{x y:α}:y∈xM xs i x↔y=x∨y∈xs:=by
 unfold xM;generalize aC2 xs.length i=k;have e:y∈xs↔y∈xs.take k∨y∈xs.drop k:=by
  rw[← List.mem_append,List.take_append_drop]
 rw[List.mem_append,List.mem_cons,e];constructor
 ·rintro(h|h|h)
  ·exact .inr (.inl h)
  ·exact .inl h
  ·exact .inr (.inr h)
 ·rintro(h|h|h)
  ·exact .inr (.inl h)
  ·exact .inl h
  ·exact .inr (.inr h)
theorem a7R {ts:List Rat}{o:Option Rat}{t:Rat}:t∈aA4 ts o↔t∈ts∨o=some t:=by
 unfold aA4
 split
 ·simp
 ·rename_i u
  split
  ·rename_i h
   constructor
   ·exact .inl
   ·rintro(z|z)
    ·exact z
    ·cases z; exact h
  ·rw[aET];constructor
   ·rintro(z|z)
    ·exact .inr (by rw[z])
    ·exact .inl z
   ·rintro(z|z)
    ·exact .inr z
    ·cases z; exact .inl rfl
theorem aAP (ls:List Ln)(i j:Nat)(ts:List Rat):(a1F ls i j ts).length≤ts.length+j:=by
 induction j with
 | zero=>exact Nat.le_refl _
 | succ j ih=>
  have:=a8A (a1F ls i j ts) (match ls[i]?,ls[j]? with|some l,some k=>mtO l k|_,_=>none)
  show(aA4 _ _).length≤_
  omega
theorem aC0 (ls:List Ln)(i:Nat):(zW ls i).length≤i*i:=by
 induction i with
 | zero=>exact Nat.le_refl _
 | succ i ih=>
  have:=aAP ls i i (zW ls i)
  show(a1F ls i i (zW ls i)).length≤_
  have e:(i+1)*(i+1)=i*i+2*i+1:=by rw[Nat.add_mul,Nat.mul_add]; omega
  omega
theorem aD7 {ls:List Ln}{i j:Nat}{ts:List Rat}{t:Rat}:t∈a1F ls i j ts↔t∈ts∨∃ j',j'<j∧∃ l k,ls[i]?=some l∧ls[j']?=some k∧mtO l k=some t:=by
 induction j with
 | zero=>simp[a1F]
 | succ j ih=>
  show t∈aA4 _ _↔_;rw[a7R,ih];constructor
  ·rintro((h|⟨j',h1,h2⟩)|h)
   ·exact .inl h
   ·exact .inr ⟨j',by omega,h2⟩
   ·split at h
    ·rename_i l k e1 e2
     exact .inr ⟨j,by omega,l,k,e1,e2,h⟩
    ·cases h
  ·rintro(h|⟨j',h1,l,k,e1,e2,h⟩)
   ·exact .inl (.inl h)
   ·by_cases hj:j'=j
    ·subst hj
     right
     rw[e1,e2];exact h
    ·exact .inl (.inr ⟨j',by omega,l,k,e1,e2,h⟩)
theorem mem_mtsTo {ls:List Ln}{n:Nat}{t:Rat}:t∈zW ls n↔∃ i j l k,i<n∧j<i∧ls[i]?=some l∧ls[j]?=some k∧mtO l k=some t:=by
 induction n with
 | zero=>simp[zW]
 | succ n ih=>
  show t∈a1F ls n n (zW ls n)↔_;rw[aD7,ih];constructor
  ·rintro(⟨i,j,l,k,h1,h2⟩|⟨j,h1,l,k,h2⟩)
   ·exact⟨i,j,l,k,by omega,h2⟩
   ·exact⟨n,j,l,k,by omega,h1,h2⟩
  ·rintro⟨i,j,l,k,h1,h2,h3⟩
   by_cases hi:i=n
   ·subst hi; exact .inr ⟨j,h2,l,k,h3⟩
   ·exact .inl ⟨i,j,l,k,by omega,h2,h3⟩
theorem aEM {l k:Ln}{t:Rat}(h1:Sz 200 l.1)(h2:Sz 200 l.2)(h3:Sz 200 k.1)(h4:Sz 200 k.2)(h:mtO l k=some t):Sz 802 t:=by
 unfold mtO at h
 split at h
 ·cases h
 ·cases h
  exact((h3.sub h1).div (h2.sub h4) (by grind)).mono (by decide)
theorem aFY {ls:List Ln}(hz:LinesOk 200 ls){n:Nat}{t:Rat}(h:t∈zW ls n):Sz 802 t:=by
 obtain⟨i,j,l,k,_,_,e1,e2,h⟩:=mem_mtsTo.mp h;obtain⟨a,b⟩:=hz.get e1;obtain⟨c,d⟩:=hz.get e2;exact aEM a b c d h
def aKR:List Rat→Rat
 | []=>((0:Int):Rat)
 | t::_=>t-((1:Int):Rat)
def hf:Rat:=Rat.divInt 1 2
theorem aPL:PyData.tuple [.int 1,.int 2]=bT hf:=by
 have n:=jX (t:=1) (b:=2) (by decide);have h1:(Rat.divInt 1 2).num=1:=by rw[← n.1]; decide
 have h2:((Rat.divInt 1 2).den:Int)=2:=by rw[← n.2]; decide
 unfold bT hf;rw[h1,h2]
theorem hf_sz:Sz 31 hf:=Sz.divInt (aGL (by decide) (by decide)) (aGL (by decide) (by decide)) (by decide)
section
variable {Q:Rv→Prop}
end
theorem a0A {t:Rat}:∀{ts:List Rat},ts.Pairwise (·<·) →
  ts.take (ts.filter fun u=>decide (u<t)).length=ts.filter (fun u=>decide (u<t))∧ts.drop (ts.filter fun u=>decide (u<t)).length=ts.filter (fun u => !decide (u<t))
 | [],_=>⟨rfl,rfl⟩
 | x::xs,h=>by
  obtain⟨p1,p2⟩:=List.pairwise_cons.mp h;have ih:=a0A (t:=t) p2
  by_cases c:x<t
  ·simp only[List.filter_cons,decide_eq_true c,if_true,List.length_cons,List.take_succ_cons,List.drop_succ_cons,ih.1,ih.2,Bool.not_true,Bool.false_eq_true,if_false];exact⟨trivial,trivial⟩
  ·have f0:xs.filter (fun u=>decide (u<t))=[]:=by
    rw[List.filter_eq_nil_iff];intro y hy;have:=p1 y hy;simp;grind
   have f1:xs.filter (fun u => !decide (u<t))=xs:=List.filter_eq_self.mpr fun y hy=>by
    have:=p1 y hy;simp;grind
   simp only[List.filter_cons,decide_eq_false c,Bool.not_false,if_true,f0,f1,Bool.false_eq_true,if_false];exact⟨rfl,rfl⟩
theorem a87 {ts:List Rat}{o:Option Rat}(h:ts.Pairwise (·<·)):(aA4 ts o).Pairwise (·<·):=by
 unfold aA4
 split
 ·exact h
 ·rename_i t
  split
  ·exact h
  ·rename_i hn
   have f:=a0A (t:=t) h;rw[aBA (List.length_filter_le _ _),f.1,f.2,List.pairwise_append];refine⟨h.filter _,List.pairwise_cons.mpr ⟨fun y hy=>?_,h.filter _⟩,fun x hx y hy=>?_⟩
   ·obtain⟨m,c⟩:=List.mem_filter.mp hy;have c:¬y<t:=by simpa using c
    have:y≠t:=fun z=>hn (z▸m);grind
   ·have c:=(List.mem_filter.mp hx).2;have c:x<t:=by simpa using c
    rcases List.mem_cons.mp hy with z|z
    ·rw[z]; exact c
    ·have d:=(List.mem_filter.mp z).2;have d:¬y<t:=by simpa using d
     grind
theorem a2Z (ls:List Ln)(i:Nat){ts:List Rat}(h:ts.Pairwise (·<·)):∀ j,(a1F ls i j ts).Pairwise (·<·)
 | 0=>h
 | j+1=>a87 (a2Z ls i h j)
theorem a4O (ls:List Ln):∀ n,(zW ls n).Pairwise (·<·)
 | 0=>List.Pairwise.nil
 | n+1=>a2Z ls n (a4O ls n) n
theorem a2E (ls:List Ln):(mts ls).Pairwise (·<·):=a4O ls _
theorem mem_mts {ls:List Ln}{t:Rat}:t∈mts ls↔∃(i j:Nat) (l k:Ln),ls[i]?=some l∧ls[j]?=some k∧l.2≠k.2∧mt l k=t:=by
 unfold mts;rw[mem_mtsTo];constructor
 ·rintro⟨i,j,l,k,_,_,e1,e2,h⟩
  unfold mtO at h
  split at h
  ·cases h
  ·rename_i c
   cases h
   exact⟨i,j,l,k,e1,e2,c,rfl⟩
 ·rintro⟨i,j,l,k,e1,e2,c,rfl⟩
  have hi:i<ls.length:=(List.getElem?_eq_some_iff.mp e1).1;have hj:j<ls.length:=(List.getElem?_eq_some_iff.mp e2).1;have hij:i≠j:=by
   rintro rfl;rw[e1] at e2; cases e2;exact c rfl
  by_cases d:j<i
  ·exact⟨i,j,l,k,hi,d,e1,e2,by unfold mtO; rw[if_neg c]⟩
  ·exact⟨j,i,k,l,hj,by omega,e2,e1,by unfold mtO; rw[if_neg (Ne.symm c),a6O c]⟩
def early (ls:List Ln):Rat:=aKR (mts ls)
def aA3 (ls:List Ln):Nat:=cP ls (early ls)
def a0Z (ls:List Ln):List (Nat×Rat):=eU ls (aA3 ls) (mts ls)
theorem a2Y {ls:List Ln}(h:ls≠[]):RowFrom ls none (aA3 ls) (a0Z ls):=by
 refine xX h (mts ls) none none (aA3 ls) (a2E ls) (fun _ _=>trivial) (fun _ _=>trivial) (fun t _ hs=>?_) (fun s hs _=>mem_mts.mpr hs);have base:=mQ h (early ls);have noM:∀ a b,(∀ s∈mts ls,b<s)→¬aDT ls a b:=fun a b hb=>by
  rintro⟨i,j,l,k,e1,e2,e3,e4,e5⟩
  have:=hb _ (mem_mts.mpr ⟨i,j,l,k,e1,e2,e3,rfl⟩);grind
 have he:∀ s∈mts ls,early ls<s:=fun s hs=>by
  unfold early;have srt:=a2E ls
  cases e:mts ls with
  | nil=>rw[e] at hs; cases hs
  | cons t0 tr=>
   rw[e] at hs srt;show t0-(1:Rat)<s;rcases List.mem_cons.mp hs with z|z
   ·grind
   ·have:=(List.pairwise_cons.mp srt).1 s z; grind
 by_cases c:t≤early ls
 ·exact(Leads.const c (noM _ _ he)).mpr base
 ·exact(Leads.const (by grind) (noM _ _ hs)).mp base
theorem a1B (ls:List Ln):(mts ls).length≤ls.length*ls.length:=aC0 ls _
def pairD (p:Nat×Rat):D:=.tuple [.int (p.1:Int),bT p.2]
def aMV (ls:List Ln):List D:=if ls=[] then[] else .tuple [.int (aA3 ls:Int),.none]::(a0Z ls).map pairD
theorem aH8 {ds:List D}{d:D}(h:ds.getLast?=some d):ixD (.list ds) (.int (-1))=some d:=by
 have hne:ds≠[]:=by rintro rfl; cases h
 have hp:=List.length_pos_iff.mpr hne;show atI ds (-1)=_;unfold atI ixN;rw[if_neg (by decide),if_pos (by omega)];show ds[((-1:Int)+(ds.length:Int)).toNat]?=_;rw[show((-1:Int)+(ds.length:Int)).toNat=ds.length-1 by omega,←List.getLast?_eq_getElem?];exact h
def aDE (r:Nat)(rs:List (Nat×Rat)):Nat:=match rs.getLast? with
 | none=>r
 | some p=>p.1
theorem a9B (r:Nat)(p:Nat×Rat)(rs:List (Nat×Rat)):aDE r (p::rs)=aDE p.1 rs:=by
 unfold aDE
 cases rs with
 | nil=>rfl
 | cons q rs=>rw[List.getLast?_cons_cons]; cases h:(q::rs).getLast? with
  | none=>simp at h
  | some z=>rfl
theorem a0H (ls:List Ln)(t:Rat):∀(ts:List Rat) (r:Nat),eU ls r (ts++[t])=eU ls r ts++(if cP ls t=aDE r (eU ls r ts) then[] else[(cP ls t,t)])
 | [],r=>by
  show(if cP ls t=r then eU ls r [] else(cP ls t,t)::eU ls (cP ls t) [])=[]++(if cP ls t=r then[] else[(cP ls t,t)])
  split<;>rfl
 | u::ts,r=>by
  show(if cP ls u=r then eU ls r (ts++[t]) else(cP ls u,u)::eU ls (cP ls u) (ts++[t]))=(if cP ls u=r then eU ls r ts else(cP ls u,u)::eU ls (cP ls u) ts)++(if cP ls t=aDE r (if cP ls u=r then eU ls r ts else(cP ls u,u)::eU ls (cP ls u) ts) then[] else[(cP ls t,t)])
  by_cases c:cP ls u=r
  ·rw[if_pos c,if_pos c]; exact a0H ls t ts r
  ·rw[if_neg c,if_neg c,a9B,a0H ls t ts];rfl
theorem tV (ls:List Ln):∀(ts:List Rat) (r:Nat),(eU ls r ts).length≤ts.length
 | [],r=>Nat.le_refl _
 | u::ts,r=>by
  show(if cP ls u=r then eU ls r ts else(cP ls u,u)::eU ls (cP ls u) ts).length≤ts.length+1
  have h1:=tV ls ts r;have h2:=tV ls ts (cP ls u)
  split
  ·omega
  ·simp only[List.length_cons]; omega
def a7P (r:Nat)(rs:List (Nat×Rat)):List D:=.tuple [.int (r:Int),.none]::rs.map pairD
section
variable {Q:Rv→Prop}{ls:List Ln}
end
theorem aOZ (x:D)(xs:List D):L2.VS.cutD (x::xs) (some 1) none=xs:=by
 have e1:HT.sIx (xs.length+1) 0 (some 1)=1:=by simp[HT.sIx]
 have e2:HT.sIx (xs.length+1) (xs.length+1) none=xs.length+1:=by simp[HT.sIx]
 unfold L2.VS.cutD;rw[List.length_cons,e1,e2];simp
section
variable {Q:Rv→Prop}{ls:List Ln}
end
def dNl:Option (Nat×Rat)→D
 | none=>.none
 | some c=>pairD c
theorem aFW {ls:List Ln}{i j:Nat}{l k:Ln}(hz:LinesOk 200 ls)(h1:ls[i]?=some l)(h2:ls[j]?=some k)(hs:l.2≠k.2):Sz 802 (mtN ls i j):=by
 obtain⟨z1,z2⟩:=hz.get h1;obtain⟨z3,z4⟩:=hz.get h2;rw[a4I h1 h2];exact aEM z1 z2 z3 z4 (by unfold mtO; rw[if_neg hs])
section
variable {Q:Rv→Prop}{ls:List Ln}
theorem vU {l k:Ln}(h1:Sz 900 l.1)(h2:Sz 900 l.2)(h3:Sz 900 k.1)(h4:Sz 900 k.2)(q:Q (.val (.bool (oH l k)))):cV [.val (fM l),.val (fM k)] Q:=by
 unfold oH at q;refine lD ?_;unfold iU;walk_at "ws";refine tX (fun c=>?_) (fun c=>?_)
 ·rw[if_neg c] at q;walk_at "ws";exact gB (h2.mono (by decide)) (h4.mono (by decide)) q
 ·rw[if_pos c] at q;walk_at "ws";unfold jO;walk_at "ws";exact gB (h3.mono (by decide)) (h1.mono (by decide)) q
theorem zX (hz:LinesOk 200 ls)(hl:ls.length≤30)(hne:ls≠[])(q:Q (.val (.int (flN ls:Int)))):dX [.val (.list (fJ ls))] Q:=by
 have hp:=List.length_pos_iff.mpr hne;refine lD ?_;unfold lA;walk_at "ws";refine cB (yE ls) ?_;walk_at "ws";refine⟨⟨by omega,by omega,by omega,by omega⟩,?_⟩;refine sY (fun n Γ=>∃ a,Γ=[.val (.list (fJ ls)),.val (.int (qM ls n:Int)),a]) ⟨_,rfl⟩ ?_ ?_
 ·rintro n Γ K hn ⟨a,rfl⟩ hk;have hn':n+1<ls.length:=by omega
  have le:=a1S ls n;have e1:ls[n+1]?=some ls[n+1]:=List.getElem?_eq_getElem hn';have e2:ls[qM ls n]?=some ls[qM ls n]:=List.getElem?_eq_getElem (by omega);obtain⟨z1,z2⟩:=hz.get e1;obtain⟨z3,z4⟩:=hz.get e2;have hk3:=hk.nx;have ef:qM ls (n+1)=if oH ls[n+1] ls[qM ls n]=true then n+1 else qM ls n:=by
   show(match ls[n+1]?,ls[qM ls n]? with|some l,some k=>if oH l k=true then n+1 else qM ls n|_,_=>qM ls n)=_
   rw[e1,e2]
  rw[ef] at hk3;have ei:(1+(n:Int))=((n+1:Nat):Int):=by omega
  rw[ei];unfold lZ;walk_at "ws";refine cB (pG e1) ?_;walk_at "ws";refine cB (pG e2) ?_;walk_at "ws";refine vU (z1.mono (by decide)) (z2.mono (by decide)) (z3.mono (by decide)) (z4.mono (by decide)) ?_
  cases hb:oH ls[n+1] ls[qM ls n] with
  | true=>
   rw[hb,if_pos rfl] at hk3;walk_at "ws";exact hk3 _ ⟨_,rfl⟩
  | false=>
   rw[hb,if_neg (by decide)] at hk3;walk_at "ws";exact hk3 _ ⟨_,rfl⟩
 ·rintro Γ ⟨a,rfl⟩;rw[show((ls.length:Int)-1).toNat=ls.length-1 by omega];unfold lQ;walk_at "ws";exact q
theorem zQ {n:Nat}{t:Rat}{c:Nat×Rat}(hz:LinesOk 200 ls)(hn:n<ls.length)(hc:c.1<ls.length)(ht:Sz 802 t)(hu:Sz 802 c.2)(q:Q (.val (.bool (if t=c.2 then ahN ls t n c.1 else decide (t<c.2))))) :
  dW [.val (.list (fJ ls)),.val (.int (n:Int)),.val (bT t),.val (pairD c)] Q:=by
 have e1:ls[n]?=some ls[n]:=List.getElem?_eq_getElem hn;have e2:ls[c.1]?=some ls[c.1]:=List.getElem?_eq_getElem hc;obtain⟨z1,z2⟩:=hz.get e1;obtain⟨z3,z4⟩:=hz.get e2;refine lD ?_;unfold kZ pairD;walk_at "ws";refine cB (d:=bT c.2) rfl ?_;walk_at "ws";refine tX (fun d=>?_) (fun d=>?_)
 ·rw[if_neg d] at q;walk_at "ws";refine cB (d:=bT c.2) rfl ?_;walk_at "ws";exact gB (ht.mono (by decide)) (hu.mono (by decide)) q
 ·rw[if_pos d] at q;walk_at "ws";unfold m8;walk_at "ws";refine cB (d:=.int (c.1:Int)) rfl ?_;walk_at "ws";refine a9N e1 e2 (z1.mono (by decide)) (z2.mono (by decide)) (z3.mono (by decide)) (z4.mono (by decide)) (ht.mono (by decide)) ?_;rw[← jQ e1 e2];exact q
theorem tH {L:Nat}(hz:LinesOk 200 ls)(hl:ls.length≤30)(hL:L<ls.length)(q:Q (.val (dNl (nlN ls L)))):eZ [.val (.list (fJ ls)),.val (.int (L:Int))] Q:=by
 have e0:ls[L]?=some ls[L]:=List.getElem?_eq_getElem hL;obtain⟨y1,y2⟩:=hz.get e0;refine lD ?_;unfold mV;walk_at "ws";refine cB (yE ls) ?_;walk_at "ws";refine⟨by omega,by omega,?_⟩;refine sY (fun n Γ=>∃ a b,Γ=[.val (.list (fJ ls)),.val (.int (L:Int)),.val (dNl (aCL ls L n)),a,b]) ⟨_,_,rfl⟩ ?_ ?_
 ·rintro n Γ K hn ⟨a,b,rfl⟩ hk;have hn':n<ls.length:=by omega
  have e1:ls[n]?=some ls[n]:=List.getElem?_eq_getElem hn';obtain⟨z1,z2⟩:=hz.get e1;have hk3:=hk.nx;have ef:aCL ls L (n+1)=wO ls L n (aCL ls L n):=rfl;rw[ef] at hk3;unfold wO at hk3;rw[qR e0,qR e1] at hk3;rw[Int.zero_add];unfold nO;walk_at "ws";refine cB (pG e0) ?_;walk_at "ws";refine cB (pG e1) ?_;walk_at "ws";refine gB (y2.mono (by decide)) (z2.mono (by decide)) ?_;walk_at "ws";refine fZ (fun c=>?_) (fun c=>?_)
  ·rw[if_pos c] at hk3;have hs:ls[L].2≠ls[n].2:=by grind
   have zm:=aFW hz e0 e1 hs;have em:=a4I e0 e1;walk_at "ws";refine cB (pG e0) ?_;walk_at "ws";refine cB (pG e1) ?_;walk_at "ws";refine aCQ (y1.mono (by decide)) (y2.mono (by decide)) (z1.mono (by decide)) (z2.mono (by decide)) ?_;walk_at "ws";unfold aGT;rw[if_neg hs];refine cB (d:=bT (mt ls[L] ls[n])) rfl ?_;rw[← em];walk_at "ws"
   cases hb:aCL ls L n with
   | none=>
    rw[hb] at hk3;refine uV ?_;walk_at "ws";exact hk3 _ ⟨_,_,rfl⟩
   | some c'=>
    rw[hb] at hk3;dsimp only at hk3;have C:=sH n (by omega) c' hb;have hc1:c'.1<ls.length:=by have:=C.lt; omega
    have f1:ls[c'.1]?=some ls[c'.1]:=List.getElem?_eq_getElem hc1;have zc:Sz 802 c'.2:=by
     rw[C.tm];refine aFW hz e0 f1 ?_;have:=C.st;rw[qR e0,qR f1] at this;grind
    refine u6 ?_;walk_at "ws";refine zQ hz hn' (by have:=C.lt; omega) zm zc ?_
    by_cases e:mtN ls L n=c'.2
    ·rw[if_pos e] at hk3 ⊢
     cases ha:ahN ls (mtN ls L n) n c'.1 with
     | true=>
      rw[ha,if_pos rfl] at hk3;walk_at "ws";exact hk3 _ ⟨_,_,rfl⟩
     | false=>
      rw[ha,if_neg (by decide)] at hk3;walk_at "ws";exact hk3 _ ⟨_,_,rfl⟩
    ·rw[if_neg e] at hk3 ⊢;walk_at "ws";refine fZ (fun h=>?_) (fun h=>?_)
     ·rw[if_pos h] at hk3;walk_at "ws";exact hk3 _ ⟨_,_,rfl⟩
     ·rw[if_neg h] at hk3;walk_at "ws";exact hk3 _ ⟨_,_,rfl⟩
  ·rw[if_neg c] at hk3;walk_at "ws";exact hk3 _ ⟨_,_,rfl⟩
 ·rintro Γ ⟨a,b,rfl⟩;rw[show(ls.length:Int).toNat=ls.length by omega];unfold nP;walk_at "ws";exact q
def gO (ls:List Ln)(i:Nat):Nat:=((List.range ls.length).filter fun j=>decide (slo ls i<slo ls j)).length
theorem a9X {i c:Nat}(hc:c<ls.length)(h:slo ls i<slo ls c):gO ls c<gO ls i:=by
 unfold gO;have sub:∀{xs:List Nat},c∈xs→(xs.filter fun j=>decide (slo ls c<slo ls j)).length<(xs.filter fun j=>decide (slo ls i<slo ls j)).length:=by
  intro xs;have le:∀ xs:List Nat,(xs.filter fun j=>decide (slo ls c<slo ls j)).length≤(xs.filter fun j=>decide (slo ls i<slo ls j)).length:=by
   intro xs
   induction xs with
   | nil=>exact Nat.le_refl _
   | cons x xs ih=>
    by_cases c1:slo ls c<slo ls x
    ·have c2:slo ls i<slo ls x:=by grind
     simp[c1,c2]; exact ih
    ·by_cases c2:slo ls i<slo ls x
     ·simp[c1,c2]; omega
     ·simp[c1,c2]; exact ih
  induction xs with
  | nil=>intro h; cases h
  | cons x xs ih=>
   intro hm;rcases List.mem_cons.mp hm with e|e
   ·subst e;have c1:¬slo ls c<slo ls c:=by grind
    have:=le xs;simp[c1,h]; omega
   ·have:=ih e
    by_cases c1:slo ls c<slo ls x
    ·have c2:slo ls i<slo ls x:=by grind
     simp[c1,c2]; exact this
    ·by_cases c2:slo ls i<slo ls x
     ·simp[c1,c2]; omega
     ·simp[c1,c2]; exact this
 exact sub (List.mem_range.mpr hc)
theorem aB8 (hz:LinesOk 200 ls)(hl:ls.length≤20)(q:Q (.own (aMV ls))):oU [.val (.list (fJ ls))] Q:=by
 refine lD ?_;unfold wJ;walk_at "ws";refine cB (yE ls) ?_;walk_at "ws";refine fZ (fun c=>?_) (fun c=>?_)
 ·have e:ls=[]:=List.eq_nil_of_length_eq_zero (by omega);subst e;walk_at "ws";exact q
 have hne:ls≠[]:=fun e=>c (by rw[e]; rfl);walk_at "ws";unfold uW;walk_at "ws";refine zX hz (by omega) hne ?_;walk_at "ws";have fin:∀ r rs,RowFrom ls none r rs→oF [.val (.list (fJ ls)),.own (a7P r rs),.val .none] fun fl=>match fl with|.rt rv=>Q rv|.nx _=>Q (.val .none)|_=>False:=by
  intro r rs hr;have h1:=hr.first (a2Y hne)
  subst h1;have h2:=hr.unique (a2Y hne);subst h2;unfold oF;walk_at "ws";unfold aMV at q;rw[if_neg hne] at q;exact q
 have fl:=aFC hne;refine xK (fun m Γ=>(m=gO ls (flN ls)+1∧Γ=[.val (.list (fJ ls)),.own [],.val (.tuple [.int (flN ls:Int),.none])]) ∨
   (∃ r acc c,m=gO ls c.1+1∧Γ=[.val (.list (fJ ls)),.own (a7P r acc),.val (pairD c)]∧acc.length+gO ls c.1<20∧Leads ls c.2 c.1∧∀ rest,RowFrom ls (some c.2) c.1 rest→RowFrom ls none r (acc++c::rest)) ∨
   (∃ r acc,m=0∧Γ=[.val (.list (fJ ls)),.own (a7P r acc),.val .none]∧RowFrom ls none r acc)) (gO ls (flN ls)+1) (.inl ⟨rfl,rfl⟩) ?_
 have nl:∀ L,L<ls.length→∀ c,nlN ls L=some c→c.1<ls.length∧gO ls c.1<gO ls L:=fun L hL c hc=>by
  have C:=sH _ (Nat.le_refl _) c hc;exact⟨C.lt,a9X C.lt C.st⟩
 have st20:∀ i,gO ls i≤ls.length:=fun i=>by
  unfold gO;have:=List.length_filter_le (fun j=>decide (slo ls i<slo ls j)) (List.range ls.length);rwa[List.length_range] at this
 have hfl:flN ls<ls.length:=by
  obtain⟨u,_,_,h⟩:=fl 0 trivial;exact h.1
 rintro m Γ (⟨rfl,rfl⟩|⟨r,acc,c,rfl,rfl,hlen,hld,hrow⟩|⟨r,acc,rfl,rfl,hrow⟩)
 ·walk_at "ws";unfold oX;walk_at "ws";refine aGH (ds:=[]) rfl (by decide) ?_;walk_at "ws";refine cB (d:=.int (flN ls:Int)) rfl ?_;walk_at "ws";refine tH hz (by omega) hfl ?_;walk_at "ws"
  cases hc:nlN ls (flN ls) with
  | none=>exact⟨0,by omega,.inr (.inr ⟨flN ls,[],rfl,rfl,row_end fl hc⟩)⟩
  | some c=>
   obtain⟨n1,n2⟩:=nl _ hfl c hc;obtain⟨b1,b2,b3,b4⟩:=a8H fl hc;have:=st20 (flN ls);exact⟨gO ls c.1+1,by omega,.inr (.inl ⟨flN ls,[],c,rfl,rfl,by simp; omega,b4,fun rest hr=>⟨b1,b2,b3,hr⟩⟩)⟩
 ·unfold pairD;walk_at "ws";unfold oX;walk_at "ws";refine aGH (ds:=a7P r acc) rfl (by simp[a7P]; omega) ?_;have eo:a7P r acc++[.tuple [.int (c.1:Int),bT c.2]]=a7P r (acc++[c]):=by unfold a7P; simp[pairD]
  rw[eo];walk_at "ws";refine cB (d:=.int (c.1:Int)) rfl ?_;walk_at "ws";refine tH hz (by omega) hld.1 ?_;walk_at "ws"
  cases hc:nlN ls c.1 with
  | none=>exact⟨0,by omega,.inr (.inr ⟨r,acc++[c],rfl,rfl,hrow [] (row_end (LeadFr.at hld) hc)⟩)⟩
  | some c'=>
   obtain⟨n1,n2⟩:=nl _ hld.1 c' hc;obtain⟨b1,b2,b3,b4⟩:=a8H (LeadFr.at hld) hc;exact⟨gO ls c'.1+1,by omega,.inr (.inl ⟨r,acc++[c],c',rfl,rfl,by simp; omega,b4,fun rest hr=>by
    rw[List.append_assoc];exact hrow (c'::rest) ⟨b1,b2,b3,hr⟩⟩)⟩
 ·walk_at "ws";exact fin r acc hrow
theorem a5Y {t:Rat}{r:Nat}{rs:List (Nat×Rat)}(ht:Sz 2900 t)(hz:∀ p∈rs,Sz 2900 p.2)(q:Q (.val (.int (o4 t r rs:Int)))):jG [.val (.list (a7P r rs)),.val (bT t)] Q:=by
 refine lD ?_;unfold rM;walk_at "ws";refine cB (d:=.tuple [.int (r:Int),.none]) (wR (ds:=a7P r rs) (i:=0) rfl) ?_;walk_at "ws";refine cB (d:=.int (r:Int)) rfl ?_;walk_at "ws";unfold a7P;rw[aOZ];refine iW (fun n Γ=>∃ a,Γ=[.val (.list (a7P r rs)),.val (bT t),.val (.int (o4 t r (rs.take n):Int)),a]) ⟨_,rfl⟩ ?_ ?_
 ·rintro n d Γ K hd ⟨a,rfl⟩ hk;rw[List.getElem?_map] at hd;obtain⟨p,hp,rfl⟩:∃ p,rs[n]?=some p∧d=pairD p:=by
   cases e:rs[n]? with
   | none=>rw[e] at hd; cases hd
   | some p=>rw[e] at hd; cases hd; exact⟨p,rfl,rfl⟩
  have zp:=hz p (List.mem_of_getElem? hp);have tk:rs.take (n+1)=rs.take n++[p]:=by rw[List.take_succ,hp]; rfl
  have hk3:=hk.nx;have er:o4 t r (rs.take (n+1))=if t<p.2 then o4 t r (rs.take n) else p.1:=by rw[tk]; unfold o4; rw[List.foldl_append]; rfl
  rw[er] at hk3;unfold qU pairD;walk_at "ws";refine cB (d:=bT p.2) rfl ?_;walk_at "ws";refine gB (ht.mono (by decide)) (zp.mono (by decide)) ?_;walk_at "ws";refine tX (fun c=>?_) (fun c=>?_)
  ·rw[if_neg c] at hk3;walk_at "ws";refine cB (d:=.int (p.1:Int)) rfl ?_;walk_at "ws";exact hk3 _ ⟨_,rfl⟩
  ·rw[if_pos c] at hk3;walk_at "ws";exact hk3 _ ⟨_,rfl⟩
 ·rintro Γ ⟨a,rfl⟩;rw[List.length_map,List.take_length];unfold qY;walk_at "ws";exact q
end
inductive Deed where
 | join (t p m:Rat)
 | leave (t:Rat) (r:Nat)
 | turn (t:Rat) (r:Nat) (m:Rat)
def Deed.t:Deed→Rat
 | .join t _ _=>t
 | .leave t _=>t
 | .turn t _ _=>t
def cG:Deed→D
 | .join t p m=>.tuple [.str "join", bT t,bT p,bT m]
 | .leave t r=>.tuple [.str "leave", bT t,.int (r:Int)]
 | .turn t r m=>.tuple [.str "turn", bT t,.int (r:Int),bT m]
structure Rn where
 ls:List Ln
 rs:List Nat
def Rn.at (s:Rn)(r:Nat):Ln:=s.ls.getD r (0,0)
def stp (s:Rn):Deed→Rn
 | .join t p m=>⟨s.ls++[(p-m*t,m)],s.rs++[s.ls.length]⟩
 | .leave _ r=>⟨s.ls,s.rs.filter fun x=>decide (x≠r)⟩
 | .turn t r m=>⟨s.ls.set r (pl (s.at r) t-m*t,m),s.rs⟩
def Deed.ok (s:Rn):Deed→Prop
 | .join _ _ _=>True
 | .leave _ r=>r∈s.rs
 | .turn _ r _=>r∈s.rs
def run (ds:List Deed):Rn:=ds.foldl stp ⟨[],[]⟩
theorem jZ (ds:List Deed)(d:Deed):run (ds++[d])=stp (run ds) d:=by unfold run; rw[List.foldl_append]; rfl
def LogP (P:Rn→Deed→Prop)(ds:List Deed):Prop:=∀(n:Nat) d,ds[n]?=some d→P (run (ds.take n)) d
def LogOk (ds:List Deed):Prop:=LogP (fun s d=>d.ok s) ds
theorem LogP.snoc {P:Rn→Deed→Prop}{ds:List Deed}{d:Deed}(h:LogP P ds)(hd:P (run ds) d):LogP P (ds++[d]):=fun n e he=>by
 by_cases hn:n<ds.length
 ·rw[List.getElem?_append_left hn] at he;rw[List.take_append_of_le_length (Nat.le_of_lt hn)];exact h n e he
 ·have hn2:n=ds.length:=by
   have:=(List.getElem?_eq_some_iff.mp he).1;rw[List.length_append,List.length_singleton] at this;omega
  subst hn2;rw[List.getElem?_append_right (Nat.le_refl _),Nat.sub_self] at he
  cases he
  rw[List.take_append_of_le_length (Nat.le_refl _),List.take_length];exact hd
theorem LogP.take {P:Rn→Deed→Prop}{ds:List Deed}(h:LogP P ds)(k:Nat):LogP P (ds.take k):=fun n e he=>by
 rw[List.getElem?_take] at he
 split at he
 ·rename_i hn
  rw[List.take_take,Nat.min_eq_left (Nat.le_of_lt hn)];exact h n e he
 ·cases he
theorem LogOk.snoc {ds:List Deed}{d:Deed}(h:LogOk ds)(hd:d.ok (run ds)):LogOk (ds++[d]):=LogP.snoc h hd
theorem LogOk.take {ds:List Deed}(h:LogOk ds)(k:Nat):LogOk (ds.take k):=LogP.take h k
def Deed.few (s:Rn):Deed→Prop
 | .join _ _ _=>s.rs.length<8
 | _=>True
def Few (ds:List Deed):Prop:=LogP (fun s d=>d.few s) ds
structure RnOk (s:Rn):Prop where
 up:s.rs.Pairwise (·<·)
 lt:∀ r∈s.rs,r<s.ls.length
theorem aL6 {s:Rn}(h:RnOk s)(d:Deed):RnOk (stp s d):=by
 cases d with
 | join t p m=>
  refine⟨List.pairwise_append.mpr ⟨h.up,List.pairwise_singleton _ _,fun a ha b hb=>?_⟩,fun r hr=>?_⟩
  ·rw[List.mem_singleton.mp hb]; exact h.lt a ha
  ·show r<(s.ls++[_]).length;rw[List.length_append,List.length_singleton];rcases List.mem_append.mp hr with z|z
   ·have:=h.lt r z; omega
   ·rw[List.mem_singleton.mp z]; omega
 | leave t r=>exact⟨h.up.sublist List.filter_sublist,fun x hx=>h.lt x (List.mem_filter.mp hx).1⟩
 | turn t r m=>
  refine⟨h.up,fun x hx=>?_⟩;show x<(s.ls.set r _).length;rw[List.length_set];exact h.lt x hx
theorem a8V:∀(ds:List Deed) {s:Rn},RnOk s→RnOk (ds.foldl stp s)
 | [],_,h=>h
 | d::ds,_,h=>a8V ds (aL6 h d)
theorem nR (ds:List Deed):RnOk (run ds):=a8V ds ⟨List.Pairwise.nil,fun _ h=>nomatch h⟩
theorem RnOk.nd {s:Rn}(h:RnOk s):s.rs.Nodup:=h.up.imp fun h=>Nat.ne_of_lt h
theorem a90 (s:Rn)(d:Deed):(stp s d).rs.length≤s.rs.length+1:=by
 cases d with
 | join t p m=>show(s.rs++[_]).length≤_; rw[List.length_append,List.length_singleton]; exact Nat.le_refl _
 | leave t r=>exact Nat.le_succ_of_le (List.length_filter_le _ _)
 | turn t r m=>exact Nat.le_succ _
theorem vB:∀(ds:List Deed) (s:Rn),(ds.foldl stp s).rs.length≤s.rs.length+ds.length
 | [],s=>Nat.le_refl _
 | d::ds,s=>by
  have h1:=vB ds (stp s d);have h2:=a90 s d
  show(ds.foldl stp (stp s d)).rs.length≤_
  rw[List.length_cons]; omega
theorem a0T (ds:List Deed):(run ds).rs.length≤ds.length:=by
 have h:(run ds).rs.length≤([]:List Nat).length+ds.length:=vB ds ⟨[],[]⟩;rw[List.length_nil] at h;omega
def a3B (ls:List Ln)(rs:List Nat):List (Int×D):=rs.map fun r:Nat=>((r:Int),fM (ls.getD r (0,0)))
def cH (s:Rn):List (Int×D):=a3B s.ls s.rs
theorem kds_len (s:Rn):(cH s).length=s.rs.length:=List.length_map _
theorem aHX (ls:List Ln):∀(rs:List Nat) (r:Nat),rY (a3B ls rs) (r:Int)=if r∈rs then some (fM (ls.getD r (0,0))) else none
 | [],r=>by rw[if_neg (by exact fun h=>nomatch h)]; rfl
 | x::rs,r=>by
  show(if (x:Int)=(r:Int) then _ else rY (a3B ls rs) (r:Int))=_
  by_cases e:x=r
  ·subst e;rw[if_pos rfl,if_pos List.mem_cons_self]
  ·rw[if_neg (by omega),aHX ls rs r]
   by_cases h:r∈rs
   ·rw[if_pos h,if_pos (List.mem_cons_of_mem _ h)]
   ·rw[if_neg h,if_neg (fun z=>(List.mem_cons.mp z).elim (fun y=>e y.symm) h)]
theorem vM {s:Rn}{r:Nat}(h:r∈s.rs):rY (cH s) (r:Int)=some (fM (s.at r)):=by
 unfold cH;rw[aHX,if_pos h];rfl
theorem a8C {s:Rn}(h:RnOk s)(t p m:Rat):pA (cH s) (s.ls.length:Int) (fM (p-m*t,m))=cH (stp s (.join t p m)):=by
 have hn:rY (cH s) (s.ls.length:Int)=none:=by
  unfold cH;rw[aHX,if_neg (fun z=>Nat.lt_irrefl _ (h.lt _ z))]
 unfold pA;rw[hn,if_neg (by decide)];show a3B s.ls s.rs++_=a3B (s.ls++[(p-m*t,m)]) (s.rs++[s.ls.length]);unfold a3B;rw[List.map_append]
 congr 1
 ·refine List.map_congr_left fun r hr=>?_;have:=h.lt r hr;rw[List.getD_eq_getElem?_getD,List.getD_eq_getElem?_getD,List.getElem?_append_left this]
 ·rw[List.map_singleton,List.getD_eq_getElem?_getD,List.getElem?_append_right (Nat.le_refl _),Nat.sub_self];rfl
theorem a5A (s:Rn)(t:Rat)(r:Nat):jF (cH s) (r:Int)=cH (stp s (.leave t r)):=by
 show jF (a3B s.ls s.rs) _=a3B s.ls (s.rs.filter _)
 induction s.rs with
 | nil=>rfl
 | cons x rs ih=>
  show(if (x:Int)=(r:Int) then jF (a3B s.ls rs) (r:Int) else((x:Int),fM (s.ls.getD x (0,0)))::jF (a3B s.ls rs) (r:Int))=_
  by_cases e:x=r
  ·rw[if_pos (by omega),ih,List.filter_cons_of_neg (by simpa using e)]
  ·rw[if_neg (by omega),ih,List.filter_cons_of_pos (by simpa using e)];rfl
theorem a8T {s:Rn}(h:RnOk s){t m:Rat}{r:Nat}(hr:r∈s.rs):pA (cH s) (r:Int) (fM (pl (s.at r) t-m*t,m))=cH (stp s (.turn t r m)):=by
 have hl:=h.lt r hr;unfold pA;rw[vM hr,if_pos (show(some (fM (s.at r))).isSome=true from rfl)];show a0G (a3B s.ls s.rs) _ _=a3B (s.ls.set r _) s.rs;generalize (pl (s.at r) t-m*t,m)=l;clear hr
 induction s.rs with
 | nil=>rfl
 | cons x rs ih=>
  show(if (x:Int)=(r:Int) then((x:Int),fM l) else((x:Int),fM (s.ls.getD x (0,0))))::a0G (a3B s.ls rs) (r:Int) (fM l)=((x:Int),fM ((s.ls.set r l).getD x (0,0)))::a3B (s.ls.set r l) rs
  rw[ih]
  congr 1
  by_cases e:x=r
  ·subst e;rw[if_pos rfl,List.getD_eq_getElem?_getD,List.getElem?_set_self hl];rfl
  ·rw[if_neg (by omega),List.getD_eq_getElem?_getD,List.getD_eq_getElem?_getD,List.getElem?_set_ne (Ne.symm e)]
theorem aFL (s:Rn):(cH s).map (·.1)=s.rs.map fun r:Nat=>(r:Int):=by
 show(a3B s.ls s.rs).map (·.1)=_
 unfold a3B;rw[List.map_map];rfl
theorem uD {s:Rn}(h:RnOk s):(qW ((cH s).map (·.1))).map PyData.int=gC s.rs:=by
 have up:(s.rs.map fun r:Nat=>(r:Int)).Pairwise (·≤·):=List.pairwise_map.mpr (h.up.imp fun h=>by omega);rw[aFL,xZ (List.Perm.refl _) up,List.map_map];rfl
theorem iR {s:Rn}(h:RnOk s){r:Nat}(hr:r∈s.rs):s.ls[r]?=some (s.at r):=by
 have:=h.lt r hr;unfold Rn.at;rw[List.getD_eq_getElem?_getD,List.getElem?_eq_getElem this];rfl
def upto (T:Rat)(ds:List Deed):List Deed:=ds.filter fun d => !decide (T<d.t)
def Rising (ds:List Deed):Prop:=ds.Pairwise fun a b=>a.t≤b.t
theorem yL {T:Rat}:∀{ds:List Deed},Rising ds→∃ k,upto T ds=ds.take k
 | [],_=>⟨0,rfl⟩
 | d::ds,h=>by
  obtain⟨h1,h2⟩:=List.pairwise_cons.mp h
  by_cases c:T<d.t
  ·refine⟨0,?_⟩
   show(d::ds).filter _=[]
   refine List.filter_eq_nil_iff.mpr fun e he=>?_;have he:T<e.t:=by
    rcases List.mem_cons.mp he with rfl|z
    ·exact c
    ·exact(by have:=h1 e z; grind)
   rw[decide_eq_true he];decide
  ·obtain⟨k,hk⟩:=yL (T:=T) h2;refine⟨k+1,?_⟩
   show(d::ds).filter _=d::ds.take k
   rw[List.filter_cons_of_pos (by rw[decide_eq_false c]; rfl),←hk];rfl
theorem Rising.snoc {ds:List Deed}{d:Deed}(h:Rising ds)(hd:∀ e∈ds,e.t≤d.t):Rising (ds++[d]):=
 List.pairwise_append.mpr ⟨h,List.pairwise_singleton _ _,fun a ha b hb=>by rw[List.mem_singleton.mp hb]; exact hd a ha⟩
def G1 (B:Nat)(q:Rat):Prop:=∃ z:Int,q*27720=(z:Rat)∧z.natAbs≤B
def G2 (B:Nat)(q:Rat):Prop:=∃ z:Int,q*768398400=(z:Rat)∧z.natAbs≤B
theorem G1.mul {A B:Nat}{a b:Rat}(h:G1 A a)(g:G1 B b):G2 (A*B) (a*b):=by
 obtain⟨x,hx,bx⟩:=h;obtain⟨y,hy,dy⟩:=g;refine⟨x*y,?_,by rw[Int.natAbs_mul]; exact Nat.mul_le_mul bx dy⟩;rw[Rat.intCast_mul,←hx,←hy];grind
theorem G1.up {A:Nat}{a:Rat}(h:G1 A a):G2 (A*27720) a:=by
 obtain⟨x,hx,bx⟩:=h;refine⟨x*27720,?_,by rw[Int.natAbs_mul]; exact Nat.mul_le_mul bx (Nat.le_refl _)⟩;rw[Rat.intCast_mul,←hx];show a*768398400=a*27720*((27720:Int):Rat);rw[show((27720:Int):Rat)=27720 from rfl];grind
theorem G2.mono {A B:Nat}{a:Rat}(h:G2 A a)(l:A≤B):G2 B a:=let ⟨x,hx,bx⟩:=h; ⟨x,hx,Nat.le_trans bx l⟩
theorem G2.add {A B:Nat}{a b:Rat}(h:G2 A a)(g:G2 B b):G2 (A+B) (a+b):=by
 obtain⟨x,hx,bx⟩:=h;obtain⟨y,hy,dy⟩:=g;refine⟨x+y,?_,Nat.le_trans (Int.natAbs_add_le _ _) (Nat.add_le_add bx dy)⟩;rw[Rat.intCast_add,←hx,←hy];grind
theorem G2.sub {A B:Nat}{a b:Rat}(h:G2 A a)(g:G2 B b):G2 (A+B) (a-b):=by
 obtain⟨x,hx,bx⟩:=h;obtain⟨y,hy,dy⟩:=g;refine⟨x-y,?_,?_⟩
 ·rw[Rat.intCast_sub,←hx,←hy];grind
 ·omega
theorem G2.sz {B k:Nat}{q:Rat}(h:G2 B q)(hB:B<2^k)(hk:30≤k):Sz k q:=by
 obtain⟨z,hz,bz⟩:=h;rw[← dI (t:=z) (b:=768398400) (q:=q) (by decide) hz.symm];refine Sz.divInt (Nat.lt_of_le_of_lt bz hB) (Bt.mono (k:=30) (by show Int.natAbs 768398400<2^30; decide) hk) (by decide)
theorem G1.sz {B k:Nat}{q:Rat}(h:G1 B q)(hB:B<2^k)(hk:30≤k):Sz k q:=by
 obtain⟨z,hz,bz⟩:=h;rw[← dI (t:=z) (b:=27720) (q:=q) (by decide) hz.symm];refine Sz.divInt (Nat.lt_of_le_of_lt bz hB) (Bt.mono (k:=30) (by show Int.natAbs 27720<2^30; decide) hk) (by decide)
theorem aKF {a b:Int}{B:Nat}(ha:a.natAbs*27720≤B)(b0:1≤b)(b1:b≤12):G1 B (Rat.divInt a b):=by
 obtain⟨c,hc,c0,c1⟩:∃ c:Int,b*c=27720∧0≤c∧c≤27720:=by
  have:b=1∨b=2∨b=3∨b=4∨b=5∨b=6∨b=7∨b=8∨b=9∨b=10∨b=11∨b=12:=by omega
  rcases this with rfl|rfl|rfl|rfl|rfl|rfl|rfl|rfl|rfl|rfl|rfl|rfl
  ·exact⟨27720,by decide⟩
  ·exact⟨13860,by decide⟩
  ·exact⟨9240,by decide⟩
  ·exact⟨6930,by decide⟩
  ·exact⟨5544,by decide⟩
  ·exact⟨4620,by decide⟩
  ·exact⟨3960,by decide⟩
  ·exact⟨3465,by decide⟩
  ·exact⟨3080,by decide⟩
  ·exact⟨2772,by decide⟩
  ·exact⟨2520,by decide⟩
  ·exact⟨2310,by decide⟩
 refine⟨a*c,?_,Nat.le_trans ?_ ha⟩
 ·have hb:(b:Rat)≠0:=fun z=>by
   have:b=0:=by exact_mod_cast z
   omega
  have hc':(b:Rat)*(c:Rat)=27720:=by
   rw[← Rat.intCast_mul,hc]; rfl
  rw[Rat.divInt_eq_div,Rat.intCast_mul,←hc'];grind
 ·rw[Int.natAbs_mul];exact Nat.mul_le_mul (Nat.le_refl _) (by omega)
def DeedZ:Deed→Prop
 | .join t p m=>G1 (2^45) t∧G1 (2^45) p∧G1 (2^45) m
 | .leave t _=>G1 (2^45) t
 | .turn t _ m=>G1 (2^45) t∧G1 (2^45) m
theorem DeedZ.tz {d:Deed}(h:DeedZ d):Sz 60 d.t:=by
 cases d with
 | join t p m=>exact G1.sz (q:=t) h.1 (by decide) (by decide)
 | leave t r=>exact G1.sz (q:=t) h (by decide) (by decide)
 | turn t r m=>exact G1.sz (q:=t) h.1 (by decide) (by decide)
def RnZ (n:Nat)(s:Rn):Prop:=∀ l∈s.ls,G2 ((n+1)*2^91) l.1∧G1 (2^45) l.2
theorem aMZ {n:Nat}{s:Rn}{d:Deed}(h:RnZ n s)(hs:RnOk s)(hd:d.ok s)(hz:DeedZ d):RnZ (n+1) (stp s d):=by
 have old:∀ l∈s.ls,G2 ((n+1+1)*2^91) l.1∧G1 (2^45) l.2:=fun l hl=>⟨(h l hl).1.mono (Nat.mul_le_mul_right _ (by omega)),(h l hl).2⟩
 cases d with
 | join t p m=>
  obtain⟨h1,h2,h3⟩:=hz;intro l hl;rcases List.mem_append.mp hl with z|z
  ·exact old l z
  ·rw[List.mem_singleton.mp z];refine⟨(h2.up.sub (h3.mul h1)).mono ?_,h3⟩;refine Nat.le_trans (m:=1*2^91) (by decide) (Nat.mul_le_mul_right _ (by omega))
 | leave t r=>exact old
 | turn t r m=>
  obtain⟨h1,h3⟩:=hz;intro l hl;rcases List.mem_or_eq_of_mem_set hl with z|z
  ·exact old l z
  ·rw[z];have hm:s.at r∈s.ls:=List.mem_of_getElem? (iR hs hd);obtain⟨a,b⟩:=h _ hm;refine⟨((a.add (b.mul h1)).sub (h3.mul h1)).mono ?_,h3⟩;have e:2^45*2^45+2^45*2^45=2^91:=by decide
   have:(n+1+1)*2^91=(n+1)*2^91+2^91:=Nat.succ_mul _ _;omega
theorem aNW {ds:List Deed}(hl:LogOk ds)(hz:∀ d∈ds,DeedZ d):RnZ ds.length (run ds):=by
 have aux:∀ n,n≤ds.length→RnZ n (run (ds.take n)):=by
  intro n
  induction n with
  | zero=>intro _ l hl; exact nomatch hl
  | succ n ih=>
   intro hn;have hn':n<ds.length:=by omega
   have e:ds[n]?=some ds[n]:=List.getElem?_eq_getElem hn';rw[List.take_succ,e];show RnZ (n+1) (run (ds.take n++[ds[n]]));rw[jZ];exact aMZ (ih (by omega)) (nR _) (hl n _ e) (hz _ (List.getElem_mem hn'))
 have:=aux ds.length (Nat.le_refl _);rw[List.take_length] at this;exact this
theorem aFZ {ds:List Deed}(hl:LogOk ds)(hz:∀ d∈ds,DeedZ d)(h40:ds.length≤40):LinesOk 200 (run ds).ls:=fun l h=>by
 obtain⟨a,b⟩:=aNW hl hz l h;refine⟨a.sz ?_ (by decide),b.sz (by decide) (by decide)⟩;exact Nat.lt_of_le_of_lt (Nat.mul_le_mul_right _ (show ds.length+1≤41 by omega)) (by decide)
def a0N (q:Rat):Prop:=q.num.natAbs≤999999999∧q.den≤12
theorem aH5 {a b:Int}(ha:a.natAbs≤999999999)(b0:1≤b)(b1:b≤12):a0N (Rat.divInt a b):=by
 obtain⟨h1,h2⟩:=jX (t:=a) (b:=b) (by omega);rw[fd] at h1 h2;refine⟨?_,?_⟩
 ·rw[← h1];exact Nat.le_trans (Int.natAbs_ediv_le_natAbs _ _) ha
 ·have h3:((Rat.divInt a b).den:Int).natAbs≤b.natAbs:=by
   rw[← h2];exact Int.natAbs_ediv_le_natAbs _ _
  omega
def aEV:Deed→Prop
 | .join t p m=>a0N t∧a0N p∧a0N m
 | .leave t _=>a0N t
 | .turn t _ m=>a0N t∧a0N m
structure LogB (ds:List Deed):Prop where
 ok:LogOk ds
 up:Rising ds
 z:∀ d∈ds,DeedZ d
 nm:∀ d∈ds,aEV d
 few:Few ds
section
variable {p:Addr}{n:Nat}{Q:Rv→Nat→Prop}
end
theorem aLQ {A B:Prop}{d:D}(g:Good d)(a:A):Good d∧Good d∧(if PyData.eqv d d=true then A else B):=⟨g,g,by rw[mZ g]; exact uV a⟩
theorem aIQ {A B:Prop}{d e:D}(g:Good d)(f:Good e)(h:PyData.eqv d e=false)(b:B):Good d∧Good e∧(if PyData.eqv d e=true then A else B):=⟨g,f,by rw[h]; exact u6 b⟩
theorem aPK {A B:Prop}{d:D}(g:Good d)(b:B):Good d∧Good d∧(if (!PyData.eqv d d)=true then A else B):=⟨g,g,by rw[mZ g]; exact u6 b⟩
theorem gJ:Good (.str "join"):=good_str _
theorem gL:Good (.str "leave"):=good_str _
theorem gT':Good (.str "turn"):=good_str _
theorem aHW (d:Deed):Gd 2 (cG d):=by
 cases d with
 | join t p m=>
  refine a5F (n:=1) fun x hx=>?_;simp only[List.mem_cons,List.not_mem_nil,or_false] at hx;rcases hx with rfl|rfl|rfl|rfl
  ·exact(a7W _).mono
  ·exact v5 _
  ·exact v5 _
  ·exact v5 _
 | leave t r=>
  refine a5F (n:=1) fun x hx=>?_;simp only[List.mem_cons,List.not_mem_nil,or_false] at hx;rcases hx with rfl|rfl|rfl
  ·exact(a7W _).mono
  ·exact v5 _
  ·exact(a0K _).mono
 | turn t r m=>
  refine a5F (n:=1) fun x hx=>?_;simp only[List.mem_cons,List.not_mem_nil,or_false] at hx;rcases hx with rfl|rfl|rfl|rfl
  ·exact(a7W _).mono
  ·exact v5 _
  ·exact(a0K _).mono
  ·exact v5 _
theorem aA0 (ds:List Deed):Good (.list (ds.map cG)):=(a7X (n:=2) fun d h=>by
 obtain⟨e,_,rfl⟩:=List.mem_map.mp h;exact aHW e).good
section
variable {Q:Rv→Prop}{s:Rn}{t T:Rat}
theorem aIU (d:Deed):ixD (cG d) (.int 0)=some (.str (match d with|.join _ _ _ => "join" | .leave _ _ => "leave" | .turn _ _ _ => "turn")):=by cases d<;>rfl
theorem a6N (d:Deed):ixD (cG d) (.int 1)=some (bT d.t):=by cases d<;>rfl
theorem a4Y {ds:List Deed}{n:Nat}{d:D}(h:(ds.map cG)[n]?=some d):∃ e,ds[n]?=some e∧d=cG e:=by
 rw[List.getElem?_map] at h
 cases e:ds[n]? with
 | none=>rw[e] at h; cases h
 | some o=>rw[e] at h; cases h; exact⟨o,rfl,rfl⟩
end
section
theorem qO {Q:Rv→Prop}{t p m:Rat}(h1:Sz 900 t)(h2:Sz 4000 p)(h3:Sz 900 m)(q:Q (.val (fM (p-m*t,m)))):dU [.val (bT t),.val (bT p),.val (bT m)] Q:=by
 refine lD ?_;unfold lJ;walk_at "fs";refine vH (h3.mono (by decide)) (h1.mono (by decide)) ?_;walk_at "fs";refine jK h2 ((h3.mul h1).mono (by decide)) ?_;walk_at "fs";exact q
end
def fdS (a b:Addr)(s:Rn)(la:D):FS:=⟨a,b,cH s,(s.ls.length:Int),la⟩
section
variable {c w a b:Addr}{s:Rn}{la:D}{Q:Rv→FS→Prop}
theorem aIK {l:D}(hs:s.rs.length<1000)(q:Q (.val (.int (s.ls.length:Int))) ⟨a,b,pA (cH s) (s.ls.length:Int) l,(s.ls.length:Int)+1,la⟩):iB c w (fdS a b s la) [.val l] Q:=by
 refine aK3 ?_;unfold lM;walk_at "fs";refine aLG (by with_unfolding_all rfl) (by show(cH s).length<1000; rw[kds_len]; exact hs) ?_;walk_at "fs";exact q
def aNO (s:Rn):Deed→D
 | .join _ _ _=>.int (s.ls.length:Int)
 | _=>.none
theorem aLE {d:Deed}(hs:RnOk s)(hd:d.ok s)(hz:DeedZ d)(lz:LinesOk 200 s.ls)(hl:s.rs.length<1000)(q:Q (.val (aNO s d)) (fdS a b (stp s d) (bT d.t))):a7L c w (fdS a b s la) [.val (cG d)] Q:=by
 refine aK3 ?_;unfold aC5;walk_at "fs";refine cB (a6N d) ?_;walk_at "fs"
 cases d with
 | join t p m=>
  obtain⟨z1,z2,z3⟩:=hz;have z1:=G1.sz (k:=60) z1 (by decide) (by decide);have z2:=G1.sz (k:=60) z2 (by decide) (by decide);have z3:=G1.sz (k:=60) z3 (by decide) (by decide);refine cB (d:=.str "join") rfl ?_;walk_at "fs";refine aLQ gJ ?_;walk_at "fs";refine cB (d:=bT t) rfl ?_;walk_at "fs";refine cB (d:=bT p) rfl ?_;walk_at "fs";refine cB (d:=bT m) rfl ?_;walk_at "fs";refine qO (z1.mono (by decide)) (z2.mono (by decide)) (z3.mono (by decide)) ?_;walk_at "fs";refine aIK (s:=s) (la:=bT t) hl ?_;walk_at "fs";have e:(⟨a,b,pA (cH s) (s.ls.length:Int) (fM (p-m*t,m)),(s.ls.length:Int)+1,bT t⟩:FS)=fdS a b (stp s (.join t p m)) (bT t):=by
   rw[a8C hs];unfold fdS
   congr 1
   show _=(((s.ls++[_]).length:Nat):Int);rw[List.length_append,List.length_singleton];rfl
  have z:Q (.val (.int (s.ls.length:Int))) (fdS a b (stp s (.join t p m)) (bT t)):=q;rw[← e] at z;exact z
 | leave t r=>
  have e1:=vM hd;refine cB (d:=.str "leave") rfl ?_;walk_at "fs";refine aIQ gL gJ rfl ?_;unfold wN;walk_at "fs";refine cB (d:=.str "leave") rfl ?_;walk_at "fs";refine aLQ gL ?_;walk_at "fs";refine cB (d:=.int (r:Int)) rfl ?_;refine aNX (by with_unfolding_all rfl) e1 ?_;unfold wW;walk_at "fs";have e:(⟨a,b,jF (cH s) (r:Int),(s.ls.length:Int),bT t⟩:FS)=fdS a b (stp s (.leave t r)) (bT t):=by
   rw[a5A s t r];rfl
  exact e▸q
 | turn t r m=>
  obtain⟨z1,z3⟩:=hz;have z1:=G1.sz (k:=60) z1 (by decide) (by decide);have z3:=G1.sz (k:=60) z3 (by decide) (by decide);have e1:=vM hd;obtain⟨z4,z5⟩:=lz.get (iR hs hd);refine cB (d:=.str "turn") rfl ?_;walk_at "fs";refine aIQ gT' gJ rfl ?_;unfold wN;walk_at "fs";refine cB (d:=.str "turn") rfl ?_;walk_at "fs";refine aIQ gT' gL rfl ?_;walk_at "fs";refine cB (d:=.int (r:Int)) rfl ?_;refine aNS (by with_unfolding_all rfl) e1 ?_;walk_at "fs";refine cB (d:=bT t) rfl ?_;walk_at "fs";refine a08 (z4.mono (by decide)) (z5.mono (by decide)) (z1.mono (by decide)) ?_;walk_at "fs";refine cB (d:=bT t) rfl ?_;walk_at "fs";refine cB (d:=bT m) rfl ?_;walk_at "fs";refine qO (z1.mono (by decide)) ((z4.add (z5.mul z1)).mono (by decide)) (z3.mono (by decide)) ?_;walk_at "fs";refine cB (d:=.int (r:Int)) rfl ?_;refine aLG (by with_unfolding_all rfl) (by show(cH s).length<1000; rw[kds_len]; exact hl) ?_;unfold wW;walk_at "fs";have e:(⟨a,b,pA (cH s) (r:Int) (fM (pl (s.at r) t-m*t,m)),(s.ls.length:Int),bT t⟩:FS)=fdS a b (stp s (.turn t r m)) (bT t):=by
   rw[a8T hs hd];unfold fdS
   congr 1
   show _=(((s.ls.set r _).length:Nat):Int);rw[List.length_set]
  exact e▸q
end
section
variable {c:Addr}{ds:List Deed}{T:Rat}{Q:Rv→Prop}
theorem aCP (T:Rat)(ds:List Deed)(d:Deed):upto T (ds++[d])=upto T ds++if T<d.t then[] else[d]:=by
 unfold upto;rw[List.filter_append]
 congr 1
 by_cases c:T<d.t
 ·rw[if_pos c,List.filter_cons_of_neg (by rw[decide_eq_true c]; decide)];rfl
 ·rw[if_neg c,List.filter_cons_of_pos (by rw[decide_eq_false c]; rfl)];rfl
structure LogG (ds:List Deed):Prop where
 ok:LogOk ds
 up:Rising ds
 z:∀ d∈ds,DeedZ d
 n:ds.length≤40
theorem LogG.upto {ds:List Deed}(h:LogG ds)(T:Rat):LogG (upto T ds):=by
 obtain⟨k,hk⟩:=yL (T:=T) h.up;rw[hk];exact⟨h.ok.take k,h.up.sublist (List.take_sublist k ds),fun d hd=>h.z d (List.mem_of_mem_take hd),by rw[List.length_take]; have:=h.n; omega⟩
theorem LogG.take {ds:List Deed}(h:LogG ds)(k:Nat):LogG (ds.take k):=⟨h.ok.take k,h.up.sublist (List.take_sublist k ds),fun d hd=>h.z d (List.mem_of_mem_take hd),by rw[List.length_take]; have:=h.n; omega⟩
theorem LogG.sz {ds:List Deed}(h:LogG ds):LinesOk 200 (run ds).ls:=aFZ h.ok h.z h.n
theorem LogG.rs {ds:List Deed}(h:LogG ds):(run ds).rs.length≤40:=Nat.le_trans (a0T ds) h.n
theorem aFO {T:Rat}{ds:List Deed}{n:Nat}{d:Deed}(h:Rising ds)(hd:ds[n]?=some d)(hT:¬T<d.t):upto T (ds.take n)=ds.take n:=by
 refine List.filter_eq_self.mpr fun e he=>?_;obtain⟨i,hi,rfl⟩:=List.getElem_of_mem he;rw[List.length_take] at hi;rw[List.getElem_take];have hn:=(List.getElem?_eq_some_iff.mp hd).1;have hle:ds[i].t≤d.t:=by
  have:=List.pairwise_iff_getElem.mp h i n (by omega) hn (by omega);rw[(List.getElem?_eq_some_iff.mp hd).2] at this;exact this
 rw[decide_eq_false (fun c=>hT (by grind))];rfl
end
theorem rT:∀{xs ys:List Rat},xs.Pairwise (·<·)→ys.Pairwise (·<·)→(∀ x,x∈xs↔x∈ys)→xs=ys
 | [],[],_,_,_=>rfl
 | [],y::ys,_,_,h=>absurd ((h y).mpr List.mem_cons_self) (by simp)
 | x::xs,[],_,_,h=>absurd ((h x).mp List.mem_cons_self) (by simp)
 | x::xs,y::ys,hx,hy,h=>by
  obtain⟨x1,x2⟩:=List.pairwise_cons.mp hx;obtain⟨y1,y2⟩:=List.pairwise_cons.mp hy;have e:x=y:=by
   rcases List.mem_cons.mp ((h x).mp List.mem_cons_self) with e|e
   ·exact e
   ·rcases List.mem_cons.mp ((h y).mpr List.mem_cons_self) with f|f
    ·exact f.symm
    ·have:=y1 x e;have:=x1 y f;grind
  subst e;rw[rT x2 y2 fun z=>⟨fun hz=>?_,fun hz=>?_⟩]
  ·rcases List.mem_cons.mp ((h z).mp (List.mem_cons_of_mem _ hz)) with f|f
   ·have:=x1 z hz;grind
   ·exact f
  ·rcases List.mem_cons.mp ((h z).mpr (List.mem_cons_of_mem _ hz)) with f|f
   ·have:=y1 z hz;grind
   ·exact f
def lR (s:Rn):List Ln:=s.rs.map s.at
def a00 (s:Rn)(k:Nat):Nat:=s.rs.getD k 0
def ldR (s:Rn)(t:Rat):Option Nat:=(a3I (ahN s.ls t) s.rs).head?
theorem qQ (s:Rn):(lR s).length=s.rs.length:=List.length_map _
theorem a0E {s:Rn}{k:Nat}(h:k<s.rs.length):(lR s)[k]?=some (s.at s.rs[k]):=by
 unfold lR;rw[List.getElem?_map,List.getElem?_eq_getElem h];rfl
theorem gH {s:Rn}{k:Nat}(h:k<s.rs.length):a00 s k=s.rs[k]:=by
 unfold a00;rw[List.getD_eq_getElem?_getD,List.getElem?_eq_getElem h];rfl
theorem aM9 {s:Rn}(hs:RnOk s){t:Rat}{a b:Nat}(ha:a<s.rs.length)(hb:b<s.rs.length):ahN (lR s) t a b=ahN s.ls t s.rs[a] s.rs[b]:=by
 rw[jQ (a0E ha) (a0E hb),jQ (iR hs (List.getElem_mem ha)) (iR hs (List.getElem_mem hb))];have e:((a:Int)<(b:Int))↔((s.rs[a]:Int)<(s.rs[b]:Int)):=by
  have up:=List.pairwise_iff_getElem.mp hs.up;rcases Nat.lt_trichotomy a b with c|c|c
  ·have:=up a b ha hb c; omega
  ·subst c; omega
  ·have:=up b a hb ha c; omega
 unfold ahB;rw[decide_eq_decide.mpr e]
theorem aG6 {s:Rn}(hs:RnOk s)(hne:s.rs≠[])(t:Rat):ldR s t=some (a00 s (cP (lR s) t)):=by
 have st:=fY s.ls t;have so:=a8N st hs.lt hs.nd;have hl:lR s≠[]:=fun z=>hne (List.eq_nil_of_map_eq_nil z);obtain⟨l1,l2⟩:=mQ hl t;generalize cP (lR s) t=i at l1 l2;rw[qQ] at l1;unfold ldR
 cases e:a3I (ahN s.ls t) s.rs with
 | nil=>
  have:(a3I (ahN s.ls t) s.rs).length=0:=by rw[e]; rfl
  rw[a2O] at this;omega
 | cons h tl=>
  have hm:h∈s.rs:=ordL_mem.mp (by rw[e]; exact List.mem_cons_self);obtain⟨j,hj,rfl⟩:=List.getElem_of_mem hm;show some s.rs[j]=_;rw[gH l1]
  by_cases c:j=i
  ·subst c; rfl
  ·have h1:=l2 j (by rw[qQ]; exact hj) c;rw[aM9 hs l1 hj] at h1;have h2:s.rs[i]∈s.rs[j]::tl:=by rw[← e]; exact ordL_mem.mpr (List.getElem_mem l1)
   rcases List.mem_cons.mp h2 with z|z
   ·rw[z]
   ·rw[e] at so;have h3:=(List.pairwise_cons.mp so).1 _ z;rw[st.asymm _ _ (hs.lt _ (List.getElem_mem l1)) (hs.lt _ (List.getElem_mem hj)) h1] at h3
    cases h3
def inB (T:Rat)(B:Option Rat)(u:Rat):Bool:=decide (T<u)&&(match B with
 | none=>true
 | some b=>decide (u<b))
theorem inB_iff {T u:Rat}{B:Option Rat}:inB T B u=true↔T<u∧∀ b,B=some b→u<b:=by
 unfold inB;rw[Bool.and_eq_true,decide_eq_true_iff]
 cases B with
 | none=>exact⟨fun h=>⟨h.1,fun b z=>by cases z⟩,fun h=>⟨h.1,rfl⟩⟩
 | some b=>exact⟨fun h=>⟨h.1,fun b' z=>by cases z; exact of_decide_eq_true h.2⟩,fun h=>⟨h.1,decide_eq_true (h.2 b rfl)⟩⟩
theorem oA (ls:List Ln):∀(ts:List Rat) (r:Nat) (p:Nat×Rat),p∈eU ls r ts→p.2∈ts
 | [],r,p,h=>nomatch h
 | t::ts,r,p,h=>by
  unfold eU at h
  split at h
  ·exact List.mem_cons_of_mem _ (oA ls ts _ p h)
  ·rcases List.mem_cons.mp h with z|z
   ·rw[z]; exact List.mem_cons_self
   ·exact List.mem_cons_of_mem _ (oA ls ts _ p z)
theorem a8F (ls:List Ln)(q:Rat→Bool):∀(ts:List Rat) (r:Nat),(∀ t∈ts,∀ u∈ts,t<u→q u=true→q t=true)→ts.Pairwise (·<·)→(eU ls r ts).filter (fun p=>q p.2)=eU ls r (ts.filter q)
 | [],r,_,_=>rfl
 | t::ts,r,hd,hp=>by
  obtain⟨p1,p2⟩:=List.pairwise_cons.mp hp
  by_cases c:q t=true
  ·rw[List.filter_cons_of_pos c];have ih:=fun r=>a8F ls q ts r (fun a ha b hb=>hd a (List.mem_cons_of_mem _ ha) b (List.mem_cons_of_mem _ hb)) p2;unfold eU
   by_cases e:cP ls t=r
   ·rw[if_pos e,if_pos e,ih]
   ·rw[if_neg e,if_neg e,List.filter_cons_of_pos (by exact c),ih]
  ·have all:∀ u∈t::ts,¬q u=true:=fun u hu z=>by
    rcases List.mem_cons.mp hu with y|y
    ·exact c (y▸z)
    ·exact c (hd t List.mem_cons_self u hu (p1 u y) z)
   rw[List.filter_eq_nil_iff.mpr all,List.filter_eq_nil_iff.mpr fun p hp=>all _ (oA ls _ _ p hp)];rfl
theorem a4C {T:Rat}:∀(rest:List (Nat×Rat)) (r:Nat),(∀ p∈rest,T<p.2)→o4 T r rest=r
 | [],r,_=>rfl
 | p::rest,r,h=>by
  show o4 T (if T<p.2 then r else p.1) rest=r;rw[if_pos (h p List.mem_cons_self),a4C rest r fun q hq=>h q (List.mem_cons_of_mem _ hq)]
theorem a0W (ls:List Ln)(T:Rat)(B:Option Rat):∀(ts:List Rat) (r:Nat),ts.Pairwise (·<·)→(eU ls r ts).filter (fun p=>inB T B p.2)=eU ls (o4 T r (eU ls r ts)) (ts.filter (inB T B))
 | [],r,_=>rfl
 | t::ts,r,hp=>by
  obtain⟨p1,p2⟩:=List.pairwise_cons.mp hp
  by_cases c:T<t
  ·rw[a4C _ r fun p h=>?_]
   ·refine a8F ls (inB T B) (t::ts) r (fun a ha b hb hab hq=>inB_iff.mpr ⟨?_,fun x hx=>?_⟩) hp
    ·rcases List.mem_cons.mp ha with y|y
     ·rw[y]; exact c
     ·have:=p1 a y; grind
    ·have:=(inB_iff.mp hq).2 x hx;grind
   ·rcases List.mem_cons.mp (oA ls _ _ p h) with y|y
    ·rw[y]; exact c
    ·have:=p1 _ y; grind
  ·have n:¬inB T B t=true:=fun z=>c (inB_iff.mp z).1;rw[List.filter_cons_of_neg n,show eU ls r (t::ts)=if cP ls t=r then eU ls r ts else(cP ls t,t)::eU ls (cP ls t) ts from rfl]
   by_cases e:cP ls t=r
   ·rw[if_pos e];exact a0W ls T B ts r p2
   ·rw[if_neg e,List.filter_cons_of_neg (by exact n),a0W ls T B ts _ p2];show eU ls (o4 T (cP ls t) _) _=eU ls (o4 T (if T<t then r else cP ls t) _) _;rw[if_neg c]
abbrev Row:=List (Option Nat×Option Rat)
def a9J (row:Row):Option Nat:=match row.getLast? with
 | some p=>p.1
 | none=>none
def qZ (row:Row)(p:Option Nat×Rat):Row:=if a9J row=p.1 then row else row++[(p.1,some p.2)]
theorem a5O (row:Row)(p:Option Nat×Rat):a9J (qZ row p)=p.1:=by
 unfold qZ
 split
 ·assumption
 ·unfold a9J;rw[List.getLast?_append];rfl
def aKZ (s:Rn)(T:Rat)(B:Option Rat):List (Option Nat×Rat):=(T::(mts (lR s)).filter (inB T B)).map fun u=>(ldR s u,u)
def aGC (s:Rn)(T:Rat)(B:Option Rat):List (Option Nat×Rat):=
 if s.rs=[] then[(none,T)] else(some (a00 s (o4 T (aA3 (lR s)) (a0Z (lR s)))),T)::((a0Z (lR s)).filter fun p=>inB T B p.2).map fun p=>(some (a00 s p.1),p.2)
theorem a5Q {s:Rn}(hs:RnOk s)(hne:s.rs≠[]):∀(us:List Rat) (x:Nat) (row:Row),a9J row=some (a00 s x) →
  ((eU (lR s) x us).map fun p=>((some (a00 s p.1),p.2):Option Nat×Rat)).foldl qZ row=(us.map fun u=>(ldR s u,u)).foldl qZ row
 | [],x,row,_=>rfl
 | u::us,x,row,h=>by
  have e:=aG6 hs hne u;unfold eU
  by_cases c:cP (lR s) u=x
  ·rw[if_pos c];show _=(us.map fun u=>(ldR s u,u)).foldl qZ (qZ row (ldR s u,u));rw[show qZ row (ldR s u,u)=row from if_pos (by rw[h,e,c])];exact a5Q hs hne us x row h
  ·rw[if_neg c]
   show((eU (lR s) (cP (lR s) u) us).map _).foldl qZ (qZ row (some (a00 s (cP (lR s) u)),u))=(us.map fun u=>(ldR s u,u)).foldl qZ (qZ row (ldR s u,u))
   rw[e];exact a5Q hs hne us _ _ (a5O _ _)
theorem a8E {s:Rn}(hs:RnOk s)(T:Rat)(B:Option Rat)(row:Row):(aGC s T B).foldl qZ row=(aKZ s T B).foldl qZ row:=by
 unfold aGC aKZ
 by_cases c:s.rs=[]
 ·rw[if_pos c];have e:lR s=[]:=by unfold lR; rw[c]; rfl
  have e2:ldR s T=none:=by unfold ldR; rw[c]; rfl
  rw[e,List.map_cons,e2];rfl
 ·rw[if_neg c];have hl:lR s≠[]:=fun z=>c (List.eq_nil_of_map_eq_nil z);have e:o4 T (aA3 (lR s)) (a0Z (lR s))=cP (lR s) T:=(uO (a2Y hl) trivial).eq;have e3:(a0Z (lR s)).filter (fun p=>inB T B p.2)=eU (lR s) (cP (lR s) T) ((mts (lR s)).filter (inB T B)):=by
   rw[← e];exact a0W _ T B _ _ (a2E _)
  rw[e,e3,List.map_cons,List.foldl_cons,List.foldl_cons,aG6 hs c T];exact a5Q hs c _ _ _ (a5O _ _)
def aA2:List Deed→List Deed→Row→Row
 | _,[],row=>row
 | pre,d::rest,row=>aA2 (pre++[d]) rest (if rest.head?.map Deed.t=some d.t then row else(aKZ (run (pre++[d])) d.t (rest.head?.map Deed.t)).foldl qZ row)
def dts:List Deed→List Rat
 | []=>[]
 | d::rest=>if rest.head?.map Deed.t=some d.t then dts rest else d.t::dts rest
theorem a7T:∀ r:List Deed,(dts r).head?=r.head?.map Deed.t
 | []=>rfl
 | d::r=>by
  unfold dts
  split
  ·rename_i h
   rw[a7T r,h];rfl
  ·rfl
theorem yR:∀(r:List Deed) (t:Rat),t∈dts r↔∃ d∈r,d.t=t
 | [],t=>by simp[dts]
 | d::r,t=>by
  unfold dts
  split
  ·rename_i h
   rw[yR r t];refine⟨fun⟨e,he,z⟩=>⟨e,List.mem_cons_of_mem _ he,z⟩,fun⟨e,he,z⟩=>?_⟩;rcases List.mem_cons.mp he with y|y
   ·cases r with
    | nil=>cases h
    | cons x r=>
     refine⟨x,List.mem_cons_self,?_⟩;rw[← z,y];exact Option.some.inj h
   ·exact⟨e,y,z⟩
  ·rw[List.mem_cons,yR r t];refine⟨fun h=>?_,fun⟨e,he,z⟩=>?_⟩
   ·rcases h with h|⟨e,he,z⟩
    ·exact⟨d,List.mem_cons_self,h.symm⟩
    ·exact⟨e,List.mem_cons_of_mem _ he,z⟩
   ·rcases List.mem_cons.mp he with y|y
    ·exact .inl (by rw[← z,y])
    ·exact .inr ⟨e,y,z⟩
theorem a3L {d:Deed}{r:List Deed}(h:Rising (d::r))(c:¬r.head?.map Deed.t=some d.t):∀ e∈r,d.t<e.t:=fun e he=>by
 obtain⟨h1,h2⟩:=List.pairwise_cons.mp h
 cases r with
 | nil=>cases he
 | cons x r=>
  have a:=h1 x List.mem_cons_self;have b:¬x.t=d.t:=fun z=>c (congrArg some z);rcases List.mem_cons.mp he with y|y
  ·rw[y]; grind
  ·have:=(List.pairwise_cons.mp h2).1 e y; grind
theorem a6T:∀{r:List Deed},Rising r→(dts r).Pairwise (·<·)
 | [],_=>List.Pairwise.nil
 | d::r,h=>by
  have h2:=(List.pairwise_cons.mp h).2;unfold dts
  split
  ·exact a6T h2
  ·rename_i c
   refine List.pairwise_cons.mpr ⟨fun t ht=>?_,a6T h2⟩;obtain⟨e,he,rfl⟩:=(yR r t).mp ht;exact a3L h c e he
def a7C (ds:List Deed):List Rat→List Rat
 | []=>[]
 | t::ts=>(t::(mts (lR (run (upto t ds)))).filter (inB t ts.head?))++a7C ds ts
theorem a7M {pre r:List Deed}{d:Deed}{u:Rat}(h:Rising (pre++d::r))(hd:d.t≤u)(hr:∀ e,r.head?=some e→u<e.t):upto u (pre++d::r)=pre++[d]:=by
 obtain⟨h1,h2,h3⟩:=List.pairwise_append.mp h;have e1:upto u pre=pre:=List.filter_eq_self.mpr fun e he=>by
  have:=h3 e he d List.mem_cons_self;rw[decide_eq_false (by grind)];rfl
 have e2:upto u r=[]:=List.filter_eq_nil_iff.mpr fun e he=>by
  have h4:=(List.pairwise_cons.mp h2).2;have:u<e.t:=by
   cases r with
   | nil=>cases he
   | cons x r=>
    have a:=hr x rfl;rcases List.mem_cons.mp he with y|y
    ·rw[y]; exact a
    ·have:=(List.pairwise_cons.mp h4).1 e y; grind
  rw[decide_eq_true this];decide
 unfold upto at *;rw[List.filter_append,List.filter_cons_of_pos (by rw[decide_eq_false (by grind)]; rfl),e1,e2]
theorem fold_all (ds:List Deed)(h:Rising ds):∀(rest pre:List Deed) (row:Row),ds=pre++rest →
  ((a7C ds (dts rest)).map fun u=>((ldR (run (upto u ds)) u,u):Option Nat×Rat)).foldl qZ row=aA2 pre rest row
 | [],pre,row,_=>rfl
 | d::r,pre,row,hd=>by
  have hd2:ds=(pre++[d])++r:=by rw[hd,List.append_assoc]; rfl
  have hr:Rising (d::r):=(List.pairwise_append.mp (hd▸h)).2.1;unfold dts aA2
  by_cases c:r.head?.map Deed.t=some d.t
  ·rw[if_pos c,if_pos c];exact fold_all ds h r _ row hd2
  ·rw[if_neg c,if_neg c];have la:=a3L hr c;have e1:upto d.t ds=pre++[d]:=by
    rw[hd];exact a7M (hd▸h) (by grind) fun e he=>la e (List.mem_of_mem_head? he)
   unfold a7C;rw[List.map_append,List.foldl_append,e1,a7T,fold_all ds h r _ _ hd2]
   congr 2
   refine List.map_congr_left fun u hu=>?_;have e2:upto u ds=pre++[d]:=by
    rcases List.mem_cons.mp hu with y|y
    ·rw[y]; exact e1
    ·obtain⟨a,b⟩:=inB_iff.mp (List.mem_filter.mp y).2;rw[hd];exact a7M (hd▸h) (by grind) fun e he=>b e.t (by rw[he]; rfl)
   rw[e2]
theorem a6X {q:Rat}(h:a0N q):G1 (2^45) q:=by
 have z:=aKF (a:=q.num) (b:=(q.den:Int)) (B:=2^45) (by have:=h.1; omega) (by have:=q.den_pos; omega) (by have:=h.2; omega);rwa[Rat.num_divInt_den] at z
theorem aL9 {q:Rat}(h:a0N q):Sz 60 q:=G1.sz (a6X h) (by decide) (by decide)
theorem aLC {a:Int}(h:a.natAbs≤999999999):a0N (a:Rat):=by
 have z:=aH5 (a:=a) (b:=1) h (by decide) (by decide);rwa[dI (t:=a) (b:=1) (q:=(a:Rat)) (by decide) (by rw[show((1:Int):Rat)=1 from rfl]; grind)] at z
section
variable {Q:Rv→Prop}
theorem tK {kd:Int}(q:∀ r:Rat,a0N r→Q (.val (bT r))):cN [.pen,.val (.int kd)] Q:=by
 refine lD ?_;unfold pD o7 oJ;walk_at "ks";refine fZ (fun c=>?_) (fun c=>?_)
 ·walk_at "ks";refine fG (by decide) (by decide) fun r r0 r1=>?_;walk_at "ks";rw[a1N];exact q _ (aLC (by omega))
 ·walk_at "ks";refine fZ (fun c=>?_) (fun c=>?_)
  ·walk_at "ks";refine fG (by decide) (by decide) fun r r0 r1=>?_;walk_at "ks";refine fG (by decide) (by decide) fun s s0 s1=>?_;walk_at "ks";have h2:Bt 60 (1+s):=aGL (by omega) (by omega);exact tD (by omega) (h2.mono (by decide)) (q _ (aH5 (by omega) (by omega) (by omega)))
  ·walk_at "ks";refine fG (by decide) (by decide) fun r r0 r1=>?_;walk_at "ks";refine fG (by decide) (by decide) fun s s0 s1=>?_;walk_at "ks";have hs:s=0∨s=1:=by omega
   obtain⟨g,hg,hi⟩:∃ g:Int,(g=1∨g = -1)∧ixD (.list [.int 1,.int (-1)]) (.int s)=some (.int g):=by
    rcases hs with rfl|rfl
    ·exact⟨1,.inl rfl,rfl⟩
    ·exact⟨-1,.inr rfl,rfl⟩
   refine cB hi ?_;walk_at "ks";have hr:Bt 40 r:=aGL (by omega) (by omega);have hg1:=aAD hg;refine⟨aNZ hr hg1,?_⟩;walk_at "ks";refine fG (by decide) (by decide) fun u u0 u1=>?_;walk_at "ks";have h2:Bt 60 (1+u):=aGL (by omega) (by omega);exact tD (by omega) (h2.mono (by decide)) (q _ (aH5 (by rcases hg with rfl|rfl<;>omega) (by omega) (by omega)))
theorem a6S {r:Rat}(q:∀ b:Bool,(b=true→a0N r)→Q (.val (.bool b))):cF [.val (bT r)] Q:=by
 refine lD ?_;unfold lF;walk_at "ks";refine fZ (fun c=>?_) (fun c=>?_)
 ·walk_at "ks";refine q _ fun z=>?_;have z:=of_decide_eq_true z;refine⟨?_,by omega⟩
  split at c<;>omega
 ·exact q _ fun z=>by cases z
variable {s:Rn}{t:Rat}{i j:Nat}
theorem a86 (hs:RnOk s)(hz:LinesOk 200 s.ls)(hi:i∈s.rs)(hj:j∈s.rs)(ht:Sz 2900 t)(q:Q (.val (tW (nxC (s.at i) (s.at j) t)))) :
  dH [.val (.dict (dkD (cH s))),.val (.int (i:Int)),.val (.int (j:Int)),.val (bT t)] Q:=by
 have d1:=vM hi;have d2:=vM hj;obtain⟨z1,z2⟩:=hz.get (iR hs hi);obtain⟨z3,z4⟩:=hz.get (iR hs hj);unfold nxC at q;generalize s.at i=l at *;generalize s.at j=k at *;refine lD ?_;unfold oR;walk_at "ks";refine vP d1 ?_;walk_at "ks";refine vP d2 ?_;walk_at "ks";refine a5K (.inr rfl) (z2.mono (by decide)) (z4.mono (by decide)) ?_;rw[aCI];walk_at "ks";refine fZ (fun c=>?_) (fun c=>?_)
 ·have c:l.2-k.2=0:=num_zero.mp c;rw[if_pos (by grind)] at q;walk_at "ks";exact q
 ·have c:l.2-k.2≠0:=fun z=>c (num_zero.mpr z);rw[if_neg (by grind)] at q;have s1:Sz 401 (l.2-k.2):=(z2.sub z4).mono (by decide);have s2:Sz 401 (k.1-l.1):=(z3.sub z1).mono (by decide);obtain⟨b0,b1⟩:=id s1;obtain⟨c0,c1⟩:=id s2;unfold p7;walk_at "ks";refine vP d2 ?_;walk_at "ks";refine vP d1 ?_;walk_at "ks";refine a5K (.inr rfl) (z3.mono (by decide)) (z1.mono (by decide)) ?_;rw[aCI];walk_at "ks";refine tD (Int.mul_ne_zero (dM _) (a4A c)) ((c1.mul b0).mono (by decide)) ?_;rw[aCF _ c];have em:(k.1-l.1)/(l.2-k.2)=mt l k:=rfl;rw[em];have sm:Sz 802 (mt l k):=(s2.div s1 c).mono (by decide);walk_at "ks";refine a0F (ht.mono (by decide)) (sm.mono (by decide)) ?_;walk_at "ks"
  by_cases d:t<mt l k
  ·rw[decide_eq_true d];rw[if_pos d] at q;refine cB (d:=bT (mt l k)) rfl ?_;walk_at "ks";exact q
  ·rw[decide_eq_false d];rw[if_neg d] at q;refine cB (d:=.none) rfl ?_;walk_at "ks";exact q
theorem a4F {p m:Rat}(h1:Sz 900 t)(h2:Sz 4000 p)(h3:Sz 900 m)(q:Q (.val (fM (p-m*t,m)))):f9 [.val (bT t),.val (bT p),.val (bT m)] Q:=by
 refine lD ?_;unfold nA;walk_at "ks";refine aC9 (h3.mono (by decide)) (h1.mono (by decide)) ?_;walk_at "ks";refine a5K (.inr rfl) h2 ((h3.mul h1).mono (by decide)) ?_;rw[aCI];walk_at "ks";exact q
theorem aGG {d:Deed}(ro:RnOk s)(dk:d.ok s)(dz:DeedZ d)(rz:LinesOk 200 s.ls)(hl:s.rs.length≤60)(q:Q (.box (bDk (cH (stp s d))))):fP [.val (.dict (dkD (cH s))),.val (cG d),.val (.int (s.ls.length:Int))] Q:=by
 refine lD ?_;unfold uH;walk_at "ks";refine aNT ?_;walk_at "ks"
 cases d with
 | join t p m=>
  obtain⟨z1,z2,z3⟩:=dz;have z1:=G1.sz (k:=60) z1 (by decide) (by decide);have z2:=G1.sz (k:=60) z2 (by decide) (by decide);have z3:=G1.sz (k:=60) z3 (by decide) (by decide);refine cB (d:=.str "join") rfl ?_;walk_at "ks";refine aLQ gJ ?_;walk_at "ks";refine cB (d:=bT t) rfl ?_;walk_at "ks";refine cB (d:=bT p) rfl ?_;walk_at "ks";refine cB (d:=bT m) rfl ?_;walk_at "ks";refine a4F (z1.mono (by decide)) (z2.mono (by decide)) (z3.mono (by decide)) ?_;walk_at "ks";refine aKU (by with_unfolding_all rfl) (by rw[kds_len]; omega) ?_;have e:pA (cH s) (s.ls.length:Int) (fM (p-m*t,m))=cH (stp s (.join t p m)):=a8C ro t p m;rw[e];unfold j6;walk_at "ks";exact q
 | leave t r=>
  refine cB (d:=.str "leave") rfl ?_;walk_at "ks";refine aIQ gL gJ rfl ?_;walk_at "ks";refine cB (d:=.str "leave") rfl ?_;walk_at "ks";refine aLQ gL ?_;walk_at "ks";refine cB (d:=.int (r:Int)) rfl ?_;refine aNP (by with_unfolding_all rfl) (vM dk) ?_;walk_at "ks";rw[a5A s t r];unfold j6;walk_at "ks";exact q
 | turn t r m=>
  obtain⟨z1,z3⟩:=dz;have z1:=G1.sz (k:=60) z1 (by decide) (by decide);have z3:=G1.sz (k:=60) z3 (by decide) (by decide);obtain⟨z4,z5⟩:=rz.get (iR ro dk);refine cB (d:=.str "turn") rfl ?_;walk_at "ks";refine aIQ gT' gJ rfl ?_;walk_at "ks";refine cB (d:=.str "turn") rfl ?_;walk_at "ks";refine aIQ gT' gL rfl ?_;walk_at "ks";refine cB (d:=bT t) rfl ?_;walk_at "ks";refine cB (d:=.int (r:Int)) rfl ?_;refine aNN (by with_unfolding_all rfl) (vM dk) ?_;walk_at "ks";refine cB (d:=bT t) rfl ?_;walk_at "ks";refine a7S (z4.mono (by decide)) (z5.mono (by decide)) (z1.mono (by decide)) ?_;rw[show(s.at r).1+(s.at r).2*t=pl (s.at r) t from rfl];walk_at "ks";refine cB (d:=bT m) rfl ?_;walk_at "ks";refine a4F (z1.mono (by decide)) ((z4.add (z5.mul z1)).mono (by decide)) (z3.mono (by decide)) ?_;walk_at "ks";refine cB (d:=.int (r:Int)) rfl ?_;refine aKU (by with_unfolding_all rfl) (by rw[kds_len]; omega) ?_;have e:pA (cH s) (r:Int) (fM (pl (s.at r) t-m*t,m))=cH (stp s (.turn t r m)):=a8T ro dk;rw[e];unfold j6;walk_at "ks";exact q
end
def th:Rat:=Rat.divInt 1 3
theorem aPP:PyData.tuple [.int 1,.int 3]=bT th:=by
 have n:=jX (t:=1) (b:=3) (by decide);have h1:(Rat.divInt 1 3).num=1:=by rw[← n.1]; decide
 have h2:((Rat.divInt 1 3).den:Int)=3:=by rw[← n.2]; decide
 unfold bT th;rw[h1,h2]
theorem aNE:PyData.tuple [.int 1,.int 1]=bT 1:=a1N 1
theorem aJC:0≤th:=by unfold th; decide
theorem aLD:0≤hf:=by unfold hf; decide
theorem aND {l k:Ln}{t u:Rat}(h:nxC l k t=some u):t≤u:=by
 have:=(wC h).2.1;grind
section
variable {Q:Rv→Prop}{s:Rn}{T:Rat}
theorem aII (hs:RnOk s)(hz:LinesOk 200 s.ls)(hl:s.rs.length≤60)(hT:a0N T)(q:∀ T':Rat,a0N T'→T≤T'→Q (.val (bT T'))):gM [.pen,.val (.dict (dkD (cH s))),.val (bT T)] Q:=by
 have zT:=aL9 hT;have tt:T≤T:=by grind
 refine lD ?_;unfold rW;walk_at "kf";refine fG (by decide) (by decide) fun w w0 w1=>?_;walk_at "kf";refine fZ (fun c=>?_) (fun c=>?_)
 ·walk_at "kf";exact q _ hT tt
 ·unfold qK;walk_at "kf";refine aFB (by rw[kds_len]; omega) ?_;rw[uD hs];walk_at "kf";have rest:∀(a b c:Sl),lK [.pen,.val (.dict (dkD (cH s))),.val (bT T),.val (.int w),.val (.list (gC s.rs)),a,b,c,.no] fun fl=>match fl with|.rt rv=>Q rv|.nx _=>Q (.val .none)|_=>False:=by
   intro a b c;unfold lK;walk_at "kf";refine fG (by decide) (by decide) fun x x0 x1=>?_;walk_at "kf";refine fG (by decide) (by decide) fun y y0 y1=>?_;obtain⟨v,hv,v0,zv⟩:∃ v:Rat,ixD (.list [.tuple [.int 1,.int 1],.tuple [.int 1,.int 2],.tuple [.int x,.int 1],.tuple [.int 1,.int 3]]) (.int y)=some (bT v)∧0≤v∧Sz 60 v:=by
    have:y=0∨y=1∨y=2∨y=3:=by omega
    rcases this with rfl|rfl|rfl|rfl
    ·exact⟨1,aNE▸rfl,by decide,a85 (i:=1) (by decide) (by decide)⟩
    ·exact⟨hf,aPL▸rfl,aLD,hf_sz.mono (by decide)⟩
    ·refine⟨(x:Rat),a1N x▸rfl,by exact_mod_cast x0,a85 (by omega) (by omega)⟩
    ·exact⟨th,aPP▸rfl,aJC,Sz.divInt (aGL (by decide) (by decide)) (aGL (by decide) (by decide)) (by decide)⟩
   walk_at "kf";refine cB hv ?_;walk_at "kf";refine a5K (.inl rfl) (zT.mono (by decide)) (zv.mono (by decide)) ?_;rw[aGK];walk_at "kf";refine a6S fun b hb=>?_;walk_at "kf"
   cases b with
   | true=>
    refine cB (d:=bT (T+v)) rfl ?_;walk_at "kf";exact q _ (hb rfl) (by grind)
   | false=>
    refine cB (d:=bT T) rfl ?_;walk_at "kf";exact q _ hT tt
  refine fZ (fun c2=>?_) (fun c2=>?_)
  ·walk_at "kf";refine cB (j5 s.rs) ?_;walk_at "kf";refine fZ (fun c3=>?_) (fun c3=>?_)
   case refine_2=>exact rest _ _ _
   walk_at "kf";refine cB (j5 s.rs) ?_;walk_at "kf";refine fG (by omega) (by omega) fun x x0 x1=>?_;walk_at "kf";refine cB (j5 s.rs) ?_;walk_at "kf";refine fG (by omega) (by omega) fun y y0 y1=>?_;walk_at "kf";refine cB (j5 s.rs) ?_;walk_at "kf";refine⟨by omega,?_⟩;walk_at "kf";obtain⟨a,rfl⟩:∃ a:Nat,x=(a:Int):=⟨x.toNat,by omega⟩;have h1:=Int.emod_nonneg ((a:Int)+1+y) (b:=(s.rs.length:Int)) (by omega);have h2:=Int.emod_lt_of_pos ((a:Int)+1+y) (b:=(s.rs.length:Int)) (by omega);obtain⟨b,hb⟩:∃ b:Nat,((a:Int)+1+y)%(s.rs.length:Int)=(b:Int):=⟨(((a:Int)+1+y)%(s.rs.length:Int)).toNat,by omega⟩;rw[hb];have ha:a<s.rs.length:=by omega
   have hb:b<s.rs.length:=by omega
   refine cB (oM ha) ?_;walk_at "kf";refine cB (oM hb) ?_;walk_at "kf";refine a86 hs hz (List.getElem_mem ha) (List.getElem_mem hb) (zT.mono (by decide)) ?_
   cases e:nxC (s.at s.rs[a]) (s.at s.rs[b]) T with
   | none=>
    rw[show tW none=.none from rfl];walk_at "kf";exact rest _ _ _
   | some u=>
    rw[show tW (some u)=.tuple [.int u.num,.int (u.den:Int)] from rfl];walk_at "kf";refine a6S (r:=u) fun z hu=>?_
    cases z with
    | true=>
     walk_at "kf";exact q _ (hu rfl) (aND e)
    | false=>
     walk_at "kf";exact rest _ _ _
  ·refine u6 ?_;walk_at "kf";exact rest _ _ _
theorem aDQ {kd:Int}(hs:RnOk s)(hz:LinesOk 200 s.ls)(hl:s.rs.length≤60)(hT:a0N T)(q:∀ p:Rat,a0N p→Q (.val (bT p))):gK [.pen,.val (.dict (dkD (cH s))),.val (bT T),.val (.int kd)] Q:=by
 have zT:=aL9 hT;have rest:∀(a b:Sl),lH [.pen,.val (.dict (dkD (cH s))),.val (bT T),.val (.int kd),a,b] fun fl=>match fl with|.rt rv=>Q rv|.nx _=>Q (.val .none)|_=>False:=by
  intro a b;unfold lH;walk_at "kf";exact tK q
 refine lD ?_;unfold rH;walk_at "kf"
 cases e:(cH s).isEmpty with
 | true=>
  walk_at "kf";exact rest _ _
 | false=>
  have hp:0<s.rs.length:=by
   rw[← kds_len]
   cases h:cH s with
   | nil=>rw[h] at e; cases e
   | cons=>exact Nat.succ_pos _
  walk_at "kf";refine fG (by decide) (by decide) fun w w0 w1=>?_;walk_at "kf";refine fZ (fun c2=>?_) (fun c2=>?_)
  ·walk_at "kf";refine aFB (by rw[kds_len]; omega) ?_;rw[uD hs];walk_at "kf";refine cB (j5 s.rs) ?_;walk_at "kf";refine fG (by omega) (by omega) fun x x0 x1=>?_;obtain⟨a,rfl⟩:∃ a:Nat,x=(a:Int):=⟨x.toNat,by omega⟩;have ha:a<s.rs.length:=by omega
   walk_at "kf";refine cB (oM ha) ?_;refine vP (vM (List.getElem_mem ha)) ?_;obtain⟨z1,z2⟩:=hz.get (iR hs (List.getElem_mem ha));walk_at "kf";refine a7S (z1.mono (by decide)) (z2.mono (by decide)) (zT.mono (by decide)) ?_;walk_at "kf";refine a6S fun b hb=>?_
   cases b with
   | true=>
    walk_at "kf";exact q _ (hb rfl)
   | false=>
    walk_at "kf";exact rest _ _
  ·exact rest _ _
theorem aG3:∀(ds:List Deed),(∀ d∈ds,aEV d)→∀(s:Rn),(∀ l∈s.ls,a0N l.2)→∀ l∈(ds.foldl stp s).ls,a0N l.2
 | [],_,s,h,l,hl=>h l hl
 | d::ds,hd,s,h,l,hl=>by
  refine aG3 ds (fun e he=>hd e (List.mem_cons_of_mem _ he)) (stp s d) (fun k hk=>?_) l hl;have hd:=hd d List.mem_cons_self
  cases d with
  | join t p m=>
   rcases List.mem_append.mp hk with z|z
   ·exact h k z
   ·rw[List.mem_singleton.mp z]; exact hd.2.2
  | leave t r=>exact h k hk
  | turn t r m=>
   rcases List.mem_or_eq_of_mem_set hk with z|z
   ·exact h k z
   ·rw[z]; exact hd.2
theorem a3Y (xs:List Nat):PyData.eqv (.list (gC xs)) (.list [])=decide (xs=[]):=by
 cases xs with
 | nil=>rfl
 | cons x xs=>rw[decide_eq_false (fun h=>nomatch h)]; rfl
theorem a4X:Good (.list []):=(a7X (n:=0) (ds:=[]) fun _ h=>nomatch h).good
theorem aMX {d:Deed}(h:aEV d):DeedZ d:=by
 cases d with
 | join t p m=>exact⟨a6X h.1,a6X h.2.1,a6X h.2.2⟩
 | leave t r=>exact a6X h
 | turn t r m=>exact⟨a6X h.1,a6X h.2⟩
theorem aJA (s:Rn):∀ kd∈cH s,qD kd.2=true:=fun kd h=>by
 obtain⟨r,_,rfl⟩:=List.mem_map.mp h;rfl
end
section
variable {Q:Rv→Prop}
theorem aNC {most room:Nat}(hm:most≤40)(hr:room≤8)(hr0:1≤room)(q:∀ ds:List Deed,ds.length≤most→LogB ds→Q (.own (ds.map cG))):p6 [.pen,.val (.int (most:Int)),.val (.int (room:Int))] Q:=by
 refine lD ?_;unfold xV;walk_at "kf";refine fG (by decide) (by decide) fun a a0 a1=>?_;obtain⟨kd,hkd⟩:∃ kd:Int,ixD (.list [.int 0,.int 0,.int 1,.int 0,.int 1,.int 2]) (.int a)=some (.int kd):=by
  have:a=0∨a=1∨a=2∨a=3∨a=4∨a=5:=by omega
  rcases this with rfl|rfl|rfl|rfl|rfl|rfl<;>exact⟨_,rfl⟩
 walk_at "kf";refine cB hkd ?_;walk_at "kf";refine fG (by decide) (by decide) fun b b0 b1=>?_;walk_at "kf";refine tK fun T0 hT0=>?_;walk_at "kf";refine fG (by omega) (by omega) fun e e0 e1=>?_;walk_at "kf";refine⟨by omega,by omega,?_⟩;refine sY (fun j Γ=>∃(ds:List Deed) (T:Rat) (x y z u v:Sl),Γ=[.pen,.val (.int (most:Int)),.val (.int (room:Int)),.val (.int kd),.own (ds.map cG),.val (.dict (dkD (cH (run ds)))),.val (.int ((run ds).ls.length:Int)),.val (bT T),x,y,z,u,v] ∧
  ds.length=j∧LogB ds∧a0N T∧∀ d∈ds,d.t≤T) ⟨[],T0,_,_,_,_,_,rfl,rfl,⟨fun n d h=>(by cases n<;>cases h),List.Pairwise.nil,fun d h=>absurd h List.not_mem_nil,fun d h=>absurd h List.not_mem_nil,fun n d h=>(by cases n<;>cases h)⟩,hT0,fun d h=>absurd h List.not_mem_nil⟩ ?_ ?_
 ·rintro j Γ K hj ⟨ds,T,x,y,z,u,v,rfl,hl,lb,nT,ts⟩ hK;have hj:j<40:=by omega
  have ro:=nR ds;have rl:=a0T ds;have rz:=aFZ lb.ok lb.z (by omega);unfold v9;walk_at "kf";refine aII ro rz (by omega) nT fun T' nT' tT'=>?_;have ts':∀ d∈ds,d.t≤T':=fun d hd=>Rat.le_trans (ts d hd) tT';walk_at "kf";refine fG (by decide) (by decide) fun w w0 w1=>?_;walk_at "kf";refine aFB (by rw[kds_len]; omega) ?_;rw[uD ro];walk_at "kf";have fin:∀(d:Deed) (x v:Sl),d.ok (run ds)→d.few (run ds)→aEV d→d.t=T'→jT [.pen,.val (.int (most:Int)),.val (.int (room:Int)),.val (.int kd),.own (ds.map cG),.val (.dict (dkD (cH (run ds)))),.val (.int ((run ds).ls.length:Int)),.val (bT T'),x,.val (.int w),.val (.list (gC (run ds).rs)),.val (cG d),v] K:=by
   intro d x v h1 h5 h6 h3;have dz:=aMX h6;have mem:∀{P:Deed→Prop},(∀ e∈ds,P e)→P d→∀ e∈ds++[d],P e:=fun ha hb e he=>by
    rcases List.mem_append.mp he with u|u
    ·exact ha e u
    ·rw[List.mem_singleton.mp u]; exact hb
   have e5:ds.map cG++[cG d]=(ds++[d]).map cG:=by rw[List.map_append]; rfl
   have ll:(ds.map cG).length=ds.length:=List.length_map _;unfold jT;walk_at "kf";refine aGG ro h1 dz rz (by omega) ?_;rw[← jZ];walk_at "kf";refine cB (aIU d) ?_;walk_at "kf";have key:∀ n:Int,n=((run (ds++[d])).ls.length:Int)→gR 4 (aN 11) [.pen,.val (.int (most:Int)),.val (.int (room:Int)),.val (.int kd),.own (ds.map cG),.val (.dict (dkD (cH (run (ds++[d]))))),.val (.int n),.val (bT T'),x,.val (.int w),.val (.list (gC (run ds).rs)),.val (cG d),v] K:=by
    rintro n rfl;walk_at "kf";refine⟨by omega,?_⟩;rw[e5];exact hK.nx _ ⟨ds++[d],T',_,_,_,_,_,rfl,by rw[List.length_append,List.length_singleton,hl],⟨lb.ok.snoc h1,lb.up.snoc (fun e he=>by rw[h3]; exact ts' e he),mem lb.z dz,mem lb.nm h6,LogP.snoc lb.few h5⟩,nT',mem ts' (by rw[h3]; grind)⟩
   cases d with
   | join t p m=>
    refine⟨gJ,gJ,key _ ?_⟩;rw[if_pos (mZ gJ),jZ];show _=((((run ds).ls++[_]).length:Nat):Int);rw[List.length_append,List.length_singleton];rfl
   | leave t r=>
    refine⟨gL,gJ,key _ ?_⟩;rw[if_neg (by rw[show PyData.eqv (.str "leave") (.str "join")=false from rfl]; decide),jZ];exact Int.add_zero _
   | turn t r m=>
    refine⟨gT',gJ,key _ ?_⟩;rw[if_neg (by rw[show PyData.eqv (.str "turn") (.str "join")=false from rfl]; decide),jZ,Int.add_zero];show _=((((run ds).ls.set r _).length:Nat):Int);rw[List.length_set]
  refine⟨a4P _,a4X,?_⟩;rw[a3Y];refine fZ (fun c=>?j1) (fun c=>?rest)
  case' rest=>
   walk_at "kf";refine fZ (fun c2=>?w) (fun c2=>?no1)
  case' w=>
   walk_at "kf";refine cB (j5 _) ?_;walk_at "kf";refine fZ (fun c3=>?j2) (fun c3=>?no2)
  case j1=>
   have hfew:(run ds).rs.length<8:=by rw[c]; decide
   refine uV ?_;walk_at "kf";refine aDQ ro rz (by omega) nT' fun pp np=>?_;walk_at "kf";refine tK fun mm nm=>?_;walk_at "kf";exact fin (.join T' pp mm) _ _ trivial hfew ⟨nT',np,nm⟩ rfl
  case j2=>
   have hfew:(run ds).rs.length<8:=by omega
   walk_at "kf";refine aDQ ro rz (by omega) nT' fun pp np=>?_;walk_at "kf";refine tK fun mm nm=>?_;walk_at "kf";exact fin (.join T' pp mm) _ _ trivial hfew ⟨nT',np,nm⟩ rfl
  all_goals
   have hpos:0<(run ds).rs.length:=List.length_pos_iff.mpr c;walk_at "kf";refine fZ (fun c9=>?lv) (fun c9=>?tu)
   case lv=>
    walk_at "kf";refine cB (j5 _) ?_;walk_at "kf";refine fG (by omega) (by omega) fun g g0 g1=>?_;obtain⟨k,rfl⟩:∃ k:Nat,g=(k:Int):=⟨g.toNat,by omega⟩;have hk:k<(run ds).rs.length:=by omega
    walk_at "kf";refine cB (oM hk) ?_;walk_at "kf";exact fin (.leave T' (run ds).rs[k]) _ _ (List.getElem_mem hk) trivial nT' rfl
   case tu=>
    have turn:∀(mm:Rat) (x u:Sl) (K':Fl→Prop),a0N mm→(∀ Γ,jT Γ K→K' (.nx Γ))→oV [.pen,.val (.int (most:Int)),.val (.int (room:Int)),.val (.int kd),.own (ds.map cG),.val (.dict (dkD (cH (run ds)))),.val (.int ((run ds).ls.length:Int)),.val (bT T'),x,.val (.int w),.val (.list (gC (run ds).rs)),u,.val (bT mm)] K':=by
     intro mm x u K' nm hK';unfold oV;walk_at "kf";refine cB (j5 _) ?_;walk_at "kf";refine fG (by omega) (by omega) fun g g0 g1=>?_;obtain⟨k,rfl⟩:∃ k:Nat,g=(k:Int):=⟨g.toNat,by omega⟩;have hk:k<(run ds).rs.length:=by omega
     walk_at "kf";refine cB (oM hk) ?_;walk_at "kf";exact hK' _ (fin (.turn T' (run ds).rs[k] mm) _ _ (List.getElem_mem hk) trivial ⟨nT',nm⟩ rfl)
    walk_at "kf";refine tK fun mm nm=>?_;walk_at "kf";refine fG (by decide) (by decide) fun h h0 h1=>?_;walk_at "kf";refine fZ (fun c5=>?_) (fun c5=>?_)
    ·walk_at "kf";refine cB (j5 _) ?_;walk_at "kf";refine fG (by omega) (by omega) fun g g0 g1=>?_;obtain⟨k,rfl⟩:∃ k:Nat,g=(k:Int):=⟨g.toNat,by omega⟩;have hk:k<(run ds).rs.length:=by omega
     have hm:=List.getElem_mem hk;walk_at "kf";refine cB (oM hk) ?_;refine vP (vM hm) ?_;walk_at "kf";exact turn _ _ _ _ (aG3 ds lb.nm ⟨[],[]⟩ (fun _ h=>nomatch h) _ (List.mem_of_getElem? (iR ro hm))) fun Γ h=>h
    ·walk_at "kf";exact turn _ _ _ _ nm fun Γ h=>h
 ·rintro Γ ⟨ds,T,x,y,z,u,v,rfl,hl,lb,nT,ts⟩;unfold vD;walk_at "kf";exact q ds (by omega) lb
end
section
variable {Q:Rv→Prop}{s:Rn}{ds:List Deed}{T t:Rat}{i j:Nat}{l k:Ln}{kds:List (Int×D)}
theorem aHJ (hi:rY kds (i:Int)=some (fM l))(hj:rY kds (j:Int)=some (fM k))(h1:Sz 900 l.1)(h2:Sz 900 l.2)(h3:Sz 900 k.1)(h4:Sz 900 k.2)(ht:Sz 2900 t)(q:Q (.val (.bool (ahB l k i j t)))) :
  gW [.val (.dict (dkD kds)),.val (.int (i:Int)),.val (.int (j:Int)),.val (bT t)] Q:=by
 unfold ahB at q;refine lD ?_;unfold rE;walk_at "kf";refine vP hi ?_;walk_at "kf";refine a7S h1 h2 ht ?_;rw[show l.1+l.2*t=pl l t from rfl];walk_at "kf";refine vP hj ?_;walk_at "kf";refine a7S h3 h4 ht ?_;rw[show k.1+k.2*t=pl k t from rfl];walk_at "kf";refine tX (fun c=>?_) (fun c=>?_)
 ·rw[if_neg c] at q;walk_at "kf";exact a0F (vY h3 h4 ht) (vY h1 h2 ht) q
 ·rw[if_pos c] at q;unfold qG;walk_at "kf";refine vP hi ?_;walk_at "kf";refine vP hj ?_;walk_at "kf";refine tX (fun c=>?_) (fun c=>?_)
  ·rw[if_neg c] at q;walk_at "kf";refine vP hj ?_;walk_at "kf";refine vP hi ?_;walk_at "kf";exact a0F (h4.mono (by decide)) (h2.mono (by decide)) q
  ·rw[if_pos c] at q;unfold qT;walk_at "kf";exact q
theorem aG2 (h:LogG ds)(hT:Sz 2900 T)(q:Q (.box (bDk (cH (run (upto T ds)))))):fQ [.val (.list (ds.map cG)),.val (bT T)] Q:=by
 refine lD ?_;unfold u9;walk_at "kf";refine iW (fun n Γ=>∃ x,upto T (ds.take n)=ds.take n∧Γ=[.val (.list (ds.map cG)),.val (bT T),.box (bDk (cH (run (ds.take n)))),.val (.int ((run (ds.take n)).ls.length:Int)),x]) ⟨_,rfl,rfl⟩ ?_ ?_
 ·rintro n d Γ K hd ⟨x,hu,rfl⟩ hK;obtain⟨d,he,rfl⟩:=a4Y hd;have dz:=h.z d (List.mem_of_getElem? he);have hn:=(List.getElem?_eq_some_iff.mp he).1;have tk:ds.take (n+1)=ds.take n++[d]:=by rw[List.take_succ,he]; rfl
  unfold t6;walk_at "kf";refine cB (a6N d) ?_;walk_at "kf";refine a0F (hT.mono (by decide)) (dz.tz.mono (by decide)) ?_
  by_cases cc:T<d.t
  ·rw[decide_eq_true cc];walk_at "kf";have e:upto T ds=ds.take n:=by
    have e0:ds.drop n=d::ds.drop (n+1):=by rw[List.drop_eq_getElem_cons hn,(List.getElem?_eq_some_iff.mp he).2]
    have e1:ds=ds.take n++d::ds.drop (n+1):=by rw[← e0,List.take_append_drop]
    have up:=h.up;rw[e1] at up;obtain⟨_,u2,_⟩:=List.pairwise_append.mp up;have e2:upto T (d::ds.drop (n+1))=[]:=List.filter_eq_nil_iff.mpr fun e he=>by
     have:T<e.t:=by
      rcases List.mem_cons.mp he with z|z
      ·rw[z]; exact cc
      ·have:=(List.pairwise_cons.mp u2).1 e z; grind
     rw[decide_eq_true this];decide
    have e3:upto T ds=upto T (ds.take n)++upto T (d::ds.drop (n+1)):=by
     have:=congrArg (upto T) e1;rw[this];exact List.filter_append ..
    rw[e3,e2,hu,List.append_nil]
   rw[e] at q;exact hK.rt _ q
  ·rw[decide_eq_false cc];have g:=h.take n;have e9:=aFO h.up he cc;have hk3:=hK.nx;rw[tk,jZ,aCP,if_neg cc,e9] at hk3;have ro:=nR (ds.take n);unfold sU;walk_at "kf";unfold aC6;walk_at "kf";refine aGG ro (h.ok n d he) dz g.sz (Nat.le_trans g.rs (by decide)) ?_;refine⟨⟨_,rfl,aKK (aJA _)⟩,rfl,?_⟩;walk_at "kf";refine cB (aIU d) ?_;walk_at "kf";have key:∀ m:Int,m=((stp (run (ds.take n)) d).ls.length:Int)→K (.nx [.val (.list (ds.map cG)),.val (bT T),.box (bDk (cH (stp (run (ds.take n)) d))),.val (.int m),.val (cG d)]):=by
    rintro m rfl;exact hk3 _ ⟨_,rfl,rfl⟩
   cases d with
   | join t p m=>
    refine⟨gJ,gJ,key _ ?_⟩;rw[if_pos (mZ gJ)];show _=((((run (ds.take n)).ls++[_]).length:Nat):Int);rw[List.length_append,List.length_singleton];rfl
   | leave t r=>
    refine⟨gL,gJ,key _ ?_⟩;rw[if_neg (by rw[show PyData.eqv (.str "leave") (.str "join")=false from rfl]; decide)];exact Int.add_zero _
   | turn t r m=>
    refine⟨gT',gJ,key _ ?_⟩;rw[if_neg (by rw[show PyData.eqv (.str "turn") (.str "join")=false from rfl]; decide),Int.add_zero];show _=((((run (ds.take n)).ls.set r _).length:Nat):Int);rw[List.length_set]
 ·rintro Γ ⟨x,hu,rfl⟩;rw[List.length_map,List.take_length] at *;unfold tG;walk_at "kf";rw[hu] at q;exact q
end
def chO (s:Rn)(T:Rat)(B:Option Rat)(i j:Nat):Option Rat:=match nxC (s.at i) (s.at j) T with
 | none=>none
 | some u=>if inB T B u=true then some u else none
structure ChP (s:Rn)(T:Rat)(B:Option Rat)(n m:Nat)(us:List Rat):Prop where
 up:us.Pairwise (·<·)
 len:us.length≤n*s.rs.length+m
 mem:∀ u,u∈us↔∃ a b,(a<n∨(a=n∧b<m))∧a<b∧b<s.rs.length∧chO s T B (a00 s a) (a00 s b)=some u
theorem ChP.lt {s:Rn}{T:Rat}{B:Option Rat}{n m:Nat}{us:List Rat}(h:ChP s T B n m us)(hnm:n<m)(hm:m<s.rs.length):ChP s T B n (m+1) (aA4 us (chO s T B (a00 s n) (a00 s m))):=by
 refine⟨a87 h.up,Nat.le_trans (a8A _ _) (by have:=h.len; omega),fun u=>?_⟩;rw[a7R,h.mem u];constructor
 ·rintro(⟨a,b,h1,h2,h3,h4⟩|h)
  ·exact⟨a,b,by omega,h2,h3,h4⟩
  ·exact⟨n,m,by omega,hnm,hm,h⟩
 ·rintro⟨a,b,h1,h2,h3,h4⟩
  by_cases c:a=n∧b=m
  ·obtain⟨rfl,rfl⟩:=c;exact .inr h4
  ·exact .inl ⟨a,b,by omega,h2,h3,h4⟩
theorem ChP.ge {s:Rn}{T:Rat}{B:Option Rat}{n m:Nat}{us:List Rat}(h:ChP s T B n m us)(hnm:¬n<m):ChP s T B n (m+1) us:=by
 refine⟨h.up,by have:=h.len; omega,fun u=>?_⟩;rw[h.mem u];exact⟨fun⟨a,b,h1,h2,h3,h4⟩=>⟨a,b,by omega,h2,h3,h4⟩,fun⟨a,b,h1,h2,h3,h4⟩=>⟨a,b,by omega,h2,h3,h4⟩⟩
theorem ChP.row {s:Rn}{T:Rat}{B:Option Rat}{n:Nat}{us:List Rat}(h:ChP s T B n s.rs.length us):ChP s T B (n+1) 0 us:=by
 refine⟨h.up,by have:=h.len; rw[Nat.succ_mul]; exact this,fun u=>?_⟩;rw[h.mem u];exact⟨fun⟨a,b,h1,h2,h3,h4⟩=>⟨a,b,by omega,h2,h3,h4⟩,fun⟨a,b,h1,h2,h3,h4⟩=>⟨a,b,by omega,h2,h3,h4⟩⟩
theorem a8K {s:Rn}{T u:Rat}{B:Option Rat}{i j:Nat}(h:chO s T B i j=some u):(s.at i).2≠(s.at j).2∧u=mt (s.at i) (s.at j)∧inB T B u=true:=by
 unfold chO at h
 cases e:nxC (s.at i) (s.at j) T with
 | none=>rw[e] at h; cases h
 | some v=>
  rw[e] at h;dsimp only at h
  split at h
  ·rename_i c
   cases h
   obtain⟨a,_,b⟩:=wC e;exact⟨a,b,c⟩
  ·cases h
theorem aG5 {s:Rn}{T:Rat}{B:Option Rat}{i j:Nat}(h:(s.at i).2≠(s.at j).2)(hb:inB T B (mt (s.at i) (s.at j))=true):chO s T B i j=some (mt (s.at i) (s.at j)):=by
 unfold chO nxC;rw[if_neg h,if_pos (inB_iff.mp hb).1];exact if_pos hb
theorem ChP.fin {s:Rn}{T:Rat}{B:Option Rat}{us:List Rat}(h:ChP s T B s.rs.length 0 us):us=(mts (lR s)).filter (inB T B):=by
 refine rT h.up ((a2E _).sublist List.filter_sublist) fun u=>?_;rw[h.mem u,List.mem_filter,mem_mts];constructor
 ·rintro⟨a,b,_,h2,h3,h4⟩
  obtain⟨k1,k2,k3⟩:=a8K h4;rw[gH (by omega),gH h3] at k1 k2;exact⟨⟨a,b,_,_,a0E (by omega),a0E h3,k1,k2.symm⟩,k3⟩
 ·rintro⟨⟨a,b,l,k,e1,e2,e3,rfl⟩,hb⟩
  have ha:a<s.rs.length:=by rw[← qQ]; exact(List.getElem?_eq_some_iff.mp e1).1
  have hb':b<s.rs.length:=by rw[← qQ]; exact(List.getElem?_eq_some_iff.mp e2).1
  rw[a0E ha] at e1;rw[a0E hb'] at e2
  cases e1
  cases e2
  rcases Nat.lt_trichotomy a b with c|c|c
  ·refine⟨a,b,.inl ha,c,hb',?_⟩;rw[gH ha,gH hb'];exact aG5 e3 hb
  ·subst c;exact absurd rfl e3
  ·refine⟨b,a,.inl hb',c,ha,?_⟩;rw[gH ha,gH hb',←a6O e3] at *;exact aG5 (Ne.symm e3) hb
theorem aCS (s:Rn):aEN (cH s)=gC s.rs:=by
 unfold aEN cH a3B gC;rw[List.map_map];rfl
theorem a1T {xs:List Nat}{n:Nat}{d:D}(h:(gC xs)[n]?=some d):∃ o,xs[n]?=some o∧d=.int (o:Int):=by
 unfold gC at h;rw[List.getElem?_map] at h
 cases e:xs[n]? with
 | none=>rw[e] at h; cases h
 | some o=>rw[e] at h; cases h; exact⟨o,rfl,rfl⟩
section
variable {Q:Rv→Prop}{s:Rn}{ds:List Deed}{T t:Rat}{B:Option Rat}
theorem ChP.sz {n m:Nat}{us:List Rat}(h:ChP s T B n m us)(hs:RnOk s)(hz:LinesOk 200 s.ls):∀ u∈us,Sz 802 u:=fun u hu=>by
 obtain⟨a,b,_,h2,h3,h4⟩:=(h.mem u).mp hu;obtain⟨k1,k2,k3⟩:=a8K h4;rw[gH (by omega),gH h3] at k1 k2;obtain⟨z1,z2⟩:=hz.get (iR hs (List.getElem_mem (by omega:a<s.rs.length)));obtain⟨z3,z4⟩:=hz.get (iR hs (List.getElem_mem h3));exact aEM z1 z2 z3 z4 (by unfold mtO; rw[if_neg k1,k2])
theorem aCM (h:LogG ds)(hl:(run (upto T ds)).rs.length≤20)(hT:Sz 900 T)(hB:∀ b,B=some b→Sz 900 b)(q:Q (.own (fV ((mts (lR (run (upto T ds)))).filter (inB T B))))):fB [.val (.list (ds.map cG)),.val (bT T),.val (tW B)] Q:=by
 have g:=h.upto T;have ro:=nR (upto T ds);have rz:=g.sz;refine lD ?_;unfold nH;walk_at "kf";refine aG2 h (hT.mono (by decide)) ?_;generalize run (upto T ds)=s at *;walk_at "kf";rw[aCS];refine iW (fun n Γ=>∃ us a b c e,Γ=[.val (.list (ds.map cG)),.val (bT T),.val (tW B),.pub (pDk (cH s)),.own (fV us),a,b,c,e]∧ChP s T B n 0 us) ⟨[],_,_,_,_,rfl,List.Pairwise.nil,Nat.zero_le _,fun u=>⟨fun h=>absurd h List.not_mem_nil,fun⟨a,b,h1,_⟩=>absurd h1 (by omega)⟩⟩ ?_ ?_
 ·rintro n d Γ K hd ⟨us,a,b,c,e,rfl,hp⟩ hk;obtain⟨o,ho,rfl⟩:=a1T hd;have hn:=(List.getElem?_eq_some_iff.mp ho).1;have eo:=(List.getElem?_eq_some_iff.mp ho).2;have mo:=List.mem_of_getElem? ho;unfold nQ;walk_at "kf";rw[aCS];refine iW (fun m Γ=>∃ us b c e,Γ=[.val (.list (ds.map cG)),.val (bT T),.val (tW B),.pub (pDk (cH s)),.own (fV us),.val (.int (o:Int)),b,c,e]∧ChP s T B n m us) ⟨us,_,_,_,rfl,hp⟩ ?_ ?_
  ·rintro m d Γ K2 hd ⟨us,b,c,e,rfl,hp⟩ hk2;obtain⟨p,hp2,rfl⟩:=a1T hd;have hm:=(List.getElem?_eq_some_iff.mp hp2).1;have em:=(List.getElem?_eq_some_iff.mp hp2).2;have mp:=List.mem_of_getElem? hp2;have cmp:(o:Int)<(p:Int)↔n<m:=by
    have up:=List.pairwise_iff_getElem.mp ro.up;rcases Nat.lt_trichotomy n m with c|c|c
    ·have:=up n m hn hm c; omega
    ·subst c; rw[ho] at hp2; cases hp2; omega
    ·have:=up m n hm hn c; omega
   have hlen:us.length<1000:=by
    have h1:=hp.len;have h3:n*s.rs.length≤20*20:=Nat.mul_le_mul (by omega) (by omega);omega
   have hsz:=hp.sz ro rz;have hk3:=hk2.nx;unfold nY;walk_at "kf";refine fZ (fun c1=>?_) (fun c1=>?_)
   ·have hp3:=hp.lt (cmp.mp c1) hm;rw[gH hn,gH hm,eo,em] at hp3;have zt:∀ u,nxC (s.at o) (s.at p) T=some u→Sz 802 u:=fun u hu=>by
     obtain⟨k1,_,k2⟩:=wC hu;obtain⟨z1,z2⟩:=rz.get (iR ro mo);obtain⟨z3,z4⟩:=rz.get (iR ro mp);exact aEM z1 z2 z3 z4 (by unfold mtO; rw[if_neg k1,k2])
    unfold chO at hp3;walk_at "kf";refine a86 ro rz mo mp (hT.mono (by decide)) ?_;have lt:=fun u (hu:nxC (s.at o) (s.at p) T=some u)=>(wC hu).2.1
    cases ho:nxC (s.at o) (s.at p) T with
    | none=>
     rw[ho] at hp3;rw[show tW none=.none from rfl];walk_at "kf";exact hk3 _ ⟨us,_,_,_,rfl,hp3⟩
    | some u=>
     rw[ho] at hp3;dsimp only at hp3;have zu:=zt u ho;have lt:=lt u ho;rw[show tW (some u)=bT u from rfl];have skip:ChP s T B n (m+1) us→K2 (.nx [.val (.list (ds.map cG)),.val (bT T),.val (tW B),.pub (pDk (cH s)),.own (fV us),.val (.int (o:Int)),.val (.int (p:Int)),.val (bT u),e]):=fun h=>hk3 _ ⟨us,_,_,_,rfl,h⟩;have put:u∉us→inB T B u=true→rR 4 (aC3 (a09 (bW (a9W 1 [7] (a5V (aN 4)) (gN 0) (eO (bW (b8 2 cD (bC (aN 0) (bC (aN 1) c7))))) (aN 0))))) (aN 7) [.val (.list (ds.map cG)),.val (bT T),.val (tW B),.pub (pDk (cH s)),.own (fV us),.val (.int (o:Int)),.val (.int (p:Int)),.val (bT u),e] K2:=by
      intro c hb;rw[if_pos hb] at hp3;unfold aA4 at hp3;dsimp only at hp3;rw[if_neg c] at hp3;walk_at "kf";refine⟨by rw[dN]; omega,?_⟩;refine yG (α:=Rat) (fun v=>decide (v<u)) bT bT us [] _ (fun v hv _ k k0 h1 h0=>?_) ?_
      ·walk_at "kf";refine a0F ((hsz v hv).mono (by decide)) (zu.mono (by decide)) ?_;walk_at "kf";refine fZ (fun c=>?_) (fun c=>?_)
       ·walk_at "kf";exact h1 (decide_eq_true c)
       ·exact h0 (decide_eq_false c)
      ·walk_at "ks";refine cB (d:=.int ((us.filter fun v=>decide (v<u)).length:Int)) (by show some (PyData.int (List.length _:Int))=_; rw[List.nil_append,List.length_map]) ⟨rfl,rfl,?_⟩;walk_at "ks";have hfl:(us.filter fun v=>decide (v<u)).length≤us.length:=List.length_filter_le _ _;refine aGN (ds:=fV us) rfl (by omega) (by omega) (by rw[dN]; exact hlen) ?_;unfold fV;rw[← a82];exact hk3 _ ⟨_,_,_,_,rfl,hp3⟩
     walk_at "kf";refine uV ?_;walk_at "ks";refine⟨mL u,a06 us,?_⟩;rw[if_pos rfl,aAQ]
     by_cases c:u∈us
     ·rw[decide_eq_true c];have hp4:ChP s T B n (m+1) us:=by
       unfold aA4 at hp3
       split at hp3
       ·exact hp3
       ·rename_i w hw
        split at hw
        ·cases hw
         rw[if_pos c] at hp3;exact hp3
        ·cases hw
      refine u6 ?_;refine⟨rfl,u6 ?_⟩;walk_at "ks";exact skip hp4
     ·rw[decide_eq_false c];refine uV ?_
      cases B with
      | none=>
       rw[show tW none=.none from rfl] at *
       iterate 4 walk_at "k1"
       refine uV ⟨rfl,uV ?_⟩;exact put c (inB_iff.mpr ⟨lt,fun b' hb'=>nomatch hb'⟩)
      | some b=>
       rw[show tW (some b)=bT b from rfl] at *;walk_at "ks";refine u6 ?_;walk_at "ks";refine a0F (zu.mono (by decide)) ((hB b rfl).mono (by decide)) ?_
       by_cases c2:u<b
       ·rw[decide_eq_true c2];refine⟨rfl,uV ?_⟩;exact put c (inB_iff.mpr ⟨lt,fun b' hb'=>by cases hb'; exact c2⟩)
       ·rw[decide_eq_false c2];refine⟨rfl,u6 ?_⟩;rw[if_neg (fun z=>c2 ((inB_iff.mp z).2 b rfl))] at hp3;walk_at "ks";exact skip hp3
   ·walk_at "kf";exact hk3 _ ⟨us,_,_,_,rfl,hp.ge fun z=>c1 (cmp.mpr z)⟩
  ·rintro Γ ⟨us,b,c,e,rfl,hp⟩;rw[iK] at hp;exact hk.nx _ ⟨us,_,_,_,_,rfl,hp.row⟩
 ·rintro Γ ⟨us,a,b,c,e,rfl,hp⟩;rw[iK] at hp;unfold nZ;walk_at "kf";rw[← hp.fin] at q;exact q
end
section
variable {Q:Rv→Prop}{s:Rn}{ds:List Deed}{T t:Rat}{B:Option Rat}
theorem aIE (h:LogG ds)(ht:Sz 2900 t)(q:Q (.own (gC (a3I (ahN (run (upto t ds)).ls t) (run (upto t ds)).rs)))):gQ [.val (.list (ds.map cG)),.val (bT t)] Q:=by
 have g:=h.upto t;have hs:=nR (upto t ds);have hz:=g.sz;have hl:=g.rs;refine lD ?_;unfold rF;walk_at "ks";refine aG2 h ht ?_;generalize run (upto t ds)=s at *;walk_at "ks";refine aFB (by rw[kds_len]; omega) ?_;rw[uD hs];walk_at "ks";refine iW (fun n Γ=>∃ a b,Γ=[.val (.list (ds.map cG)),.val (bT t),.val (.dict (dkD (cH s))),.own (gC (a3I (ahN s.ls t) (s.rs.take n))),a,b]) ⟨_,_,rfl⟩ ?_ ?_
 ·rintro n d Γ K hd ⟨a,b,rfl⟩ hk;obtain⟨o,ho,rfl⟩:=a1T hd;have ho':o∈s.rs:=List.mem_of_getElem? ho;have hlt:=hs.lt o ho';have e1:=iR hs ho';obtain⟨z1,z2⟩:=hz.get e1;have tk:s.rs.take (n+1)=s.rs.take n++[o]:=by rw[List.take_succ,ho]; rfl
  have hk3:=hk.nx;rw[tk,aAW] at hk3;have hno:o∉s.rs.take n:=by
   have:=hs.nd.sublist (List.take_sublist (n+1) s.rs);rw[tk] at this;have:=(List.nodup_append.mp this).2.2;exact fun hm=>this o hm o (List.mem_singleton.mpr rfl) rfl
  have hsrt:=a8N (fY s.ls t) (rs:=s.rs.take n) (fun x hx=>hs.lt x (List.mem_of_mem_take hx)) (hs.nd.sublist (List.take_sublist n s.rs));have hxm:∀ x∈a3I (ahN s.ls t) (s.rs.take n),x∈s.rs∧x≠o:=fun x hx=>by
   have hx:=ordL_mem.mp hx;exact⟨List.mem_of_mem_take hx,fun e=>hno (by rw[← e]; exact hx)⟩
  have hlen:(a3I (ahN s.ls t) (s.rs.take n)).length≤60:=by
   rw[a2O,List.length_take];omega
  generalize hxs:a3I (ahN s.ls t) (s.rs.take n)=xs at *;have hxn:∀ x∈xs,x<s.ls.length∧x≠o:=fun x hx=>⟨hs.lt x (hxm x hx).1,(hxm x hx).2⟩;have ft:=a3V (fY s.ls t) hlt hxn hsrt;have fe:(xs.filter fun x=>ahN s.ls t x o)=xs.filter fun x => !ahN s.ls t o x:=by
   refine List.filter_congr fun x hx=>?_;rw[(fY s.ls t).flip hlt (hxn x hx).1 (Ne.symm (hxn x hx).2)]
  have fl:(xs.filter fun x => !ahN s.ls t o x).length≤xs.length:=List.length_filter_le _ _;unfold rB;walk_at "ks";refine⟨by rw[iK]; omega,?_⟩;refine yG (α:=Nat) (fun x=>ahN s.ls t x o) (fun x=>.int (x:Int)) (fun x=>.int (x:Int)) xs [] _ (fun x hx _ k k0 h1 h0=>?_) ?_
  ·have hx':=(hxm x hx).1;have e2:=iR hs hx';obtain⟨z3,z4⟩:=hz.get e2;walk_at "ks";refine aHJ (vM hx') (vM ho') (z3.mono (by decide)) (z4.mono (by decide)) (z1.mono (by decide)) (z2.mono (by decide)) ht ?_;rw[← jQ e2 e1]
   cases hb:ahN s.ls t x o with
   | true=>walk_at "ks"; exact h1 hb
   | false=>walk_at "ks"; exact h0 hb
  ·rw[List.nil_append,fe];generalize hF:(xs.filter fun x => !ahN s.ls t o x)=ys at *;walk_at "ks";refine cB (d:=.int (ys.length:Int)) (by show some (PyData.int ((ys.map _).length:Int))=_; rw[List.length_map]) ?_;walk_at "ks";refine aGN (ds:=gC xs) rfl (by omega) (by omega) (by rw[iK]; omega) ?_;have ei:xM (gC xs) (ys.length:Int) (.int (o:Int))=gC (eE (ahN s.ls t) xs o):=by
    unfold gC;rw[← a82 (fun i:Nat=>PyData.int (i:Int)),aBA fl,ft.1,ft.2];unfold eE;rw[hF];simp
   rw[ei];exact hk3 _ ⟨_,_,rfl⟩
 ·rintro Γ ⟨a,b,rfl⟩;rw[iK,List.take_length];unfold qX;walk_at "ks";exact q
theorem a76:∀{ds:List Deed},Few ds→(run ds).rs.length≤8:=by
 intro ds h;have aux:∀ n,n≤ds.length→(run (ds.take n)).rs.length≤8:=by
  intro n
  induction n with
  | zero=>intro _; exact Nat.zero_le _
  | succ n ih=>
   intro hn;have e:ds[n]?=some ds[n]:=List.getElem?_eq_getElem (by omega);rw[List.take_succ,e]
   show(run (ds.take n++[ds[n]])).rs.length≤8
   rw[jZ];have hf:=h n _ e;have ih:=ih (by omega);generalize run (ds.take n)=s at *;generalize ds[n]=d at *
   cases d with
   | join t p m=>
    show(s.rs++[_]).length≤8
    rw[List.length_append,List.length_singleton];have:s.rs.length<8:=hf;omega
   | leave t r=>exact Nat.le_trans (List.length_filter_le _ _) ih
   | turn t r m=>exact ih
 have:=aux ds.length (Nat.le_refl _);rw[List.take_length] at this;exact this
theorem wD (h:LogB ds)(T:Rat):(run (upto T ds)).rs.length≤8:=by
 obtain⟨k,hk⟩:=yL (T:=T) h.up;rw[hk];exact a76 (LogP.take h.few k)
theorem aDR (ds:List Deed)(t:Rat)(ts:List Rat):a7C ds (t::ts)=(t::(mts (lR (run (upto t ds)))).filter (inB t ts.head?))++a7C ds ts:=rfl
theorem a0X (h:LogB ds):∀ ts:List Rat,(a7C ds ts).length≤65*ts.length
 | []=>Nat.le_refl _
 | t::ts=>by
  unfold a7C;have h1:=a0X h ts;have h2:=a1B (lR (run (upto t ds)));have h3:((mts (lR (run (upto t ds)))).filter (inB t ts.head?)).length≤(mts (lR (run (upto t ds)))).length:=List.length_filter_le _ _;rw[qQ] at h2;have h4:=wD h t;have h5:(run (upto t ds)).rs.length*(run (upto t ds)).rs.length≤8*8:=Nat.mul_le_mul h4 h4;rw[List.length_append,List.length_cons,List.length_cons];omega
theorem a2M:∀ r:List Deed,(dts r).length≤r.length
 | []=>Nat.le_refl _
 | d::r=>by
  unfold dts;have:=a2M r
  split
  ·exact Nat.le_succ_of_le this
  ·exact Nat.succ_le_succ this
theorem a1P (xs ys:List Rat):fV xs++fV ys=fV (xs++ys):=(List.map_append ..).symm
theorem a5P (hb:LogB ds)(hl:ds.length≤12)(q:Q (.val (.list (fV (a7C ds (dts ds)))))):dD [.val (.list (ds.map cG))] Q:=by
 have h:LogG ds:=⟨hb.ok,hb.up,hb.z,by omega⟩;refine lD ?_;unfold jC;walk_at "ks";refine iW (fun n Γ=>∃ ts a b c e,Γ=[.val (.list (ds.map cG)),.own (fV ts),a,b,c,e]∧ts.Pairwise (·<·)∧ts.length≤n∧∀ t,t∈ts↔∃ d∈ds.take n,d.t=t) ⟨[],_,_,_,_,rfl,List.Pairwise.nil,Nat.le_refl _,fun t=>⟨fun h=>absurd h List.not_mem_nil,fun⟨_,h,_⟩=>absurd h List.not_mem_nil⟩⟩ ?_ ?_
 ·rintro n d Γ K hd ⟨ts,a,b,c,e,rfl,up,ln,mem⟩ hK;obtain⟨d,he,rfl⟩:=a4Y hd;have hn:=(List.getElem?_eq_some_iff.mp he).1;have tk:ds.take (n+1)=ds.take n++[d]:=by rw[List.take_succ,he]; rfl
  have hk3:=hK.nx;have m2:∀ t,(∃ d'∈ds.take (n+1),d'.t=t)↔(∃ d'∈ds.take n,d'.t=t)∨d.t=t:=fun t=>by
   rw[tk];constructor
   ·rintro⟨x,hx,z⟩
    rcases List.mem_append.mp hx with y|y
    ·exact .inl ⟨x,y,z⟩
    ·rw[List.mem_singleton.mp y] at z; exact .inr z
   ·rintro(⟨x,hx,z⟩|z)
    ·exact⟨x,List.mem_append_left _ hx,z⟩
    ·exact⟨d,List.mem_append_right _ (List.mem_singleton.mpr rfl),z⟩
  unfold kE;walk_at "ks";refine cB (a6N d) ?_;walk_at "ks";refine⟨mL d.t,a06 ts,rfl,?_⟩;rw[if_pos rfl,aAQ];refine tX (fun c=>?_) (fun c=>?_)
  ·walk_at "ks";refine cB (a6N d) ?_;walk_at "ks";refine⟨by rw[dN]; omega,?_⟩;have e5:fV ts++[bT d.t]=fV (ts++[d.t]):=a1P ts [d.t];rw[e5];refine hk3 _ ⟨ts++[d.t],_,_,_,_,rfl,List.pairwise_append.mpr ⟨up,List.pairwise_singleton _ _,fun x hx y hy=>?_⟩,by rw[List.length_append,List.length_singleton]; omega,fun t=>?_⟩
   ·rw[List.mem_singleton.mp hy];obtain⟨x',hx',rfl⟩:=(mem x).mp hx;have hne:x'.t≠d.t:=fun z=>c (z▸hx);have hle:x'.t≤d.t:=by
     have ru:=h.up.sublist (List.take_sublist (n+1) ds);rw[tk] at ru;exact(List.pairwise_append.mp ru).2.2 x' hx' d (List.mem_singleton.mpr rfl)
    grind
   ·rw[List.mem_append,List.mem_singleton,mem,m2];exact⟨fun z=>z.imp id Eq.symm,fun z=>z.imp id Eq.symm⟩
  ·walk_at "ks";refine hk3 _ ⟨ts,_,_,_,_,rfl,up,by omega,fun t=>?_⟩;rw[m2,mem];exact⟨.inl,fun z=>z.elim id fun z=>(mem t).mp (z▸c)⟩
 ·rintro Γ ⟨ts,a,b,c,e,rfl,up,ln,mem⟩;rw[List.length_map] at ln mem;rw[List.take_length] at mem;have et:ts=dts ds:=rT up (a6T h.up) fun t=>by rw[mem,yR]
  subst et;have zs:∀ t∈dts ds,Sz 60 t:=fun t ht=>by
   obtain⟨d,hd,rfl⟩:=(mem t).mp ht;exact(h.z d hd).tz
  unfold kI;walk_at "ks";refine cB (d:=.int ((dts ds).length:Int)) (by show some (PyData.int ((fV _).length:Int))=_; rw[dN]) ?_;walk_at "ks";refine⟨by omega,by omega,?_⟩;refine sY (fun k Γ=>∃ us a b c,Γ=[.val (.list (ds.map cG)),.val (.list (fV (dts ds))),a,.val (.list (fV us)),b,c]∧us++a7C ds ((dts ds).drop k)=a7C ds (dts ds)) ⟨[],_,_,_,rfl,rfl⟩ ?_ ?_
  ·rintro k Γ K hk ⟨us,a,b,c,rfl,hu⟩ hK;have hk':k<(dts ds).length:=by omega
   have ek:(dts ds)[k]?=some (dts ds)[k]:=List.getElem?_eq_getElem hk';have tz:=zs _ (List.getElem_mem hk');have dr:(dts ds).drop k=(dts ds)[k]::(dts ds).drop (k+1):=List.drop_eq_getElem_cons hk';have hd:((dts ds).drop (k+1)).head?=(dts ds)[k+1]?:=by rw[List.head?_drop]
   rw[dr,aDR,hd] at hu;unfold kO;walk_at "ks";have eb:ixD (.list (fV (dts ds)++[.none])) (.int (0+(k:Int)+1))=some (tW (dts ds)[k+1]?):=by
    rw[show(0+(k:Int)+1)=((k+1:Nat):Int) by omega];refine wR ?_
    by_cases c:k+1<(dts ds).length
    ·rw[List.getElem?_append_left (by rw[dN]; exact c),List.getElem?_eq_getElem c];unfold fV;rw[List.getElem?_map,List.getElem?_eq_getElem c];rfl
    ·have c':k+1=(dts ds).length:=by omega
     rw[List.getElem?_append_right (by rw[dN]; omega),dN,c',Nat.sub_self,List.getElem?_eq_none (Nat.le_refl _)];rfl
   have ul:us.length≤65*12:=by
    have h1:=a0X hb (dts ds);rw[← hu,List.length_append] at h1;have h2:=a2M ds;omega
   have cl:∀ B,((mts (lR (run (upto (dts ds)[k] ds)))).filter (inB (dts ds)[k] B)).length≤64:=fun B=>by
    have h2:=a1B (lR (run (upto (dts ds)[k] ds)));have h3:((mts (lR (run (upto (dts ds)[k] ds)))).filter (inB (dts ds)[k] B)).length≤(mts (lR (run (upto (dts ds)[k] ds)))).length:=List.length_filter_le _ _;rw[qQ] at h2;have h4:=wD hb (dts ds)[k];have h5:=Nat.mul_le_mul h4 h4;omega
   refine⟨by rw[dN]; show _+1≤1000; have:=a2M ds; omega,?_⟩;walk_at "ks";refine cB eb ?_;walk_at "ks";refine cB (by rw[Int.zero_add]; exact aAK ek) ?_;walk_at "ks";refine⟨by rw[dN]; show _+1≤1000; omega,?_⟩;walk_at "ks";refine cB (by rw[Int.zero_add]; exact aAK ek) ?_;walk_at "ks";refine aCM (T:=(dts ds)[k]) (B:=(dts ds)[k+1]?) h (Nat.le_trans (wD hb _) (by decide)) (tz.mono (by decide)) (fun b hb=>(zs b (List.mem_of_getElem? hb)).mono (by decide)) ?_;walk_at "ks";refine⟨by rw[List.length_append,dN,dN]; show _+1+_≤1000; have:=cl (dts ds)[k+1]?; omega,?_⟩;walk_at "ks";rw[show[bT (dts ds)[k]]=fV [(dts ds)[k]] from rfl,a1P,a1P];refine hK.nx _ ⟨_,_,_,_,rfl,?_⟩;rw[← hu,List.append_assoc,List.append_assoc];rfl
  ·rintro Γ ⟨us,a,b,c,rfl,hu⟩;rw[show((dts ds).length:Int).toNat=(dts ds).length by omega,List.drop_length] at hu;have hu:us=a7C ds (dts ds):=by
    rw[← hu];exact(List.append_nil us).symm
   subst hu;unfold jV;walk_at "ks";exact q
def dO:Option Nat→D
 | none=>.none
 | some r=>.int (r:Int)
def dP (p:Option Nat×Option Rat):D:=.tuple [dO p.1,tW p.2]
theorem aDB (o:Option Nat):Gd 0 (dO o):=by
 cases o with
 | none=>exact gd_none
 | some r=>exact a0K _
theorem aGJ (a b:Option Nat):PyData.eqv (dO a) (dO b)=decide (a=b):=by
 cases a with
 | none=>
  cases b with
  | none=>rfl
  | some b=>rw[decide_eq_false (fun h=>nomatch h)]; rfl
 | some a=>
  cases b with
  | none=>rw[decide_eq_false (fun h=>nomatch h)]; rfl
  | some b=>
   have e:decide ((some a:Option Nat)=some b)=decide ((a:Int)=(b:Int)):=decide_eq_decide.mpr ⟨fun h=>by cases h; rfl,fun h=>by rw[show a=b by omega]⟩;rw[e];rfl
theorem a7U {row:Row}(h:row≠[]):∃ d,ixD (.list (row.map dP)) (.int (-1))=some d∧ixD d (.int 0)=some (dO (a9J row)):=by
 obtain⟨p,hp⟩:∃ p,row.getLast?=some p:=⟨row.getLast h,List.getLast?_eq_some_getLast h⟩;refine⟨dP p,aH8 (by rw[List.getLast?_map,hp]; rfl),?_⟩;unfold a9J;rw[hp];rfl
theorem aEI (row:Row)(p:Option Nat×Rat):(qZ row p).length≤row.length+1:=by
 unfold qZ
 split
 ·exact Nat.le_succ _
 ·rw[List.length_append,List.length_singleton]; exact Nat.le_refl _
theorem aMF (hb:LogB ds)(hl:ds.length≤12)(q:Q (.own ((aA2 [] ds [(none,none)]).map dP))):pH [.val (.list (ds.map cG))] Q:=by
 have h:LogG ds:=⟨hb.ok,hb.up,hb.z,by omega⟩;rw[← fold_all ds h.up ds [] _ rfl] at q;have al:(a7C ds (dts ds)).length≤65*12:=by
  have h1:=a0X hb (dts ds);have h2:=a2M ds;omega
 have az:∀ u∈a7C ds (dts ds),Sz 900 u:=by
  have aux:∀ ts:List Rat,(∀ t∈ts,Sz 60 t)→∀ u∈a7C ds ts,Sz 900 u:=by
   intro ts
   induction ts with
   | nil=>intro _ u hu; exact absurd hu List.not_mem_nil
   | cons t ts ih=>
    intro hz u hu;unfold a7C at hu;rcases List.mem_append.mp hu with y|y
    ·rcases List.mem_cons.mp y with z|z
     ·rw[z]; exact(hz t List.mem_cons_self).mono (by decide)
     ·have lz:LinesOk 200 (lR (run (upto t ds))):=fun l hl=>by
       obtain⟨r,hr,rfl⟩:=List.mem_map.mp hl;exact(h.upto t).sz _ (List.mem_of_getElem? (iR (nR _) hr))
      exact(aFY lz (List.mem_filter.mp z).1).mono (by decide)
    ·exact ih (fun t ht=>hz t (List.mem_cons_of_mem _ ht)) u y
  refine aux _ fun t ht=>?_;obtain⟨d,hd,rfl⟩:=(yR ds t).mp ht;exact(h.z d hd).tz
 have rest:∀ us:List Rat,us.length≤65*12→(∀ u∈us,Sz 900 u)→Q (.own (((us.map fun u=>((ldR (run (upto u ds)) u,u):Option Nat×Rat)).foldl qZ [(none,none)]).map dP)) →
   forL (gN 2) o6 (fV us) [.val (.list (ds.map cG)),.own [.tuple [.none,.none]],.no,.no] fun fl=>match fl with|.nx Γ1=>oE Γ1 (fun fl=>match fl with|.rt rv=>Q rv|.nx _=>Q (.val .none)|_=>False)|fl=>(match fl with|.rt rv=>Q rv|.nx _=>Q (.val .none)|_=>False):=by
  intro us al az q;refine iW (fun n Γ=>∃(row:Row) (a b:Sl),Γ=[.val (.list (ds.map cG)),.own (row.map dP),a,b]∧row≠[]∧row.length≤n+1∧row=((us.take n).map fun u=>((ldR (run (upto u ds)) u,u):Option Nat×Rat)).foldl qZ [(none,none)]) ⟨[(none,none)],_,_,rfl,by simp,Nat.le_refl _,rfl⟩ ?_ ?_
  ·rintro n d Γ K hd ⟨row,a,b,rfl,hne,hlen,hrow⟩ hK;obtain⟨u,hu,rfl⟩:=aAF hd;have zu:=az u (List.mem_of_getElem? hu);have hn:=(List.getElem?_eq_some_iff.mp hu).1;have tk:us.take (n+1)=us.take n++[u]:=by rw[List.take_succ,hu]; rfl
   have nxt:((us.take (n+1)).map fun u=>((ldR (run (upto u ds)) u,u):Option Nat×Rat)).foldl qZ [(none,none)]=qZ row (ldR (run (upto u ds)) u,u):=by
    rw[tk,List.map_append,List.foldl_append,←hrow];rfl
   obtain⟨dl,l1,l2⟩:=a7U hne;have hk3:=hK.nx;unfold o6;walk_at "ks";refine aIE h (zu.mono (by decide)) ?_;walk_at "ks";have r8:=wD hb u;refine⟨by rw[iK,a2O]; show _+1≤1000; omega,?_⟩;walk_at "ks";refine cB (d:=dO (ldR (run (upto u ds)) u)) ?_ ?_
   ·unfold ldR
    cases a3I (ahN (run (upto u ds)).ls u) (run (upto u ds)).rs<;>exact wR (i:=0) rfl
   walk_at "ks";refine cB l1 ?_;walk_at "ks";refine cB l2 ?_;walk_at "ks";refine⟨(aDB _).good,(aDB _).good,?_⟩;rw[aGJ];generalize ldR (run (upto u ds)) u=x at *;refine⟨rfl,?_⟩;refine tX (fun c=>?_) (fun c=>?_)
   ·walk_at "ks";refine⟨by rw[List.length_map]; omega,?_⟩;have e:qZ row (x,u)=row++[(x,some u)]:=if_neg fun z=>c z.symm;refine hk3 _ ⟨row++[(x,some u)],.val (bT u),.val (dO x),?_,by simp,by rw[List.length_append,List.length_singleton]; omega,by rw[nxt,e]⟩;rw[List.map_append];rfl
   ·walk_at "ks";have e:qZ row (x,u)=row:=if_pos c.symm;exact hk3 _ ⟨row,_,_,rfl,hne,by omega,by rw[nxt,e]⟩
  ·rintro Γ ⟨row,a,b,rfl,hne,hlen,hrow⟩;rw[dN,List.take_length] at hrow;unfold oE;walk_at "ks";rw[← hrow] at q;exact q
 refine lD ?_;unfold yM;walk_at "ks";refine a5P hb hl ?_;walk_at "ks";exact rest _ al az q
end
section
variable {c:Addr}{ds:List Deed}{T:Rat}{B:Option Rat}{Q:Rv→Prop}
theorem aDP (h:LogG ds){la:D}{f fd fp:Addr}(q:Q (.own (fJ (lR (run ds))))):s8 c [.pub (qN c f (fdS fd fp (run ds) la))] Q:=by
 have ro:=nR ds;refine lD ?_;unfold yD;walk_at "ks";refine zB (w:=f) (s:=fdS fd fp (run ds) la) (by with_unfolding_all rfl) (.inr rfl) (by show(cH _).length<64; rw[kds_len]; exact Nat.lt_of_le_of_lt h.rs (by decide)) ?_;rw[show(fdS fd fp (run ds) la).kds=cH (run ds) from rfl,uD ro];walk_at "ks";refine⟨by rw[iK]; have:=h.rs; omega,?_⟩;refine yG (α:=Nat) (fun _=>true) (fun r=>fM ((run ds).at r)) (fun r=>.int (r:Int)) (run ds).rs [] _ (fun r hr _ k k0 h1 h0=>?_) ?_
 ·walk_at "ks";unfold aHN;walk_at "ks";refine⟨f,fdS fd fp (run ds) la,⟨_,by with_unfolding_all rfl,.inr rfl⟩,?_⟩;walk_at "ks";exact⟨⟨_,by with_unfolding_all rfl,.inr rfl⟩,(r:Int),_,rfl,vM hr,h1 rfl⟩
 ·rw[List.filter_eq_self.mpr fun _ _=>rfl,List.nil_append];walk_at "ks";have e:(run ds).rs.map (fun r=>fM ((run ds).at r))=fJ (lR (run ds)):=by unfold fJ lR; rw[List.map_map]; rfl
  rw[e];exact q
theorem aK8 (h:LogG ds):LinesOk 200 (lR (run ds)):=fun l hl=>by
 obtain⟨r,hr,rfl⟩:=List.mem_map.mp hl;exact h.sz _ (List.mem_of_getElem? (iR (nR _) hr))
theorem aIB (h:LogG ds):∀ p∈a0Z (lR (run ds)),Sz 802 p.2:=fun p hp=>aFY (aK8 h) (oA _ _ _ p hp)
def dQ (p:Option Nat×Rat):D:=.tuple [dO p.1,bT p.2]
theorem aK4 {s:Rn}(hne:s.rs≠[]):∀ p∈a0Z (lR s),p.1<s.rs.length:=fun p hp=>by
 have hl:lR s≠[]:=fun z=>hne (List.eq_nil_of_map_eq_nil z);obtain⟨t,ht⟩:=aAZ (a2Y hl) p.1 (List.mem_cons_of_mem _ (List.mem_map.mpr ⟨p,hp,rfl⟩));have:=ht.1;rwa[qQ] at this
theorem aH4 (h:LogG ds)(h20:(run ds).rs.length≤20)(hT:Sz 900 T)(hB:∀ b,B=some b→Sz 900 b){la:D}{f fd fp:Addr}(q:Q (.own ((aGC (run ds) T B).map dQ))) :
  tY c [.pub (qN c f (fdS fd fp (run ds) la)),.val (bT T),.val (tW B)] Q:=by
 have ro:=nR ds;have lz:=aK8 h;have rz:=aIB h;have ll:=qQ (run ds);refine lD ?_;unfold a74;walk_at "ks";refine zB (w:=f) (s:=fdS fd fp (run ds) la) (by with_unfolding_all rfl) (.inr rfl) (by show(cH _).length<64; rw[kds_len]; exact Nat.lt_of_le_of_lt h.rs (by decide)) ?_;rw[show(fdS fd fp (run ds) la).kds=cH (run ds) from rfl,uD ro];walk_at "ks";refine⟨a4P _,a4X,?_⟩;rw[a3Y];unfold aGC at q;refine fZ (fun ce=>?_) (fun ce=>?_)
 ·rw[if_pos ce] at q;walk_at "ks";exact q
 ·rw[if_neg ce] at q;have hl:lR (run ds)≠[]:=fun z=>ce (List.eq_nil_of_map_eq_nil z);have rl:=aK4 ce;have ld:o4 T (aA3 (lR (run ds))) (a0Z (lR (run ds)))<(run ds).rs.length:=by
   have:=(uO (t:=T) (a2Y hl) trivial).1;rwa[qQ] at this
  have rlen:(a0Z (lR (run ds))).length≤400:=by
   have h1:=tV (lR (run ds)) (mts (lR (run ds))) (aA3 (lR (run ds)));have h2:=a1B (lR (run ds));rw[ll] at h2;have h3:=Nat.mul_le_mul h20 h20;have h1:(a0Z (lR (run ds))).length≤(mts (lR (run ds))).length:=h1;omega
  unfold uY;walk_at "ks";refine aI4 (by with_unfolding_all rfl) (aC1 (fun _ _=>rfl)) ?_;walk_at "ks";refine aDP h ?_;walk_at "ks";refine aB8 lz (by rw[ll]; exact h20) ?_;rw[show aMV (lR (run ds))=a7P (aA3 (lR (run ds))) (a0Z (lR (run ds))) from if_neg hl];walk_at "ks";refine a5Y (hT.mono (by decide)) (fun p hp=>(rz p hp).mono (by decide)) ?_;walk_at "ks";refine cB (oM ld) ?_;rw[← gH ld];generalize o4 T (aA3 (lR (run ds))) (a0Z (lR (run ds)))=r0 at *;walk_at "ks";have er:a7P (aA3 (lR (run ds))) (a0Z (lR (run ds)))=.tuple [.int (aA3 (lR (run ds)):Int),.none]::(a0Z (lR (run ds))).map pairD:=rfl;rw[er,aOZ];generalize hrr:a0Z (lR (run ds))=rr at *;clear er;have key:∀(row:Sl) (K:Fl→Prop),(∀ a,K (.nx [.pub (qN c f (fdS fd fp (run ds) la)),.val (bT T),.val (tW B),.val (.list (gC (run ds).rs)),row,.own (((some (a00 (run ds) r0),T)::(rr.filter fun p=>inB T B p.2).map fun p=>(some (a00 (run ds) p.1),p.2)).map dQ),a])) →
    forL (gN 6) (pF c) (rr.map pairD) [.pub (qN c f (fdS fd fp (run ds) la)),.val (bT T),.val (tW B),.val (.list (gC (run ds).rs)),row,.own [.tuple [.int (a00 (run ds) r0:Int),bT T]],.no] K:=by
   intro row K hK0;refine iW (fun n Γ=>∃ a,Γ=[.pub (qN c f (fdS fd fp (run ds) la)),.val (bT T),.val (tW B),.val (.list (gC (run ds).rs)),row,.own (((some (a00 (run ds) r0),T)::((rr.take n).filter fun p=>inB T B p.2).map fun p=>(some (a00 (run ds) p.1),p.2)).map dQ),a]) ⟨_,rfl⟩ ?_ ?_
   ·rintro n d Γ K hd ⟨a,rfl⟩ hK;rw[List.getElem?_map] at hd;obtain⟨p,hp,rfl⟩:∃ p,rr[n]?=some p∧d=pairD p:=by
     cases e:rr[n]? with
     | none=>rw[e] at hd; cases hd
     | some p=>rw[e] at hd; cases hd; exact⟨p,rfl,rfl⟩
    have hn:=(List.getElem?_eq_some_iff.mp hp).1;have pm:=List.mem_of_getElem? hp;have zp:=rz p pm;have pl:=rl p pm;have tk:rr.take (n+1)=rr.take n++[p]:=by rw[List.take_succ,hp]; rfl
    have hk3:=hK.nx;rw[tk,List.filter_append] at hk3;have tl:((rr.take n).filter fun p=>inB T B p.2).length≤400:=Nat.le_trans (List.length_filter_le _ _) (by rw[List.length_take]; omega);have no:inB T B p.2=false→K (.nx [.pub (qN c f (fdS fd fp (run ds) la)),.val (bT T),.val (tW B),.val (.list (gC (run ds).rs)),row,.own (((some (a00 (run ds) r0),T)::((rr.take n).filter fun p=>inB T B p.2).map fun p=>(some (a00 (run ds) p.1),p.2)).map dQ),.val (pairD p)]):=fun hi=>by
     rw[List.filter_cons_of_neg (by rw[hi]; decide),List.filter_nil,List.append_nil] at hk3;exact hk3 _ ⟨_,rfl⟩
    have yes:inB T B p.2=true→gR 5 (qC (bG (mIx (aN 3) (mIx (aN 6) (mC (.int 0)))) (bG (mIx (aN 6) (mC (.int 1))) fU))) [.pub (qN c f (fdS fd fp (run ds) la)),.val (bT T),.val (tW B),.val (.list (gC (run ds).rs)),row,.own (((some (a00 (run ds) r0),T)::((rr.take n).filter fun p=>inB T B p.2).map fun p=>(some (a00 (run ds) p.1),p.2)).map dQ),.val (pairD p)] K:=fun hi=>by
     rw[List.filter_cons_of_pos (by exact hi),List.filter_nil,List.map_append] at hk3;unfold pairD;walk_at "ks";refine cB (d:=.int (p.1:Int)) rfl ?_;walk_at "ks";refine cB (oM pl) ?_;walk_at "ks";refine cB (d:=bT p.2) rfl ?_;walk_at "ks";refine⟨by rw[List.length_map,List.length_cons,List.length_map]; omega,?_⟩;rw[← gH pl];refine hk3 _ ⟨.val (pairD p),?_⟩;rw[List.map_cons,List.map_cons,List.map_append];rfl
    unfold pF;walk_at "ks";refine cB (d:=bT p.2) rfl ?_;walk_at "ks";refine gB (hT.mono (by decide)) (zp.mono (by decide)) ?_
    by_cases c1:T<p.2
    ·rw[decide_eq_true c1];refine uV ?_
     cases B with
     | none=>
      iterate 4 walk_at "k1"
      refine uV (uV ?_);exact yes (inB_iff.mpr ⟨c1,fun _ z=>nomatch z⟩)
     | some b=>
      rw[show tW (some b)=bT b from rfl] at *;walk_at "ks";refine u6 ?_;walk_at "ks";refine cB (d:=bT p.2) rfl ?_;walk_at "ks";refine gB (zp.mono (by decide)) ((hB b rfl).mono (by decide)) ?_
      by_cases c2:p.2<b
      ·rw[decide_eq_true c2];refine uV ?_;exact yes (inB_iff.mpr ⟨c1,fun b' z=>by cases z; exact c2⟩)
      ·rw[decide_eq_false c2];refine u6 ?_;walk_at "ks";exact no (Bool.eq_false_iff.mpr fun z=>c2 ((inB_iff.mp z).2 b rfl))
    ·rw[decide_eq_false c1];refine u6 ?_;refine u6 ?_;walk_at "ks";exact no (Bool.eq_false_iff.mpr fun z=>c1 (inB_iff.mp z).1)
   ·rintro Γ ⟨a,rfl⟩;rw[List.length_map,List.take_length];exact hK0 a
  refine key _ _ fun a=>?_;unfold uZ;walk_at "ks";exact q
end
theorem aEH (o:Option Rat)(t:Rat):PyData.eqv (tW o) (bT t)=decide (o=some t):=by
 cases o with
 | none=>rw[decide_eq_false (fun h=>nomatch h)]; rfl
 | some u=>
  rw[show tW (some u)=bT u from rfl,a2D];exact decide_eq_decide.mpr ⟨fun h=>by rw[h],fun h=>by cases h; rfl⟩
theorem aC7:∀ xs:List (Option Nat×Rat),jA (xs.map dQ)=true
 | []=>rfl
 | (none,_)::xs=>aC7 xs
 | (some _,_)::xs=>aC7 xs
theorem a8R:∀(xs:List (Option Nat×Rat)) (row:Row),(xs.foldl qZ row).length≤row.length+xs.length
 | [],_=>Nat.le_refl _
 | p::xs,row=>by
  have h1:=a8R xs (qZ row p);have h2:=aEI row p;rw[List.length_cons,List.foldl_cons];omega
theorem a8X {s:Rn}(h:s.rs.length≤8)(T:Rat)(B:Option Rat):(aGC s T B).length≤65:=by
 unfold aGC
 split
 ·show 1≤65; decide
 ·have h1:(a0Z (lR s)).length≤(mts (lR s)).length:=tV _ _ _;have h2:=a1B (lR s);rw[qQ] at h2;have h3:=Nat.mul_le_mul h h;have h4:((a0Z (lR s)).filter fun p=>inB T B p.2).length≤(a0Z (lR s)).length:=List.length_filter_le _ _;rw[List.length_cons,List.length_map];omega
theorem a3O (pre:List Deed)(d:Deed)(rest:List Deed)(row:Row):aA2 pre (d::rest) row=aA2 (pre++[d]) rest (if rest.head?.map Deed.t=some d.t then row else(aKZ (run (pre++[d])) d.t (rest.head?.map Deed.t)).foldl qZ row):=rfl
section
variable {c:Addr}{ds:List Deed}{Q:Rv→Prop}
theorem pC (hb:LogB ds)(hl:ds.length≤12)(q:Q (.own ((aA2 [] ds [(none,none)]).map dP))):eY c [.val (.list (ds.map cG))] Q:=by
 have h:LogG ds:=⟨hb.ok,hb.up,hb.z,by omega⟩;have lend:aHM (.list (ds.map cG))=some (.int (ds.length:Int)):=by show some (PyData.int ((ds.map cG).length:Int))=_; rw[List.length_map]
 have hle:(zP (ds.map cG)).length=ds.length:=by unfold zP; rw[List.length_map,List.length_range,List.length_map]
 have hen:∀(n:Nat) d,(zP (ds.map cG))[n]?=some d→∃ e,ds[n]?=some e∧d=.tuple [.int (n:Int),cG e]:=fun n d hd=>by
  have hn:n<ds.length:=by have:=(List.getElem?_eq_some_iff.mp hd).1; omega
  unfold zP at hd;rw[List.getElem?_map,List.getElem?_range (by rw[List.length_map]; exact hn)] at hd
  cases hd
  refine⟨ds[n],List.getElem?_eq_getElem hn,?_⟩;show PyData.tuple [.int (n:Int),(ds.map cG).getD n .none]=_;rw[List.getD_eq_getElem?_getD,List.getElem?_map,List.getElem?_eq_getElem hn];rfl
 refine lD ?_;unfold o8;walk_at "ks";refine aHU fun w a b=>?_;walk_at "ks";refine iW (fun n Γ=>∃(row:Row) (x y z u:Sl) (la:D),Γ=[.val (.list (ds.map cG)),.own (row.map dP),.box ((bQ c).box w (fdS a b (run (ds.take n)) la)),x,y,z,u]∧row≠[]∧row.length≤1+65*n∧aA2 (ds.take n) (ds.drop n) row=aA2 [] ds [(none,none)]) ⟨[(none,none)],_,_,_,_,_,rfl,by simp,Nat.le_refl _,rfl⟩ ?_ ?_
 ·rintro n d Γ K hd ⟨row,x,y,z,u,la,rfl,hne,hlen,hrow⟩ hK;obtain⟨e,he,rfl⟩:=hen n d hd;have hn:=(List.getElem?_eq_some_iff.mp he).1;have hem:e∈ds:=List.mem_of_getElem? he;have tk:ds.take (n+1)=ds.take n++[e]:=by rw[List.take_succ,he]; rfl
  have dr:ds.drop n=e::ds.drop (n+1):=by rw[List.drop_eq_getElem_cons hn,(List.getElem?_eq_some_iff.mp he).2]
  have gn:=h.take n;have gn1:=h.take (n+1);have few:(run (ds.take (n+1))).rs.length≤8:=a76 (LogP.take hb.few _);have hk3:=hK.nx;rw[dr,a3O,←tk] at hrow;unfold lN;walk_at "ks";refine aLE (nR _) (h.ok n e he) (h.z e hem) gn.sz (Nat.lt_of_le_of_lt gn.rs (by decide)) ?_;rw[← jZ,←tk];have tz:=(h.z e hem).tz;have hd2:(ds.drop (n+1)).head?.map Deed.t=ds[n+1]?.map Deed.t:=by rw[List.head?_drop]
  rw[hd2] at hrow;have bz:∀ b',ds[n+1]?.map Deed.t=some b'→Sz 900 b':=fun b' hb'=>by
   cases e2:ds[n+1]? with
   | none=>rw[e2] at hb'; cases hb'
   | some e'=>
    rw[e2] at hb'
    cases hb'
    exact((h.z e' (List.mem_of_getElem? e2)).tz).mono (by decide)
  have rest:∀(N:Option Rat) (u:Sl) (la:D),N=ds[n+1]?.map Deed.t→mIf (eO (mNe (aN 5) (mIx (aN 4) (mC (.int 1)))))
    (a2V (a5V (bW (a3S (b8 3 (tY c) (aLS 2 (bC (mIx (aN 4) (mC (.int 1))) (bC (aN 5) c7))))))) (gN 6) (fC c)) mNx
    [.val (.list (ds.map cG)),.own (row.map dP),.box ((bQ c).box w (fdS a b (run (ds.take (n+1))) la)),.val (.int (n:Int)),.val (cG e),.val (tW N),u] K:=by
   rintro N u la rfl;walk_at "ks";refine cB (a6N e) ?_;walk_at "ks";refine⟨aF1 _,mL _,?_⟩;rw[aEH];refine tX (fun cc=>?_) (fun cc=>?_)
   ·rw[if_neg cc] at hrow;walk_at "ks";refine aKS (by with_unfolding_all rfl) ?_;walk_at "ks";refine cB (a6N e) ?_;walk_at "ks";refine aH4 gn1 (Nat.le_trans few (by decide)) (tz.mono (by decide)) bz ?_;refine⟨aC7 _,rfl,?_⟩;have sl:=a8X few e.t (ds[n+1]?.map Deed.t);rw[← a8E (nR _)] at hrow;generalize aGC (run (ds.take (n+1))) e.t (ds[n+1]?.map Deed.t)=xs at *;generalize hN:ds[n+1]?.map Deed.t=N at *;show forL (gN 6) (fC c) (xs.map dQ) [.val (.list (ds.map cG)),.own (row.map dP),.box ((bQ c).box w (fdS a b (run (ds.take (n+1))) la)),.val (.int (n:Int)),.val (cG e),.val (tW N),u] K;refine iW (fun k Γ=>∃(rw2:Row) (u:Sl),Γ=[.val (.list (ds.map cG)),.own (rw2.map dP),.box ((bQ c).box w (fdS a b (run (ds.take (n+1))) la)),.val (.int (n:Int)),.val (cG e),.val (tW N),u]∧rw2≠[]∧rw2.length≤row.length+k∧rw2=(xs.take k).foldl qZ row) ⟨row,_,rfl,hne,Nat.le_refl _,rfl⟩ ?_ ?_
    ·rintro k d Γ K2 hd ⟨rw2,u,rfl,hne2,hlen2,hrow2⟩ hK2;rw[List.getElem?_map] at hd;obtain⟨p,hp,rfl⟩:∃ p,xs[k]?=some p∧d=dQ p:=by
      cases e:xs[k]? with
      | none=>rw[e] at hd; cases hd
      | some p=>rw[e] at hd; cases hd; exact⟨p,rfl,rfl⟩
     have hk:=(List.getElem?_eq_some_iff.mp hp).1;have nxt:(xs.take (k+1)).foldl qZ row=qZ rw2 p:=by
      rw[List.take_succ,hp,Option.toList_some,List.foldl_append,←hrow2];rfl
     obtain⟨dl,l1,l2⟩:=a7U hne2;have hk3:=hK2.nx;unfold fC;walk_at "ks";refine cB (d:=dO p.1) rfl ?_;walk_at "ks";refine cB l1 ?_;walk_at "ks";refine cB l2 ?_;walk_at "ks";refine⟨(aDB _).good,(aDB _).good,?_⟩;rw[aGJ];refine⟨rfl,?_⟩;refine tX (fun c5=>?_) (fun c5=>?_)
     ·walk_at "ks";refine⟨by rw[List.length_map]; omega,?_⟩;have e:qZ rw2 p=rw2++[(p.1,some p.2)]:=if_neg fun z=>c5 z.symm;refine hk3 _ ⟨rw2++[(p.1,some p.2)],.val (dQ p),?_,by simp,by rw[List.length_append,List.length_singleton]; omega,by rw[nxt,e]⟩;rw[List.map_append];rfl
     ·walk_at "ks";have e:qZ rw2 p=rw2:=if_pos c5.symm;exact hk3 _ ⟨rw2,_,rfl,hne2,by omega,by rw[nxt,e]⟩
    ·rintro Γ ⟨rw2,u,rfl,hne2,hlen2,hrow2⟩;rw[List.length_map] at hlen2 hrow2;rw[List.take_length] at hrow2;subst hrow2;exact hk3 _ ⟨_,_,_,_,_,_,rfl,hne2,by omega,hrow⟩
   ·rw[if_pos cc] at hrow;walk_at "ks";exact hk3 _ ⟨row,_,_,_,_,_,rfl,hne,by omega,hrow⟩
  walk_at "ks";refine cB lend ?_;refine fZ (fun cl=>?_) (fun cl=>?_)
  ·have cl':n+1<ds.length:=by omega
   have e2:ds[n+1]?=some ds[n+1]:=List.getElem?_eq_getElem cl';walk_at "ks";refine cB (d:=cG ds[n+1]) ?_ ?_
   ·rw[show((n:Int)+1)=((n+1:Nat):Int) by omega];refine wR ?_;rw[List.getElem?_map,e2];rfl
   walk_at "ks";refine cB (a6N _) ?_;exact rest (some ds[n+1].t) _ _ (by rw[e2]; rfl)
  ·walk_at "ks";exact rest none _ _ (by rw[List.getElem?_eq_none (by omega)]; rfl)
 ·rintro Γ ⟨row,x,y,z,u,la,rfl,hne,hlen,hrow⟩;rw[hle,List.drop_length] at hrow;unfold lO;walk_at "ks";have hrow:row=aA2 [] ds [(none,none)]:=hrow;rw[← hrow] at q;exact q
theorem aNM (p:Option Nat×Option Rat):Gd 2 (dP p):=a5F (n:=1) fun x hx=>by
 simp only[List.mem_cons,List.not_mem_nil,or_false] at hx;rcases hx with rfl|rfl
 ·exact(aDB _).mono
 ·exact aG8 _
theorem a8G (row:Row):Good (.list (row.map dP)):=(a7X (n:=2) fun d h=>by
 obtain⟨p,_,rfl⟩:=List.mem_map.mp h;exact aNM p).good
theorem aGU (row:Row)(q:Q (.val (.bool true))):jB [.val (.list (row.map dP))] Q:=by
 refine lD ?_;unfold rJ qJ;walk_at "ks";refine iW (fun n Γ=>∃ a,Γ=[.val (.list (row.map dP)),a]) ⟨_,rfl⟩ ?_ ?_
 ·rintro n d Γ K hd ⟨a,rfl⟩ hK;rw[List.getElem?_map] at hd;obtain⟨p,hp,rfl⟩:∃ p,row[n]?=some p∧d=dP p:=by
   cases e:row[n]? with
   | none=>rw[e] at hd; cases hd
   | some p=>rw[e] at hd; cases hd; exact⟨p,rfl,rfl⟩
  have hk3:=hK.nx;unfold qL dP;walk_at "ks";refine cB (d:=.int 2) rfl ?_;walk_at "ks";refine tX (fun z=>absurd rfl z) (fun _=>?_);walk_at "ks";refine cB (d:=dO p.1) rfl ?_;walk_at "ks";have e:aDW (q9 (dO p.1)) "bool" = false:=by cases p.1<;>rfl
  rw[e];refine u6 ?_;walk_at "ks";exact hk3 _ ⟨_,rfl⟩
 ·rintro Γ ⟨a,rfl⟩;unfold qP;walk_at "ks";exact q
theorem a3W:∀ row:Row,jA (row.map dP)=true
 | []=>rfl
 | (none,none)::xs=>a3W xs
 | (none,some _)::xs=>a3W xs
 | (some _,none)::xs=>a3W xs
 | (some _,some _)::xs=>a3W xs
theorem a8Y:∀(rest pre:List Deed) (row:Row),Few (pre++rest)→row.length≤1+65*pre.length→(aA2 pre rest row).length≤1+65*(pre.length+rest.length)
 | [],pre,row,_,h=>h
 | d::r,pre,row,hf,h=>by
  rw[a3O];have hf2:Few ((pre++[d])++r):=by rw[List.append_assoc]; exact hf
  have few:(run (pre++[d])).rs.length≤8:=by
   have:=a76 (LogP.take hf2 (pre++[d]).length);rwa[List.take_append_of_le_length (Nat.le_refl _),List.take_length] at this
  have h1:=a8Y r (pre++[d]) (if r.head?.map Deed.t=some d.t then row else(aKZ (run (pre++[d])) d.t (r.head?.map Deed.t)).foldl qZ row) hf2 (by
   rw[List.length_append,List.length_singleton]
   split
   ·omega
   ·rw[← a8E (nR _)];have h2:=a8R (aGC (run (pre++[d])) d.t (r.head?.map Deed.t)) row;have h3:=a8X few d.t (r.head?.map Deed.t);omega)
  rw[List.length_append,List.length_singleton] at h1;rw[List.length_cons];omega
theorem law_true (c:Addr):z6 c (.no::.pen::List.replicate 6 .no) p8:=by
 unfold z6;walk_at "ks";refine fG (by decide) (by decide) fun r r0 r1=>?_;obtain⟨most,room,hi,m1,p1,p2⟩:∃ most room:Nat,ixD (.list [.tuple [.int 10,.int 4],.tuple [.int 10,.int 4],.tuple [.int 10,.int 4],.tuple [.int 8,.int 7]]) (.int r)=some (.tuple [.int (most:Int),.int (room:Int)])∧most≤10∧1≤room∧room≤7:=by
  have:r=0∨r=1∨r=2∨r=3:=by omega
  rcases this with rfl|rfl|rfl|rfl
  ·exact⟨10,4,rfl,by decide,by decide,by decide⟩
  ·exact⟨10,4,rfl,by decide,by decide,by decide⟩
  ·exact⟨10,4,rfl,by decide,by decide,by decide⟩
  ·exact⟨8,7,rfl,by decide,by decide,by decide⟩
 walk_at "ks";refine cB hi ?_;walk_at "ks";refine aNC (by omega) (by omega) (by omega) fun ds hl lb=>?_;have l12:ds.length≤12:=by omega
 have ll:(ds.map cG).length=ds.length:=List.length_map _;have gl:=aA0 ds;have rl:=a8Y ds [] [(none,none)] lb.few (Nat.le_refl _);walk_at "ks";refine aMF lb l12 ?_;generalize hrow:aA2 [] ds [(none,none)]=row at rl;have gr:=a8G row;walk_at "ks";refine pC lb l12 ?_;rw[hrow];refine⟨a3W _,rfl,?_⟩;walk_at "ks";refine aGU row ?_;walk_at "ks";refine aPK gr ?_;walk_at "ks";refine⟨gl,gl,rfl,?_⟩;rw[mZ gl];refine u6 ?_;walk_at "ks";unfold a0B;walk_at "ks";refine⟨by rw[List.length_map]; have:([]:List Deed).length=0:=rfl; omega,?_⟩;walk_at "ks";refine pC lb l12 ?_;rw[hrow];walk_at "ks";refine⟨gr,gr,?_⟩;rw[mZ gr];walk_at "ks";refine pC (ds:=[]) ⟨fun n d h=>(by cases n<;>cases h),List.Pairwise.nil,fun d h=>absurd h List.not_mem_nil,fun d h=>absurd h List.not_mem_nil,fun n d h=>(by cases n<;>cases h)⟩ (by decide) ?_;walk_at "ks";have g0:=a8G [(none,none)];refine⟨g0,g0,?_⟩;show p8 (.rt (.val (.bool (PyData.eqv (.list (([(none,none)]:Row).map dP)) (.list (([(none,none)]:Row).map dP))))));rw[mZ g0]
 first|exact rfl|trivial
end
theorem ln1 {α:Type}{us:List α}(h:us.length=1):∃ x0,us=[x0]:=by
 match us,h with
 | [_],_=>exact⟨_,rfl⟩
theorem ln2 {α:Type}{us:List α}(h:us.length=2):∃ x0 x1,us=[x0,x1]:=by
 match us,h with
 | [_,_],_=>exact⟨_,_,rfl⟩
theorem ln3 {α:Type}{us:List α}(h:us.length=3):∃ x0 x1 x2,us=[x0,x1,x2]:=by
 match us,h with
 | [_,_,_],_=>exact⟨_,_,_,rfl⟩
theorem ln4 {α:Type}{us:List α}(h:us.length=4):∃ x0 x1 x2 x3,us=[x0,x1,x2,x3]:=by
 match us,h with
 | [_,_,_,_],_=>exact⟨_,_,_,_,rfl⟩
theorem aMY {K:Fg}{h:Heap}{mg:Mg}(X:K.In h)(G:h.Ns mainGlobals mg)
  (z_len:PySem.W.nsIn K mainGlobals "len" = some none)
  (z_abs:PySem.W.nsIn K mainGlobals "abs" = some none)
  (z_range:PySem.W.nsIn K mainGlobals "range" = some none)
  (z_isinstance:PySem.W.nsIn K mainGlobals "isinstance" = some none)
  (z_int:PySem.W.nsIn K mainGlobals "int" = some none)
  (z_bool:PySem.W.nsIn K mainGlobals "bool" = some none)
  (z_tuple:PySem.W.nsIn K mainGlobals "tuple" = some none)
  (z_max:PySem.W.nsIn K mainGlobals "max" = some none)
  (z_min:PySem.W.nsIn K mainGlobals "min" = some none)
  (z_list:PySem.W.nsIn K mainGlobals "list" = some none)
  (z_all:PySem.W.nsIn K mainGlobals "all" = some none)
  (z_any:PySem.W.nsIn K mainGlobals "any" = some none)
  (z_sorted:PySem.W.nsIn K mainGlobals "sorted" = some none)
  (z_zip:PySem.W.nsIn K mainGlobals "zip" = some none)
  (z_set:PySem.W.nsIn K mainGlobals "set" = some none)
  (z_sum:PySem.W.nsIn K mainGlobals "sum" = some none)
  (z_str:PySem.W.nsIn K mainGlobals "str" = some none)
  (z_enumerate:PySem.W.nsIn K mainGlobals "enumerate" = some none)
  (kt_int_bool:PySem.W.kitOne K (.type "int") (.type "bool")=some false)    (kt_bool_int:PySem.W.kitOne K (.type "bool") (.type "int")=some true):Bl K mg:=⟨PySem.W.mg_none_of X G z_len,PySem.W.mg_none_of X G z_abs,PySem.W.mg_none_of X G z_range,PySem.W.mg_none_of X G z_isinstance,PySem.W.mg_none_of X G z_int,PySem.W.mg_none_of X G z_bool,PySem.W.mg_none_of X G z_tuple,PySem.W.mg_none_of X G z_max,PySem.W.mg_none_of X G z_min,PySem.W.mg_none_of X G z_list,PySem.W.mg_none_of X G z_all,PySem.W.mg_none_of X G z_any,PySem.W.mg_none_of X G z_sorted,PySem.W.mg_none_of X G z_zip,PySem.W.mg_none_of X G z_set,PySem.W.mg_none_of X G z_sum,PySem.W.mg_none_of X G z_str,PySem.W.mg_none_of X G z_enumerate,kt_int_bool,kt_bool_int⟩
theorem aKM {K:Fg}
  (kt_NoneType_bool:PySem.W.kitOne K (.type "NoneType") (.type "bool")=some false)
  (kt_NoneType_int:PySem.W.kitOne K (.type "NoneType") (.type "int")=some false)
  (kt_NoneType_str:PySem.W.kitOne K (.type "NoneType") (.type "str")=some false)
  (kt_NoneType_list:PySem.W.kitOne K (.type "NoneType") (.type "list")=some false)
  (kt_NoneType_tuple:PySem.W.kitOne K (.type "NoneType") (.type "tuple")=some false)
  (kt_NoneType_dict:PySem.W.kitOne K (.type "NoneType") (.type "dict")=some false)
  (kt_bool_NoneType:PySem.W.kitOne K (.type "bool") (.type "NoneType")=some false)
  (kt_bool_int:PySem.W.kitOne K (.type "bool") (.type "int")=some true)
  (kt_bool_str:PySem.W.kitOne K (.type "bool") (.type "str")=some false)
  (kt_bool_list:PySem.W.kitOne K (.type "bool") (.type "list")=some false)
  (kt_bool_tuple:PySem.W.kitOne K (.type "bool") (.type "tuple")=some false)
  (kt_bool_dict:PySem.W.kitOne K (.type "bool") (.type "dict")=some false)
  (kt_int_NoneType:PySem.W.kitOne K (.type "int") (.type "NoneType")=some false)
  (kt_int_bool:PySem.W.kitOne K (.type "int") (.type "bool")=some false)
  (kt_int_str:PySem.W.kitOne K (.type "int") (.type "str")=some false)
  (kt_int_list:PySem.W.kitOne K (.type "int") (.type "list")=some false)
  (kt_int_tuple:PySem.W.kitOne K (.type "int") (.type "tuple")=some false)
  (kt_int_dict:PySem.W.kitOne K (.type "int") (.type "dict")=some false)
  (kt_str_NoneType:PySem.W.kitOne K (.type "str") (.type "NoneType")=some false)
  (kt_str_bool:PySem.W.kitOne K (.type "str") (.type "bool")=some false)
  (kt_str_int:PySem.W.kitOne K (.type "str") (.type "int")=some false)
  (kt_str_list:PySem.W.kitOne K (.type "str") (.type "list")=some false)
  (kt_str_tuple:PySem.W.kitOne K (.type "str") (.type "tuple")=some false)
  (kt_str_dict:PySem.W.kitOne K (.type "str") (.type "dict")=some false)
  (kt_list_NoneType:PySem.W.kitOne K (.type "list") (.type "NoneType")=some false)
  (kt_list_bool:PySem.W.kitOne K (.type "list") (.type "bool")=some false)
  (kt_list_int:PySem.W.kitOne K (.type "list") (.type "int")=some false)
  (kt_list_str:PySem.W.kitOne K (.type "list") (.type "str")=some false)
  (kt_list_tuple:PySem.W.kitOne K (.type "list") (.type "tuple")=some false)
  (kt_list_dict:PySem.W.kitOne K (.type "list") (.type "dict")=some false)
  (kt_tuple_NoneType:PySem.W.kitOne K (.type "tuple") (.type "NoneType")=some false)
  (kt_tuple_bool:PySem.W.kitOne K (.type "tuple") (.type "bool")=some false)
  (kt_tuple_int:PySem.W.kitOne K (.type "tuple") (.type "int")=some false)
  (kt_tuple_str:PySem.W.kitOne K (.type "tuple") (.type "str")=some false)
  (kt_tuple_list:PySem.W.kitOne K (.type "tuple") (.type "list")=some false)
  (kt_tuple_dict:PySem.W.kitOne K (.type "tuple") (.type "dict")=some false)
  (kt_dict_NoneType:PySem.W.kitOne K (.type "dict") (.type "NoneType")=some false)
  (kt_dict_bool:PySem.W.kitOne K (.type "dict") (.type "bool")=some false)
  (kt_dict_int:PySem.W.kitOne K (.type "dict") (.type "int")=some false)
  (kt_dict_str:PySem.W.kitOne K (.type "dict") (.type "str")=some false)
  (kt_dict_list:PySem.W.kitOne K (.type "dict") (.type "list")=some false)
  (kt_dict_tuple:PySem.W.kitOne K (.type "dict") (.type "tuple")=some false)
  : Kit K:=Kit.mk' (by
  intro a ha b hb;simp only[tyL,List.mem_cons,List.not_mem_nil,or_false] at ha hb;rcases ha with rfl|rfl|rfl|rfl|rfl|rfl|rfl<;>rcases hb with rfl|rfl|rfl|rfl|rfl|rfl|rfl<;>intro e<;>first|assumption|exact absurd e (by decide))
def DfP (K:Fg)(mg:Mg)(x:Str)(st:Stmt):Prop:=∃(f:Addr) (fd:FuncData),Fun K x x st f fd∧mg x=some (.ref f)
theorem cX {K:Fg}{h:Heap}{mg:Mg}(X:K.In h)(G:h.Ns mainGlobals mg){x:Str}{st:Stmt}{f:Addr}{od an:Option Addr}{sl:Array (Option Value)}{oc kV dc pm cd ct:Value}
  (a:PySem.W.nsIn K mainGlobals x=some (some (.ref f))) (l:K.lookup f=some ⟨oc,od,.func (PySem.W.fnOf x x (rQ st) (lG st) (aR st) .none kV dc pm an cd ct),sl⟩) (c:PySem.W.codeIn K cd x=true) (k:PySem.W.keepIn K (.ref f)=true):DfP K mg x st:=
 ⟨f,_,aAB l c k,PySem.W.mg_of X G a⟩
def MeP (K:Fg)(C:Addr)(m q:Str)(st:Stmt):Prop:=∃(f:Addr) (fd:FuncData),Fun K m q st f fd∧Meth K C m f
theorem aE1 {K:Fg}{C:Addr}{m q:Str}{st:Stmt}{f:Addr}{od an:Option Addr}{sl:Array (Option Value)}{oc kV dc pm cd ct:Value}
  (a:PySem.W.findIn K (.ref C) m=some (some (.ref f))) (n:PySem.W.isFn K (.ref f)=true) (l:K.lookup f=some ⟨oc,od,.func (PySem.W.fnOf m q (rQ st) (lG st) (aR st) .none kV dc pm an cd ct),sl⟩) (c:PySem.W.codeIn K cd q=true) (k:PySem.W.keepIn K (.ref f)=true):MeP K C m q st:=⟨f,_,aAB l c k,a,n,k⟩
def InP (K:Fg)(C:Addr)(q:Str)(st:Stmt):Prop:=∃(f:Addr) (fd:FuncData),Fun K "__init__" q st f fd∧Mk K C f
theorem aNL {K:Fg}{C:Addr}{q:Str}{st:Stmt}{f:Addr}{od an:Option Addr}{sl:Array (Option Value)}{oc kV dc pm cd ct:Value}
  (y:PySem.W.makesIn K C=true) (a:PySem.W.findIn K (.ref C) "__init__" = some (some (.ref f))) (n:PySem.W.isFn K (.ref f)=true) (z:PySem.W.keepIn K (.ref C)=true) (l:K.lookup f=some ⟨oc,od,.func (PySem.W.fnOf "__init__" q (rQ st) (lG st) (aR st) .none kV dc pm an cd ct),sl⟩) (c:PySem.W.codeIn K cd q=true) (k:PySem.W.keepIn K (.ref f)=true):InP K C q st:=⟨f,_,aAB l c k,y,a,n,z⟩
theorem aH6 {K:Fg}{C:Addr}{f:Str}(h:PySem.W.findIn K (.ref C) f=some none):NoAttr K C f:=h
section
variable {P:Program}{w:World}{K:Fg}{mg:Mg}{base:Heap}
theorem a73  (B:Bl K mg)(Kt:Kit K)(d:DfP K mg "_law_take" m7) :
  ∀ a ns,Cal P w K mg base 1 "_law_take" ["_law_pen", "_law_many"] (spM (bY K a ns) 2 bB):=by
 obtain⟨f,fd,F,hm⟩:=d;exact fun a ns=>⟨f,fd,a4W F B,hm,F.kp,F.binds fun _ _ _ _ _ _ us hl=>by
  obtain⟨_,_,rfl⟩:=ln2 hl;rfl⟩
theorem a6A  (B:Bl K mg)(Kt:Kit K)(d:DfP K mg "is_whole" pY) :
  ∀ a ns,Cal P w K mg base 1 "is_whole" ["thing"] (spM (bY K a ns) 1 gP):=by
 obtain⟨f,fd,F,hm⟩:=d;exact fun a ns=>⟨f,fd,a5S F B Kt,hm,F.kp,F.binds fun _ _ _ _ _ _ us hl=>by
  obtain⟨_,rfl⟩:=ln1 hl;rfl⟩
theorem rK  (B:Bl K mg)(Kt:Kit K)(d:DfP K mg "greatest_divisor" eN) :
  ∀ a ns,Cal P w K mg base 1 "greatest_divisor" ["one", "other"] (spM (bY K a ns) 2 cI):=by
 obtain⟨f,fd,F,hm⟩:=d;exact fun a ns=>⟨f,fd,rN F B Kt,hm,F.kp,F.binds fun _ _ _ _ _ _ us hl=>by
  obtain⟨_,_,rfl⟩:=ln2 hl;rfl⟩
theorem a5N  (B:Bl K mg)(Kt:Kit K)(d:DfP K mg "number_of" mO)(C_greatest_divisor:∀ a ns,Cal P w K mg base 1 "greatest_divisor" ["one", "other"] (spM (bY K a ns) 2 cI))(C_is_whole:∀ a ns,Cal P w K mg base 1 "is_whole" ["thing"] (spM (bY K a ns) 1 gP)) :
  ∀ a ns,Cal P w K mg base 2 "number_of" ["top", "bottom"] (spM (bY K a ns) 2 cJ):=by
 obtain⟨f,fd,F,hm⟩:=d;exact fun a ns=>⟨f,fd,a4D F B Kt (C_greatest_divisor a ns) (C_is_whole a ns),hm,F.kp,F.binds fun _ _ _ _ _ _ us hl=>by
  obtain⟨_,_,rfl⟩:=ln2 hl;rfl⟩
theorem aDS  (B:Bl K mg)(Kt:Kit K)(d:DfP K mg "sum_of" wF)(C_number_of:∀ a ns,Cal P w K mg base 2 "number_of" ["top", "bottom"] (spM (bY K a ns) 2 cJ)) :
  ∀ a ns,Cal P w K mg base 3 "sum_of" ["a", "b"] (spM (bY K a ns) 2 pW):=by
 obtain⟨f,fd,F,hm⟩:=d;exact fun a ns=>⟨f,fd,aDF F B Kt (C_number_of a ns),hm,F.kp,F.binds fun _ _ _ _ _ _ us hl=>by
  obtain⟨_,_,rfl⟩:=ln2 hl;rfl⟩
theorem vK  (B:Bl K mg)(Kt:Kit K)(d:DfP K mg "difference_of" fW)(C_number_of:∀ a ns,Cal P w K mg base 2 "number_of" ["top", "bottom"] (spM (bY K a ns) 2 cJ)) :
  ∀ a ns,Cal P w K mg base 3 "difference_of" ["a", "b"] (spM (bY K a ns) 2 bZ):=by
 obtain⟨f,fd,F,hm⟩:=d;exact fun a ns=>⟨f,fd,vN F B Kt (C_number_of a ns),hm,F.kp,F.binds fun _ _ _ _ _ _ us hl=>by
  obtain⟨_,_,rfl⟩:=ln2 hl;rfl⟩
theorem a2S  (B:Bl K mg)(Kt:Kit K)(d:DfP K mg "product_of" kJ)(C_number_of:∀ a ns,Cal P w K mg base 2 "number_of" ["top", "bottom"] (spM (bY K a ns) 2 cJ)) :
  ∀ a ns,Cal P w K mg base 3 "product_of" ["a", "b"] (spM (bY K a ns) 2 dG):=by
 obtain⟨f,fd,F,hm⟩:=d;exact fun a ns=>⟨f,fd,a1Q F B Kt (C_number_of a ns),hm,F.kp,F.binds fun _ _ _ _ _ _ us hl=>by
  obtain⟨_,_,rfl⟩:=ln2 hl;rfl⟩
theorem zZ  (B:Bl K mg)(Kt:Kit K)(d:DfP K mg "quotient_of" j0)(C_number_of:∀ a ns,Cal P w K mg base 2 "number_of" ["top", "bottom"] (spM (bY K a ns) 2 cJ)) :
  ∀ a ns,Cal P w K mg base 3 "quotient_of" ["a", "b"] (spM (bY K a ns) 2 fD):=by
 obtain⟨f,fd,F,hm⟩:=d;exact fun a ns=>⟨f,fd,zH F B Kt (C_number_of a ns),hm,F.kp,F.binds fun _ _ _ _ _ _ us hl=>by
  obtain⟨_,_,rfl⟩:=ln2 hl;rfl⟩
theorem a92  (B:Bl K mg)(Kt:Kit K)(d:DfP K mg "is_less" sV) :
  ∀ a ns,Cal P w K mg base 1 "is_less" ["a", "b"] (spM (bY K a ns) 2 cC):=by
 obtain⟨f,fd,F,hm⟩:=d;exact fun a ns=>⟨f,fd,a9E F B Kt,hm,F.kp,F.binds fun _ _ _ _ _ _ us hl=>by
  obtain⟨_,_,rfl⟩:=ln2 hl;rfl⟩
theorem a7A  (B:Bl K mg)(Kt:Kit K)(d:DfP K mg "place_at" pP)(C_sum_of:∀ a ns,Cal P w K mg base 3 "sum_of" ["a", "b"] (spM (bY K a ns) 2 pW))(C_product_of:∀ a ns,Cal P w K mg base 3 "product_of" ["a", "b"] (spM (bY K a ns) 2 dG)) :
  ∀ a ns,Cal P w K mg base 4 "place_at" ["line", "time"] (spM (bY K a ns) 2 gZ):=by
 obtain⟨f,fd,F,hm⟩:=d;exact fun a ns=>⟨f,fd,a5Z F B Kt (C_sum_of a ns) (C_product_of a ns),hm,F.kp,F.binds fun _ _ _ _ _ _ us hl=>by
  obtain⟨_,_,rfl⟩:=ln2 hl;rfl⟩
theorem wM  (B:Bl K mg)(Kt:Kit K)(d:DfP K mg "line_through" iD)(C_difference_of:∀ a ns,Cal P w K mg base 3 "difference_of" ["a", "b"] (spM (bY K a ns) 2 bZ))(C_product_of:∀ a ns,Cal P w K mg base 3 "product_of" ["a", "b"] (spM (bY K a ns) 2 dG)) :
  ∀ a ns,Cal P w K mg base 4 "line_through" ["time", "place", "slope"] (spM (bY K a ns) 3 dU):=by
 obtain⟨f,fd,F,hm⟩:=d;exact fun a ns=>⟨f,fd,wZ F B Kt (C_difference_of a ns) (C_product_of a ns),hm,F.kp,F.binds fun _ _ _ _ _ _ us hl=>by
  obtain⟨_,_,_,rfl⟩:=ln3 hl;rfl⟩
theorem a9Z  (B:Bl K mg)(Kt:Kit K)(d:DfP K mg "meeting" tL)(C_quotient_of:∀ a ns,Cal P w K mg base 3 "quotient_of" ["a", "b"] (spM (bY K a ns) 2 fD))(C_difference_of:∀ a ns,Cal P w K mg base 3 "difference_of" ["a", "b"] (spM (bY K a ns) 2 bZ)) :
  ∀ a ns,Cal P w K mg base 4 "meeting" ["one", "other"] (spM (bY K a ns) 2 lW):=by
 obtain⟨f,fd,F,hm⟩:=d;exact fun a ns=>⟨f,fd,a9R F B Kt (C_quotient_of a ns) (C_difference_of a ns),hm,F.kp,F.binds fun _ _ _ _ _ _ us hl=>by
  obtain⟨_,_,rfl⟩:=ln2 hl;rfl⟩
theorem a7D  (B:Bl K mg)(Kt:Kit K)(d:DfP K mg "standing" pN)(C_place_at:∀ a ns,Cal P w K mg base 4 "place_at" ["line", "time"] (spM (bY K a ns) 2 gZ)) :
  ∀ a ns,Cal P w K mg base 5 "standing" ["lines", "runner", "time"] (spM (bY K a ns) 3 gY):=by
 obtain⟨f,fd,F,hm⟩:=d;exact fun a ns=>⟨f,fd,a6Z F B Kt (C_place_at a ns),hm,F.kp,F.binds fun _ _ _ _ _ _ us hl=>by
  obtain⟨_,_,_,rfl⟩:=ln3 hl;rfl⟩
theorem xT  (B:Bl K mg)(Kt:Kit K)(d:DfP K mg "stands_ahead" iH)(C_is_less:∀ a ns,Cal P w K mg base 1 "is_less" ["a", "b"] (spM (bY K a ns) 2 cC)) :
  ∀ a ns,Cal P w K mg base 2 "stands_ahead" ["one", "other"] (spM (bY K a ns) 2 dY):=by
 obtain⟨f,fd,F,hm⟩:=d;exact fun a ns=>⟨f,fd,xW F B Kt (C_is_less a ns),hm,F.kp,F.binds fun _ _ _ _ _ _ us hl=>by
  obtain⟨_,_,rfl⟩:=ln2 hl;rfl⟩
theorem a6V  (B:Bl K mg)(Kt:Kit K)(d:DfP K mg "is_ahead" pO)(C_stands_ahead:∀ a ns,Cal P w K mg base 2 "stands_ahead" ["one", "other"] (spM (bY K a ns) 2 dY))(C_standing:∀ a ns,Cal P w K mg base 5 "standing" ["lines", "runner", "time"] (spM (bY K a ns) 3 gY)) :
  ∀ a ns,Cal P w K mg base 6 "is_ahead" ["lines", "one", "other", "time"] (spM (bY K a ns) 4 j8):=by
 obtain⟨f,fd,F,hm⟩:=d;exact fun a ns=>⟨f,fd,a6H F B Kt (C_stands_ahead a ns) (C_standing a ns),hm,F.kp,F.binds fun _ _ _ _ _ _ us hl=>by
  obtain⟨_,_,_,_,rfl⟩:=ln4 hl;rfl⟩
theorem uN  (B:Bl K mg)(Kt:Kit K)(d:DfP K mg "leads_at_first" fL)(C_is_less:∀ a ns,Cal P w K mg base 1 "is_less" ["a", "b"] (spM (bY K a ns) 2 cC)) :
  ∀ a ns,Cal P w K mg base 2 "leads_at_first" ["one", "other"] (spM (bY K a ns) 2 cV):=by
 obtain⟨f,fd,F,hm⟩:=d;exact fun a ns=>⟨f,fd,uP F B Kt (C_is_less a ns),hm,F.kp,F.binds fun _ _ _ _ _ _ us hl=>by
  obtain⟨_,_,rfl⟩:=ln2 hl;rfl⟩
theorem yV  (B:Bl K mg)(Kt:Kit K)(d:DfP K mg "first_leader" iC)(C_leads_at_first:∀ a ns,Cal P w K mg base 2 "leads_at_first" ["one", "other"] (spM (bY K a ns) 2 cV)) :
  ∀ a ns,Cal P w K mg base 3 "first_leader" ["lines"] (spM (bY K a ns) 1 dX):=by
 obtain⟨f,fd,F,hm⟩:=d;exact fun a ns=>⟨f,fd,zE F B Kt (C_leads_at_first a ns),hm,F.kp,F.binds fun _ _ _ _ _ _ us hl=>by
  obtain⟨_,rfl⟩:=ln1 hl;rfl⟩
theorem z7  (B:Bl K mg)(Kt:Kit K)(d:DfP K mg "comes_sooner" iG)(C_is_ahead:∀ a ns,Cal P w K mg base 6 "is_ahead" ["lines", "one", "other", "time"] (spM (bY K a ns) 4 j8))(C_is_less:∀ a ns,Cal P w K mg base 1 "is_less" ["a", "b"] (spM (bY K a ns) 2 cC)) :
  ∀ a ns,Cal P w K mg base 7 "comes_sooner" ["lines", "runner", "time", "told"] (spM (bY K a ns) 4 dW):=by
 obtain⟨f,fd,F,hm⟩:=d;exact fun a ns=>⟨f,fd,yX F B Kt (C_is_ahead a ns) (C_is_less a ns),hm,F.kp,F.binds fun _ _ _ _ _ _ us hl=>by
  obtain⟨_,_,_,_,rfl⟩:=ln4 hl;rfl⟩
theorem zN  (B:Bl K mg)(Kt:Kit K)(d:DfP K mg "next_leader" j4)(C_is_less:∀ a ns,Cal P w K mg base 1 "is_less" ["a", "b"] (spM (bY K a ns) 2 cC))(C_comes_sooner:∀ a ns,Cal P w K mg base 7 "comes_sooner" ["lines", "runner", "time", "told"] (spM (bY K a ns) 4 dW))(C_meeting:∀ a ns,Cal P w K mg base 4 "meeting" ["one", "other"] (spM (bY K a ns) 2 lW)) :
  ∀ a ns,Cal P w K mg base 8 "next_leader" ["lines", "leader"] (spM (bY K a ns) 2 eZ):=by
 obtain⟨f,fd,F,hm⟩:=d;exact fun a ns=>⟨f,fd,a03 F B Kt (C_is_less a ns) (C_comes_sooner a ns) (C_meeting a ns),hm,F.kp,F.binds fun _ _ _ _ _ _ us hl=>by
  obtain⟨_,_,rfl⟩:=ln2 hl;rfl⟩
theorem a9I  (B:Bl K mg)(Kt:Kit K)(d:DfP K mg "leaders" t8)(C_next_leader:∀ a ns,Cal P w K mg base 8 "next_leader" ["lines", "leader"] (spM (bY K a ns) 2 eZ))(C_first_leader:∀ a ns,Cal P w K mg base 3 "first_leader" ["lines"] (spM (bY K a ns) 1 dX)) :
  ∀ a ns,Cal P w K mg base 9 "leaders" ["lines"] (spM (bY K a ns) 1 oU):=by
 obtain⟨f,fd,F,hm⟩:=d;exact fun a ns=>⟨f,fd,a9C F B Kt (C_next_leader a ns) (C_first_leader a ns),hm,F.kp,F.binds fun _ _ _ _ _ _ us hl=>by
  obtain⟨_,rfl⟩:=ln1 hl;rfl⟩
theorem a3G  (B:Bl K mg)(Kt:Kit K)(d:DfP K mg "leader_by" mR)(C_is_less:∀ a ns,Cal P w K mg base 1 "is_less" ["a", "b"] (spM (bY K a ns) 2 cC)) :
  ∀ a ns,Cal P w K mg base 2 "leader_by" ["row", "time"] (spM (bY K a ns) 2 jG):=by
 obtain⟨f,fd,F,hm⟩:=d;exact fun a ns=>⟨f,fd,a3X F B Kt (C_is_less a ns),hm,F.kp,F.binds fun _ _ _ _ _ _ us hl=>by
  obtain⟨_,_,rfl⟩:=ln2 hl;rfl⟩
theorem a1W  (B:Bl K mg)(Kt:Kit K)(d:DfP K mg "_law_lowest" jW) :
  ∀ a ns,Cal P w K mg base 1 "_law_lowest" ["_law_top", "_law_bottom"] (spM (bY K a ns) 2 bV):=by
 obtain⟨f,fd,F,hm⟩:=d;exact fun a ns=>⟨f,fd,a2R F B Kt,hm,F.kp,F.binds fun _ _ _ _ _ _ us hl=>by
  obtain⟨_,_,rfl⟩:=ln2 hl;rfl⟩
theorem a67  (B:Bl K mg)(Kt:Kit K)(d:DfP K mg "_law_plus" pQ)(C_law_lowest:∀ a ns,Cal P w K mg base 1 "_law_lowest" ["_law_top", "_law_bottom"] (spM (bY K a ns) 2 bV)) :
  ∀ a ns,Cal P w K mg base 2 "_law_plus" ["_law_a", "_law_b", "_law_sign"] (spM (bY K a ns) 3 cQ):=by
 obtain⟨f,fd,F,hm⟩:=d;exact fun a ns=>⟨f,fd,a66 F B Kt (C_law_lowest a ns),hm,F.kp,F.binds fun _ _ _ _ _ _ us hl=>by
  obtain⟨_,_,_,rfl⟩:=ln3 hl;rfl⟩
theorem a5J  (B:Bl K mg)(Kt:Kit K)(d:DfP K mg "_law_times" mJ)(C_law_lowest:∀ a ns,Cal P w K mg base 1 "_law_lowest" ["_law_top", "_law_bottom"] (spM (bY K a ns) 2 bV)) :
  ∀ a ns,Cal P w K mg base 2 "_law_times" ["_law_a", "_law_b"] (spM (bY K a ns) 2 eQ):=by
 obtain⟨f,fd,F,hm⟩:=d;exact fun a ns=>⟨f,fd,a3U F B Kt (C_law_lowest a ns),hm,F.kp,F.binds fun _ _ _ _ _ _ us hl=>by
  obtain⟨_,_,rfl⟩:=ln2 hl;rfl⟩
theorem a6F  (B:Bl K mg)(Kt:Kit K)(d:DfP K mg "_law_less" pL) :
  ∀ a ns,Cal P w K mg base 1 "_law_less" ["_law_a", "_law_b"] (spM (bY K a ns) 2 cD):=by
 obtain⟨f,fd,F,hm⟩:=d;exact fun a ns=>⟨f,fd,a7F F B Kt,hm,F.kp,F.binds fun _ _ _ _ _ _ us hl=>by
  obtain⟨_,_,rfl⟩:=ln2 hl;rfl⟩
theorem a6L  (B:Bl K mg)(Kt:Kit K)(d:DfP K mg "_law_spot" pZ)(C_law_plus:∀ a ns,Cal P w K mg base 2 "_law_plus" ["_law_a", "_law_b", "_law_sign"] (spM (bY K a ns) 3 cQ))(C_law_times:∀ a ns,Cal P w K mg base 2 "_law_times" ["_law_a", "_law_b"] (spM (bY K a ns) 2 eQ)) :
  ∀ a ns,Cal P w K mg base 3 "_law_spot" ["_law_line", "_law_time"] (spM (bY K a ns) 2 dZ):=by
 obtain⟨f,fd,F,hm⟩:=d;exact fun a ns=>⟨f,fd,a5X F B Kt (C_law_plus a ns) (C_law_times a ns),hm,F.kp,F.binds fun _ _ _ _ _ _ us hl=>by
  obtain⟨_,_,rfl⟩:=ln2 hl;rfl⟩
theorem a04  (B:Bl K mg)(Kt:Kit K)(d:DfP K mg "_law_through" j7)(C_law_plus:∀ a ns,Cal P w K mg base 2 "_law_plus" ["_law_a", "_law_b", "_law_sign"] (spM (bY K a ns) 3 cQ))(C_law_times:∀ a ns,Cal P w K mg base 2 "_law_times" ["_law_a", "_law_b"] (spM (bY K a ns) 2 eQ)) :
  ∀ a ns,Cal P w K mg base 3 "_law_through" ["_law_time", "_law_place_here", "_law_slope"] (spM (bY K a ns) 3 f9):=by
 obtain⟨f,fd,F,hm⟩:=d;exact fun a ns=>⟨f,fd,zL F B Kt (C_law_plus a ns) (C_law_times a ns),hm,F.kp,F.binds fun _ _ _ _ _ _ us hl=>by
  obtain⟨_,_,_,rfl⟩:=ln3 hl;rfl⟩
theorem a4V  (B:Bl K mg)(Kt:Kit K)(d:DfP K mg "_law_ahead" mX)(C_law_less:∀ a ns,Cal P w K mg base 1 "_law_less" ["_law_a", "_law_b"] (spM (bY K a ns) 2 cD))(C_law_spot:∀ a ns,Cal P w K mg base 3 "_law_spot" ["_law_line", "_law_time"] (spM (bY K a ns) 2 dZ)) :
  ∀ a ns,Cal P w K mg base 4 "_law_ahead" ["_law_lines", "_law_one", "_law_other", "_law_time"] (spM (bY K a ns) 4 gW):=by
 obtain⟨f,fd,F,hm⟩:=d;exact fun a ns=>⟨f,fd,a3D F B Kt (C_law_less a ns) (C_law_spot a ns),hm,F.kp,F.binds fun _ _ _ _ _ _ us hl=>by
  obtain⟨_,_,_,_,rfl⟩:=ln4 hl;rfl⟩
theorem a2T  (B:Bl K mg)(Kt:Kit K)(d:DfP K mg "_law_change" jY)(C_law_less:∀ a ns,Cal P w K mg base 1 "_law_less" ["_law_a", "_law_b"] (spM (bY K a ns) 2 cD))(C_law_lowest:∀ a ns,Cal P w K mg base 1 "_law_lowest" ["_law_top", "_law_bottom"] (spM (bY K a ns) 2 bV))(C_law_plus:∀ a ns,Cal P w K mg base 2 "_law_plus" ["_law_a", "_law_b", "_law_sign"] (spM (bY K a ns) 3 cQ)) :
  ∀ a ns,Cal P w K mg base 3 "_law_change" ["_law_lines", "_law_one", "_law_other", "_law_time"] (spM (bY K a ns) 4 dH):=by
 obtain⟨f,fd,F,hm⟩:=d;exact fun a ns=>⟨f,fd,a1R F B Kt (C_law_less a ns) (C_law_lowest a ns) (C_law_plus a ns),hm,F.kp,F.binds fun _ _ _ _ _ _ us hl=>by
  obtain⟨_,_,_,_,rfl⟩:=ln4 hl;rfl⟩
theorem a2G  (B:Bl K mg)(Kt:Kit K)(d:DfP K mg "_law_number" jU)(C_law_lowest:∀ a ns,Cal P w K mg base 1 "_law_lowest" ["_law_top", "_law_bottom"] (spM (bY K a ns) 2 bV))(C_law_take:∀ a ns,Cal P w K mg base 1 "_law_take" ["_law_pen", "_law_many"] (spM (bY K a ns) 2 bB)) :
  ∀ a ns,Cal P w K mg base 2 "_law_number" ["_law_pen", "_law_kind"] (spM (bY K a ns) 2 cN):=by
 obtain⟨f,fd,F,hm⟩:=d;exact fun a ns=>⟨f,fd,a2Q F B Kt (C_law_lowest a ns) (C_law_take a ns),hm,F.kp,F.binds fun _ _ _ _ _ _ us hl=>by
  obtain⟨_,_,rfl⟩:=ln2 hl;rfl⟩
theorem xG  (B:Bl K mg)(Kt:Kit K)(d:DfP K mg "_law_is_small" iI) :
  ∀ a ns,Cal P w K mg base 1 "_law_is_small" ["_law_number_here"] (spM (bY K a ns) 1 cF):=by
 obtain⟨f,fd,F,hm⟩:=d;exact fun a ns=>⟨f,fd,wV F B Kt,hm,F.kp,F.binds fun _ _ _ _ _ _ us hl=>by
  obtain⟨_,rfl⟩:=ln1 hl;rfl⟩
theorem a4S  (B:Bl K mg)(Kt:Kit K)(d:DfP K mg "_law_later" mD)(C_law_is_small:∀ a ns,Cal P w K mg base 1 "_law_is_small" ["_law_number_here"] (spM (bY K a ns) 1 cF))(C_law_plus:∀ a ns,Cal P w K mg base 2 "_law_plus" ["_law_a", "_law_b", "_law_sign"] (spM (bY K a ns) 3 cQ))(C_law_take:∀ a ns,Cal P w K mg base 1 "_law_take" ["_law_pen", "_law_many"] (spM (bY K a ns) 2 bB))(C_law_change:∀ a ns,Cal P w K mg base 3 "_law_change" ["_law_lines", "_law_one", "_law_other", "_law_time"] (spM (bY K a ns) 4 dH)) :
  ∀ a ns,Cal P w K mg base 4 "_law_later" ["_law_pen", "_law_known", "_law_time"] (spM (bY K a ns) 3 gM):=by
 obtain⟨f,fd,F,hm⟩:=d;exact fun a ns=>⟨f,fd,a4T F B Kt (C_law_is_small a ns) (C_law_plus a ns) (C_law_take a ns) (C_law_change a ns),hm,F.kp,F.binds fun _ _ _ _ _ _ us hl=>by
  obtain⟨_,_,_,rfl⟩:=ln3 hl;rfl⟩
theorem a3R  (B:Bl K mg)(Kt:Kit K)(d:DfP K mg "_law_place" nD)(C_law_number:∀ a ns,Cal P w K mg base 2 "_law_number" ["_law_pen", "_law_kind"] (spM (bY K a ns) 2 cN))(C_law_take:∀ a ns,Cal P w K mg base 1 "_law_take" ["_law_pen", "_law_many"] (spM (bY K a ns) 2 bB))(C_law_is_small:∀ a ns,Cal P w K mg base 1 "_law_is_small" ["_law_number_here"] (spM (bY K a ns) 1 cF))(C_law_spot:∀ a ns,Cal P w K mg base 3 "_law_spot" ["_law_line", "_law_time"] (spM (bY K a ns) 2 dZ)) :
  ∀ a ns,Cal P w K mg base 4 "_law_place" ["_law_pen", "_law_known", "_law_time", "_law_kind"] (spM (bY K a ns) 4 gK):=by
 obtain⟨f,fd,F,hm⟩:=d;exact fun a ns=>⟨f,fd,a5B F B Kt (C_law_number a ns) (C_law_take a ns) (C_law_is_small a ns) (C_law_spot a ns),hm,F.kp,F.binds fun _ _ _ _ _ _ us hl=>by
  obtain⟨_,_,_,_,rfl⟩:=ln4 hl;rfl⟩
theorem a9P  (B:Bl K mg)(Kt:Kit K)(d:DfP K mg "_law_log" tE)(C_law_take:∀ a ns,Cal P w K mg base 1 "_law_take" ["_law_pen", "_law_many"] (spM (bY K a ns) 2 bB))(C_law_done:∀ a ns,Cal P w K mg base 4 "_law_done" ["_law_known", "_law_deed", "_law_joined"] (spM (bY K a ns) 3 fP))(C_law_number:∀ a ns,Cal P w K mg base 2 "_law_number" ["_law_pen", "_law_kind"] (spM (bY K a ns) 2 cN))(C_law_place:∀ a ns,Cal P w K mg base 4 "_law_place" ["_law_pen", "_law_known", "_law_time", "_law_kind"] (spM (bY K a ns) 4 gK))(C_law_later:∀ a ns,Cal P w K mg base 4 "_law_later" ["_law_pen", "_law_known", "_law_time"] (spM (bY K a ns) 3 gM)) :
  ∀ a ns,Cal P w K mg base 5 "_law_log" ["_law_pen", "_law_most", "_law_room"] (spM (bY K a ns) 3 p6):=by
 obtain⟨f,fd,F,hm⟩:=d;exact fun a ns=>⟨f,fd,a9M F B Kt (C_law_take a ns) (C_law_done a ns) (C_law_number a ns) (C_law_place a ns) (C_law_later a ns),hm,F.kp,F.binds fun _ _ _ _ _ _ us hl=>by
  obtain⟨_,_,_,rfl⟩:=ln3 hl;rfl⟩
theorem a7B  (B:Bl K mg)(Kt:Kit K)(d:DfP K mg "_law_then" pM)(C_law_done:∀ a ns,Cal P w K mg base 4 "_law_done" ["_law_known", "_law_deed", "_law_joined"] (spM (bY K a ns) 3 fP))(C_law_less:∀ a ns,Cal P w K mg base 1 "_law_less" ["_law_a", "_law_b"] (spM (bY K a ns) 2 cD)) :
  ∀ a ns,Cal P w K mg base 5 "_law_then" ["_law_log_here", "_law_time"] (spM (bY K a ns) 2 fQ):=by
 obtain⟨f,fd,F,hm⟩:=d;exact fun a ns=>⟨f,fd,a5T F B Kt (C_law_done a ns) (C_law_less a ns),hm,F.kp,F.binds fun _ _ _ _ _ _ us hl=>by
  obtain⟨_,_,rfl⟩:=ln2 hl;rfl⟩
theorem a4G  (B:Bl K mg)(Kt:Kit K)(d:DfP K mg "_law_order" jM)(C_law_ahead:∀ a ns,Cal P w K mg base 4 "_law_ahead" ["_law_lines", "_law_one", "_law_other", "_law_time"] (spM (bY K a ns) 4 gW))(C_law_then:∀ a ns,Cal P w K mg base 5 "_law_then" ["_law_log_here", "_law_time"] (spM (bY K a ns) 2 fQ)) :
  ∀ a ns,Cal P w K mg base 6 "_law_order" ["_law_log_here", "_law_time"] (spM (bY K a ns) 2 gQ):=by
 obtain⟨f,fd,F,hm⟩:=d;exact fun a ns=>⟨f,fd,a3T F B Kt (C_law_ahead a ns) (C_law_then a ns),hm,F.kp,F.binds fun _ _ _ _ _ _ us hl=>by
  obtain⟨_,_,rfl⟩:=ln2 hl;rfl⟩
theorem zG  (B:Bl K mg)(Kt:Kit K)(d:DfP K mg "_law_changes" gA)(C_law_less:∀ a ns,Cal P w K mg base 1 "_law_less" ["_law_a", "_law_b"] (spM (bY K a ns) 2 cD))(C_law_change:∀ a ns,Cal P w K mg base 3 "_law_change" ["_law_lines", "_law_one", "_law_other", "_law_time"] (spM (bY K a ns) 4 dH))(C_law_then:∀ a ns,Cal P w K mg base 5 "_law_then" ["_law_log_here", "_law_time"] (spM (bY K a ns) 2 fQ)) :
  ∀ a ns,Cal P w K mg base 6 "_law_changes" ["_law_log_here", "_law_time", "_law_behind"] (spM (bY K a ns) 3 fB):=by
 obtain⟨f,fd,F,hm⟩:=d;exact fun a ns=>⟨f,fd,zV F B Kt (C_law_less a ns) (C_law_change a ns) (C_law_then a ns),hm,F.kp,F.binds fun _ _ _ _ _ _ us hl=>by
  obtain⟨_,_,_,rfl⟩:=ln3 hl;rfl⟩
theorem vQ  (B:Bl K mg)(Kt:Kit K)(d:DfP K mg "_law_all_times" fX)(C_law_changes:∀ a ns,Cal P w K mg base 6 "_law_changes" ["_law_log_here", "_law_time", "_law_behind"] (spM (bY K a ns) 3 fB)) :
  ∀ a ns,Cal P w K mg base 7 "_law_all_times" ["_law_log_here"] (spM (bY K a ns) 1 dD):=by
 obtain⟨f,fd,F,hm⟩:=d;exact fun a ns=>⟨f,fd,vJ F B Kt (C_law_changes a ns),hm,F.kp,F.binds fun _ _ _ _ _ _ us hl=>by
  obtain⟨_,rfl⟩:=ln1 hl;rfl⟩
theorem a9Y  (B:Bl K mg)(Kt:Kit K)(d:DfP K mg "_law_due" tU)(C_law_all_times:∀ a ns,Cal P w K mg base 7 "_law_all_times" ["_law_log_here"] (spM (bY K a ns) 1 dD))(C_law_order:∀ a ns,Cal P w K mg base 6 "_law_order" ["_law_log_here", "_law_time"] (spM (bY K a ns) 2 gQ)) :
  ∀ a ns,Cal P w K mg base 8 "_law_due" ["_law_log_here"] (spM (bY K a ns) 1 pH):=by
 obtain⟨f,fd,F,hm⟩:=d;exact fun a ns=>⟨f,fd,a9Q F B Kt (C_law_all_times a ns) (C_law_order a ns),hm,F.kp,F.binds fun _ _ _ _ _ _ us hl=>by
  obtain⟨_,rfl⟩:=ln1 hl;rfl⟩
theorem a3N  (B:Bl K mg)(Kt:Kit K)(d:DfP K mg "_law_kinds" mG) :
  ∀ a ns,Cal P w K mg base 1 "_law_kinds" ["_law_found"] (spM (bY K a ns) 1 jB):=by
 obtain⟨f,fd,F,hm⟩:=d;exact fun a ns=>⟨f,fd,a5M F B Kt,hm,F.kp,F.binds fun _ _ _ _ _ _ us hl=>by
  obtain⟨_,rfl⟩:=ln1 hl;rfl⟩
end
theorem aKP {l:PySem.W.OpenLaw}{w:World}{K:Fg}{mg:Mg}{fa:Addr}(hfa:mg "law" = some (.ref fa))(B:Bl K mg)(Kt:Kit K)
  (d0:DfP K mg "_law_take" m7)
  (d1:DfP K mg "is_whole" pY)
  (d2:DfP K mg "greatest_divisor" eN)
  (d3:DfP K mg "number_of" mO)
  (d4:DfP K mg "sum_of" wF)
  (d5:DfP K mg "difference_of" fW)
  (d6:DfP K mg "product_of" kJ)
  (d7:DfP K mg "quotient_of" j0)
  (d8:DfP K mg "is_less" sV)
  (d9:DfP K mg "place_at" pP)
  (d10:DfP K mg "line_through" iD)
  (d11:DfP K mg "meeting" tL)
  (d12:DfP K mg "standing" pN)
  (d13:DfP K mg "stands_ahead" iH)
  (d14:DfP K mg "is_ahead" pO)
  (d15:DfP K mg "leads_at_first" fL)
  (d16:DfP K mg "first_leader" iC)
  (d17:DfP K mg "comes_sooner" iG)
  (d18:DfP K mg "next_leader" j4)
  (d19:DfP K mg "leaders" t8)
  (d20:DfP K mg "leader_by" mR)
  (d21:DfP K mg "leads" a77)
  (d22:DfP K mg "leaders_in" pI)
  (d23:DfP K mg "_law_lowest" jW)
  (d24:DfP K mg "_law_plus" pQ)
  (d25:DfP K mg "_law_times" mJ)
  (d26:DfP K mg "_law_less" pL)
  (d27:DfP K mg "_law_spot" pZ)
  (d28:DfP K mg "_law_through" j7)
  (d29:DfP K mg "_law_ahead" mX)
  (d30:DfP K mg "_law_change" jY)
  (d31:DfP K mg "_law_number" jU)
  (d32:DfP K mg "_law_is_small" iI)
  (d33:DfP K mg "_law_later" mD)
  (d34:DfP K mg "_law_place" nD)
  (d35:DfP K mg "_law_done" uL)
  (d36:DfP K mg "_law_log" tE)
  (d37:DfP K mg "_law_then" pM)
  (d38:DfP K mg "_law_order" jM)
  (d39:DfP K mg "_law_changes" gA)
  (d40:DfP K mg "_law_all_times" fX)
  (d41:DfP K mg "_law_due" tU)
  (d42:DfP K mg "_law_kinds" mG)
  (d43:DfP K mg "law" aHV)
  {c:Addr} (hmF:mg "Field" = some (.ref c)) (cl:Cls K c) (n_running:NoAttr K c "running") (n_joined:NoAttr K c "joined") (n_last:NoAttr K c "last") (mI:InP K c "Field.__init__" a1O) (me_runners:MeP K c "runners" "Field.runners" rG) (me_add_runner:MeP K c "add_runner" "Field.add_runner" lE) (me_do:MeP K c "do" "Field.do" aBF) (me_lines_running:MeP K c "lines_running" "Field.lines_running" rZ) (hn_dict:mg "dict" = none)
  (hL:∀ c,(z6 c) (.no::.pen::List.replicate 6 .no) p8) :
  ∃ fd:FuncData,(∀(s:Shared) (v:Value),BindsTo s fd ⟨[v],[]⟩ [("_law_script", v)])∧∀ base:Heap,K.In base→base.Ns mainGlobals mg→FnOk l.prog w K mg base CX0 12 fa fd ["_law_script"] (aE8 K):=by
 obtain⟨f,fd,F,hm⟩:=d43
 cases hfa.symm.trans hm
 refine⟨fd,?_,fun base _ _=>?_⟩
 ·obtain⟨oc,od,kV,doc,pm,an,cdv,ct,osl,rfl,lk,hcd⟩:=F.ex;exact fun s v=>.of_eq rfl
 obtain⟨fi,fdi,FI,M⟩:=mI;obtain⟨f_runners,fd_runners,F_runners,M_runners⟩:=me_runners;obtain⟨f_add_runner,fd_add_runner,F_add_runner,M_add_runner⟩:=me_add_runner;obtain⟨f_do,fd_do,F_do,M_do⟩:=me_do;obtain⟨f_lines_running,fd_lines_running,F_lines_running,M_lines_running⟩:=me_lines_running;have C_law_take:=a73 (P:=l.prog) (w:=w) (base:=base) B Kt d0;have C_is_whole:=a6A (P:=l.prog) (w:=w) (base:=base) B Kt d1;have C_greatest_divisor:=rK (P:=l.prog) (w:=w) (base:=base) B Kt d2;have C_number_of:=a5N (P:=l.prog) (w:=w) (base:=base) B Kt d3 C_greatest_divisor C_is_whole;have C_sum_of:=aDS (P:=l.prog) (w:=w) (base:=base) B Kt d4 C_number_of;have C_difference_of:=vK (P:=l.prog) (w:=w) (base:=base) B Kt d5 C_number_of;have C_product_of:=a2S (P:=l.prog) (w:=w) (base:=base) B Kt d6 C_number_of;have C_quotient_of:=zZ (P:=l.prog) (w:=w) (base:=base) B Kt d7 C_number_of;have C_is_less:=a92 (P:=l.prog) (w:=w) (base:=base) B Kt d8;have C_place_at:=a7A (P:=l.prog) (w:=w) (base:=base) B Kt d9 C_sum_of C_product_of;have C_line_through:=wM (P:=l.prog) (w:=w) (base:=base) B Kt d10 C_difference_of C_product_of;have C_meeting:=a9Z (P:=l.prog) (w:=w) (base:=base) B Kt d11 C_quotient_of C_difference_of;have C_standing:=a7D (P:=l.prog) (w:=w) (base:=base) B Kt d12 C_place_at;have C_stands_ahead:=xT (P:=l.prog) (w:=w) (base:=base) B Kt d13 C_is_less;have C_is_ahead:=a6V (P:=l.prog) (w:=w) (base:=base) B Kt d14 C_stands_ahead C_standing;have C_leads_at_first:=uN (P:=l.prog) (w:=w) (base:=base) B Kt d15 C_is_less;have C_first_leader:=yV (P:=l.prog) (w:=w) (base:=base) B Kt d16 C_leads_at_first;have C_comes_sooner:=z7 (P:=l.prog) (w:=w) (base:=base) B Kt d17 C_is_ahead C_is_less;have C_next_leader:=zN (P:=l.prog) (w:=w) (base:=base) B Kt d18 C_is_less C_comes_sooner C_meeting;have C_leaders:=a9I (P:=l.prog) (w:=w) (base:=base) B Kt d19 C_next_leader C_first_leader;have C_leader_by:=a3G (P:=l.prog) (w:=w) (base:=base) B Kt d20 C_is_less;have O_runners:=a1Y (P:=l.prog) (w:=w) (mg:=mg) (base:=base) cl n_running n_joined n_last F_runners B;have B_runners:Binds K fd_runners ["self"] []:=(F_runners.binds (ps:=["self"]) fun _ _ _ _ _ _ us hl=>by
  obtain⟨_,rfl⟩:=ln1 hl;rfl)
 have O_add_runner:=fun(a:Addr) (ns:List Int)=>yF (P0:=(bY K a ns)) (P:=l.prog) (w:=w) (mg:=mg) (base:=base) cl n_running n_joined n_last F_add_runner B Kt;have B_add_runner:Binds K fd_add_runner ["self", "line"] []:=(F_add_runner.binds (ps:=["self", "line"]) fun _ _ _ _ _ _ us hl=>by
  obtain⟨_,_,rfl⟩:=ln2 hl;rfl)
 have O_do:=fun(a:Addr) (ns:List Int)=>aHI (P0:=(bY K a ns)) (P:=l.prog) (w:=w) (mg:=mg) (base:=base) cl n_running n_joined n_last M_add_runner (O_add_runner a ns) B_add_runner F_do B Kt (C_line_through a ns) (C_place_at a ns);have B_do:Binds K fd_do ["self", "deed"] []:=(F_do.binds (ps:=["self", "deed"]) fun _ _ _ _ _ _ us hl=>by
  obtain⟨_,_,rfl⟩:=ln2 hl;rfl)
 have O_lines_running:=fun(a:Addr) (ns:List Int)=>a9U (P0:=(bY K a ns)) (P:=l.prog) (w:=w) (mg:=mg) (base:=base) cl n_running n_joined n_last M_runners O_runners B_runners F_lines_running B Kt;have B_lines_running:Binds K fd_lines_running ["self"] []:=(F_lines_running.binds (ps:=["self"]) fun _ _ _ _ _ _ us hl=>by
  obtain⟨_,rfl⟩:=ln1 hl;rfl)
 obtain⟨f2_leads,fd2_leads,F2_leads,hm2_leads⟩:=d21;have C_leads:∀ a ns,Cal l.prog w K mg base 10 "leads" ["field", "since", "till"] (spM (bY K a ns) 3 (tY c)):=fun a ns=>⟨f2_leads,fd2_leads,aE5 (c:=c) cl n_running n_joined n_last M_runners O_runners B_runners M_lines_running (O_lines_running a ns) B_lines_running F2_leads B Kt (C_is_less a ns) (C_leader_by a ns) (C_leaders a ns),hm2_leads,F2_leads.kp,(F2_leads.binds (ps:=["field", "since", "till"]) fun _ _ _ _ _ _ us hl=>by
  obtain⟨_,_,_,rfl⟩:=ln3 hl;rfl)⟩
 obtain⟨f2_leaders_in,fd2_leaders_in,F2_leaders_in,hm2_leaders_in⟩:=d22;have C_leaders_in:∀ a ns,Cal l.prog w K mg base 11 "leaders_in" ["log"] (spM (bY K a ns) 1 (eY c)):=fun a ns=>⟨f2_leaders_in,fd2_leaders_in,a2H (c:=c) cl n_running n_joined n_last hmF M (a98 (P:=l.prog) (w:=w) (mg:=mg) (base:=base) cl n_running n_joined n_last FI B) (FI.binds (ps:=["self"]) fun _ _ _ _ _ _ us hl=>by
  obtain⟨_,rfl⟩:=ln1 hl;rfl) M_do (O_do a ns) B_do F2_leaders_in B Kt (C_leads a ns),hm2_leaders_in,F2_leaders_in.kp,(F2_leaders_in.binds (ps:=["log"]) fun _ _ _ _ _ _ us hl=>by
  obtain⟨_,rfl⟩:=ln1 hl;rfl)⟩
 have C_law_lowest:=a1W (P:=l.prog) (w:=w) (base:=base) B Kt d23;have C_law_plus:=a67 (P:=l.prog) (w:=w) (base:=base) B Kt d24 C_law_lowest;have C_law_times:=a5J (P:=l.prog) (w:=w) (base:=base) B Kt d25 C_law_lowest;have C_law_less:=a6F (P:=l.prog) (w:=w) (base:=base) B Kt d26;have C_law_spot:=a6L (P:=l.prog) (w:=w) (base:=base) B Kt d27 C_law_plus C_law_times;have C_law_through:=a04 (P:=l.prog) (w:=w) (base:=base) B Kt d28 C_law_plus C_law_times;have C_law_ahead:=a4V (P:=l.prog) (w:=w) (base:=base) B Kt d29 C_law_less C_law_spot;have C_law_change:=a2T (P:=l.prog) (w:=w) (base:=base) B Kt d30 C_law_less C_law_lowest C_law_plus;have C_law_number:=a2G (P:=l.prog) (w:=w) (base:=base) B Kt d31 C_law_lowest C_law_take;have C_law_is_small:=xG (P:=l.prog) (w:=w) (base:=base) B Kt d32;have C_law_later:=a4S (P:=l.prog) (w:=w) (base:=base) B Kt d33 C_law_is_small C_law_plus C_law_take C_law_change;have C_law_place:=a3R (P:=l.prog) (w:=w) (base:=base) B Kt d34 C_law_number C_law_take C_law_is_small C_law_spot;obtain⟨f2_law_done,fd2_law_done,F2_law_done,hm2_law_done⟩:=d35;have C_law_done:∀ a ns,Cal l.prog w K mg base 4 "_law_done" ["_law_known", "_law_deed", "_law_joined"] (spM (bY K a ns) 3 fP):=fun a ns=>⟨f2_law_done,fd2_law_done,a6G hn_dict F2_law_done B Kt (C_law_through a ns) (C_law_spot a ns),hm2_law_done,F2_law_done.kp,(F2_law_done.binds (ps:=["_law_known", "_law_deed", "_law_joined"]) fun _ _ _ _ _ _ us hl=>by
  obtain⟨_,_,_,rfl⟩:=ln3 hl;rfl)⟩
 have C_law_log:=a9P (P:=l.prog) (w:=w) (base:=base) B Kt d36 C_law_take C_law_done C_law_number C_law_place C_law_later;have C_law_then:=a7B (P:=l.prog) (w:=w) (base:=base) B Kt d37 C_law_done C_law_less;have C_law_order:=a4G (P:=l.prog) (w:=w) (base:=base) B Kt d38 C_law_ahead C_law_then
 have C_law_changes:=zG (P:=l.prog) (w:=w) (base:=base) B Kt d39 C_law_less C_law_change C_law_then
 have C_law_all_times:=vQ (P:=l.prog) (w:=w) (base:=base) B Kt d40 C_law_changes;have C_law_due:=a9Y (P:=l.prog) (w:=w) (base:=base) B Kt d41 C_law_all_times C_law_order;have C_law_kinds:=a3N (P:=l.prog) (w:=w) (base:=base) B Kt d42;exact aL3 F B Kt  C_leaders_in C_law_kinds C_law_due C_law_log C_law_take (hL _)
theorem walk {l:PySem.W.OpenLaw}{q:Program}{loose:List Str}{XP:Mg→Heap→Prop}{YP:World→Heap→Prop}{d:DefRec}{K:Params→Fg}(hn:l.most=some 63)(hdf:d.params.defaults=[])
  (hY:∀(w:World) (h:Heap),YP w h→(K w.params).In h)
  (F:∀(w:World) (mg:Mg) (fa:Addr) (h:Heap),(K w.params).In h→h.Ns mainGlobals mg→mg d.name=some (.ref fa) →
   ∃ fd:FuncData,(∀(s:Shared) (u:Value),BindsTo s fd ⟨[u],[]⟩ [("_law_script", u)])∧∀ base:Heap,(K w.params).In base→base.Ns mainGlobals mg→FnOk l.prog w (K w.params) mg base CX0 12 fa fd ["_law_script"] (aE8 (K w.params))) :
  PySem.W.WalkO q loose XP YP l.row.toRowW d [] (fun f vs=>PySem.call f vs):=
 L2.aHK (n:=63) (k:=12) (x := "_law_script") (CX:=fun _=>CX0) (sp:=fun w=>aE8 (K w.params)) hn (by decide) hdf ⟨rfl,by decide,by decide⟩ hY F (fun _ _ a ns hl _ hS=>⟨a,ns,rfl,hS,hl,fun _=>rfl⟩) fun _ _ _ _ _ z=>z
end My
def PySem.W.Fast.tw11745088901415835174:Unit:=()
def PySem.W.Fast.tw14182513867212735917:Unit:=()
def PySem.W.Fast.tw16674678914438425810:Unit:=()
def PySem.W.Fast.tw16901966806725617356:Unit:=()
def PySem.W.Fast.tw17305708120867212897:Unit:=()
def PySem.W.Fast.tw17434331832182938769:Unit:=()
def PySem.W.Fast.tw5228308060967548129:Unit:=()
def PySem.W.Fast.tw8676634398766000021:Unit:=()
def PySem.W.Fast.tw3025715585084787032:Unit:=()
def PySem.W.Fast.tw5582380714768581716:Unit:=()
def PySem.W.Fast.tw7141671249467642456:Unit:=()
def PySem.W.Fast.tw5408711144654681485:Unit:=()
def PySem.W.Fast.tw9632499795877184065:Unit:=()
def PySem.W.Fast.tw16914484126871812469:Unit:=()
def PySem.W.Fast.tw1104912743931215399:Unit:=()
def PySem.W.Fast.tw241102117617800288:Unit:=()
def PySem.W.Fast.tw17159613059901782462:Unit:=()
def PySem.W.Fast.tw11143242443054773532:Unit:=()
open PySem PySem.W PyProof.Rows
set_option maxRecDepth 100000 in
set_option maxHeartbeats 0 in
theorem PySem.Challenge.cw_leadtimes_k36_leaders_of_races_holds : PySem.Challenge.rw_leadtimes_k36_leaders_of_races.Holds := by
 w_on; o_law; k_head; (case hw => w_witness2)
 k_fill
 refine My.walk (l := PySem.Challenge.rw_leadtimes_k36_leaders_of_races) rfl rfl (fun w h Y => PySem.W.kIn_of Y) ?F
 case F =>
  intro w mg fa h KX G hmg
  refine' My.aKP hmg (My.aMY KX G ?x0 ?x1 ?x2 ?x3 ?x4 ?x5 ?x6 ?x7 ?x8 ?x9 ?xa ?xb ?xc ?xd ?xe ?xf ?xg ?xh ?xi ?xj) (My.aKM ?xk ?xl ?xm ?xn ?xo ?xp ?xq ?xj ?xr ?xs ?xt ?xu ?xv ?xi ?xw ?xx ?xy ?xz ?x10 ?x11 ?x12 ?x13 ?x14 ?x15 ?x16 ?x17 ?x18 ?x19 ?x1a ?x1b ?x1c ?x1d ?x1e ?x1f ?x1g ?x1h ?x1i ?x1j ?x1k ?x1l ?x1m ?x1n) (My.cX KX G ?x1o ?x1p ?x1q ?x1r) (My.cX KX G ?x1s ?x1t ?x1u ?x1v) (My.cX KX G ?x1w ?x1x ?x1y ?x1z) (My.cX KX G ?x20 ?x21 ?x22 ?x23) (My.cX KX G ?x24 ?x25 ?x26 ?x27) (My.cX KX G ?x28 ?x29 ?x2a ?x2b) (My.cX KX G ?x2c ?x2d ?x2e ?x2f) (My.cX KX G ?x2g ?x2h ?x2i ?x2j) (My.cX KX G ?x2k ?x2l ?x2m ?x2n) (My.cX KX G ?x2o ?x2p ?x2q ?x2r) (My.cX KX G ?x2s ?x2t ?x2u ?x2v) (My.cX KX G ?x2w ?x2x ?x2y ?x2z) (My.cX KX G ?x30 ?x31 ?x32 ?x33) (My.cX KX G ?x34 ?x35 ?x36 ?x37) (My.cX KX G ?x38 ?x39 ?x3a ?x3b) (My.cX KX G ?x3c ?x3d ?x3e ?x3f) (My.cX KX G ?x3g ?x3h ?x3i ?x3j) (My.cX KX G ?x3k ?x3l ?x3m ?x3n) (My.cX KX G ?x3o ?x3p ?x3q ?x3r) (My.cX KX G ?x3s ?x3t ?x3u ?x3v) (My.cX KX G ?x3w ?x3x ?x3y ?x3z) (My.cX KX G ?x40 ?x41 ?x42 ?x43) (My.cX KX G ?x44 ?x45 ?x46 ?x47) (My.cX KX G ?x48 ?x49 ?x4a ?x4b) (My.cX KX G ?x4c ?x4d ?x4e ?x4f) (My.cX KX G ?x4g ?x4h ?x4i ?x4j) (My.cX KX G ?x4k ?x4l ?x4m ?x4n) (My.cX KX G ?x4o ?x4p ?x4q ?x4r) (My.cX KX G ?x4s ?x4t ?x4u ?x4v) (My.cX KX G ?x4w ?x4x ?x4y ?x4z) (My.cX KX G ?x50 ?x51 ?x52 ?x53) (My.cX KX G ?x54 ?x55 ?x56 ?x57) (My.cX KX G ?x58 ?x59 ?x5a ?x5b) (My.cX KX G ?x5c ?x5d ?x5e ?x5f) (My.cX KX G ?x5g ?x5h ?x5i ?x5j) (My.cX KX G ?x5k ?x5l ?x5m ?x5n) (My.cX KX G ?x5o ?x5p ?x5q ?x5r) (My.cX KX G ?x5s ?x5t ?x5u ?x5v) (My.cX KX G ?x5w ?x5x ?x5y ?x5z) (My.cX KX G ?x60 ?x61 ?x62 ?x63) (My.cX KX G ?x64 ?x65 ?x66 ?x67) (My.cX KX G ?x68 ?x69 ?x6a ?x6b) (My.cX KX G ?x6c ?x6d ?x6e ?x6f) (My.cX KX G ?x6g ?x6h ?x6i ?x6j) (PySem.W.mg_of KX G ?x6k) ⟨?x6l, ?x6m, ?x6n, ?x6o⟩ (My.aH6 ?x6p) (My.aH6 ?x6q) (My.aH6 ?x6r) (My.aNL ?x6s ?x6t ?x6u ?x6v ?x6w ?x6x ?x6y) (My.aE1 ?x6z ?x70 ?x71 ?x72 ?x73) (My.aE1 ?x74 ?x75 ?x76 ?x77 ?x78) (My.aE1 ?x79 ?x7a ?x7b ?x7c ?x7d) (My.aE1 ?x7e ?x7f ?x7g ?x7h ?x7i) (PySem.W.mg_none_of KX G ?x7j) My.law_true
  (case x6k|x6l|x6m|x6n|x6o|x6p|x6q|x6r|x6s|x6t|x6u|x6v|x6w|x6x|x6y|x6z|x70|x71|x72|x73|x74|x75|x76|x77|x78|x79|x7a|x7b|x7c|x7d|x7e|x7f|x7g|x7h|x7i|x7j|x1o|x1p|x1q|x1r|x1s|x1t|x1u|x1v|x1w|x1x|x1y|x1z|x20|x21|x22|x23|x24|x25|x26|x27|x28|x29|x2a|x2b|x2c|x2d|x2e|x2f|x2g|x2h|x2i|x2j|x2k|x2l|x2m|x2n|x2o|x2p|x2q|x2r|x2s|x2t|x2u|x2v|x2w|x2x|x2y|x2z|x30|x31|x32|x33|x34|x35|x36|x37|x38|x39|x3a|x3b|x3c|x3d|x3e|x3f|x3g|x3h|x3i|x3j|x3k|x3l|x3m|x3n|x3o|x3p|x3q|x3r|x3s|x3t|x3u|x3v|x3w|x3x|x3y|x3z|x40|x41|x42|x43|x44|x45|x46|x47|x48|x49|x4a|x4b|x4c|x4d|x4e|x4f|x4g|x4h|x4i|x4j|x4k|x4l|x4m|x4n|x4o|x4p|x4q|x4r|x4s|x4t|x4u|x4v|x4w|x4x|x4y|x4z|x50|x51|x52|x53|x54|x55|x56|x57|x58|x59|x5a|x5b|x5c|x5d|x5e|x5f|x5g|x5h|x5i|x5j|x5k|x5l|x5m|x5n|x5o|x5p|x5q|x5r|x5s|x5t|x5u|x5v|x5w|x5x|x5y|x5z|x60|x61|x62|x63|x64|x65|x66|x67|x68|x69|x6a|x6b|x6c|x6d|x6e|x6f|x6g|x6h|x6i|x6j|x0|x1|x2|x3|x4|x5|x6|x7|x8|x9|xa|xb|xc|xd|xe|xf|xg|xh => k_is)
  (case xk|xl|xm|xn|xo|xp|xq|xj|xr|xs|xt|xu|xv|xi|xw|xx|xy|xz|x10|x11|x12|x13|x14|x15|x16|x17|x18|x19|x1a|x1b|x1c|x1d|x1e|x1f|x1g|x1h|x1i|x1j|x1k|x1l|x1m|x1n => kit_is)
#print axioms PySem.Challenge.cw_leadtimes_k36_leaders_of_races_holds
