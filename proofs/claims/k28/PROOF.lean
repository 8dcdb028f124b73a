import PyProof.Rows.All
import Wide.All
import OpenK.AllK
import Wide.FinOn
import Lean
import PyProof.EqAt
import PyProof.EqKinds
import PyProof.TupleCall
import PyProof.P3Eq
import PyProof.P3In
import PyProof.NeData
import PyProof.FitsBits
import PySem.Challenge.RW_leadtimes_k28_whole_each_exchanged_once
noncomputable section
set_option compiler.extract_closed false
set_option Elab.async false
set_option linter.all false
set_option maxRecDepth 100000
namespace L2
open PySem PySem.Spec PyProof.Rows
abbrev Key:=Sum Int Str
noncomputable def a73:Key→Value→Bool
 | .inl k,v=>Value.isInt k v
 | .inr x,v=>Value.isStrOf x v
noncomputable def aR5 (w:World):Key→Int
 | .inl k=>hashInt k
 | .inr x=>hashStr w x
theorem cU:∀{k:Key} {v:Value},a73 k v=true→(∃ i t,k=Sum.inl i∧v=Value.int i t)∨(∃ x t,k=Sum.inr x∧v=Value.str x t)
 | .inl i,v,h=>by
  obtain⟨t,e⟩:=Value.isInt_shape (k:=i) (v:=v) h;exact .inl ⟨i,t,rfl,e⟩
 | .inr x,v,h=>by
  obtain⟨t,e⟩:=Value.isStrOf_shape (x:=x) (v:=v) h;exact .inr ⟨x,t,rfl,e⟩
theorem aBH (i:Int)(t:Tok):a73 (.inl i) (.int i t)=true:=by simp[a73,Value.isInt]
theorem aCO (x:Str)(t:Tok):a73 (.inr x) (.str x t)=true:=by simp[a73,Value.isStrOf]
theorem aMJ (a b:Int):decide ((Sum.inl a:Key)=Sum.inl b)=(a==b):=by
 by_cases e:a=b
 ·subst e; simp
 ·have h:¬(Sum.inl a:Key)=Sum.inl b:=fun q=>e (Sum.inl.inj q);rw[decide_eq_false h];exact(beq_eq_false_iff_ne.mpr e).symm
theorem aMG (a b:Str):decide ((Sum.inr a:Key)=Sum.inr b)=decide (a=b):=by
 by_cases e:a=b
 ·subst e; simp
 ·have h:¬(Sum.inr a:Key)=Sum.inr b:=fun q=>e (Sum.inr.inj q);rw[decide_eq_false h,decide_eq_false e]
theorem aMN (a:Int)(b:Str):decide ((Sum.inl a:Key)=Sum.inr b)=false:=decide_eq_false (fun q=>nomatch q)
theorem aMY (a:Str)(b:Int):decide ((Sum.inr a:Key)=Sum.inl b)=false:=decide_eq_false (fun q=>nomatch q)
noncomputable def fY (prog:Program)(w:World):PySem.KeyKind prog w Key where
 is:=a73
 hash:=aR5 w
 inj:=fun v a b ha hb=>by
  rcases cU ha with⟨i,t,rfl,rfl⟩|⟨x,t,rfl,rfl⟩
  ·rcases cU hb with⟨j,u,rfl,e⟩|⟨y,u,rfl,e⟩
   ·injection e with e1 _; rw[e1]
   ·exact nomatch e
  ·rcases cU hb with⟨j,u,rfl,e⟩|⟨y,u,rfl,e⟩
   ·exact nomatch e
   ·injection e with e1 _; rw[e1]
 byValue:=fun k v h=>by
  rcases cU h with⟨i,t,rfl,rfl⟩|⟨x,t,rfl,rfl⟩<;>rfl
 pyHash:=fun hv h=>by
  rcases cU hv with⟨i,t,rfl,rfl⟩|⟨x,t,rfl,rfl⟩
  ·exact wpAny_pyHash_int h
  ·exact wpAny_pyHash_str h
 eqBool:=fun hu hv h=>by
  rcases cU hu with⟨i,t,rfl,rfl⟩|⟨x,t,rfl,rfl⟩
  ·rcases cU hv with⟨j,u,rfl,rfl⟩|⟨y,u,rfl,rfl⟩
   ·rw[aMJ] at h; exact wpAny_eqBool_int h
   ·rw[aMN] at h; exact SeqAt.EqAt.int_str i t y u _ _ _ _ h
  ·rcases cU hv with⟨j,u,rfl,rfl⟩|⟨y,u,rfl,rfl⟩
   ·rw[aMY] at h; exact SeqAt.EqAt.str_int x t j u _ _ _ _ h
   ·rw[aMG] at h; exact wpAny_eqBool_str h
 «strs»:=fun k x t v h=>by
  rcases cU h with⟨i,u,rfl,e⟩|⟨y,u,rfl,e⟩
  ·exact nomatch e
  ·injection e with e1 _;subst e1
   cases v<;>rfl
theorem aAL (prog:Program)(w:World)(k:Key)(v:Value):(fY prog w).is k v=a73 k v:=rfl
theorem a7U (prog:Program)(w:World)(i:Int)(t:Tok):(fY prog w).is (.inl i) (.int i t)=true:=aBH i t
theorem a82 (prog:Program)(w:World)(x:Str)(t:Tok):(fY prog w).is (.inr x) (.str x t)=true:=aCO x t
end L2
namespace L2
open PySem PySem.Spec PyProof.Rows
inductive V where
 | non|bl (b:Bool)|int (i:Int)|str (x:Str)|byt (b:Array UInt8)|flt (b:UInt64)|ref (a:Addr)|ty (n:String)
 deriving DecidableEq
noncomputable def RelV:V→Value→Prop
 | .non,u=>u=Value.none
 | .bl b,u=>u=Value.bool b
 | .int i,u=>∃ t,u=Value.int i t
 | .str x,u=>∃ t,u=Value.str x t
 | .byt b,u=>∃ t,u=Value.bytes b t
 | .flt b,u=>∃ t,u=Value.float b t
 | .ref a,u=>u=Value.ref a
 | .ty n,u=>u=Value.type n
abbrev Vals:List V→List Value→Prop:=Paired RelV
theorem Vals.length {xs:List V}{us:List Value}(r:Vals xs us):xs.length=us.length:=Paired.length r
theorem Vals.get:∀{xs:List V} {us:List Value} {i:Nat} {x:V},Vals xs us→xs[i]?=some x→∃ u,us[i]?=some u∧RelV x u
 | _,_,_,_,.nil,e=>by simp at e
 | _,_,0,_,.cons r _,e=>by simp at e; subst e; exact⟨_,rfl,r⟩
 | _,_,i+1,x,.cons _ t,e=>by
  obtain⟨u,h1,h2⟩:=Vals.get (i:=i) (x:=x) t (by simpa using e);exact⟨u,by simpa using h1,h2⟩
theorem Vals.set {x:V}{u:Value}(r:RelV x u):∀{xs:List V} {us:List Value} (i:Nat),Vals xs us→Vals (xs.set i x) (us.set i u)
 | _,_,_,.nil=>.nil
 | _,_,0,.cons _ t=>.cons r t
 | _,_,i+1,.cons q t=>.cons q (Vals.set r i t)
theorem Vals.append:∀{xs ys:List V} {us ws:List Value},Vals xs us→Vals ys ws→Vals (xs++ys) (us++ws):=by
 intro xs ys us ws h q
 induction h with
 | nil=>exact q
 | cons r t ih=>exact .cons r ih
theorem Vals.take:∀{xs:List V} {us:List Value} (n:Nat),Vals xs us→Vals (xs.take n) (us.take n)
 | _,_,0,_=>.nil
 | _,_,_+1,.nil=>.nil
 | _,_,n+1,.cons r t=>.cons r (Vals.take n t)
theorem Vals.drop:∀{xs:List V} {us:List Value} (n:Nat),Vals xs us→Vals (xs.drop n) (us.drop n)
 | _,_,0,r=>r
 | _,_,_+1,.nil=>.nil
 | _,_,n+1,.cons _ t=>Vals.drop n t
noncomputable def RelO:Option V→Option Value→Prop
 | some v,some u=>RelV v u
 | none,none=>True
 | _,_=>False
noncomputable def KV {κ:Type}:List (κ×V)→List (κ×Value)→Prop:=Paired fun(p:κ×V) (q:κ×Value)=>p.1=q.1∧RelV p.2 q.2
noncomputable def kV:Key→V
 | .inl i=>.int i
 | .inr x=>.str x
inductive HO where
 | lst (xs:List V)
 | tup (xs:List V)
 | dK (kvs:List (Key×V))|dT (kvs:List (List Key×V))
 | set (S:Int→Bool) (n:Nat)
 | ins (C dx:Addr) (fs:List (Str×V))
 | own (x:Addr)
 | xd (fs:List (Str×V))
 | met (f x:Addr)
 | rng (lo hi:Int)
 | frz (o:Obj) (u:HO)
 | tbl (ps:Array Value)
 | ext (φ:Heap→Prop)
abbrev Hp:=Addr→Option HO
noncomputable def upd (H:Hp)(a:Addr)(o:HO):Hp:=fun b=>if b=a then some o else H b
theorem bM {H:Hp}{a:Addr}{o:HO}:upd H a o a=some o:=by unfold upd; rw[if_pos rfl]
theorem b7 {H:Hp}{a b:Addr}{o:HO}(h:b≠a):upd H a o b=H b:=by unfold upd; rw[if_neg h]
theorem aAK {H:Hp}{a b:Addr}{o u:HO}(h:H a=some o)(h':H b=some u)(d:o≠u):a≠b:=by
 intro e; subst e; rw[h] at h'; exact d (Option.some.inj h')
theorem bG {H:Hp}{a b:Addr}{o:HO}(h:H a=some o)(h':H b=none):a≠b:=by
 intro e; subst e; rw[h] at h'; cases h'
section
variable (P:Program)(w:World)
noncomputable def ObjOk (H:Hp)(h:Heap)(a:Addr):HO→Prop
 | .lst xs=>xs.length≤sizeLine∧∃(its:List Value) (n:Nat),Vals xs its∧h.get? a=some { cls:=.type "list", data:=.seq its.toArray n }
 | .tup xs=>xs.length≤sizeLine∧∃ its:List Value,Vals xs its∧IsTup h a its.toArray
 | .dK kvs=>kvs.length≤sizeLine∧(a==sysModules)=false∧∃ vs,KV kvs vs∧h.DictOf (fY P w) a vs
 | .dT kvs=>kvs.length≤sizeLine∧(a==sysModules)=false∧∃ xs:List (List Key×Addr×Value),
   Paired (fun(p:List Key×V) (q:List Key×Addr×Value)=>p.1=q.1∧H q.2.1=some (.tup (p.1.map kV))∧RelV p.2 q.2.2) kvs xs ∧
   ∃ o es ep,h.get? a=some o∧o.ExactDict∧o.data=.dict es ep∧es.toList=xs.map (entryOfKey (tupleKind (fY P w)))∧(xs.map (·.1)).Nodup
 | .set S n=>h.SetOf (intKind P w) a S n
 | .ins C dx fs=>H dx=some (.own a)∧fs.length≤1000∧dx≠a∧h.get? a=some (PySem.W.instObj C dx) ∧
   ∃ mA,h.Ns1 dx mA∧(∀ f,RelO (fs.lookup f) (mA f))∧PySem.Within mA (fs.map (·.1))
 | .own _=>∃ o,h.get? a=some o
 | .xd fs=>∃ mA,h.Ns1 a mA∧∀ f,RelO (fs.lookup f) (mA f)
 | .rng lo hi=>∃ t u v,h.get? a=some { cls:=.type "range", data:=.fields #[.int lo t,.int hi u,.int 1 v] }
 | .frz o u=>h.get? a=some o∧ObjOk H h a u
 | .tbl ps=>h.get? a=some { cls:=.none,data:=.fields ps }
 | .met f x=>h.get? a=some (PySem.W.methodObj (.ref f) (.ref x))
 | .ext φ=>φ h∧(∃ o,h.get? a=some o)∧∀ h1 h2:Heap,φ h1→(∀ o,h1.get? a=some o→h2.get? a=some o)→φ h2
noncomputable def HOk (H:Hp)(h:Heap):Prop:=∀ a o,H a=some o→ObjOk P w H h a o
end
section
variable {P:Program}{w:World}{H H':Hp}{h h':Heap}{a:Addr}{o:HO}
theorem ObjOk.lt (x:ObjOk P w H h a o):a<h.objs.size:=by
 cases o with
 | lst xs=>obtain⟨_,_,_,_,e⟩:=x; exact Heap.lt_size e
 | tup xs=>obtain⟨_,_,_,p⟩:=x; exact p.lt
 | dK kvs=>obtain⟨_,_,_,_,o,_,_,e,_⟩:=x; exact Heap.lt_size e
 | dT kvs=>obtain⟨_,_,_,_,o,_,_,e,_⟩:=x; exact Heap.lt_size e
 | set S n=>obtain⟨o,_,_,_,e,_⟩:=x; exact Heap.lt_size e
 | ins C dx fs=>obtain⟨_,_,_,e,_⟩:=x; exact Heap.lt_size e
 | own y=>obtain⟨_,e⟩:=x; exact Heap.lt_size e
 | xd fs=>obtain⟨_,⟨_,_,_,e,_⟩,_⟩:=x; exact Heap.lt_size e
 | rng lo hi=>obtain⟨_,_,_,e⟩:=x; exact Heap.lt_size e
 | frz ob u=>obtain⟨e,_⟩:=x; exact Heap.lt_size e
 | tbl ps=>exact Heap.lt_size (show h.get? a=some _ from x)
 | met f y=>exact Heap.lt_size (show h.get? a=some _ from x)
 | ext φ=>obtain⟨_,⟨_,e⟩,_⟩:=x; exact Heap.lt_size e
theorem Paired.mapP {α β:Type}{F G:α→β→Prop}:∀{l₁:List α} {l₂:List β},Paired F l₁ l₂→(∀ a b,F a b→G a b)→Paired G l₁ l₂:=by
 intro l₁ l₂ h f
 induction h with
 | nil=>exact .nil
 | cons r t ih=>exact .cons (f _ _ r) ih
theorem Paired.imp' {α β:Type}{F G:α→β→Prop}(f:∀ a b,F a b→G a b){l₁:List α}{l₂:List β}(r:Paired F l₁ l₂):Paired G l₁ l₂:=Paired.mapP r f
theorem ObjOk.stay (x:ObjOk P w H h a o)(k:∀ b u,(b=a∨H b=some (.own a))→h.get? b=some u→h'.get? b=some u)
  (ho:∀ b,H b=some (.own a)→H' b=some (.own a)) (ht:∀ b xs,H b=some (.tup xs)→H' b=some (.tup xs)):ObjOk P w H' h' a o:=by
 induction o with
 | lst xs=>obtain⟨z,its,n,r,e⟩:=x; exact⟨z,its,n,r,k _ _ (.inl rfl) e⟩
 | tup xs=>obtain⟨z,its,r,ob,e,c⟩:=x; exact⟨z,its,r,ob,k _ _ (.inl rfl) e,c⟩
 | dK kvs=>obtain⟨z,y,vs,r,ob,es,ep,e,c⟩:=x; exact⟨z,y,vs,r,ob,es,ep,k _ _ (.inl rfl) e,c⟩
 | dT kvs=>
  obtain⟨z,y,xs,r,ob,es,ep,e,c⟩:=x;exact⟨z,y,xs,Paired.mapP r fun p q z=>⟨z.1,ht _ _ z.2.1,z.2.2⟩,ob,es,ep,k _ _ (.inl rfl) e,c⟩
 | set S n=>obtain⟨ob,es,ep,t,e,c⟩:=x; exact⟨ob,es,ep,t,k _ _ (.inl rfl) e,c⟩
 | ins C dx fs=>
  obtain⟨d,z,ne,e,mA,⟨od,es,ep,e2,c⟩,r⟩:=x;exact⟨ho _ d,z,ne,k _ _ (.inl rfl) e,mA,⟨od,es,ep,k _ _ (.inr d) e2,c⟩,r⟩
 | own y=>obtain⟨ob,e⟩:=x; exact⟨ob,k _ _ (.inl rfl) e⟩
 | xd fs=>obtain⟨mA,⟨od,es,ep,e,c⟩,r⟩:=x; exact⟨mA,⟨od,es,ep,k _ _ (.inl rfl) e,c⟩,r⟩
 | rng lo hi=>obtain⟨t,u,v,e⟩:=x; exact⟨t,u,v,k _ _ (.inl rfl) e⟩
 | frz ob u ih=>obtain⟨e,q⟩:=x; exact⟨k _ _ (.inl rfl) e,ih q⟩
 | tbl ps=>
  have e:h.get? a=some { cls:=.none,data:=.fields ps }:=x;show h'.get? a=some { cls:=.none,data:=.fields ps };exact k a _ (.inl rfl) e
 | met f y=>
  have e:h.get? a=some (PySem.W.methodObj (.ref f) (.ref y)):=x;show h'.get? a=some (PySem.W.methodObj (.ref f) (.ref y));exact k a _ (.inl rfl) e
 | ext φ=>obtain⟨p,⟨o,e⟩,st⟩:=x; exact⟨st _ _ p fun o q=>k _ _ (.inl rfl) q,⟨o,k _ _ (.inl rfl) e⟩,st⟩
theorem HOk.lt (x:HOk P w H h)(e:H a=some o):a<h.objs.size:=(x a o e).lt
theorem HOk.fresh (x:HOk P w H h)(e:h.objs.size≤a):H a=none:=by
 cases q:H a with
 | none=>rfl
 | some u=>exact absurd (Nat.lt_of_lt_of_le (x.lt q) e) (Nat.lt_irrefl _)
theorem HOk.kept (x:HOk P w H h)(k:∀ b u,h.get? b=some u→h'.get? b=some u):HOk P w H h':=fun a o e=>
 (x a o e).stay (fun b u _ q=>k b u q) (fun _ q=>q) fun _ _ q=>q
theorem HOk.laid (x:HOk P w H h)(k:∀ b u,h.get? b=some u→h'.get? b=some u)(hp:h.objs.size≤a)(new:ObjOk P w (upd H a o) h' a o):HOk P w (upd H a o) h':=fun b u e=>by
 have hn:=x.fresh hp
 by_cases hb:b=a
 ·subst hb; rw[bM] at e; cases e; exact new
 ·rw[b7 hb] at e;exact(x b u e).stay (fun c v _ q=>k c v q) (fun c q=>by rw[b7 (bG q hn)]; exact q) fun c xs q=>by rw[b7 (bG q hn)]; exact q
end
noncomputable def Rd (H:Hp)(a:Addr)(u:HO):Prop:=H a=some u∨∃ o,H a=some (.frz o u)
theorem Rd.ok {P:Program}{w:World}{H:Hp}{h:Heap}{a:Addr}{u:HO}(r:Rd H a u)(x:HOk P w H h):ObjOk P w H h a u:=by
 rcases r with r|⟨o,r⟩
 ·exact x a u r
 ·obtain⟨_,q⟩:=x a _ r;exact q
noncomputable def Mut:Option HO→Prop
 | some (.lst _)=>True
 | some (.dK _)=>True
 | some (.dT _)=>True
 | some (.set _ _)=>True
 | some (.ins _ _ _)=>True
 | some (.ext _)=>True
 | _=>False
section
variable {P:Program}{w:World}{H:Hp}{h h':Heap}{x e:Addr}{o':HO}
theorem HOk.write (ok:HOk P w H h)(mu:Mut (H x))(he:e=x∨H e=some (.own x))(k:∀ b u,b≠e→h.get? b=some u→h'.get? b=some u)(heo:∃ u,h'.get? e=some u)
  (new:ObjOk P w (upd H x o') h' x o'):HOk P w (upd H x o') h':=fun b u q=>by
 have nown:∀ c y,H c=some (.own y)→c≠x:=fun c y r z=>by subst z; rw[r] at mu; exact mu
 have ntup:∀ c xs,H c=some (.tup xs)→c≠x:=fun c xs r z=>by subst z; rw[r] at mu; exact mu
 by_cases hb:b=x
 ·subst hb; rw[bM] at q; cases q; exact new
 ·rw[b7 hb] at q
  by_cases hbe:b=e
  ·have q':H b=some (.own x):=by
    rcases he with z|z
    ·exact absurd (hbe.trans z) hb
    ·rw[hbe]; exact z
   rw[q] at q'; cases q';obtain⟨v,hv⟩:=heo;exact⟨v,by rw[hbe]; exact hv⟩
  ·refine(ok b u q).stay (fun c v hc r=>k c v ?_ r) (fun c r=>by rw[b7 (nown c b r)]; exact r) fun c xs r=>by rw[b7 (ntup c xs r)]; exact r
   rcases hc with rfl|hc
   ·exact hbe
   ·rintro rfl;rcases he with z|z
    ·exact nown c b hc z
    ·rw[hc] at z; cases z; exact hb rfl
end
structure Un (fs ex:List Addr)(H H':Hp)(h h':Heap):Prop where
 keep:∀ b o,h.get? b=some o→H b=none→b∉fs→b∉ex→h'.get? b=some o
 slot:∀ b o,h.get? b=some o→H b=none→b∈fs→b∉ex→∃ sl,h'.get? b=some { o with slots:=sl }
 free:∀ b o,h.get? b=some o→H b=none→b∉ex→H' b=none
 there:∀ b o,h.get? b=some o→b∉ex→∃ o',h'.get? b=some o'
 tups:∀ b xs,H b=some (.tup xs)→H' b=some (.tup xs)
 frzs:∀ b o u,H b=some (.frz o u)→H' b=some (.frz o u)
 tbls:∀ b ps,H b=some (.tbl ps)→∃ more,H' b=some (.tbl (ps++more))
section
variable {fs fs' ex ex':List Addr}{H H1 H2:Hp}{h h1 h2 h':Heap}{a x e:Addr}{o:HO}
theorem Un.any (u:Un fs ex H H1 h h1){b:Addr}{ob:Obj}(q:h.get? b=some ob)(n:H b=none)(hx:b∉ex):∃ sl,h1.get? b=some { ob with slots:=sl }:=by
 by_cases hb:b∈fs
 ·exact u.slot b ob q n hb hx
 ·exact⟨ob.slots,u.keep b ob q n hb hx⟩
theorem Un.kept (k:∀ b u,h.get? b=some u→h'.get? b=some u):Un fs ex H H h h':=
 ⟨fun b ob q _ _ _=>k b ob q,fun b ob q _ _ _=>⟨ob.slots,k b ob q⟩,fun _ _ _ n _=>n,fun b ob q _=>⟨ob,k b ob q⟩,fun _ _ q=>q,fun _ _ _ q=>q,fun _ ps q=>⟨#[],by rw[q]; simp⟩⟩
theorem Un.refl:Un fs ex H H h h:=Un.kept fun _ _ q=>q
theorem Un.laid (k:∀ b u,h.get? b=some u→h'.get? b=some u)(hp:h.objs.size≤a)(hn:H a=none):Un fs ex H (upd H a o) h h' where
 keep:=fun b u q _ _ _=>k b u q
 slot:=fun b u q _ _ _=>⟨u.slots,k b u q⟩
 free:=fun b u q n _=>by rw[b7 (Nat.ne_of_lt (Nat.lt_of_lt_of_le (Heap.lt_size q) hp))]; exact n
 there:=fun b u q _=>⟨u,k b u q⟩
 tups:=fun b xs q=>by rw[b7 (bG q hn)]; exact q
 frzs:=fun b u xs q=>by rw[b7 (bG q hn)]; exact q
 tbls:=fun b ps q=>⟨#[],by rw[b7 (bG q hn),q]; simp⟩
theorem Un.write (mu:Mut (H x))(he:e=x∨H e=some (.own x))(k:∀ b u,b≠e→h.get? b=some u→h'.get? b=some u)(heo:∃ u,h'.get? e=some u):Un fs ex H (upd H x o) h h':=by
 have hx:∀ b,H b=none→b≠x:=fun b n z=>by subst z; rw[n] at mu; exact mu
 have hb:∀ b,H b=none→b≠e:=fun b n z=>by
  subst z;rcases he with r|r
  ·exact hx b n r
  ·rw[n] at r; cases r
 have hm:∀ b u,H b=some u→¬Mut (some u)→b≠x:=fun b u q nm z=>by subst z; rw[q] at mu; exact nm mu
 refine⟨fun b u q n _ _=>k b u (hb b n) q,fun b u q n _ _=>⟨u.slots,k b u (hb b n) q⟩,fun b u q n _=>by rw[b7 (hx b n)]; exact n,fun b u q _=>?_,
  fun b xs q=>by rw[b7 (hm b _ q fun z=>z)]; exact q,fun b u xs q=>by rw[b7 (hm b _ q fun z=>z)]; exact q,fun b ps q=>⟨#[],by rw[b7 (hm b _ q fun z=>z),q]; simp⟩⟩
 by_cases hbe:b=e
 ·subst hbe; exact heo
 ·exact⟨u,k b u hbe q⟩
end
noncomputable def trk (h:Heap)(H:Hp):List Addr:=(List.range h.objs.size).filter fun a=>(H a).isSome
noncomputable def aFQ (h:Heap)(H:Hp):Heap:=PySem.W.hideAll h (trk h H)
theorem aDG (h:Heap)(H:Hp):(aFQ h H).objs.size=h.objs.size:=PySem.W.hideAll_size _ _
theorem aFV {h:Heap}{H:Hp}{b:Addr}{o:Obj}(e:h.get? b=some o)(n:H b=none):(aFQ h H).get? b=some o:=
 PySem.W.hideAll_get _ e fun hm=>by
  have q:(H b).isSome=true:=(List.mem_filter.mp hm).2;rw[n] at q; simp at q
theorem aK2 {h:Heap}{H:Hp}{b:Addr}{o:Obj}(e:(aFQ h H).get? b=some o):h.get? b=some o∧H b=none:=by
 have e':h.get? b=some o:=PySem.W.of_hideAll (trk h H) e;refine⟨e',?_⟩
 cases q:H b with
 | none=>rfl
 | some x=>
  have hm:b∈trk h H:=List.mem_filter.mpr ⟨List.mem_range.mpr (Heap.lt_size e'),by simp[q]⟩;have z:(aFQ h H).get? b=none:=PySem.W.hideAll_none (trk h H) hm;rw[z] at e; cases e
end L2
namespace L2
open PySem PySem.Spec PyProof.Rows
structure Mod (K:PySem.W.Frag)(mg:Str→Option Value)(base:Heap):Prop where
 kin:K.In base
 glob:base.Ns mainGlobals mg
 blt:∃ mb,base.Ns builtinsNs mb∧∀ x:Str,x ≠ "__name__" → mb x=bootBuiltins x
 nolimit:base.NoLimit
structure Cx where
 prog:Program
 w:World
 K:PySem.W.Frag
 mg:Str→Option Value
 base:Heap
 A:Around
 N:List Str
 s₀:Shared
 H₀:Hp
 env:Env
 outer:List Env
 stack:List Env
 ex:List Addr
 fn:Str→Bool
 calm:Bool
 pn:List (Addr×Obj)
 xe:Value→Shared→Prop
noncomputable def frs (l:List Env):List Addr:=l.filterMap (·.frame)
abbrev Cx.fs (X:Cx):List Addr:=frs X.outer
noncomputable def Vis (sc:Scope)(x:Str):Prop:=sc.names.lookup x=some .local∨sc.names.lookup x=some .cell∨sc.names.lookup x=some .free
noncomputable def Loc (sc:Scope)(x:Str):Prop:=sc.names.lookup x=some .local∨sc.names.lookup x=some .cell
noncomputable def Look (env:Env)(h:Heap)(m:Str→Option Value)(x:Str)(u:Value):Prop:=
 (env.kindOf x=some .local∧m x=some u)∨((env.kindOf x=some .cell∨env.kindOf x=some .free)∧∃ c,env.cells.lookup x=some c∧h.IsCell c (some u))
structure Cx.Ok (X:Cx):Prop where
 mod:Mod X.K X.mg X.base
 kind:X.env.scope.kind=.function
 glob:X.env.globals=mainGlobals
 blt:X.env.builtins=builtinsNs
 above:X.s₀.heap.objs.size≤X.env.locals
 inj:∀ x y c,X.env.cells.lookup x=some c→X.env.cells.lookup y=some c→x=y
 has:∀ x,(X.env.kindOf x=some .cell∨X.env.kindOf x=some .free)→∃ c,X.env.cells.lookup x=some c
 cab:∀ x c,X.fn x=true→X.env.cells.lookup x=some c→X.s₀.heap.objs.size≤c
 hd:X.calm=true→X.A.handled=none
 frames:X.A.frames=some X.stack
 stk:X.stack=X.outer∨(X.stack=X.env::X.outer∧X.env.frame=some X.env.locals)
 exf:∀ b∈X.ex,b≠X.env.locals∧∀ x c,X.env.cells.lookup x=some c→c≠b
 bs:∀ b o,X.base.get? b=some o→X.s₀.heap.get? b=some o∧X.H₀ b=none
 bsz:X.base.objs.size≤X.s₀.heap.objs.size
 noex:∀ b o,X.base.get? b=some o→b∉X.ex
 exfs:∀ b∈X.ex,b∉X.fs
 funs:X.s₀.heap.FunFrames X.base X.outer
 frf:∀ b∈X.fs,X.H₀ b=none
structure Inv (X:Cx)(pins:List (Addr×Obj))(σ:List (Option V))(H:Hp)(s:Shared):Prop where
 ok:X.Ok
 os:s.os=X.s₀.os
 bare:AllBare s.gens
 base:Un X.fs X.ex X.H₀ H X.s₀.heap s.heap
 loc:∃ m,s.heap.Ns X.env.locals m∧∀(i:Nat) (x:Str) (v:V),X.N[i]?=some x→σ[i]?=some (some v)→Vis X.env.scope x→∃ u,RelV v u∧Look X.env s.heap m x u
 cell:∀ x c,X.env.cells.lookup x=some c→∃ v,s.heap.IsCell c v
 free:H X.env.locals=none
 freeC:∀ x c,X.env.cells.lookup x=some c→H c=none
 pin:∀ p∈X.pn++pins,s.heap.get? p.1=some p.2∧H p.1=none∧p.1≠X.env.locals∧p.1∉X.fs∧∀ v,p.2.data≠.cell v
 hok:HOk X.prog X.w H s.heap
 len:σ.length=X.N.length
section
variable {X:Cx}{pins:List (Addr×Obj)}{σ:List (Option V)}{H H':Hp}{s:Shared}{h':Heap}
theorem Cx.Ok.nofr (ok:X.Ok){b:Addr}{o:Obj}(e:X.base.get? b=some o):b∉X.fs:=fun hb=>by
 have:=(ok.funs.mem hb).1;rw[e] at this; cases this
theorem Inv.bs (I:Inv X pins σ H s):∀ b o,X.base.get? b=some o→s.heap.get? b=some o∧H b=none:=fun b o e=>
 ⟨I.base.keep b o (I.ok.bs b o e).1 (I.ok.bs b o e).2 (I.ok.nofr e) (I.ok.noex b o e),I.base.free b o (I.ok.bs b o e).1 (I.ok.bs b o e).2 (I.ok.noex b o e)⟩
theorem Inv.bk (I:Inv X pins σ H s):∀ b o,X.base.get? b=some o→s.heap.get? b=some o:=fun b o e=>(I.bs b o e).1
theorem Inv.mod (I:Inv X pins σ H s):Mod X.K X.mg X.base:=I.ok.mod
theorem Inv.kIn (I:Inv X pins σ H s):X.K.In s.heap:=I.ok.mod.kin.keeps I.bk
theorem Inv.lt (I:Inv X pins σ H s):X.env.locals<s.heap.objs.size:=let ⟨_,hn,_⟩:=I.loc; hn.lt
theorem Inv.sz (I:Inv X pins σ H s):X.s₀.heap.objs.size≤s.heap.objs.size:=Nat.le_trans I.ok.above (Nat.le_of_lt I.lt)
theorem Inv.nofs (I:Inv X pins σ H s){a:Addr}(h:s.heap.objs.size≤a):a∉X.fs:=fun hb=>by
 obtain⟨_,o,ho,_⟩:=I.ok.funs.mem hb;exact absurd (Nat.lt_of_lt_of_le (Heap.lt_size ho) (Nat.le_trans I.sz h)) (Nat.lt_irrefl _)
theorem Inv.cne (I:Inv X pins σ H s):∀ x c,X.env.cells.lookup x=some c→c≠X.env.locals:=fun x c e z=>by
 obtain⟨v,o,ho,hd⟩:=I.cell x c e;obtain⟨m,⟨o',es,ep,ho',hd',_⟩,_⟩:=I.loc;rw[z,ho'] at ho; cases ho; rw[hd'] at hd; cases hd
theorem Inv.funs (I:Inv X pins σ H s):s.heap.FunFrames X.base X.outer:=by
 have all:∀(l:List Env),(∀ b∈frs l,b∈X.fs)→X.s₀.heap.FunFrames X.base l→s.heap.FunFrames X.base l:=by
  intro l
  induction l with
  | nil=>intro _ _; trivial
  | cons env r ih=>
   intro hs hl;obtain⟨hk,⟨L,o,hf,hn,ho,hd⟩,hr⟩:=hl;have hL:L∈X.fs:=hs L (by unfold frs; rw[List.filterMap_cons,hf]; exact List.mem_cons_self);obtain⟨sl,e⟩:=I.base.slot L o ho (I.ok.frf L hL) hL fun z=>I.ok.exfs L z hL;exact⟨hk,⟨L,_,hf,hn,e,hd⟩,ih (fun b hb=>hs b (by unfold frs; rw[List.filterMap_cons,hf]; exact List.mem_cons_of_mem _ hb)) hr⟩
 exact all X.outer (fun _ hb=>hb) I.ok.funs
theorem Inv.stack (I:Inv X pins σ H s):s.heap.FunFrames X.base X.stack:=by
 rcases I.ok.stk with e|⟨e,hf⟩
 ·rw[e]; exact I.funs
 ·rw[e];obtain⟨m,hn,_⟩:=I.loc;refine .cons (by rw[I.ok.kind]; decide) hf hn ?_ I.funs;exact Heap.get?_none_of_le (Nat.le_trans I.ok.bsz I.ok.above)
theorem Inv.stkSub (I:Inv X pins σ H s):∀ b∈frs X.stack,b∈X.env.locals::X.fs:=fun b hb=>by
 rcases I.ok.stk with e|⟨e,hf⟩
 ·rw[e] at hb; exact List.mem_cons_of_mem _ hb
 ·rw[e] at hb;unfold frs at hb;rw[List.filterMap_cons,hf] at hb;exact hb
theorem Inv.stkFree (I:Inv X pins σ H s):∀ b∈frs X.stack,H b=none:=fun b hb=>by
 rcases List.mem_cons.mp (I.stkSub b hb) with e|hb
 ·rw[e]; exact I.free
 ·obtain⟨_,o,ho,_⟩:=I.ok.funs.mem hb;exact I.base.free b o ho (I.ok.frf b hb) fun z=>I.ok.exfs b z hb
theorem Inv.step {g':Array GenState}{t':Nat}{d':Drawn}{ch:List Addr}(I:Inv X pins σ H s)
  (hch:∀ b∈ch,(b∈X.ex∨X.s₀.heap.objs.size≤b)∧b≠X.env.locals∧(∀ x c,X.env.cells.lookup x=some c→c≠b)∧∀ p∈X.pn++pins,p.1≠b)
  (keep:∀ b o,b≠X.env.locals→b∉X.fs→b∉ch→s.heap.get? b=some o→H b=none→h'.get? b=some o)
  (slot:∀ b o,b≠X.env.locals→b∈X.fs→b∉ch→s.heap.get? b=some o→H b=none→∃ sl,h'.get? b=some { o with slots:=sl }) (free:∀ b o,b∉ch→s.heap.get? b=some o→H b=none→H' b=none)
  (there:∀ b o,b∉ch→s.heap.get? b=some o→∃ o',h'.get? b=some o')
  (tups:∀ b xs,H b=some (.tup xs)→H' b=some (.tup xs)) (frzs:∀ b o u,H b=some (.frz o u)→H' b=some (.frz o u)) (tbls:∀ b ps,H b=some (.tbl ps)→∃ more,H' b=some (.tbl (ps++more)))
  (ns:∀ m,s.heap.Ns X.env.locals m→h'.Ns X.env.locals m) (hok:HOk X.prog X.w H' h') (hg:AllBare g') :
  Inv X pins σ H' { s with heap:=h',gens:=g',drawn:=d',toks:=t' }:=by
 have neL:∀ b o,X.s₀.heap.get? b=some o→b≠X.env.locals:=fun b o e=>Nat.ne_of_lt (Nat.lt_of_lt_of_le (Heap.lt_size e) I.ok.above);have neC:∀ b o,X.s₀.heap.get? b=some o→b∉X.ex→b∉ch:=fun b o e hx hb=>by
  rcases(hch b hb).1 with z|z
  ·exact hx z
  ·exact absurd (Nat.lt_of_lt_of_le (Heap.lt_size e) z) (Nat.lt_irrefl _)
 have cellK:∀ x c,X.env.cells.lookup x=some c→∀ v,s.heap.IsCell c v→h'.IsCell c v:=fun x c e v ⟨o,ho,hd⟩=>by
  have nch:c∉ch:=fun z=>(hch c z).2.2.1 x c e rfl
  by_cases hc:c∈X.fs
  ·obtain⟨sl,q⟩:=slot c o (I.cne x c e) hc nch ho (I.freeC x c e);exact⟨_,q,hd⟩
  ·exact⟨o,keep c o (I.cne x c e) hc nch ho (I.freeC x c e),hd⟩
 refine⟨I.ok,I.os,hg,⟨fun b o e n hb hx=>?_,fun b o e n hb hx=>?_,fun b o e n hx=>?_,fun b o e hx=>?_,fun b xs e=>tups b xs (I.base.tups b xs e),fun b o xs e=>frzs b o xs (I.base.frzs b o xs e),fun b ps e=>?_⟩,?_,fun x c e=>?_,?_,fun x c e=>?_,fun p hp=>?_,hok,I.len⟩
 ·exact keep b o (neL b o e) hb (neC b o e hx) (I.base.keep b o e n hb hx) (I.base.free b o e n hx)
 ·obtain⟨sl,e1⟩:=I.base.slot b o e n hb hx;obtain⟨sl',e2⟩:=slot b _ (neL b o e) hb (neC b o e hx) e1 (I.base.free b o e n hx);exact⟨sl',e2⟩
 ·obtain⟨o',e1⟩:=I.base.there b o e hx;exact free b o' (neC b o e hx) e1 (I.base.free b o e n hx)
 ·obtain⟨o',e1⟩:=I.base.there b o e hx;exact there b o' (neC b o e hx) e1
 ·obtain⟨m1,e1⟩:=I.base.tbls b ps e;obtain⟨m2,e2⟩:=tbls b _ e1;exact⟨m1++m2,by rw[e2,Array.append_assoc]⟩
 ·obtain⟨m,hn,hl⟩:=I.loc;refine⟨m,ns m hn,fun i x v e1 e2 e3=>?_⟩;obtain⟨u,r,l⟩:=hl i x v e1 e2 e3;refine⟨u,r,?_⟩;rcases l with l|⟨k,c,e,z⟩
  ·exact .inl l
  ·exact .inr ⟨k,c,e,cellK x c e _ z⟩
 ·obtain⟨v,z⟩:=I.cell x c e;exact⟨v,cellK x c e v z⟩
 ·obtain⟨m,⟨o,_,_,ho,_⟩,_⟩:=I.loc;exact free _ o (fun z=>(hch _ z).2.1 rfl) ho I.free
 ·obtain⟨v,o,ho,hd⟩:=I.cell x c e;exact free c o (fun z=>(hch c z).2.2.1 x c e rfl) ho (I.freeC x c e)
 ·obtain⟨e,n,ne,nf,d⟩:=I.pin p hp;have nch:p.1∉ch:=fun z=>(hch p.1 z).2.2.2 p hp rfl;exact⟨keep p.1 p.2 ne nf nch e n,free p.1 p.2 nch e n,ne,nf,d⟩
theorem Inv.un {t':Nat}(I:Inv X pins σ H s)(u:Un X.fs [] H H' s.heap h')(hok:HOk X.prog X.w H' h'):Inv X pins σ H' { s with heap:=h',toks:=t' }:=by
 obtain⟨m,⟨o,es,ep,ho,r⟩,_⟩:=id I.loc;obtain⟨sl,hL⟩:=u.any ho I.free (by simp);exact I.step (g':=s.gens) (d':=s.drawn) (ch:=[]) (fun _ z=>nomatch z) (fun b o _ hb _ e n=>u.keep b o e n hb (by simp)) (fun b o _ hb _ e n=>u.slot b o e n hb (by simp)) (fun b o _ e n=>u.free b o e n (by simp)) (fun b o _ e=>u.there b o e (by simp)) u.tups u.frzs u.tbls (fun m' hm=>by
  obtain⟨o',es',ep',ho',r'⟩:=hm;rw[ho] at ho'; cases ho';exact⟨_,es',ep',hL,r'⟩) hok I.bare
theorem Inv.call {g':Array GenState}{t':Nat}{d':Drawn}{ch:List Addr}(I:Inv X pins σ H s)(u:Un (frs X.stack) ch H H' s.heap h')(hok:HOk X.prog X.w H' h')(hg:AllBare g')
  (hch:∀ b∈ch,(b∈X.ex∨X.s₀.heap.objs.size≤b)∧b≠X.env.locals∧(∀ x c,X.env.cells.lookup x=some c→c≠b)∧∀ p∈X.pn++pins,p.1≠b) :
  Inv X pins σ H' { s with heap:=h',gens:=g',drawn:=d',toks:=t' }:=by
 obtain⟨m,⟨o,es,ep,ho,r⟩,_⟩:=id I.loc;obtain⟨sl,hL⟩:=u.any ho I.free fun z=>(hch _ z).2.1 rfl;exact I.step (ch:=ch) hch (fun b o hL hb hc e n=>u.keep b o e n (fun z=>(List.mem_cons.mp (I.stkSub b z)).elim hL hb) hc) (fun b o _ _ hc e n=>u.any e n hc) (fun b o hc e n=>u.free b o e n hc) (fun b o hc e=>u.there b o e hc) u.tups u.frzs u.tbls (fun m' hm=>by
  obtain⟨o',es',ep',ho',r'⟩:=hm;rw[ho] at ho'; cases ho';exact⟨_,es',ep',hL,r'⟩) hok hg
theorem Inv.turned {t':Nat}{it:Addr}(I:Inv X pins σ H s)(k:∀ b o,b≠it→s.heap.get? b=some o→h'.get? b=some o)(hn:H it=none)(hL:it≠X.env.locals)
  (h1:it∈X.ex∨X.s₀.heap.objs.size≤it) (h2:∀ x c,X.env.cells.lookup x=some c→c≠it) (h3:∀ p∈X.pn++pins,p.1≠it):Inv X pins σ H { s with heap:=h',toks:=t' }:=by
 have nit:∀ b u,H b=some u→b≠it:=fun b u e z=>by rw[z,hn] at e; cases e
 refine I.step (g':=s.gens) (d':=s.drawn) (ch:=[it]) (fun b hb=>?_) (fun b o _ _ hc e _=>k b o (fun z=>hc (by simp[z])) e) (fun b o _ _ hc e _=>⟨o.slots,k b o (fun z=>hc (by simp[z])) e⟩) (fun _ _ _ _ n=>n)
  (fun b o hc e=>⟨o,k b o (fun z=>hc (by simp[z])) e⟩) (fun _ _ e=>e) (fun _ _ _ e=>e) (fun b ps e=>⟨#[],by rw[e]; simp⟩) (fun m hm=>?_) (fun b u e=>?_) I.bare
 ·have e:b=it:=by simpa using hb
  subst e;exact⟨h1,hL,h2,h3⟩
 ·obtain⟨o,es,ep,ho,r⟩:=hm;exact⟨o,es,ep,k _ o (Ne.symm hL) ho,r⟩
 ·refine(I.hok b u e).stay (fun c v hc q=>k c v ?_ q) (fun _ q=>q) fun _ _ q=>q;rcases hc with z|z
  ·rw[z]; exact nit b u e
  ·exact nit c _ z
theorem Inv.tok (I:Inv X pins σ H s)(t:Nat):Inv X pins σ H { s with toks:=t }:=I.un (h':=s.heap) (t':=t) Un.refl I.hok
theorem Inv.kept {t':Nat}(I:Inv X pins σ H s)(k:∀ b u,s.heap.get? b=some u→h'.get? b=some u):Inv X pins σ H { s with heap:=h',toks:=t' }:=I.un (Un.kept k) (I.hok.kept k)
theorem Inv.laid {a:Addr}{o:HO}{t':Nat}(I:Inv X pins σ H s)(k:∀ b u,s.heap.get? b=some u→h'.get? b=some u)(hp:s.heap.objs.size≤a)(new:ObjOk X.prog X.w (upd H a o) h' a o) :
  Inv X pins σ (upd H a o) { s with heap:=h',toks:=t' }:=I.un (Un.laid k hp (I.hok.fresh hp)) (I.hok.laid k hp new)
theorem Inv.write {x e:Addr}{o:HO}{t':Nat}(I:Inv X pins σ H s)(mu:Mut (H x))(he:e=x∨H e=some (.own x))(k:∀ b u,b≠e→s.heap.get? b=some u→h'.get? b=some u)(heo:∃ u,h'.get? e=some u)
  (new:ObjOk X.prog X.w (upd H x o) h' x o):Inv X pins σ (upd H x o) { s with heap:=h',toks:=t' }:=I.un (Un.write mu he k heo) (I.hok.write mu he k heo new)
theorem Inv.weak {σ':List (Option V)}(I:Inv X pins σ H s)(hl:σ'.length=σ.length)(w:∀(i:Nat) v,σ'[i]?=some (some v)→σ[i]?=some (some v)):Inv X pins σ' H s:=
 ⟨I.ok,I.os,I.bare,I.base,let ⟨m,hn,hl'⟩:=I.loc; ⟨m,hn,fun i x v e1 e2 e3=>hl' i x v e1 (w i v e2) e3⟩,I.cell,I.free,I.freeC,I.pin,I.hok,hl.trans I.len⟩
theorem Inv.pins_of {pins':List (Addr×Obj)}(I:Inv X pins σ H s)(h:∀ p∈pins',s.heap.get? p.1=some p.2∧H p.1=none∧p.1≠X.env.locals∧p.1∉X.fs∧∀ v,p.2.data≠.cell v):Inv X pins' σ H s:=
 ⟨I.ok,I.os,I.bare,I.base,I.loc,I.cell,I.free,I.freeC,fun p hp=>(List.mem_append.mp hp).elim (fun z=>I.pin p (List.mem_append_left _ z)) (h p),I.hok,I.len⟩
theorem a92 {N:List Str}(hN:N.Nodup){i j:Nat}{x:Str}(a:N[i]?=some x)(b:N[j]?=some x):i=j:=by
 obtain⟨h1,e1⟩:=List.getElem?_eq_some_iff.mp a;obtain⟨h2,e2⟩:=List.getElem?_eq_some_iff.mp b;exact(List.getElem_inj hN).mp (e1.trans e2.symm)
theorem a5G {M:Model}{A:Around}{E:Value→Shared→Prop}{i:Nat}{x:Str}{v:V}{u:Value}{Q:Unit→Shared→Prop}(I:Inv X pins σ H s)(hN:X.N.Nodup)(hi:X.N[i]?=some x)(hx:Loc X.env.scope x)(r:RelV v u)
  (h:∀ s',Inv X pins (σ.set i (some v)) H s'→(∃ a,Heap.SameBut a s.heap s'.heap∧(a=X.env.locals∨X.env.cells.lookup x=some a))→Q () s') (hf:X.fn x=true∨X.env.scope.names.lookup x=some .local:=by first|exact .inl rfl|exact .inr rfl|assumption):wpAny M A (storeName X.env x u) Q E s:=by
 obtain⟨m,hn,hl⟩:=id I.loc;have hcls:(X.env.scope.kind==.class||(X.env.scope.kind==.module&&X.env.locals != X.env.globals))=false:=by rw[I.ok.kind]; rfl
 have hiσ:i<σ.length:=by rw[I.len]; exact(List.getElem?_eq_some_iff.mp hi).1
 have cne:=I.cne;have tracked:∀{a:Addr} {h':Heap},(∃ o,s.heap.get? a=some o∧H a=none)→Heap.SameBut a s.heap h'→HOk X.prog X.w H h':=fun{a h'} ha hs b ob e=>by
  obtain⟨_,_,hfree⟩:=ha;refine(I.hok b ob e).stay (fun c w' hc q=>(hs.2 c ?_).trans q) (fun _ q=>q) fun _ _ q=>q;rintro rfl;rcases hc with rfl|hc
  ·rw[hfree] at e; cases e
  ·rw[hfree] at hc; cases hc
 rcases hx with hk|hk
 ·refine wpAny_storeName_local hk hn (fun h' hn' hs=>?_) hcls;obtain⟨oL,_,_,hoL,_⟩:=id hn;refine h _ ⟨I.ok,I.os,I.bare,⟨fun b o e n hb hx=>?_,fun b o e n hb hx=>?_,I.base.free,fun b o e hx=>?_,I.base.tups,I.base.frzs,I.base.tbls⟩,⟨_,hn',fun j y v' e1 e2 e3=>?_⟩,fun y c e=>?_,I.free,I.freeC,fun p hp=>?_,tracked ⟨oL,hoL,I.free⟩ hs,by simpa using I.len⟩ ⟨_,hs,.inl rfl⟩
  ·exact(hs.2 b (Nat.ne_of_lt (Nat.lt_of_lt_of_le (Heap.lt_size e) I.ok.above))).trans (I.base.keep b o e n hb hx)
  ·obtain⟨sl,e1⟩:=I.base.slot b o e n hb hx;exact⟨sl,(hs.2 b (Nat.ne_of_lt (Nat.lt_of_lt_of_le (Heap.lt_size e) I.ok.above))).trans e1⟩
  ·obtain⟨o',e1⟩:=I.base.there b o e hx;exact⟨o',(hs.2 b (Nat.ne_of_lt (Nat.lt_of_lt_of_le (Heap.lt_size e) I.ok.above))).trans e1⟩
  ·by_cases hj:j=i
   ·subst hj;rw[hi] at e1; cases e1;rw[List.getElem?_set_self hiσ] at e2
    cases e2
    exact⟨u,r,.inl ⟨hk,by simp⟩⟩
   ·rw[List.getElem?_set_ne (Ne.symm hj)] at e2;obtain⟨u',r',q⟩:=hl j y v' e1 e2 e3;refine⟨u',r',?_⟩;rcases q with⟨k,e⟩|⟨k,c,e,z⟩
    ·refine .inl ⟨k,?_⟩;have:y≠x:=fun e=>hj (a92 hN e1 (e▸hi));simp[this,e]
    ·exact .inr ⟨k,c,e,z.sameBut hs (cne y c e)⟩
  ·obtain⟨w',z⟩:=I.cell y c e;exact⟨w',z.sameBut hs (cne y c e)⟩
  ·obtain⟨e,n,ne,nf,d⟩:=I.pin p hp;exact⟨(hs.2 p.1 ne).trans e,n,ne,nf,d⟩
 ·have hfn:X.fn x=true:=by
   rcases hf with z|z
   ·exact z
   ·rw[z] at hk; cases hk
  obtain⟨c,hc⟩:=I.ok.has x (.inl hk);obtain⟨w',z⟩:=I.cell x c hc;refine wpAny_storeName_cell I.ok.kind hk hc z (fun h' hc' hs=>?_);obtain⟨oc,hoc,hocd⟩:=id z;refine h { s with heap:=h' } ⟨I.ok,I.os,I.bare,⟨fun b o e n hb hx=>?_,fun b o e n hb hx=>?_,I.base.free,fun b o e hx=>?_,I.base.tups,I.base.frzs,I.base.tbls⟩,⟨m,hn.sameBut hs (Ne.symm (cne x c hc)),fun j y v' e1 e2 e3=>?_⟩,fun y c' e=>?_,I.free,I.freeC,fun p hp=>?_,tracked ⟨oc,hoc,I.freeC x c hc⟩ hs,by simpa using I.len⟩ ⟨c,hs,.inr hc⟩
  ·exact(hs.2 b (Nat.ne_of_lt (Nat.lt_of_lt_of_le (Heap.lt_size e) (I.ok.cab x c hfn hc)))).trans (I.base.keep b o e n hb hx)
  ·obtain⟨sl,e1⟩:=I.base.slot b o e n hb hx;exact⟨sl,(hs.2 b (Nat.ne_of_lt (Nat.lt_of_lt_of_le (Heap.lt_size e) (I.ok.cab x c hfn hc)))).trans e1⟩
  ·obtain⟨o',e1⟩:=I.base.there b o e hx;exact⟨o',(hs.2 b (Nat.ne_of_lt (Nat.lt_of_lt_of_le (Heap.lt_size e) (I.ok.cab x c hfn hc)))).trans e1⟩
  ·by_cases hj:j=i
   ·subst hj;rw[hi] at e1; cases e1;rw[List.getElem?_set_self hiσ] at e2
    cases e2
    exact⟨u,r,.inr ⟨.inl hk,c,hc,hc'⟩⟩
   ·rw[List.getElem?_set_ne (Ne.symm hj)] at e2;obtain⟨u',r',q⟩:=hl j y v' e1 e2 e3;refine⟨u',r',?_⟩;rcases q with q|⟨k,c',e,z'⟩
    ·exact .inl q
    ·refine .inr ⟨k,c',e,z'.sameBut hs ?_⟩;rintro rfl;exact hj (a92 hN e1 (I.ok.inj _ _ _ e hc▸hi))
  ·by_cases hcc:c'=c
   ·subst hcc; exact⟨_,hc'⟩
   ·obtain⟨w2,z2⟩:=I.cell y c' e;exact⟨w2,z2.sameBut hs hcc⟩
  ·obtain⟨e,n,ne,nf,d⟩:=I.pin p hp;refine⟨(hs.2 p.1 ?_).trans e,n,ne,nf,d⟩;intro q;rw[q,hoc] at e;have q':oc=p.2:=Option.some.inj e;exact d w' (by rw[← q']; exact hocd)
theorem uR {M:Model}{A:Around}{E:Value→Shared→Prop}{i:Nat}{x:Str}{v:V}{u:Value}{Q:Unit→Shared→Prop}(I:Inv X pins σ H s)(hN:X.N.Nodup)(hi:X.N[i]?=some x)(hx:Loc X.env.scope x)(r:RelV v u)
  (h:∀ s',Inv X pins (σ.set i (some v)) H s'→Q () s') (hf:X.fn x=true∨X.env.scope.names.lookup x=some .local:=by first|exact .inl rfl|exact .inr rfl|assumption):wpAny M A (storeName X.env x u) Q E s:=
 a5G I hN hi hx r (fun s' I' _=>h s' I') hf
theorem Inv.call' {s':Shared}{ch:List Addr}(I:Inv X pins σ H s)(ho:s'.os=s.os)(u:Un (frs X.stack) ch H H' s.heap s'.heap)(hok:HOk X.prog X.w H' s'.heap)(hg:AllBare s'.gens)
  (hch:∀ b∈ch,(b∈X.ex∨X.s₀.heap.objs.size≤b)∧b≠X.env.locals∧(∀ x c,X.env.cells.lookup x=some c→c≠b)∧∀ p∈X.pn++pins,p.1≠b):Inv X pins σ H' s':=by
 obtain⟨h',g',d',t',o'⟩:=s';have e:o'=s.os:=ho;subst e;exact I.call (g':=g') (t':=t') (d':=d') u hok hg hch
end
abbrev XK:=Value→Option Addr→Hp→Prop
abbrev St:=List (Option V)
abbrev VK:=V→Hp→Prop
abbrev TE:=St→Hp→VK→Prop
abbrev TT:=St→Hp→(Bool→Hp→Prop)→Prop
abbrev TA:=St→Hp→(List V→Hp→Prop)→Prop
structure Ends where
 nx:St→Hp→Prop
 rt:VK
 bk:St→Hp→Prop:=fun _ _=>False
 ct:St→Hp→Prop:=fun _ _=>False
abbrev TS:=Ends→St→Hp→Prop
noncomputable def EP (X:Cx)(pins:List (Addr×Obj))(σ:St)(Q:VK)(u:Value)(s':Shared):Prop:=∃ v H',Inv X pins σ H' s'∧RelV v u∧Q v H'
noncomputable def TP (X:Cx)(pins:List (Addr×Obj))(σ:St)(Q:Bool→Hp→Prop)(b:Bool)(s':Shared):Prop:=∃ H',Inv X pins σ H' s'∧Q b H'
noncomputable def AP (X:Cx)(pins:List (Addr×Obj))(σ:St)(Q:List V→Hp→Prop)(us:List Value)(s':Shared):Prop:=∃ vs H',Inv X pins σ H' s'∧Vals vs us∧Q vs H'
noncomputable def SP (X:Cx)(pins:List (Addr×Obj))(D:Ends)(f:Flow)(s':Shared):Prop:=
 match f with
 | .next=>∃ σ' H',Inv X pins σ' H' s'∧D.nx σ' H'
 | .brk=>∃ σ' H',Inv X pins σ' H' s'∧D.bk σ' H'
 | .cont=>∃ σ' H',Inv X pins σ' H' s'∧D.ct σ' H'
 | .ret u=>∃ v σ' H',Inv X pins σ' H' s'∧RelV v u∧D.rt v H'
noncomputable def PE (X:Cx)(e:Expr)(t:TE):Prop:=
 ∀(pins:List (Addr×Obj)) (s:Shared) (σ:St) (H:Hp) (Q:VK),Inv X pins σ H s→t σ H Q→wpAny (model X.prog X.w) X.A (eval e X.env) (EP X pins σ Q) X.xe s
noncomputable def PT (X:Cx)(e:Expr)(t:TT):Prop:=
 ∀(pins:List (Addr×Obj)) (s:Shared) (σ:St) (H:Hp) (Q:Bool→Hp→Prop),Inv X pins σ H s→t σ H Q→wpAny (model X.prog X.w) X.A (isTrue e X.env (eval e X.env)) (TP X pins σ Q) X.xe s
noncomputable def PW (X:Cx)(e:Expr)(t:TT):Prop:=
 ∀(whole:Sem Value) (pins:List (Addr×Obj)) (s:Shared) (σ:St) (H:Hp) (Q:Bool→Hp→Prop),Inv X pins σ H s→t σ H Q→wpAny (model X.prog X.w) X.A (isTrue e X.env whole) (TP X pins σ Q) X.xe s
theorem PW.pt {X:Cx}{e:Expr}{t:TT}(h:PW X e t):PT X e t:=h _
noncomputable def PA (X:Cx)(es:List Expr)(t:TA):Prop:=
 ∀(pos:Pos) (pins:List (Addr×Obj)) (s:Shared) (σ:St) (H:Hp) (Q:List V→Hp→Prop),Inv X pins σ H s→t σ H Q→wpAny (model X.prog X.w) X.A (spliced (backTo pos (starEach es X.env))) (AP X pins σ Q) X.xe s
noncomputable def PS (X:Cx)(st:Stmt)(t:TS):Prop:=
 ∀(pins:List (Addr×Obj)) (s:Shared) (σ:St) (H:Hp) (D:Ends),Inv X pins σ H s→t D σ H→wpAny (model X.prog X.w) X.A (exec st X.env) (SP X pins D) X.xe s
noncomputable def PSs (X:Cx)(st:List Stmt)(t:TS):Prop:=
 ∀(pins:List (Addr×Obj)) (s:Shared) (σ:St) (H:Hp) (D:Ends),Inv X pins σ H s→t D σ H→wpAny (model X.prog X.w) X.A (execs st X.env) (SP X pins D) X.xe s
theorem thn {α:Type}{t:Sem α}{Q Q':α→Shared→Prop}{M:Model}{A:Around}{E:Value→Shared→Prop}{s:Shared}(h:wpAny M A t Q E s)(hQ:∀ a s,Q a s→Q' a s):wpAny M A t Q' E s:=wpAny_mono h hQ fun _ _ x=>x
end L2
namespace L2
open PySem PySem.Spec PyProof.Rows
section
variable {X:Cx}
noncomputable def vX (i:Nat):TE:=fun σ H Q=>∃ v,σ[i]?=some (some v)∧Q v H
noncomputable def tC (v:V):TE:=fun _ H Q=>Q v H
theorem aLL {i:Nat}{x:Str}{pos:Pos}(hN:X.N[i]?=some x)(hv:Vis X.env.scope x)(hd:(x==("__debug__" : Str))=false:=by decide)(hcd:(x==("__classdict__" : Str))=false:=by decide):PE X (.Name x pos) (vX i):=by
 intro pins s σ H Q I h;obtain⟨v,e,h⟩:=h;obtain⟨m,hn,hl⟩:=I.loc;obtain⟨u,r,l⟩:=hl i x v hN e hv;have fin:EP X pins σ Q u s:=⟨v,H,I,r,h⟩;rcases l with⟨hk,hm⟩|⟨hk,c,hc,hcell⟩
 ·exact wpAny_Name (wpAny_loadName_local I.ok.kind hk hn hm fin) hd
 ·rcases hk with hk|hk
  ·exact wpAny_Name (wpAny_loadName_cell I.ok.kind hk hc hcell fin) hd
  ·exact wpAny_Name (wpAny_loadName_free I.ok.kind hk hc hcell fin hcd) hd
theorem aC {i j pos}:PE X (.Constant (.int i) j pos) (tC (.int i)):=fun _ _ _ H _ I h=>wpAny_Constant_int ⟨.int i,H,I.tok _,⟨_,rfl⟩,h⟩
theorem a0C {b j pos}:PE X (.Constant (.bool b) j pos) (tC (.bl b)):=fun _ _ _ H _ I h=>Constant_bool ⟨.bl b,H,I,rfl,h⟩
theorem dB {j pos}:PE X (.Constant .none j pos) (tC .non):=fun _ _ _ H _ I h=>Constant_none ⟨.non,H,I,rfl,h⟩
theorem a9D {x j pos}:PE X (.Constant (.str x) j pos) (tC (.str x)):=fun _ _ _ H _ I h=>Calls.Constant_str ⟨.str x,H,I.tok _,⟨_,rfl⟩,h⟩
noncomputable def Gl (X:Cx)(x:Str):Prop:=X.env.kindOf x=some .globalImplicit
theorem aD0 {E:Value→Shared→Prop}{pins:List (Addr×Obj)}{s:Shared}{σ:St}{H:Hp}{x:Str}{u:Value}{pos:Pos}{Q:Value→Shared→Prop}(I:Inv X pins σ H s)(hg:Gl X x)(hm:X.mg x=some u)(h:Q u s)
  (hd:(x==("__debug__" : Str))=false:=by decide):wpAny (model X.prog X.w) X.A (eval (.Name x pos) X.env) Q E s:=
 Calls.Name_function_global I.ok.kind hg (Calls.loadGlobal_global (by rw[I.ok.glob]; exact I.mod.glob.keeps I.bk) hm h) hd
theorem wM {E:Value→Shared→Prop}{pins:List (Addr×Obj)}{s:Shared}{σ:St}{H:Hp}{x:Str}{u:Value}{pos:Pos}{Q:Value→Shared→Prop}(I:Inv X pins σ H s)(hg:Gl X x)(hm:X.mg x=none)(hv:bootBuiltins x=some u)(h:Q u s)
  (hn:x ≠ "__name__" := by decide) (hd:(x==("__debug__" : Str))=false:=by decide):wpAny (model X.prog X.w) X.A (eval (.Name x pos) X.env) Q E s:=by
 obtain⟨mb,h1,h2⟩:=I.mod.blt;exact Calls.Name_function_global I.ok.kind hg (Calls.loadGlobal_builtin (by rw[I.ok.glob]; exact I.mod.glob.keeps I.bk) hm (by rw[I.ok.blt]; exact h1.keeps I.bk) ((h2 x hn).trans hv) h) hd
theorem a6D {x:Str}{v:V}{u:Value}{pos:Pos}(hg:Gl X x)(hm:X.mg x=none)(hv:bootBuiltins x=some u)(r:RelV v u)(hn:x ≠ "__name__" := by decide)(hd:(x==("__debug__" : Str))=false:=by decide):PE X (.Name x pos) (tC v):=
 fun _ _ _ H _ I h=>wM I hg hm hv ⟨v,H,I,r,h⟩ hn hd
variable {a b:Expr}{ta tb:TE}{pos:Pos}
noncomputable def PC (X:Cx)(op:CmpOp)(a b:Expr)(t:TE):Prop:=
 ∀(pins:List (Addr×Obj)) (s:Shared) (σ:St) (H:Hp) (Q:VK),Inv X pins σ H s→t σ H Q →
  wpAny (model X.prog X.w) X.A (eval a X.env) (fun v s₁=>wpAny (model X.prog X.w) X.A (eval b X.env) (fun u s₂=>wpAny (model X.prog X.w) X.A (compareOp op v u) (EP X pins σ Q) X.xe s₂) X.xe s₁) X.xe s
noncomputable def tB (t:TE):TT:=fun σ H Q=>t σ H fun x H1=>∃ c,x=.bl c∧Q c H1
theorem aH3 {op:CmpOp}{t:TE}(h:PC X op a b t)(h1:behindInMarks op b=false:=by first|exact nobehind _ (by decide) (by decide)|rfl):PT X (.Compare a [op] [b] pos) (tB t):=by
 intro pins s σ H Q I hw;refine wpAny_isTrue_Compare1 (thn (h pins s σ H _ I hw) fun v s1 h1=>thn h1 fun u s2 h2=>thn h2 fun c s3 ⟨x,H1,I1,r1,q1⟩=>?_) h1;obtain⟨d,rfl,q⟩:=q1
 cases r1
 exact wpAny_truthy_bool ⟨H1,I1,q⟩
theorem fK {e:Expr}{t:TE}(h:PE X e t)(he:∀ whole,isTrue e X.env whole=(do let v←whole; standAt e.pos; holding [v] (truthy v)):=by intro _; rfl):PT X e (tB t):=by
 intro pins s σ H Q I hw;refine isTrue_plain (thn (h pins s σ H _ I hw) fun v s1 ⟨x,H1,I1,r1,q1⟩=>?_) (he _);obtain⟨d,rfl,q⟩:=q1
 cases r1
 exact wpAny_truthy_bool ⟨H1,I1,q⟩
variable {tA tB':TT}{rest:List Expr}
noncomputable def aPX (t u:TT):TT:=fun σ H Q=>t σ H fun c H1=>if c=true then u σ H1 Q else Q false H1
noncomputable def tOr (t u:TT):TT:=fun σ H Q=>t σ H fun c H1=>if c=true then Q true H1 else u σ H1 Q
noncomputable def aQK (t:TT):TT:=fun σ H Q=>t σ H fun c H1=>Q (!c) H1
theorem iD (ha:PT X a tA):PW X (.BoolOp .And [a] pos) tA:=by
 intro wh pins s σ H Q I h;refine isTrue_and (thn (ha pins s σ H Q I h) fun c s1 e=>?_)
 cases c with
 | true=>exact isTrue_and_nil e
 | false=>exact e
theorem tQ (ha:PT X a tA):PW X (.BoolOp .Or [a] pos) tA:=by
 intro wh pins s σ H Q I h;refine isTrue_or (thn (ha pins s σ H Q I h) fun c s1 e=>?_)
 cases c with
 | false=>exact isTrue_or_nil e
 | true=>exact e
theorem mQ (ha:PT X a tA)(hb:PW X (.BoolOp .And (b::rest) pos) tB'):PW X (.BoolOp .And (a::b::rest) pos) (aPX tA tB'):=by
 intro wh pins s σ H Q I h;refine isTrue_and (thn (ha pins s σ H _ I h) fun c s1 ⟨H1,I1,q1⟩=>?_)
 cases c with
 | true=>exact hb wh pins s1 σ H1 Q I1 q1
 | false=>exact⟨H1,I1,q1⟩
theorem uM (ha:PT X a tA)(hb:PW X (.BoolOp .Or (b::rest) pos) tB'):PW X (.BoolOp .Or (a::b::rest) pos) (tOr tA tB'):=by
 intro wh pins s σ H Q I h;refine isTrue_or (thn (ha pins s σ H _ I h) fun c s1 ⟨H1,I1,q1⟩=>?_)
 cases c with
 | true=>exact⟨H1,I1,q1⟩
 | false=>exact hb wh pins s1 σ H1 Q I1 q1
theorem rH (ha:PT X a tA):PT X (.UnaryOp .Not a pos) (aQK tA):=by
 intro pins s σ H Q I h;exact isTrue_not (ha pins s σ H (fun c H1=>Q (!c) H1) I h)
noncomputable def aLC (ta tb:TE):TE:=fun σ H Q=>ta σ H fun x H1=>∃ c,x=.bl c∧if c=true then tb σ H1 Q else Q (.bl false) H1
noncomputable def aQ1 (ta tb:TE):TE:=fun σ H Q=>ta σ H fun x H1=>∃ c,x=.bl c∧if c=true then Q (.bl true) H1 else tb σ H1 Q
noncomputable def aKO (ta:TE):TE:=fun σ H Q=>ta σ H fun x H1=>∃ c,x=.bl c∧Q (.bl (!c)) H1
theorem a8R {op}{t:TE}(h:PE X a t):PE X (.BoolOp op [a] pos) t:=fun pins s σ H Q I hw=>BoolOp_one (h pins s σ H Q I hw)
theorem aDL (ha:PE X a ta)(hb:PE X (.BoolOp .And (b::rest) pos) tb):PE X (.BoolOp .And (a::b::rest) pos) (aLC ta tb):=by
 intro pins s σ H Q I h;refine BoolOp_and (thn (ha pins s σ H _ I h) fun v s1 ⟨x,H1,I1,r1,q1⟩=>?_);obtain⟨c,rfl,q1⟩:=q1
 cases r1
 refine wpAny_truthy_bool ?_
 cases c with
 | true=>exact hb pins s1 σ H1 Q I1 q1
 | false=>exact⟨.bl false,H1,I1,rfl,q1⟩
theorem aNQ (ha:PE X a ta)(hb:PE X (.BoolOp .Or (b::rest) pos) tb):PE X (.BoolOp .Or (a::b::rest) pos) (aQ1 ta tb):=by
 intro pins s σ H Q I h;refine BoolOp_or (thn (ha pins s σ H _ I h) fun v s1 ⟨x,H1,I1,r1,q1⟩=>?_);obtain⟨c,rfl,q1⟩:=q1
 cases r1
 refine wpAny_truthy_bool ?_
 cases c with
 | false=>exact hb pins s1 σ H1 Q I1 q1
 | true=>exact⟨.bl true,H1,I1,rfl,q1⟩
theorem aGU (ha:PE X a ta):PE X (.UnaryOp .Not a pos) (aKO ta):=by
 intro pins s σ H Q I h;refine UnaryOp_ (thn (ha pins s σ H _ I h) fun v s1 ⟨x,H1,I1,r1,q1⟩=>?_);obtain⟨c,rfl,q1⟩:=q1
 cases r1
 exact not_of (wpAny_truthy_bool ⟨.bl (!c),H1,I1,rfl,q1⟩)
noncomputable def tIf (t:TT)(ta tb:TE):TE:=fun σ H Q=>t σ H fun c H1=>if c=true then ta σ H1 Q else tb σ H1 Q
theorem a9M {c:Expr}(hc:PT X c tA)(ha:PE X a ta)(hb:PE X b tb):PE X (.IfExp c a b pos) (tIf tA ta tb):=by
 intro pins s σ H Q I h;refine wpAny_IfExp (thn (hc pins s σ H _ I h) fun d s1 ⟨H1,I1,q1⟩=>?_)
 cases d with
 | true=>exact ha pins s1 σ H1 Q I1 q1
 | false=>exact hb pins s1 σ H1 Q I1 q1
end
end L2
namespace L2
open PySem PySem.Spec PyProof.Rows
noncomputable def SqL (K:PySem.W.Frag)(H:Hp)(a:Addr)(xs:List V):Prop:=
 Rd H a (.lst xs) ∨
  ∃(o:Obj) (its:Array Value) (n:Nat),K.lookup a=some o∧o.cls=.type "list" ∧ o.dict=none∧o.data=.seq its n∧its.size≤sizeLine∧Vals xs its.toList
noncomputable def SqT (K:PySem.W.Frag)(H:Hp)(a:Addr)(xs:List V):Prop:=
 Rd H a (.tup xs) ∨
  ∃(o:Obj) (its:Array Value) (n:Nat),K.lookup a=some o∧o.cls=.type "tuple" ∧ o.data=.seq its n∧its.size≤sizeLine∧Vals xs its.toList
noncomputable def aQV:Value→Option V
 | .none=>some .non
 | .bool b=>some (.bl b)
 | .int i _=>some (.int i)
 | .str x _=>some (.str x)
 | .bytes b _=>some (.byt b)
 | .float b _=>some (.flt b)
 | .ref a=>some (.ref a)
 | .type n=>some (.ty n)
 | _=>none
theorem RelV.abs {x:V}{u:Value}(r:RelV x u):aQV u=some x:=by
 cases x with
 | non=>cases r; rfl
 | bl _=>cases r; rfl
 | int _=>obtain⟨t,rfl⟩:=r; rfl
 | str _=>obtain⟨t,rfl⟩:=r; rfl
 | byt _=>obtain⟨t,rfl⟩:=r; rfl
 | flt _=>obtain⟨t,rfl⟩:=r; rfl
 | ref _=>cases r; rfl
 | ty _=>cases r; rfl
theorem RelV.inj {x y:V}{u:Value}(r:RelV x u)(q:RelV y u):x=y:=Option.some.inj (r.abs.symm.trans q.abs)
theorem Vals.inj:∀{xs ys:List V} {us:List Value},Vals xs us→Vals ys us→xs=ys:=by
 intro xs ys us h
 induction h generalizing ys with
 | nil=>intro q; cases q; rfl
 | cons r t ih=>intro q; cases q with|cons r' t'=>rw[r.inj r',ih t']
section
variable {X:Cx}{pins:List (Addr×Obj)}{σ:St}{H:Hp}{s:Shared}{a:Addr}{xs ys:List V}
theorem SqL.of {K:PySem.W.Frag}(h:H a=some (.lst xs)):SqL K H a xs:=.inl (.inl h)
theorem SqT.of {K:PySem.W.Frag}(h:H a=some (.tup xs)):SqT K H a xs:=.inl (.inl h)
theorem Inv.list (I:Inv X pins σ H s)(h:SqL X.K H a xs):∃ its:List Value,Vals xs its∧PlainL s.heap a its.toArray∧xs.length≤sizeLine:=by
 rcases h with h|⟨o,its,n,hk,hc,hd,hs,hz,r⟩
 ·obtain⟨z,its,n,r,e⟩:=h.ok I.hok;exact⟨its,r,⟨_,n,e,rfl,rfl,rfl⟩,z⟩
 ·refine⟨its.toList,r,⟨o,n,I.kIn a o hk,hc,hd,by simpa using hs⟩,?_⟩;have e:=r.length;simp only[Array.length_toList] at e;omega
theorem Inv.tuple (I:Inv X pins σ H s)(h:SqT X.K H a xs):∃ its:List Value,Vals xs its∧IsTup s.heap a its.toArray∧xs.length≤sizeLine:=by
 rcases h with h|⟨o,its,n,hk,hc,hs,hz,r⟩
 ·obtain⟨z,its,r,p⟩:=h.ok I.hok;exact⟨its,r,p,z⟩
 ·refine⟨its.toList,r,⟨o,I.kIn a o hk,hc,n,by simpa using hs⟩,?_⟩;have e:=r.length;simp only[Array.length_toList] at e;omega
theorem Inv.list_inj (I:Inv X pins σ H s)(h:SqL X.K H a xs)(h':SqL X.K H a ys):xs=ys:=by
 obtain⟨its,r,⟨o,n,e,_,_,d⟩,_⟩:=I.list h;obtain⟨its',r',⟨o',n',e',_,_,d'⟩,_⟩:=I.list h';rw[e] at e'; cases e';rw[d] at d';injection d' with d1 _;have:its=its':=by simpa using congrArg Array.toList d1
 subst this;exact r.inj r'
theorem Inv.tuple_inj (I:Inv X pins σ H s)(h:SqT X.K H a xs)(h':SqT X.K H a ys):xs=ys:=by
 obtain⟨its,r,⟨o,e,_,n,d⟩,_⟩:=I.tuple h;obtain⟨its',r',⟨o',e',_,n',d'⟩,_⟩:=I.tuple h';rw[e] at e'; cases e';rw[d] at d';injection d' with d1 _;have:its=its':=by simpa using congrArg Array.toList d1
 subst this;exact r.inj r'
end
abbrev Cx.wish (X:Cx)(E:Value→Shared→Prop):Cx:={ X with xe:=E }
abbrev Cx.nox (X:Cx):Cx:=X.wish fun _ _=>False
theorem Cx.Ok.wish {X:Cx}(ok:X.Ok)(E:Value→Shared→Prop):(X.wish E).Ok:=
 ⟨ok.mod,ok.kind,ok.glob,ok.blt,ok.above,ok.inj,ok.has,ok.cab,ok.hd,ok.frames,ok.stk,ok.exf,ok.bs,ok.bsz,ok.noex,ok.exfs,ok.funs,ok.frf⟩
theorem Cx.Ok.unwish {X:Cx}{E:Value→Shared→Prop}(ok:(X.wish E).Ok):X.Ok:=
 ⟨ok.mod,ok.kind,ok.glob,ok.blt,ok.above,ok.inj,ok.has,ok.cab,ok.hd,ok.frames,ok.stk,ok.exf,ok.bs,ok.bsz,ok.noex,ok.exfs,ok.funs,ok.frf⟩
section
variable {X:Cx}{pins:List (Addr×Obj)}{σ:St}{H:Hp}{s:Shared}{E:Value→Shared→Prop}
theorem Inv.wish (I:Inv X pins σ H s)(E:Value→Shared→Prop):Inv (X.wish E) pins σ H s:=⟨I.ok.wish E,I.os,I.bare,I.base,I.loc,I.cell,I.free,I.freeC,I.pin,I.hok,I.len⟩
theorem Inv.unwish (I:Inv (X.wish E) pins σ H s):Inv X pins σ H s:=⟨I.ok.unwish,I.os,I.bare,I.base,I.loc,I.cell,I.free,I.freeC,I.pin,I.hok,I.len⟩
theorem SP.unwish {D:Ends}{f:Flow}{s':Shared}(h:SP (X.wish E) pins D f s'):SP X pins D f s':=by
 cases f with
 | next=>obtain⟨σ',H',I,q⟩:=h; exact⟨σ',H',I.unwish,q⟩
 | brk=>obtain⟨σ',H',I,q⟩:=h; exact⟨σ',H',I.unwish,q⟩
 | cont=>obtain⟨σ',H',I,q⟩:=h; exact⟨σ',H',I.unwish,q⟩
 | ret u=>obtain⟨v,σ',H',I,r,q⟩:=h; exact⟨v,σ',H',I.unwish,r,q⟩
theorem PSs.nox {st:List Stmt}{t:TS}(h:PSs X.nox st t):PSs X st t:=fun pins s σ H D I hw=>
 wpAny_mono (h pins s σ H D (I.wish _) hw) (fun _ _ q=>q.unwish) fun _ _ z=>False.elim z
end
section
variable {X:Cx}{st:Stmt}{rest:List Stmt}{t u:TS}{e:Expr}{te:TE}{pos:Pos}
noncomputable def aL5:TS:=fun D σ H=>D.nx σ H
noncomputable def aQ3 (t u:TS):TS:=fun D σ H=>t { D with nx:=u D } σ H
theorem bL:PSs X [] aL5:=fun _ _ σ H _ I h=>wpAny_execs_nil ⟨σ,H,I,h⟩
theorem aD (h1:PS X st t)(h2:PSs X rest u):PSs X (st::rest) (aQ3 t u):=by
 intro pins s σ H D I h;refine wpAny_execs_cons (thn (h1 pins s σ H { D with nx:=u D } I h) fun f s1 q=>?_)
 cases f with
 | next=>
  obtain⟨σ',H',I',q⟩:=q;exact h2 pins s1 σ' H' D I' q
 | ret v=>exact q
 | brk=>exact q
 | cont=>exact q
theorem aK (h1:PS X st t):PSs X [st] t:=by
 intro pins s σ H D I h;refine wpAny_execs_cons (thn (h1 pins s σ H D I h) fun f s1 q=>?_)
 cases f with
 | next=>exact wpAny_execs_nil q
 | ret v=>exact q
 | brk=>exact q
 | cont=>exact q
theorem Inv.quiet {pins:List (Addr×Obj)}{σ:St}{H:Hp}{s:Shared}(I:Inv X pins σ H s):interactive X.env=false:=by simp[interactive,I.ok.kind]
noncomputable def aIQ (te:TE):TS:=fun D σ H=>te σ H fun _ H1=>D.nx σ H1
theorem a2X (he:PE X e te)(hs:swapsWith e none pos.line X.env=pure false:=by rfl):PS X (.Expr e pos) (aIQ te):=by
 intro pins s σ H D I h;exact wpAny_Expr_any (thn (he pins s σ H _ I h) fun v s1 ⟨x,H1,I1,r1,q1⟩=>⟨σ,H1,I1,q1⟩) I.quiet hs
noncomputable def aN2 (te:TE):TS:=fun D σ H=>te σ H D.rt
theorem aZ (he:PE X e te):PS X (.Return (some e) pos) (aN2 te):=by
 intro pins s σ H D I h;exact wpAny_Return_some (thn (he pins s σ H _ I h) fun v s1 ⟨x,H1,I1,r1,q1⟩=>⟨x,σ,H1,I1,r1,q1⟩)
noncomputable def aQC (c:TT)(t u:TS):TS:=fun D σ H=>c σ H fun b H1=>if b=true then t D σ H1 else u D σ H1
theorem cT {c:Expr}{a b:List Stmt}{tc:TT}(hc:PT X c tc)(ha:PSs X a t)(hb:PSs X b u):PS X (.If c a b pos) (aQC tc t u):=by
 intro pins s σ H D I h;refine wpAny_If (thn (hc pins s σ H _ I h) fun d s1 ⟨H1,I1,q1⟩=>?_)
 cases d with
 | true=>exact ha pins s1 σ H1 D I1 q1
 | false=>exact hb pins s1 σ H1 D I1 q1
noncomputable def aGV:TS:=fun _ _ _=>False
theorem a9I:PS X st aGV:=fun _ _ _ _ _ _ h=>h.elim
end
abbrev TG:=V→St→Hp→(St→Hp→Prop)→Prop
abbrev TGs:=List V→St→Hp→(St→Hp→Prop)→Prop
noncomputable def PG (X:Cx)(target:Expr)(t:TG):Prop:=
 ∀(pins:List (Addr×Obj)) (s:Shared) (σ:St) (H:Hp) (v:V) (u:Value) (Q:St→Hp→Prop),Inv X pins σ H s→RelV v u→t v σ H Q →
  wpAny (model X.prog X.w) X.A (assign target X.env u) (fun _ s'=>∃ σ' H',Inv X pins σ' H' s'∧Q σ' H') X.xe s
noncomputable def PGs (X:Cx)(ts:List Expr)(t:TGs):Prop:=
 ∀(pins:List (Addr×Obj)) (s:Shared) (σ:St) (H:Hp) (vs:List V) (us:List Value) (Q:St→Hp→Prop),Inv X pins σ H s→Vals vs us→t vs σ H Q →
  wpAny (model X.prog X.w) X.A (assignInOrder ((assignEach ts X.env).map (·.2)) us) (fun _ s'=>∃ σ' H',Inv X pins σ' H' s'∧Q σ' H') X.xe s
abbrev aO0:=V→V→V→Hp→(Hp→Prop)→Prop
noncomputable def aQB (X:Cx)(t:aO0):Prop:=
 ∀(pins:List (Addr×Obj)) (s:Shared) (σ:St) (H:Hp) (o i v:V) (ov iv u:Value) (Q:Hp→Prop),Inv X pins σ H s→RelV o ov→RelV i iv→RelV v u→t o i v H Q →
  wpAny (model X.prog X.w) X.A (setItem ov iv u) (fun _ s'=>∃ H',Inv X pins σ H' s'∧Q H') X.xe s
abbrev TIp:=V→V→Hp→VK→Prop
noncomputable def PIp (X:Cx)(op:Operator)(t:TIp):Prop:=
 ∀(pins:List (Addr×Obj)) (s:Shared) (σ:St) (H:Hp) (x y:V) (v u:Value) (Q:VK),Inv X pins σ H s→RelV x v→RelV y u→t x y H Q →
  wpAny (model X.prog X.w) X.A (inplaceOp op v u) (EP X pins σ Q) X.xe s
section
variable {X:Cx}{pos:Pos}
noncomputable def a5R (i:Nat):TG:=fun v σ H Q=>Q (σ.set i (some v)) H
theorem cX {i:Nat}{x:Str}(hN:X.N.Nodup)(hi:X.N[i]?=some x)(hx:Loc X.env.scope x)(hf:X.fn x=true∨X.env.scope.names.lookup x=some .local:=by first|exact .inl rfl|exact .inr rfl|assumption):PG X (.Name x pos) (a5R i):=by
 intro pins s σ H v u Q I r h;exact wpAny_assign_Name (uR I hN hi hx r (fun s' I'=>⟨_,H,I',h⟩) hf)
noncomputable def aPY:TGs:=fun vs σ H Q=>vs=[]∧Q σ H
noncomputable def aMU (t:TG)(u:TGs):TGs:=fun vs σ H Q=>∃ v r,vs=v::r∧t v σ H fun σ' H'=>u r σ' H' Q
theorem aEQ:PGs X [] aPY:=by
 intro pins s σ H vs us Q I r h;obtain⟨e,h⟩:=h;subst e
 cases r
 exact assignInOrder_nil ⟨σ,H,I,h⟩
theorem tU {e:Expr}{es:List Expr}{t:TG}{u:TGs}(h1:PG X e t)(h2:PGs X es u)
  (hs:(assignEach (e::es) X.env).map (·.2)=assign e X.env::(assignEach es X.env).map (·.2):=by rfl):PGs X (e::es) (aMU t u):=by
 intro pins s σ H vs us Q I r h;obtain⟨v,vr,e1,h⟩:=h;subst e1
 cases r with
 | cons r rr=>
  rw[hs];refine assignInOrder_cons (thn (h1 pins s σ H _ _ _ I r h) fun _ s1 ⟨σ1,H1,I1,q1⟩=>?_);exact h2 pins s1 σ1 H1 _ _ Q I1 rr q1
noncomputable def aPZ (K:PySem.W.Frag)(n:Nat)(t:TGs):TG:=fun v σ H Q=>∃ a xs,v=.ref a∧SqT K H a xs∧xs.length=n∧t xs σ H Q
theorem aH1 {es:List Expr}{k:Nat}{t:TGs}{n:Nat}(hc:X.calm=true)(h:PGs X es t)
  (hn:(assignEach es X.env).length=n:=by rfl) (hst:(assignEach es X.env).findIdx? (·.1)=none:=by rfl):PG X (.Tuple es k pos) (aPZ X.K n t):=by
 intro pins s σ H v u Q I r hw;obtain⟨a,xs,e1,hq,hl,hw⟩:=hw;subst e1
 cases r
 obtain⟨its,rv,ht,hz⟩:=I.tuple hq;refine assign_Tuple_tuple (I.ok.hd hc) ht (by simp[hn,←hl,rv.length]) hst fun h' hx=>?_;have I1:Inv X pins σ H { s with heap:=h' }:=I.kept (t':=s.toks) fun b o e=>hx b o (Nat.ne_of_lt (Heap.lt_size e)) e;exact h pins _ σ H xs _ Q I1 (by simpa using rv) hw
noncomputable def aPM (to ti:TE)(t:aO0):TG:=fun v σ H Q=>to σ H fun o H1=>ti σ H1 fun i H2=>t o i v H2 fun H3=>Q σ H3
theorem a8L {o i:Expr}{to ti:TE}{t:aO0}(ho:PE X o to)(hi:PE X i ti)(hs:aQB X t)
  (ha:∀ v,assign (.Subscript o i pos) X.env v=(do
   let ov←holding [v] (eval o X.env)
   let iv←holding [v,ov] (eval i X.env)
   standAt pos
   holding [v,ov,iv] (setItem ov iv v)
   release [v,ov,iv] []):=by intro _; rfl):PG X (.Subscript o i pos) (aPM to ti t):=by
 intro pins s σ H v u Q I r h;rw[ha];refine wpAny_bind (wpAny_holding (thn (ho pins s σ H _ I h) fun ov s1 ⟨x,H1,I1,r1,q1⟩=>?_));refine wpAny_bind (wpAny_holding (thn (hi pins s1 σ H1 _ I1 q1) fun iv s2 ⟨y,H2,I2,r2,q2⟩=>?_));refine wpAny_bind (wpAny_standAt (wpAny_bind (wpAny_holding (thn (hs pins s2 σ H2 x y v ov iv u _ I2 r1 r2 r q2) fun _ s3 ⟨H3,I3,q3⟩=>?_))));exact wpAny_release ⟨σ,H3,I3,q3⟩
noncomputable def aFZ (te:TE)(g:TG):TS:=fun D σ H=>te σ H fun x H1=>g x σ H1 D.nx
theorem a1A {tg e:Expr}{te:TE}{g:TG}(he:PE X e te)(hg:PG X tg g)(hs:swapsWithSole [tg] e pos.line X.env=pure false:=by rfl)(hw:swappedStores [tg] e X.env=pure none:=by rfl)
  (h1:(assignEach [tg] X.env).map (·.2)=[assign tg X.env]:=by rfl):PS X (.Assign [tg] e pos) (aFZ te g):=by
 intro pins s σ H D I h;refine wpAny_Assign_stores (thn (he pins s σ H _ I h) fun v s1 ⟨x,H1,I1,r1,q1⟩=>?_) hs hw;rw[h1];exact thn (hg pins s1 σ H1 x v _ I1 r1 q1) fun _ s2 q=>q
theorem aY {i:Nat}{x:Str}{e:Expr}{te:TE}{pos':Pos}(hN:X.N.Nodup)(hi:X.N[i]?=some x)(hx:Loc X.env.scope x)(he:PE X e te)(hs:swapsWith e (some (.Name x pos')) pos.line X.env=pure false:=by rfl)(hf:X.fn x=true∨X.env.scope.names.lookup x=some .local:=by first|exact .inl rfl|exact .inr rfl|assumption) :
  PS X (.Assign [.Name x pos'] e pos) (aFZ te (a5R i)):=by
 intro pins s σ H D I h;refine wpAny_Assign_Name (thn (he pins s σ H _ I h) fun v s1 ⟨y,H1,I1,r1,q1⟩=>?_) hs;exact uR I1 hN hi hx r1 (fun s2 I2=>⟨_,H1,I2,q1⟩) hf
noncomputable def aQ4 (i j:Nat)(ta:TA):TS:=fun D σ H=>ta σ H fun vs H1=>∃ v w,vs=[v,w]∧D.nx ((σ.set i (some v)).set j (some w)) H1
theorem aLU {i j:Nat}{x y:Str}{a b:Expr}{ta:TA}{px py pt:Pos}{kt k2 pt2}(hc:X.calm=true)(hN:X.N.Nodup)(hi:X.N[i]?=some x)(hj:X.N[j]?=some y)(hij:i≠j)
  (hx:X.env.scope.names.lookup x=some .local) (hy:X.env.scope.names.lookup y=some .local) (ha:PA X [a,b] ta)
  (hw:swappedStores [.Tuple [.Name x px,.Name y py] kt pt] (.Tuple [a,b] k2 pt2) X.env=pure (some [x,y]))
  (hs:swapsWithSole [.Tuple [.Name x px,.Name y py] kt pt] (.Tuple [a,b] k2 pt2) pos.line X.env=pure false:=by rfl) :
  PS X (.Assign [.Tuple [.Name x px,.Name y py] kt pt] (.Tuple [a,b] k2 pt2) pos) (aQ4 i j ta):=by
 intro pins s σ H D I h;rw[exec_Assign_arm];refine wpAny_bind (wpAny_standAt ?_);rw[hs];refine wpAny_bind (wpAny_pure ?_);rw[if_neg (by decide)];refine wpAny_bind (Tuple_ (thn (ha _ pins s σ H _ I h) fun us s1 ⟨vs,H1,I1,r1,q1⟩=>?_));obtain⟨v,w,e1,q1⟩:=q1;subst e1;obtain⟨u1,u2,rfl,rv,rw'⟩:∃ u1 u2,us=[u1,u2]∧RelV v u1∧RelV w u2:=by
  cases r1 with
  | cons p q=>
   cases q with
   | cons p' q'=>
    cases q'
    exact⟨_,_,rfl,p,p'⟩
 refine wpAny_newObj_type ?_ (by show 2≤sizeLine; decide);have I2:Inv X pins σ H1 { s1 with heap:=s1.heap.push { cls:=.type "tuple", data:=.seq [u1,u2].toArray } }:=I1.kept (t':=s1.toks) fun b o e=>Heap.get?_push_of_some _ e;rw[hw];refine wpAny_bind (wpAny_pure ?_);show wpAny (model X.prog X.w) X.A (do rule "assign.swapped-stores"; let items←unpackItems (.ref s1.heap.objs.size) 2 none; assignInOrder [fun v=>bindName X.env y v,fun v=>bindName X.env x v] items.reverse; pure Flow.next) _ _ _;refine wpAny_bind (wpAny_rule (wpAny_bind (unpackItems_tuple (items:=#[u1,u2]) (I.ok.hd hc) (IsTup.new s1.heap _) fun h' hx'=>?_)));have I3:=I2.kept (h':=h') (t':=s1.toks) fun b o e=>hx' b o (Nat.ne_of_lt (Heap.lt_size e)) e;show wpAny _ _ (assignInOrder [fun v=>bindName X.env y v,fun v=>bindName X.env x v] [u2,u1] >>= fun _=>pure Flow.next) _ _ _;refine wpAny_bind (assignInOrder_cons (wpAny_bindName (uR I3 hN hj (.inl hy) rw' (fun s2 I4=>?_) (.inr hy))));refine assignInOrder_cons (wpAny_bindName (uR I4 hN hi (.inl hx) rv (fun s3 I5=>assignInOrder_nil (wpAny_pure ?_)) (.inr hx)));rw[List.set_comm _ _ (Ne.symm hij)] at I5;exact⟨_,H1,I5,q1⟩
noncomputable def aQF (i:Nat)(te:TE)(ti:TIp):TS:=fun D σ H=>∃ x,σ[i]?=some (some x)∧te σ H fun y H1=>ti x y H1 fun z H2=>D.nx (σ.set i (some z)) H2
theorem aKK {i:Nat}{x:Str}{e:Expr}{te:TE}{op:Operator}{ti:TIp}{pos':Pos}(hN:X.N.Nodup)(hi:X.N[i]?=some x)(hx:Loc X.env.scope x)(he:PE X e te)(ho:PIp X op ti)(hf:X.fn x=true∨X.env.scope.names.lookup x=some .local:=by first|exact .inl rfl|exact .inr rfl|assumption) :
  PS X (.AugAssign (.Name x pos') op e pos) (aQF i te ti):=by
 intro pins s σ H D I h;obtain⟨v,e1,h⟩:=h;obtain⟨m,hn,hl⟩:=I.loc;have vis:Vis X.env.scope x:=by rcases hx with k|k; exact .inl k; exact .inr (.inl k)
 obtain⟨u,r,l⟩:=hl i x v hi e1 vis;refine wpAny_AugAssign_Name ?_;have go:wpAny (model X.prog X.w) X.A (eval e X.env) (fun w s₂=>wpAny (model X.prog X.w) X.A (inplaceOp op u w) (fun r s₃=>wpAny (model X.prog X.w) X.A (storeName X.env x r) (fun _=>SP X pins D .next) X.xe s₃) X.xe s₂) X.xe s:=by
  refine thn (he pins s σ H _ I h) fun w s1 ⟨y,H1,I1,r1,q1⟩=>?_;refine thn (ho pins s1 σ H1 v y u w _ I1 r r1 q1) fun z s2 ⟨zv,H2,I2,r2,q2⟩=>?_;exact uR I2 hN hi hx r2 (fun s3 I3=>⟨_,H2,I3,q2⟩) hf
 rcases l with⟨hk,hm⟩|⟨hk,c,hc,hcell⟩
 ·exact wpAny_loadName_local I.ok.kind hk hn hm go
 ·rcases hk with hk|hk
  ·exact wpAny_loadName_cell I.ok.kind hk hc hcell go
  ·rcases hx with k|k
   ·have:X.env.scope.names.lookup x=some .free:=hk;rw[k] at this; cases this
   ·have:X.env.scope.names.lookup x=some .free:=hk;rw[k] at this; cases this
noncomputable def ipI (f:Int→Int→Int):TIp:=fun x y H Q=>∃ i j,x=.int i∧y=.int j∧Q (.int (f i j)) H
theorem aLY:PIp X .Add (ipI fun i j=>i+j):=by
 intro pins s σ H x y v u Q I r1 r2 h;obtain⟨i,j,e1,e2,q⟩:=h;subst e1; subst e2;obtain⟨t,rfl⟩:=r1;obtain⟨t',rfl⟩:=r2;exact iadd_int ⟨.int _,H,I.tok _,⟨_,rfl⟩,q⟩
end
section
variable {X:Cx}{pos:Pos}
noncomputable def aHM (c:TT)(tb:TS):TS:=fun D σ H=>∃ W:Nat→St→Hp→Prop,(∃ m,W m σ H)∧∀ m σ H,W m σ H →
 c σ H fun b H1=>if b=true then ∃ N:St→Hp→Prop,(∀ σ' H',N σ' H'→∃ m',m'<m∧W m' σ' H')∧tb { D with nx:=N,ct:=N,bk:=D.nx } σ H1 else D.nx σ H1
theorem uJ {c:Expr}{body:List Stmt}{tc:TT}{tb:TS}(hp:PassesOwn (model X.prog X.w) X.A X.env X.xe)(hc:PT X c tc)(hb:PSs X body tb):PS X (.While c body [] pos) (aHM tc tb):=by
 intro pins s σ H D I h;obtain⟨W,⟨m0,w0⟩,turn⟩:=h;refine wpAny_While (codeAny_whileLoop (fun n s'=>∃ σ' H',Inv X pins σ' H' s'∧W n σ' H') ?_ m0 ⟨σ,H,I,w0⟩);rintro n s1 ⟨σ1,H1,I1,w1⟩;refine wpAny_passesOwn hp (thn (hc pins s1 σ1 H1 _ I1 (turn n σ1 H1 w1)) fun b s2 ⟨H2,I2,q2⟩=>?_)
 cases b with
 | true=>
  obtain⟨N,hN,q2⟩:=q2;rw[if_pos rfl];refine wpAny_passesOwn hp (thn (hb pins s2 σ1 H2 _ I2 q2) fun f s3 q3=>?_)
  cases f with
  | next=>
   obtain⟨σ3,H3,I3,n3⟩:=q3;obtain⟨m',hm,w3⟩:=hN σ3 H3 n3;exact⟨m',hm,σ3,H3,I3,w3⟩
  | cont=>
   obtain⟨σ3,H3,I3,n3⟩:=q3;obtain⟨m',hm,w3⟩:=hN σ3 H3 n3;exact⟨m',hm,σ3,H3,I3,w3⟩
  | brk=>exact q3
  | ret v=>exact q3
 | false=>
  rw[if_neg Bool.false_ne_true];exact wpAny_execs_nil ⟨σ1,H2,I2,q2⟩
end
structure It where
 go:Nat→Hp→Prop
 yld:Nat→Hp→V→Hp→Prop
 stop:Nat→Hp→Prop
noncomputable def aB3 (X:Cx)(pins:List (Addr×Obj))(H:Hp)(b:Addr):Prop:=
 H b=none∧b≠X.env.locals∧b∉X.fs∧(b∈X.ex∨X.s₀.heap.objs.size≤b)∧(∀ x c,X.env.cells.lookup x=some c→c≠b)∧∀ p∈X.pn++pins,p.1≠b
theorem Inv.fpOk {X:Cx}{pins:List (Addr×Obj)}{σ:St}{H H':Hp}{s:Shared}{b:Addr}(I:Inv X pins σ H s)(hb:s.heap.objs.size≤b)(hn:H' b=none):aB3 X pins H' b:=by
 refine⟨hn,Nat.ne_of_gt (Nat.lt_of_lt_of_le I.lt hb),I.nofs hb,.inr (Nat.le_trans I.sz hb),fun x c e z=>?_,fun p hp z=>?_⟩
 ·obtain⟨v,q⟩:=I.cell x c e;exact absurd (Nat.lt_of_lt_of_le q.lt (by rw[z]; exact hb)) (Nat.lt_irrefl _)
 ·exact absurd (Nat.lt_of_lt_of_le (Heap.lt_size (I.pin p hp).1) (by rw[z]; exact hb)) (Nat.lt_irrefl _)
structure Turn (P:Program)(w:World)(K:PySem.W.Frag)(tg:Expr)(J:It)(fp:List Addr)(it:Addr)(tn:Nat→Heap→Prop):Prop where
 mem:it∈fp
 obj:∀ i h,tn i h→∀ b∈fp,∃ o,h.get? b=some o∧∀ v,o.data≠.cell v
 keep:∀ i h h',tn i h→(∀ b∈fp,∀ o,h.get? b=some o→h'.get? b=some o)→tn i h'
 item:∀(X:Cx),X.prog=P→X.w=w→X.K=K→X.calm=true→∀(i:Nat) (pins:List (Addr×Obj)) (s:Shared) (σ:St) (H:Hp) (E:Value→Shared→Prop),Inv X pins σ H s→(∀ b∈fp,aB3 X pins H b)→tn i s.heap→J.go i H →
  wpAny (model P w) X.A (pyNext (.ref it)) (fun r s1=>∃ u,r=some u ∧
   wpAny (model P w) X.A (letOwnedTupleGo tg (.ref it) u) (fun _ s2=>∃ x H',Inv X pins σ H' s2∧RelV x u∧J.yld i H x H'∧tn (i+1) s2.heap∧∀ b∈fp,H' b=none) E s1) E s
 done:∀(X:Cx),X.prog=P→X.w=w→X.K=K→X.calm=true→∀(i:Nat) (pins:List (Addr×Obj)) (s:Shared) (σ:St) (H:Hp) (E:Value→Shared→Prop),Inv X pins σ H s→(∀ b∈fp,aB3 X pins H b)→tn i s.heap→J.stop i H →
  wpAny (model P w) X.A (pyNext (.ref it)) (fun r s1=>r=none∧Inv X pins σ H s1) E s
 self:∀(A:Around) (i:Nat) (s:Shared) (Q:Value→Shared→Prop) (E:Value→Shared→Prop),tn i s.heap→Q (.ref it) s→wpAny (model P w) A (pyIter (.ref it)) Q E s
abbrev TI:=St→Hp→(It→Hp→Prop)→Prop
noncomputable def PIE (X:Cx)(pins:List (Addr×Obj))(σ:St)(tg:Expr)(R:It→Hp→Prop)(itv:Value)(s2:Shared):Prop:=
 ∃(it:Addr) (fp:List Addr) (tn:Nat→Heap→Prop) (J:It) (H':Hp),itv=.ref it∧Inv X pins σ H' s2∧Turn X.prog X.w X.K tg J fp it tn∧tn 0 s2.heap∧(∀ b∈fp,aB3 X pins H' b)∧R J H'
noncomputable def PI (X:Cx)(tg iter:Expr)(wi:TI):Prop:=
 ∀(pins:List (Addr×Obj)) (s:Shared) (σ:St) (H:Hp) (R:It→Hp→Prop),Inv X pins σ H s→wi σ H R →
  wpAny (model X.prog X.w) X.A (eval iter X.env) (fun v s1=>wpAny (model X.prog X.w) X.A (pyIter v) (PIE X pins σ tg R) X.xe s1) X.xe s
theorem aIK {M:Model}{A:Around}{E:Value→Shared→Prop}{s:Shared}{tg:Expr}{it:Addr}{u:Value}{o:Obj}{n:String}{vs:Array Value}{Q:Unit→Shared→Prop}(ho:s.heap.get? it=some o)(hc:o.cls=.type n)(hd:o.data=.fields vs)
    (hn:["enumerate", "zip", "dict_itemiterator", "dict_reverseitemiterator", "odict_iterator", "itertools.zip_longest", "itertools.pairwise"].contains n=false) (hQ:Q () s):wpAny M A (letOwnedTupleGo tg (.ref it) u) Q E s:=by
  unfold letOwnedTupleGo
  cases tg<;>first
    | exact wpAny_pure hQ
    | (cases u<;>first
        | exact wpAny_pure hQ
        | (refine wpAny_bind (wpAny_load ho ?_)
           rw[hc,hd];show wpAny M A (if (["enumerate", "zip", "dict_itemiterator", "dict_reverseitemiterator", "odict_iterator", "itertools.zip_longest", "itertools.pairwise"].contains n&&vs[0]?==some (rawInt _))=true then _ else _) Q E s;rw[if_neg (by intro h; rw[hn,Bool.false_and] at h; cases h)];exact wpAny_pure hQ))
noncomputable def Itl (K:PySem.W.Frag)(a:Addr):It:=
 ⟨fun i H=>∃ xs x,SqL K H a xs∧xs[i]?=some x,fun i H x H'=>H'=H∧∀ xs,SqL K H a xs→xs[i]?=some x,fun i H=>∃ xs,SqL K H a xs∧xs.length≤i⟩
noncomputable def Itt (K:PySem.W.Frag)(a:Addr):It:=
 ⟨fun i H=>∃ xs x,SqT K H a xs∧xs[i]?=some x,fun i H x H'=>H'=H∧∀ xs,SqT K H a xs→xs[i]?=some x,fun i H=>∃ xs,SqT K H a xs∧xs.length≤i⟩
noncomputable def Itr (lo:Int)(n:Nat):It:=⟨fun i _=>i<n,fun i H x H'=>H'=H∧x=.int (lo+i),fun i _=>n≤i⟩
theorem aC4 {P:Program}{w:World}{K:PySem.W.Frag}{tg:Expr}(a it:Addr):Turn P w K tg (Itl K a) [it] it (fun i h=>h.IsListIter it a i) where
 mem:=by simp
 obj:=fun i h st b hb=>by
  have e:b=it:=by simpa using hb
  subst e;obtain⟨o,e,c,d⟩:=st;exact⟨o,e,fun v z=>by rw[d] at z; cases z⟩
 keep:=fun i h h' st k=>st.at fun o e=>k it (by simp) o e
 item:=by
  intro X hP hw hK hc i pins s σ H E I hf st hg;subst hP hw hK;obtain⟨xs,x,hq,hx⟩:=hg;obtain⟨its,rv,p,hz⟩:=I.list hq;obtain⟨u,hu,ru⟩:=rv.get hx;obtain⟨f0,f1,f2,f3,f4,f5⟩:=hf it (by simp);refine wpAny_pyNext_list_item st p.isList (x:=u) (by simpa using hu) fun h' st' sb=>?_;have I1:Inv X pins σ H { s with heap:=h' }:=I.turned (t':=s.toks) (fun b o hb e=>(sb.2 b hb).trans e) f0 f1 f3 f4 f5;obtain⟨o,e,c,d⟩:=id st';exact⟨u,rfl,aIK (s:={ s with heap:=h' }) e c d (by decide) ⟨x,H,I1,ru,⟨rfl,fun ys hy=>by rw[I.list_inj hy hq]; exact hx⟩,st',fun b hb=>(hf b hb).1⟩⟩
 done:=by
  intro X hP hw hK hc i pins s σ H E I hf st hg;subst hP hw hK;obtain⟨xs,hq,hx⟩:=hg;obtain⟨its,rv,p,hz⟩:=I.list hq;obtain⟨f0,f1,f2,f3,f4,f5⟩:=hf it (by simp);have hl:=rv.length;exact wpAny_pyNext_list_end (I.ok.hd hc) st p.isList (by simp; omega) fun h' eb=>⟨rfl,I.turned (t':=s.toks) (fun b o hb e=>eb b o hb e) f0 f1 f3 f4 f5⟩
 self:=fun _ _ _ _ _ st h=>wpAny_pyIter_listiter st h
theorem aAV {P:Program}{w:World}{K:PySem.W.Frag}{tg:Expr}(a it:Addr):Turn P w K tg (Itt K a) [it] it (fun i h=>h.IsTupleIter it a i) where
 mem:=by simp
 obj:=fun i h st b hb=>by
  have e:b=it:=by simpa using hb
  subst e;obtain⟨o,e,c,d⟩:=st;exact⟨o,e,fun v z=>by rw[d] at z; cases z⟩
 keep:=fun i h h' st k=>st.at fun o e=>k it (by simp) o e
 item:=by
  intro X hP hw hK hc i pins s σ H E I hf st hg;subst hP hw hK;obtain⟨xs,x,hq,hx⟩:=hg;obtain⟨its,rv,p,hz⟩:=I.tuple hq;obtain⟨u,hu,ru⟩:=rv.get hx;obtain⟨f0,f1,f2,f3,f4,f5⟩:=hf it (by simp);refine wpAny_pyNext_tuple_item st (show s.heap.IsTuple a its.toArray from p) (x:=u) (by simpa using hu) fun h' st' sb=>?_;have I1:Inv X pins σ H { s with heap:=h' }:=I.turned (t':=s.toks) (fun b o hb e=>(sb.2 b hb).trans e) f0 f1 f3 f4 f5;obtain⟨o,e,c,d⟩:=id st';exact⟨u,rfl,aIK (s:={ s with heap:=h' }) e c d (by decide) ⟨x,H,I1,ru,⟨rfl,fun ys hy=>by rw[I.tuple_inj hy hq]; exact hx⟩,st',fun b hb=>(hf b hb).1⟩⟩
 done:=by
  intro X hP hw hK hc i pins s σ H E I hf st hg;subst hP hw hK;obtain⟨xs,hq,hx⟩:=hg;obtain⟨its,rv,p,hz⟩:=I.tuple hq;obtain⟨f0,f1,f2,f3,f4,f5⟩:=hf it (by simp);have hl:=rv.length;exact wpAny_pyNext_tuple_end (I.ok.hd hc) st (show s.heap.IsTuple a its.toArray from p) (by simp; omega) fun h' eb=>⟨rfl,I.turned (t':=s.toks) (fun b o hb e=>eb b o hb e) f0 f1 f3 f4 f5⟩
 self:=fun _ _ _ _ _ st h=>wpAny_pyIter_tupleiter st h
theorem aAF {P:Program}{w:World}{K:PySem.W.Frag}{tg:Expr}(it:Addr)(lo:Int)(n:Nat):Turn P w K tg (Itr lo n) [it] it (fun i h=>IsRangeIter h it (lo+(i:Nat)*1) ((n:Int)-(i:Nat)) 1) where
 mem:=by simp
 obj:=fun i h st b hb=>by
  have e:b=it:=by simpa using hb
  subst e;exact⟨_,st,fun v z=>by
   have z':Data.fields _=Data.cell v:=z
   cases z'⟩
 keep:=fun i h h' st k=>k it (by simp) _ st
 item:=by
  intro X hP hw hK hc i pins s σ H E I hf st hg;subst hP hw hK;obtain⟨f0,f1,f2,f3,f4,f5⟩:=hf it (by simp);have W:=Walks.range (prog:=X.prog) (w:=X.w) (I.ok.hd hc) it lo 1 n;refine W.item i s _ _ hg st fun v h' tk hv st' kk=>?_;obtain⟨t,rfl⟩:=hv;have I1:Inv X pins σ H { s with heap:=h',toks:=tk }:=I.turned (fun b o hb e=>kk b o (by simpa using hb) e) f0 f1 f3 f4 f5;refine⟨_,rfl,aIK (s:={ s with heap:=h',toks:=tk }) (n := "range_iterator") st' rfl rfl (by decide) ⟨.int (lo+i),H,I1,⟨t,?_⟩,⟨rfl,rfl⟩,st',fun b hb=>(hf b hb).1⟩⟩;rw[Int.mul_one]
 done:=by
  intro X hP hw hK hc i pins s σ H E I hf st hg;subst hP hw hK;obtain⟨f0,f1,f2,f3,f4,f5⟩:=hf it (by simp);exact wpAny_pyNext_range_end (I.ok.hd hc) st (by have:n≤i:=hg; omega) fun h' eb=>⟨rfl,I.turned (t':=s.toks) (fun b o hb e=>eb b o hb e) f0 f1 f3 f4 f5⟩
 self:=fun _ _ _ _ _ st h=>wpAny_pyIter_rangeiter st h
end L2
namespace L2
open PySem PySem.Spec PyProof.Rows
section
variable {X:Cx}{tg:Expr}
noncomputable def aLS (K:PySem.W.Frag)(tl:TE):TI:=fun σ H R=>tl σ H fun x H1=>∃ a,x=.ref a∧(∃ xs,SqL K H1 a xs)∧R (Itl K a) H1
noncomputable def aQH (K:PySem.W.Frag)(tl:TE):TI:=fun σ H R=>tl σ H fun x H1=>∃ a,x=.ref a∧(∃ xs,SqT K H1 a xs)∧R (Itt K a) H1
theorem sH {l:Expr}{tl:TE}(hl:PE X l tl):PI X tg l (aLS X.K tl):=by
 intro pins s σ H R I h;refine thn (hl pins s σ H _ I h) fun v s1 ⟨x,H1,I1,r1,q1⟩=>?_;obtain⟨a,e,⟨xs,hq⟩,q⟩:=q1;subst e
 cases r1
 obtain⟨its,rv,p,hz⟩:=I1.list hq;refine wpAny_pyIter_list p.isList ?_;refine⟨s1.heap.objs.size,[s1.heap.objs.size],_,_,H1,rfl,I1.kept (t':=s1.toks) fun b o e=>Heap.get?_push_of_some _ e,aC4 a _,⟨_,Heap.get?_push_size _ rfl,rfl,rfl⟩,fun b hb=>?_,q⟩;have e:b=s1.heap.objs.size:=by simpa using hb
 subst e;exact I1.fpOk (Nat.le_refl _) (I1.hok.fresh (Nat.le_refl _))
theorem aLB {l:Expr}{tl:TE}(hl:PE X l tl):PI X tg l (aQH X.K tl):=by
 intro pins s σ H R I h;refine thn (hl pins s σ H _ I h) fun v s1 ⟨x,H1,I1,r1,q1⟩=>?_;obtain⟨a,e,⟨xs,hq⟩,q⟩:=q1;subst e
 cases r1
 obtain⟨its,rv,p,hz⟩:=I1.tuple hq;refine wpAny_pyIter_tuple (show s1.heap.IsTuple a its.toArray from p) ?_;refine⟨s1.heap.objs.size,[s1.heap.objs.size],_,_,H1,rfl,I1.kept (t':=s1.toks) fun b o e=>Heap.get?_push_of_some _ e,aAV a _,⟨_,Heap.get?_push_size _ rfl,rfl,rfl⟩,fun b hb=>?_,q⟩;have e:b=s1.heap.objs.size:=by simpa using hb
 subst e;exact I1.fpOk (Nat.le_refl _) (I1.hok.fresh (Nat.le_refl _))
theorem a9O {pins:List (Addr×Obj)}{σ:St}{H:Hp}{s:Shared}{R:It→Hp→Prop}{E:Value→Shared→Prop}{lo hi:Int}{t u v:Tok}{tk:Nat}(I:Inv X pins σ H s)(h1 : -(2^62)≤lo)(h2:lo<2^62)(h3 : -(2^62)≤hi)(h4:hi<2^62)
  (q:R (Itr lo (hi-lo).toNat) H):wpAny (model X.prog X.w) X.A (pyIter (.ref s.heap.objs.size)) (PIE X pins σ tg R) E { s with heap:=s.heap.push { cls:=.type "range", data:=.fields #[.int lo t,.int hi u,.int 1 v] },toks:=tk }:=by
 refine wpAny_pyIter_range (IsRange.new ..) (small_one h1 h2 h3 h4) ?_;have I1:Inv X pins σ H { s with heap:=s.heap.push { cls:=.type "range", data:=.fields #[.int lo t,.int hi u,.int 1 v] },toks:=tk }:=I.kept fun b o e=>Heap.get?_push_of_some _ e;refine⟨(s.heap.push { cls:=.type "range", data:=.fields #[.int lo t,.int hi u,.int 1 v] }).objs.size,[(s.heap.push { cls:=.type "range", data:=.fields #[.int lo t,.int hi u,.int 1 v] }).objs.size],_,_,H,rfl,
  I1.kept (t':=tk) fun b o e=>Heap.get?_push_of_some _ e,aAF _ lo (hi-lo).toNat,?_,fun b hb=>?_,q⟩
 ·have e1:lo+((0:Nat):Int)*1=lo:=by simp
  have e2:(((hi-lo).toNat:Nat):Int)-((0:Nat):Int)=Builtin.Range.rangeSize lo hi 1:=by rw[rangeSize_one]; split<;>omega
  show IsRangeIter _ _ (lo+((0:Nat):Int)*1) ((((hi-lo).toNat:Nat):Int)-((0:Nat):Int)) 1;rw[e1,e2];exact Heap.get?_push_size _ rfl
 ·have e:b=(s.heap.push { cls:=.type "range", data:=.fields #[.int lo t,.int hi u,.int 1 v] }).objs.size:=by simpa using hb
  subst e;exact I1.fpOk (Nat.le_refl _) (I1.hok.fresh (Nat.le_refl _))
noncomputable def aKR (ta:TA):TI:=fun σ H R=>ta σ H fun vs H1=>∃ j:Int,vs=[.int j] ∧ -(2^62)≤j∧j<2^62∧R (Itr 0 j.toNat) H1
noncomputable def aLG (ta:TA):TI:=fun σ H R=>ta σ H fun vs H1=>∃ i j:Int,vs=[.int i,.int j]∧(-(2^62)≤i∧i<2^62 ∧ -(2^62)≤j∧j<2^62)∧R (Itr i (j-i).toNat) H1
theorem mV {a:Expr}{ta:TA}{p pos:Pos}(hg:Gl X "range")(hm:X.mg "range" = none)(ha:PA X [a] ta)(hs:starEach [a] X.env=[(false,eval a X.env)]:=by rfl):PI X tg (.Call (.Name "range" p) [a] [] pos) (aKR ta):=by
 intro pins s σ H R I h;refine Call_ (wM I hg hm boot_range (PyProof.Rows.callWith_type1 (thn (ha pos pins s σ H _ I h) fun us s1 ⟨vs,H1,I1,r1,q1⟩=>?_) hs rfl));obtain⟨j,e,q1,q2,q⟩:=q1;subst e
 cases r1 with
 | cons r rr=>
  cases rr
  obtain⟨t,rfl⟩:=r;exact call_range_1 (a9O I1 (by omega) (by omega) q1 q2 (by simpa using q))
theorem aCN {a b:Expr}{ta:TA}{p pos:Pos}(hg:Gl X "range")(hm:X.mg "range" = none)(ha:PA X [a,b] ta)(hs:starEach [a,b] X.env=[(false,eval a X.env),(false,eval b X.env)]:=by rfl)(hs2:starEach [b] X.env=[(false,eval b X.env)]:=by rfl) :
  PI X tg (.Call (.Name "range" p) [a,b] [] pos) (aLG ta):=by
 intro pins s σ H R I h;refine Call_ (wM I hg hm boot_range (PyProof.Rows.callWith_type1 (thn (ha pos pins s σ H _ I h) fun us s1 ⟨vs,H1,I1,r1,q1⟩=>?_) (by rw[hs,hs2]) (by rw[hs2]; rfl)));obtain⟨i,j,e,⟨q1,q2,q3,q4⟩,q⟩:=q1;subst e
 cases r1 with
 | cons r rr=>
  cases rr with
  | cons r' rr=>
   cases rr
   obtain⟨t,rfl⟩:=r;obtain⟨t',rfl⟩:=r';exact call_range_2 (a9O I1 q1 q2 q3 q4 q)
noncomputable def aQ5 (wi:TI)(g:TG)(tb:TS):TS:=fun D σ H=>wi σ H fun J H1=>∃ W:Nat→Nat→St→Hp→Prop,(∃ m,W 0 m σ H1)∧∀ i m σ H,W i m σ H →
 (J.stop i H∧D.nx σ H)∨(J.go i H∧∃ N:St→Hp→Prop,(∀ σ' H',N σ' H'→∃ m',m'<m∧W (i+1) m' σ' H')∧∀ x H',J.yld i H x H'→g x σ H' fun σ2 H2=>tb { D with nx:=N,ct:=N,bk:=D.nx } σ2 H2)
noncomputable def a68 (fp:List Addr)(h:Heap):List (Addr×Obj):=fp.filterMap fun b=>(h.get? b).map fun o=>(b,o)
theorem pZ {fp:List Addr}{h:Heap}{b:Addr}{o:Obj}(hb:b∈fp)(e:h.get? b=some o):(b,o)∈a68 fp h:=List.mem_filterMap.mpr ⟨b,hb,by rw[e]; rfl⟩
theorem aC2 {fp:List Addr}{h:Heap}{p:Addr×Obj}(hp:p∈a68 fp h):p.1∈fp∧h.get? p.1=some p.2:=by
 obtain⟨b,hb,e⟩:=List.mem_filterMap.mp hp
 cases q:h.get? b with
 | none=>rw[q] at e; cases e
 | some o=>
  rw[q] at e;have e':(b,o)=p:=Option.some.inj e;subst e';exact⟨hb,q⟩
theorem Inv.pinned {pins:List (Addr×Obj)}{σ:St}{H:Hp}{s:Shared}{fp:List Addr}(I:Inv X pins σ H s)(hf:∀ b∈fp,aB3 X pins H b)(ho:∀ b∈fp,∃ o,s.heap.get? b=some o∧∀ v,o.data≠.cell v):Inv X (pins++a68 fp s.heap) σ H s:=
 I.pins_of fun p hp=>(List.mem_append.mp hp).elim (fun z=>I.pin p (List.mem_append_right _ z)) fun z=>by
  obtain⟨hb,e⟩:=aC2 z;obtain⟨f0,f1,f2,_⟩:=hf p.1 hb;obtain⟨o,e',d⟩:=ho p.1 hb;rw[e] at e'; cases e';exact⟨e,f0,f1,f2,d⟩
theorem Inv.unpinned {pins pl:List (Addr×Obj)}{σ:St}{H:Hp}{s:Shared}(I:Inv X (pins++pl) σ H s):Inv X pins σ H s:=I.pins_of fun p hp=>I.pin p (List.mem_append_right _ (List.mem_append_left _ hp))
theorem rM {iter:Expr}{body:List Stmt}{wi:TI}{g:TG}{tb:TS}{pos:Pos}(hp:PassesOwn (model X.prog X.w) X.A X.env X.xe)(hc:X.calm=true)(hi:PI X tg iter wi)(hg:PG X tg g)(hb:PSs X body tb)
  (hs:∀ x,foldedSetIterable iter X.env x=pure x:=by intro _; rfl):PS X (.For tg iter body [] pos) (aQ5 wi g tb):=by
 intro pins s σ H D I h;refine wpAny_For (thn (hi pins s σ H _ I h) fun v s1 h1=>thn h1 fun itv s2 h2=>?_) hs;obtain⟨it,fp,tn,J,H2,e,I2,T,st2,f2,W,⟨m0,w0⟩,turn⟩:=h2;subst e;have stat:∀{H':Hp},(∀ b∈fp,H' b=none)→∀ b∈fp,aB3 X pins H' b:=fun hn b hb=>⟨hn b hb,(f2 b hb).2⟩;refine codeAny_forLoop_any (fun n s'=>∃ i σ' H',Inv X pins σ' H' s'∧tn i s'.heap∧(∀ b∈fp,H' b=none)∧W i n σ' H') ?_ m0 ⟨0,σ,H2,I2,st2,fun b hb=>(f2 b hb).1,w0⟩;rintro n s3 ⟨i,σ3,H3,I3,st3,fr3,w3⟩;rcases turn i n σ3 H3 w3 with⟨stop,qn⟩|⟨go,N,hN,step⟩
 ·refine wpAny_passesOwn hp (thn (T.done X rfl rfl rfl hc i pins s3 σ3 H3 X.xe I3 (stat fr3) st3 stop) fun r s4 ⟨hr,I4⟩=>?_);subst hr;exact wpAny_execs_nil ⟨σ3,H3,I4,qn⟩
 ·refine wpAny_passesOwn hp (thn (T.item X rfl rfl rfl hc i pins s3 σ3 H3 X.xe I3 (stat fr3) st3 go) fun r s4 ⟨u,hr,h4⟩=>?_);subst hr;refine wpAny_passesOwn hp (thn h4 fun _ s5 ⟨x,H5,I5,r5,y5,st5,fr5⟩=>?_);have I5':=I5.pinned (stat fr5) (T.obj _ _ st5);refine wpAny_passesOwn hp (thn (hg _ s5 σ3 H5 x u _ I5' r5 (step x H5 y5)) fun _ s6 ⟨σ6,H6,I6,q6⟩=>?_);refine wpAny_passesOwn hp (thn (hb _ s6 σ6 H6 _ I6 q6) fun f s7 q7=>?_);have again:∀{σ7:St} {H7:Hp},Inv X (pins++a68 fp s5.heap) σ7 H7 s7→N σ7 H7→∃ m,m<n∧∃ i σ' H',Inv X pins σ' H' s7∧tn i s7.heap∧(∀ b∈fp,H' b=none)∧W i m σ' H':=fun{σ7 H7} I7 n7=>by
   obtain⟨m',hm,w7⟩:=hN σ7 H7 n7;refine⟨m',hm,i+1,σ7,H7,I7.unpinned,T.keep _ _ _ st5 fun b hb o e=>(I7.pin (b,o) (List.mem_append_right _ (List.mem_append_right _ (pZ hb e)))).1,fun b hb=>?_,w7⟩;obtain⟨o,e,d⟩:=T.obj _ _ st5 b hb;exact(I7.pin (b,o) (List.mem_append_right _ (List.mem_append_right _ (pZ hb e)))).2.1
  cases f with
  | next=>obtain⟨σ7,H7,I7,n7⟩:=q7; exact again I7 n7
  | cont=>obtain⟨σ7,H7,I7,n7⟩:=q7; exact again I7 n7
  | brk=>obtain⟨σ7,H7,I7,q7⟩:=q7; exact⟨σ7,H7,I7.unpinned,q7⟩
  | ret v=>obtain⟨x7,σ7,H7,I7,r7,q7⟩:=q7; exact⟨x7,σ7,H7,I7.unpinned,r7,q7⟩
end
end L2
namespace L2
open PySem PySem.Spec PyProof.Rows
abbrev R2:=V→V→Hp→VK→Prop
noncomputable def OpR (X:Cx)(f:Value→Value→Sem Value)(r:R2):Prop:=
 ∀(pins:List (Addr×Obj)) (s:Shared) (σ:St) (H:Hp) (x y:V) (v u:Value) (Q:VK),Inv X pins σ H s→RelV x v→RelV y u→r x y H Q →
  wpAny (model X.prog X.w) X.A (f v u) (EP X pins σ Q) X.xe s
noncomputable def UnR (X:Cx)(f:Value→Sem Value)(r:V→Hp→VK→Prop):Prop:=
 ∀(pins:List (Addr×Obj)) (s:Shared) (σ:St) (H:Hp) (x:V) (v:Value) (Q:VK),Inv X pins σ H s→RelV x v→r x H Q →
  wpAny (model X.prog X.w) X.A (f v) (EP X pins σ Q) X.xe s
noncomputable def a0M (X:Cx)(f:Value)(r:List V→Hp→VK→Prop):Prop:=
 ∀(pins:List (Addr×Obj)) (s:Shared) (σ:St) (H:Hp) (xs:List V) (us:List Value) (Q:VK),Inv X pins σ H s→Vals xs us→r xs H Q →
  wpAny (model X.prog X.w) X.A (call f us) (EP X pins σ Q) X.xe s
noncomputable def tOp (r:R2)(ta tb:TE):TE:=fun σ H Q=>ta σ H fun x H1=>tb σ H1 fun y H2=>r x y H2 Q
noncomputable def tUn (r:V→Hp→VK→Prop)(ta:TE):TE:=fun σ H Q=>ta σ H fun x H1=>r x H1 Q
noncomputable def rI (C:Int→Int→Prop)(g:Int→Int→V):R2:=fun x y H Q=>∃ i j,x=.int i∧y=.int j∧C i j∧Q (g i j) H
noncomputable def rI0 (g:Int→Int→V):R2:=fun x y H Q=>∃ i j,x=.int i∧y=.int j∧Q (g i j) H
noncomputable def rU (g:Int→V):V→Hp→VK→Prop:=fun x H Q=>∃ i,x=.int i∧Q (g i) H
section
variable {X:Cx}{a b c:Expr}{ta tb tc:TE}{pos:Pos}
theorem aNU (ha:PE X a ta)(hb:PE X b tb){pins:List (Addr×Obj)}{s:Shared}{σ:St}{H:Hp}{R:V→V→Hp→Prop}(I:Inv X pins σ H s)
  (h:ta σ H fun x H1=>tb σ H1 fun y H2=>R x y H2) {Q:Value→Shared→Prop} {f:Value→Value→Sem Value}
  (hf:∀ v u s2 x y H2,Inv X pins σ H2 s2→RelV x v→RelV y u→R x y H2→wpAny (model X.prog X.w) X.A (f v u) Q X.xe s2) :
  wpAny (model X.prog X.w) X.A (eval a X.env) (fun v s₁=>wpAny (model X.prog X.w) X.A (eval b X.env) (fun u s₂=>wpAny (model X.prog X.w) X.A (f v u) Q X.xe s₂) X.xe s₁) X.xe s:=by
 refine thn (ha pins s σ H _ I h) fun v s1 ⟨x,H1,I1,r1,q1⟩=>?_;refine thn (hb pins s1 σ H1 _ I1 q1) fun u s2 ⟨y,H2,I2,r2,q2⟩=>?_;exact hf v u s2 x y H2 I2 r1 r2 q2
theorem bJ {op:Operator}{r:R2}(ho:OpR X (binaryOp op) r)(ha:PE X a ta)(hb:PE X b tb):PE X (.BinOp a op b pos) (tOp r ta tb):=by
 intro pins s σ H Q I h;exact wpAny_BinOp (aNU ha hb I h fun v u s2 x y H2 I2 rx ry q=>ho pins s2 σ H2 x y v u Q I2 rx ry q)
theorem aC7 {op:UnaryOp}{r:V→Hp→VK→Prop}(ho:UnR X (unaryOp op) r)(ha:PE X a ta):PE X (.UnaryOp op a pos) (tUn r ta):=by
 intro pins s σ H Q I h;exact UnaryOp_ (thn (ha pins s σ H _ I h) fun v s1 ⟨x,H1,I1,r1,q1⟩=>ho pins s1 σ H1 x v Q I1 r1 q1)
theorem opI {f:Value→Value→Sem Value}{C:Int→Int→Prop}{g:Int→Int→Int}
  (rule:∀(i j:Int) (t u:Tok) (s:Shared) (Q:Value→Shared→Prop) (E:Value→Shared→Prop),C i j→Q (.int (g i j) s.toks) { s with toks:=s.toks+1 }→wpAny (model X.prog X.w) X.A (f (.int i t) (.int j u)) Q E s) :
  OpR X f (rI C fun i j=>.int (g i j)):=by
 intro pins s σ H x y v u Q I rx ry h;obtain⟨i,j,rfl,rfl,hc,q⟩:=h;obtain⟨t,rfl⟩:=rx;obtain⟨t',rfl⟩:=ry;exact rule i j t t' s _ _ hc ⟨.int (g i j),H,I.tok _,⟨_,rfl⟩,q⟩
theorem aPO {f:Value→Value→Sem Value}{g:Int→Int→Int}
  (rule:∀(i j:Int) (t u:Tok) (s:Shared) (Q:Value→Shared→Prop) (E:Value→Shared→Prop),Q (.int (g i j) s.toks) { s with toks:=s.toks+1 }→wpAny (model X.prog X.w) X.A (f (.int i t) (.int j u)) Q E s) :
  OpR X f (rI0 fun i j=>.int (g i j)):=by
 intro pins s σ H x y v u Q I rx ry h;obtain⟨i,j,rfl,rfl,q⟩:=h;obtain⟨t,rfl⟩:=rx;obtain⟨t',rfl⟩:=ry;exact rule i j t t' s _ _ ⟨.int (g i j),H,I.tok _,⟨_,rfl⟩,q⟩
theorem aNB {f:Value→Value→Sem Value}{g:Int→Int→Bool}
  (rule:∀(i j:Int) (t u:Tok) (s:Shared) (Q:Value→Shared→Prop) (E:Value→Shared→Prop),Q (.bool (g i j)) s→wpAny (model X.prog X.w) X.A (f (.int i t) (.int j u)) Q E s) :
  OpR X f (rI0 fun i j=>.bl (g i j)):=by
 intro pins s σ H x y v u Q I rx ry h;obtain⟨i,j,rfl,rfl,q⟩:=h;obtain⟨t,rfl⟩:=rx;obtain⟨t',rfl⟩:=ry;exact rule i j t t' s _ _ ⟨.bl (g i j),H,I,rfl,q⟩
noncomputable def aPR (i j:Int):Prop:=0<j∧j<1073741824
noncomputable def aQ8 (i j:Int):Prop:=0≤j∧j≤1000000∧i.natAbs<2^64
theorem eQ:OpR X (binaryOp .Add) (rI0 fun i j=>.int (i+j)):=aPO fun _ _ _ _ _ _ _ q=>add_int q
theorem wC:OpR X (binaryOp .Sub) (rI0 fun i j=>.int (i-j)):=aPO fun _ _ _ _ _ _ _ q=>sub_int q
theorem aCW:OpR X (binaryOp .FloorDiv) (rI aPR fun i j=>.int (i/j)):=opI fun i j _ _ _ _ _ hc q=>by
 have h1:(0:Int)<j:=hc.1;have h2:j<1073741824:=hc.2;exact floordiv_int (by omega) (by rw[Int.fdiv_eq_ediv_of_nonneg i (by omega)]; exact q) (.inl (PyProof.noPylong_small (by omega)))
theorem p8:OpR X (binaryOp .Mod) (rI (fun _ j=>0<j) fun i j=>.int (i%j)):=opI fun i j _ _ _ _ _ hc q=>by
 have h1:(0:Int)<j:=hc;exact mod_int' (by omega) (by rw[Int.fmod_eq_emod_of_nonneg i (by omega)]; exact q)
theorem aKD:OpR X (binaryOp .Pow) (rI aQ8 fun i j=>.int (i^j.toNat)):=opI fun _ _ _ _ _ _ _ hc q=>pow_int_small hc.1 hc.2.1 hc.2.2 q
theorem unI {f:Value→Sem Value}{g:Int→Int}
  (rule:∀(i:Int) (t:Tok) (s:Shared) (Q:Value→Shared→Prop) (E:Value→Shared→Prop),Q (.int (g i) s.toks) { s with toks:=s.toks+1 }→wpAny (model X.prog X.w) X.A (f (.int i t)) Q E s) :
  UnR X f (rU fun i=>.int (g i)):=by
 intro pins s σ H x v Q I rx h;obtain⟨i,rfl,q⟩:=h;obtain⟨t,rfl⟩:=rx;exact rule i t s _ _ ⟨.int (g i),H,I.tok _,⟨_,rfl⟩,q⟩
theorem a4U:UnR X (unaryOp .USub) (rU fun i=>.int (-i)):=unI fun _ _ _ _ _ q=>neg_int q
end
section
variable {X:Cx}{a b c:Expr}{ta tb tc:TE}{pos:Pos}
theorem aH6 {pins:List (Addr×Obj)}{σ:St}{H:Hp}{s:Shared}{Q:VK}{k k':Bool}(I:Inv X pins σ H s)(q:Q (.bl k) H)(e:k=k'):EP X pins σ Q (.bool k') s:=by
 subst e;exact⟨.bl k,H,I,rfl,q⟩
theorem vN:OpR X (compareOp .Lt) (rI0 fun i j=>.bl (decide (i<j))):=aNB fun _ _ _ _ _ _ _ q=>lt_int q
theorem aON:OpR X (compareOp .LtE) (rI0 fun i j=>.bl (decide (i≤j))):=aNB fun _ _ _ _ _ _ _ q=>le_int q
theorem aFW:OpR X (compareOp .Gt) (rI0 fun i j=>.bl (decide (j<i))):=aNB fun _ _ _ _ _ _ _ q=>gt_int q
theorem aPB:OpR X (compareOp .GtE) (rI0 fun i j=>.bl (decide (j≤i))):=aNB fun _ _ _ _ _ _ _ q=>ge_int q
theorem z8:OpR X (compareOp .Is) (fun x y H Q=>y=.non∧Q (.bl (decide (x=.non))) H):=by
 intro pins s σ H x y v u Q I rx ry h;obtain⟨rfl,q⟩:=h
 cases ry
 refine is_none_gen (aH6 I q ?_)
 cases x<;>first
  | (cases rx; rfl)
  | (obtain⟨t,rfl⟩:=rx; rfl)
theorem vZ:OpR X (compareOp .IsNot) (fun x y H Q=>y=.non∧Q (.bl (!decide (x=.non))) H):=by
 intro pins s σ H x y v u Q I rx ry h;obtain⟨rfl,q⟩:=h
 cases ry
 refine isnot_none_gen (aH6 I q ?_)
 cases x<;>first
  | (cases rx; rfl)
  | (obtain⟨t,rfl⟩:=rx; rfl)
theorem bF (b:Expr){op:CmpOp}(h:op≠.In:=by decide)(h2:op≠.NotIn:=by decide):behindInMarks op b=false:=by
 have e1:(op==CmpOp.In)=false:=by cases op<;>first|rfl|exact absurd rfl h
 have e2:(op==CmpOp.NotIn)=false:=by cases op<;>first|rfl|exact absurd rfl h2
 cases b<;>simp[behindInMarks,e1,e2]
theorem pA {op:CmpOp}{r:R2}(ho:OpR X (compareOp op) r)(ha:PE X a ta)(hb:PE X b tb)(hm:behindInMarks op b=false):PE X (.Compare a [op] [b] pos) (tOp r ta tb):=by
 intro pins s σ H Q I h;exact wpAny_Compare1 (aNU ha hb I h fun v u s2 x y H2 I2 rx ry q=>ho pins s2 σ H2 x y v u Q I2 rx ry q) hm
noncomputable def aMZ (t:TE):TT:=fun σ H Q=>t σ H fun x H'=>∃ k,x=.bl k∧Q k H'
theorem bA {op:CmpOp}{r:R2}(ho:OpR X (compareOp op) r)(ha:PE X a ta)(hb:PE X b tb)(hm:behindInMarks op b=false):PT X (.Compare a [op] [b] pos) (aMZ (tOp r ta tb)):=by
 intro pins s σ H Q I h;refine wpAny_isTrue_Compare1 (thn (ha pins s σ H _ I h) fun v s1 ⟨x,H1,I1,r1,q1⟩=>thn (hb pins s1 σ H1 _ I1 q1) fun u s2 ⟨y,H2,I2,r2,q2⟩=>
  thn (ho pins s2 σ H2 x y v u _ I2 r1 r2 q2) fun c s3 ⟨z,H3,I3,r3,k,e,q3⟩=>?_) hm
 subst e
 cases r3
 exact wpAny_truthy_bool ⟨H3,I3,q3⟩
noncomputable def aGW (r r':R2)(ta tb tc:TE):TE:=fun σ H Q=>ta σ H fun x H1=>tb σ H1 fun y H2=>r x y H2 fun z H3=>∃ k,z=.bl k ∧
 (if k=true then tc σ H3 fun w' H4=>r' y w' H4 Q else Q (.bl false) H3)
theorem aFX {op op':CmpOp}{r r':R2}(ho:OpR X (compareOp op) r)(ho':OpR X (compareOp op') r')(ha:PE X a ta)(hb:PE X b tb)(hc:PE X c tc)
  (hm:lastMarks [op,op'] [b,c]=false:=by with_unfolding_all rfl):PE X (.Compare a [op,op'] [b,c] pos) (aGW r r' ta tb tc):=by
 intro pins s σ H Q I h;refine Compare_chain (thn (ha pins s σ H _ I h) fun v s1 ⟨x,H1,I1,r1,q1⟩=>chain_link (thn (hb pins s1 σ H1 _ I1 q1) fun u s2 ⟨y,H2,I2,r2,q2⟩=>
  thn (ho pins s2 σ H2 x y v u _ I2 r1 r2 q2) fun d s3 ⟨z,H3,I3,r3,k,e,q3⟩=>?_)) hm
 subst e
 cases r3
 refine wpAny_truthy_bool ?_
 cases k with
 | false=>exact ite_ff ⟨.bl false,H3,I3,rfl,q3⟩
 | true=>exact ite_tt (chain_last (thn (hc pins s3 σ H3 _ I3 q3) fun w' s4 ⟨z',H4,I4,r4,q4⟩=>ho' pins s4 σ H4 y z' u w' Q I4 r2 r4 q4))
theorem a1N:(sizeLine:Nat)<2^63:=by rw[sizeLine_eq]; decide
theorem vals1 {x:V}{us:List Value}(r:Vals [x] us):∃ u,us=[u]∧RelV x u:=by
 cases r with
 | cons r1 r2=>cases r2; exact⟨_,rfl,r1⟩
theorem vals2 {x y:V}{us:List Value}(r:Vals [x,y] us):∃ u w',us=[u,w']∧RelV x u∧RelV y w':=by
 cases r with
 | cons r1 r2=>
  cases r2 with
  | cons r3 r4=>cases r4; exact⟨_,_,rfl,r1,r3⟩
theorem qF:a0M X (.builtin "abs") (fun xs H Q=>∃ i,xs=[.int i]∧Q (.int (if i<0 then -i else i)) H):=by
 intro pins s σ H xs us Q I r h;obtain⟨i,rfl,q⟩:=h;obtain⟨u,rfl,t,rfl⟩:=vals1 r;exact call_abs_int fun u tk=>⟨.int (if i<0 then -i else i),H,I.tok _,⟨_,rfl⟩,q⟩
end
end L2
namespace L2
open PySem PySem.Spec PyProof.Rows
structure ObjM (h:Heap)(x dx C:Addr)(mA:Str→Option Value):Prop where
 obj:h.get? x=some (PySem.W.instObj C dx)
 ns:h.Ns1 dx mA
 ne:dx≠x
theorem aBN {h:Heap}{dx:Addr}{mA:Str→Option Value}(n:h.Ns1 dx mA):∃ od,h.get? dx=some od∧∀ name,PySem.W.lookIn name od=some (mA name):=by
 obtain⟨o,es,ep,ho,hd,hk,_,hm⟩:=n;refine⟨o,ho,fun name=>?_⟩;have e:=hm name;unfold nsFind findBy at e;rw[← Array.find?_toList] at e;unfold PySem.W.lookIn;rw[hd];dsimp only
 split
 ·rename_i y q
  rw[q] at e;exact congrArg some e
 ·rename_i q
  rw[q] at e;have a:es.toList.any (·.refKey)=false:=by
   rw[List.any_eq_false];intro y hy;obtain⟨z,t,hkey⟩:=hk y (Array.mem_toList_iff.mp hy);simp[DictEntry.refKey,hkey]
  have a':¬es.toList.any (·.refKey)=true:=by rw[a]; exact Bool.false_ne_true
  rw[if_neg a'];exact congrArg some e
theorem ObjM.look {h:Heap}{x dx C:Addr}{mA:Str→Option Value}(I:ObjM h x dx C mA):∃ od,PySem.W.InstAt h x (PySem.W.instObj C dx) C (some od)∧∀ name,PySem.W.lookIn name od=some (mA name):=
 let ⟨od,ho,hl⟩:=aBN I.ns
 ⟨od,⟨I.obj,rfl,rfl,ho⟩,hl⟩
section
variable {prog:Program}{w:World}{A:Around}{E:Value→Shared→Prop}{s:Shared}{K:PySem.W.Frag}{x dx C f:Addr}{mA:Str→Option Value}{name:Str}{v:Value}
theorem aJQ {expr:Bool}{Q:Value→Shared→Prop}(X:K.In s.heap)(I:ObjM s.heap x dx C mA)(hg:PySem.W.plainGet K C name=true)(hh:PySem.W.hasDictIn K C=true)
  (ha:PySem.W.findIn K (.ref C) name=some none) (hv:mA name=some v) (hv':PySem.W.handedIn v=true) (h:Q v { s with toks:=s.toks+1 }) :
  wpAny (model prog w) A (getAttr (.ref x) name expr) Q E s:=by
 obtain⟨od,J,hl⟩:=I.look;exact PySem.W.get_value X J (PySem.W.plainGet_of hg).1 (PySem.W.findObj_own hh ha rfl (by rw[hl,hv])) hv' h
theorem aFR {pl:Sem Bool}{Q:Value×List Value→Shared→Prop}(X:K.In s.heap)(I:ObjM s.heap x dx C mA)(hg:PySem.W.plainGet K C name=true)
  (hf:PySem.W.findIn K (.ref C) name=some (some (.ref f))) (ht:PySem.W.isFn K (.ref f)=true) (hv:mA name=none) (h:Q (.ref f,[.ref x]) s) :
  wpAny (model prog w) A (getMethod (.ref x) name pl) Q E s:=by
 obtain⟨od,J,hl⟩:=I.look;exact PySem.W.method_fn X J (PySem.W.plainGet_of hg).1 (PySem.W.plainGet_of hg).2 hf (beq_iff_eq.mp ht) (by show(PySem.W.lookIn name od).map (·.isSome)=some false; rw[hl,hv]; rfl) h
theorem aJJ {ns:List Str}{Q:Unit→Shared→Prop}(X:K.In s.heap)(I:ObjM s.heap x dx C mA)
  (hs:PySem.W.findIn K (.ref C) "__setattr__" = some (some (.builtin "object.__setattr__"))) (hp:PySem.W.plainOver K C=true) (ht:PySem.W.takerIn K C name=some none) (hh:PySem.W.hasDictIn K C=true)
  (hw:PySem.Within mA ns) (hsz:ns.length≤sizeLine)
  (h:∀ h',ObjM h' x dx C (fun y=>if y=name then some v else mA y)→Heap.SameBut dx s.heap h'→Q () { s with heap:=h',toks:=s.toks+2 }) :
  wpAny (model prog w) A (setAttr (.ref x) name v) Q E s:=by
 obtain⟨od,J,hl⟩:=I.look;refine PySem.W.set_plain X J hs (PySem.W.osa_open (s:={ s with toks:=s.toks+1 }) (r:=none) X J hp ht fun b=>?_);obtain⟨cd,hc,hd'⟩:=PySem.W.any_some hh;have hx:s.heap.get? x=some ⟨.ref C,some dx,.plain,#[]⟩:=I.obj;refine wpAny_bind (wpAny_pure (wpAny_bind (wpAny_bind (wpAny_loadPart hx (wpAny_bind (PySem.W.Looks.here (s:={ s with toks:=s.toks+1 }) (PySem.W.looks_clsIn X hc) ?_))))));rw[hd'];refine wpAny_pure (a:=some dx) (wpAny_bind (wpAny_pure (wpAny_bind ?_)));refine wpAny_nsSet1 (s:={ s with toks:=s.toks+1 }) I.ns fun h' hn2 hs2=>?_;obtain⟨oD,esD,epD,hoD,hdD,hcD⟩:=hn2.count (PySem.Within.cons name v hw);refine wpAny_bind (wpAny_lookBehind hoD (by rw[hdD]; exact pastItsLine_dict (Nat.le_trans hcD (by rw[List.length_cons]; omega))) ?_);exact wpAny_pure (h _ ⟨(hs2.2 _ (Ne.symm I.ne)).trans I.obj,hn2,I.ne⟩ hs2)
theorem aFI {R:Result→Shared→Prop}{vs:List Value}{kw:List (Str×Value)}(X:K.In s.heap)(hm:PySem.W.makesIn K C=true)
  (hi:PySem.W.findIn K (.ref C) "__init__" = some (some (.ref f))) (hf:PySem.W.typeIn K (.ref f)=some (.type "function"))
  (h:codeAny (model prog w) (A.under (.builtin "type.__call__" ⟨.ref C::vs,kw⟩)) (.call (.ref f) ⟨.ref (s.heap.objs.size+1)::vs,kw⟩) (PySem.W.InitBack (s.heap.objs.size+1) R)
   { s with heap:=(s.heap.push PySem.W.emptyDict).push (PySem.W.instObj C s.heap.objs.size) }) :
  codeAny (model prog w) A (.call (.ref C) ⟨vs,kw⟩) R s:=by
 obtain⟨hh,g,d,t,os⟩:=s;exact PySem.W.make_core (PySem.W.makes_of X hm) (PySem.W.looks_findIn X hi) (fun self=>PySem.W.bind_fn X self hf) (.inl rfl) h
end
noncomputable def a2W (f:Str)(v:V):List (Str×V)→List (Str×V)
 | []=>[(f,v)]
 | (g,x)::r=>if g=f then(g,v)::r else(g,x)::a2W f v r
theorem zH (f g:Str)(v:V):∀ fs:List (Str×V),(a2W f v fs).lookup g=if g=f then some v else fs.lookup g
 | []=>by
  show List.lookup g [(f,v)]=_
  by_cases h:g=f
  ·have hb:(g==f)=true:=beq_iff_eq.mpr h;simp only[List.lookup,hb,if_pos h]
  ·have hb:(g==f)=false:=beq_eq_false_iff_ne.mpr h;simp only[List.lookup,hb,if_neg h]
 | (k,x)::r=>by
  have ih:=zH f g v r;rw[show a2W f v ((k,x)::r)=(if k=f then(k,v)::r else(k,x)::a2W f v r) from rfl]
  by_cases hk:k=f
  ·rw[if_pos hk]
   by_cases h:g=k
   ·have hb:(g==k)=true:=beq_iff_eq.mpr h;simp only[List.lookup,hb,if_pos (h.trans hk)]
   ·have hb:(g==k)=false:=beq_eq_false_iff_ne.mpr h;simp only[List.lookup,hb,if_neg (fun e:g=f=>h (e.trans hk.symm))]
  ·rw[if_neg hk]
   by_cases h:g=k
   ·have hb:(g==k)=true:=beq_iff_eq.mpr h;simp only[List.lookup,hb,if_neg (fun e:g=f=>hk (h.symm.trans e))]
   ·have hb:(g==k)=false:=beq_eq_false_iff_ne.mpr h;simp only[List.lookup,hb];exact ih
theorem zE (f:Str)(v:V):∀ fs:List (Str×V),f∈(a2W f v fs).map (·.1)∧∀ g,g∈fs.map (·.1)→g∈(a2W f v fs).map (·.1)
 | []=>⟨by simp[a2W],fun g h=>by simp at h⟩
 | (k,x)::r=>by
  obtain⟨i1,i2⟩:=zE f v r;rw[show a2W f v ((k,x)::r)=(if k=f then(k,v)::r else(k,x)::a2W f v r) from rfl]
  by_cases hk:k=f
  ·rw[if_pos hk];subst hk;exact⟨by simp,fun g h=>by simpa using h⟩
  ·rw[if_neg hk];refine⟨?_,fun g h=>?_⟩
   ·rw[List.map_cons];exact List.mem_cons_of_mem _ i1
   ·rw[List.map_cons] at h ⊢;rcases List.mem_cons.mp h with e|e
    ·exact List.mem_cons.mpr (.inl e)
    ·exact List.mem_cons_of_mem _ (i2 g e)
theorem a02 (f:Str)(v:V):∀ fs:List (Str×V),(a2W f v fs).length≤fs.length+1
 | []=>by simp[a2W]
 | (k,x)::r=>by
  have ih:=a02 f v r;rw[show a2W f v ((k,x)::r)=(if k=f then(k,v)::r else(k,x)::a2W f v r) from rfl]
  by_cases hk:k=f
  ·rw[if_pos hk,List.length_cons,List.length_cons]; omega
  ·rw[if_neg hk,List.length_cons,List.length_cons]; omega
theorem RelO.some_of {v:V}{o:Option Value}(r:RelO (some v) o):∃ u,o=some u∧RelV v u:=by
 cases o with
 | none=>exact(show False from r).elim
 | some u=>exact⟨u,rfl,r⟩
theorem RelO.none_of {o:Option Value}(r:RelO none o):o=none:=by
 cases o with
 | none=>rfl
 | some u=>exact(show False from r).elim
theorem aDF {v:V}{u:Value}(r:RelV v u):PySem.W.handedIn u=true:=by
 cases v with
 | non=>cases(show u=Value.none from r); rfl
 | bl b=>cases(show u=Value.bool b from r); rfl
 | int i=>obtain⟨t,e⟩:=(show ∃ t,u=Value.int i t from r); cases e; rfl
 | str x=>obtain⟨t,e⟩:=(show ∃ t,u=Value.str x t from r); cases e; rfl
 | byt b=>obtain⟨t,e⟩:=(show ∃ t,u=Value.bytes b t from r); cases e; rfl
 | flt b=>obtain⟨t,e⟩:=(show ∃ t,u=Value.float b t from r); cases e; rfl
 | ref a=>cases(show u=Value.ref a from r); rfl
 | ty n=>cases(show u=Value.type n from r); rfl
section
variable {P:Program}{w:World}{H H':Hp}{h h':Heap}{a C dx:Addr}{fs fs':List (Str×V)}
theorem a2R (hok:HOk P w H h)(e:H a=some (.ins C dx fs)):∃ mA,ObjM h a dx C mA∧(∀ f,RelO (fs.lookup f) (mA f))∧PySem.Within mA (fs.map (·.1))∧fs.length≤1000∧H dx=some (.own a):=by
 obtain⟨d,z,ne,ob,mA,n,r,q⟩:=(show ObjOk P w H h a (.ins C dx fs) from hok a _ e);exact⟨mA,⟨ob,n,ne⟩,r,q,z,d⟩
end
structure Cls (K:PySem.W.Frag)(C:Addr):Prop where
 pg:PySem.W.plainGet K C Str.empty=true
 hd:PySem.W.hasDictIn K C=true
 po:PySem.W.plainOver K C=true
 sa:PySem.W.findIn K (.ref C) "__setattr__" = some (some (.builtin "object.__setattr__"))
theorem Cls.get {K:PySem.W.Frag}{C:Addr}(c:Cls K C)(f:Str):PySem.W.plainGet K C f=true:=c.pg
noncomputable def NoAttr (K:PySem.W.Frag)(C:Addr)(f:Str):Prop:=PySem.W.findIn K (.ref C) f=some none
theorem NoAttr.taker {K:PySem.W.Frag}{C:Addr}{f:Str}(n:NoAttr K C f):PySem.W.takerIn K C f=some none:=by
 unfold PySem.W.takerIn;rw[show PySem.W.findIn K (.ref C) f=some none from n];rfl
structure Meth (K:PySem.W.Frag)(C:Addr)(m:Str)(f:Addr):Prop where
 at_:PySem.W.findIn K (.ref C) m=some (some (.ref f))
 fn:PySem.W.isFn K (.ref f)=true
 kp:PySem.W.keepIn K (.ref f)=true
section
variable {X:Cx}{pins:List (Addr×Obj)}{σ:St}{H:Hp}{s:Shared}{a C dx:Addr}{fs:List (Str×V)}{f:Str}{v:V}{A:Around}{E:Value→Shared→Prop}
theorem aAT {b:Bool}{Q:Value→Shared→Prop}(I:Inv X pins σ H s)(e:H a=some (.ins C dx fs))(c:Cls X.K C)(n:NoAttr X.K C f)(l:fs.lookup f=some v)
  (h:∀ u s',Inv X pins σ H s'→RelV v u→Q u s'):wpAny (model X.prog X.w) A (getAttr (.ref a) f b) Q E s:=by
 obtain⟨mA,O,r,_,_,_⟩:=a2R I.hok e;obtain⟨u,hu,ru⟩:=RelO.some_of (v:=v) (o:=mA f) (by rw[← l]; exact r f);exact aJQ I.kIn O (c.get f) c.hd n hu (aDF ru) (h u _ (I.tok _) ru)
theorem a1H {m:Str}{g:Addr}{pl:Sem Bool}{Q:Value×List Value→Shared→Prop}(I:Inv X pins σ H s)(e:H a=some (.ins C dx fs))(c:Cls X.K C)(k:Meth X.K C m g)(l:fs.lookup m=none)
  (h:Q (.ref g,[.ref a]) s):wpAny (model X.prog X.w) A (getMethod (.ref a) m pl) Q E s:=by
 obtain⟨mA,O,r,_,_,_⟩:=a2R I.hok e;have hn:mA m=none:=RelO.none_of (by rw[← l]; exact r m);exact aFR I.kIn O (c.get m) k.at_ k.fn hn h
theorem aAR {y:V}{u:Value}{Q:Unit→Shared→Prop}(I:Inv X pins σ H s)(e:H a=some (.ins C dx fs))(c:Cls X.K C)(n:NoAttr X.K C f)(hl:fs.length<1000)(ry:RelV y u)
  (h:∀ s',Inv X pins σ (upd H a (.ins C dx (a2W f y fs))) s'→Q () s'):wpAny (model X.prog X.w) A (setAttr (.ref a) f u) Q E s:=by
 obtain⟨mA,O,r,wi,_,ho⟩:=a2R I.hok e;have hz:(fs.map (·.1)).length≤sizeLine:=by rw[List.length_map,sizeLine_eq]; omega
 refine aJJ I.kIn O c.sa c.po n.taker c.hd wi hz fun h' O' sb=>h _ ?_;have hd:∃ o,h'.get? dx=some o:=let ⟨o,_,_,e',_⟩:=O'.ns; ⟨o,e'⟩;refine I.write (x:=a) (e:=dx) (by rw[e]; exact True.intro) (.inr ho) (fun b q hb z=>(sb.2 b hb).trans z) hd ?_;refine⟨by rw[b7 O.ne]; exact ho,?_,O.ne,O'.obj,_,O'.ns,fun g=>?_,fun g hg=>?_⟩
 ·have:=a02 f y fs; omega
 ·show RelO ((a2W f y fs).lookup g) (if g=f then some u else mA g);rw[zH]
  by_cases q:g=f
  ·rw[if_pos q,if_pos q]; exact ry
  ·rw[if_neg q,if_neg q]; exact r g
 ·by_cases q:g=f
  ·rw[q]; exact(zE f y fs).1
  ·refine(zE f y fs).2 g (wi g fun z=>hg ?_)
   show(if g=f then some u else mA g)=none
   rw[if_neg q]; exact z
theorem Inv.made (I:Inv X pins σ H s):Inv X pins σ (upd (upd H s.heap.objs.size (.own (s.heap.objs.size+1))) (s.heap.objs.size+1) (.ins C s.heap.objs.size []))
  { s with heap:=(s.heap.push PySem.W.emptyDict).push (PySem.W.instObj C s.heap.objs.size) }:=by
 have e1:(s.heap.push PySem.W.emptyDict).get? s.heap.objs.size=some PySem.W.emptyDict:=Heap.get?_push_size s.heap rfl;have e2:((s.heap.push PySem.W.emptyDict).push (PySem.W.instObj C s.heap.objs.size)).get? (s.heap.objs.size+1)=some (PySem.W.instObj C s.heap.objs.size):=by
  have:=Heap.get?_push_size (s.heap.push PySem.W.emptyDict) (o:=PySem.W.instObj C s.heap.objs.size) rfl;rwa[Heap.size_push] at this
 have e3:(s.heap.push PySem.W.emptyDict).Ns s.heap.objs.size (fun _=>none):=⟨PySem.W.emptyDict,#[],_,e1,rfl,(fun e he=>absurd he (by simp)),fun _=>rfl⟩;have I1:=I.laid (a:=s.heap.objs.size) (o:=.own (s.heap.objs.size+1)) (h':=s.heap.push PySem.W.emptyDict) (t':=s.toks) (fun b u q=>Heap.get?_push_of_some _ q) (Nat.le_refl _) ⟨_,e1⟩;refine I1.laid (a:=s.heap.objs.size+1) (o:=.ins C s.heap.objs.size []) (t':=s.toks) (fun b u q=>Heap.get?_push_of_some _ q) (Nat.le_of_eq (Heap.size_push _ _)) ?_;have ne:s.heap.objs.size≠s.heap.objs.size+1:=Nat.ne_of_lt (Nat.lt_succ_self _);refine⟨by rw[b7 ne,bM],Nat.zero_le _,ne,e2,fun _=>none,(Heap.Ns1.of_empty e3).at fun o q=>Heap.get?_push_of_some _ q,fun _=>True.intro,fun y hy=>absurd rfl hy⟩
theorem aJ8 {prog:Program}{w:World}{env:Env}{e:Expr}{f:Str}{pos:Pos}{s:Shared}{Q:Value→Shared→Prop}(hb:attributeBase e f env (eval e env)=eval e env)
  (h:wpAny (model prog w) A (eval e env) (fun o s₁=>wpAny (model prog w) A (getAttr o f true) Q E s₁) E s):wpAny (model prog w) A (eval (.Attribute e f pos) env) Q E s:=
 Attribute_any_ h (by rw[arm_eval_Attribute,hb])
end
noncomputable def aHD (K:PySem.W.Frag)(ta:TE)(f:Str):TE:=fun σ H Q=>ta σ H fun x H1=>∃ a C dx fs v,x=.ref a∧H1 a=some (.ins C dx fs)∧Cls K C∧NoAttr K C f∧fs.lookup f=some v∧Q v H1
noncomputable def aQ7 (K:PySem.W.Frag)(ta tv:TE)(f:Str):TS:=fun D σ H=>tv σ H fun y H1=>ta σ H1 fun x H2=>∃ a C dx fs,x=.ref a∧H2 a=some (.ins C dx fs)∧Cls K C∧NoAttr K C f∧fs.length<1000 ∧
 D.nx σ (upd H2 a (.ins C dx (a2W f y fs)))
section
variable {X:Cx}{o e value:Expr}{f:Str}{pos pos' tpos:Pos}{ta tv:TE}
theorem oO (he:PE X e ta)(hb:attributeBase e f X.env (eval e X.env)=eval e X.env):PE X (.Attribute e f pos) (aHD X.K ta f):=by
 intro pins s σ H Q I h;refine aJ8 hb (thn (he pins s σ H _ I h) fun u s1 ⟨x,H1,I1,rx,a,C,dx,fs,v,ex,ea,c,n,l,q⟩=>?_);subst ex;obtain rfl:u=Value.ref a:=rx;exact aAT I1 ea c n l fun u' s2 I2 ru=>⟨v,H1,I2,ru,q⟩
theorem a3Y (ha:PE X o ta)(hv:PE X value tv)(hs:swapsWith value (some (.Attribute o f pos')) pos.line X.env=pure false):PS X (.Assign [.Attribute o f pos'] value pos) (aQ7 X.K ta tv f):=by
 intro pins s σ H D I h;refine plainObj_wpAny_Assign_Attribute (thn (hv pins s σ H _ I h) fun u s1 ⟨y,H1,I1,ry,q⟩=>thn (ha pins s1 σ H1 _ I1 q) fun ov s2 ⟨x,H2,I2,rx,a,C,dx,fs,ex,ea,c,n,l,q2⟩=>?_) hs;subst ex;obtain rfl:ov=Value.ref a:=rx;exact aAR I2 ea c n l ry fun s3 I3=>⟨σ,_,I3,q2⟩
end
section
variable {X:Cx}{pins:List (Addr×Obj)}{σ:St}{H:Hp}{s:Shared}{A:Around}{E:Value→Shared→Prop}{Q:Value→Shared→Prop}{c:Value}{b:Bool}
inductive TyOf (K:PySem.W.Frag) (H:Hp):V→Value→Prop where
 | non:TyOf K H .non (.type "NoneType")
 | bl (x:Bool):TyOf K H (.bl x) (.type "bool")
 | int (i:Int):TyOf K H (.int i) (.type "int")
 | str (x:Str):TyOf K H (.str x) (.type "str")
 | flt (x:UInt64):TyOf K H (.flt x) (.type "float")
 | lst {a:Addr} {xs:List V} (e:H a=some (.lst xs)):TyOf K H (.ref a) (.type "list")
 | frz {a:Addr} {o:Obj} {xs:List V} (e:H a=some (.frz o (.lst xs))):TyOf K H (.ref a) (.type "list")
 | tup {a:Addr} {xs:List V} (e:H a=some (.tup xs)):TyOf K H (.ref a) (.type "tuple")
 | dK {a:Addr} {kvs:List (Key×V)} (e:H a=some (.dK kvs)):TyOf K H (.ref a) (.type "dict")
 | dT {a:Addr} {kvs:List (List Key×V)} (e:H a=some (.dT kvs)):TyOf K H (.ref a) (.type "dict")
 | ins {a C dx:Addr} {fs:List (Str×V)} (e:H a=some (.ins C dx fs)) (cl:Cls K C) (ha:PySem.W.findIn K (.ref C) "__class__" = some (some (.builtin "object.__class__")))
   (hn:PySem.W.specialIn K (.builtin "object.__class__") "__get__" = some (some (.builtin "getset_descriptor.__get__"))) (htk:PySem.W.takesIn K (.builtin "object.__class__")=some true)
   (hm:PySem.W.mroIn K C (.type "object")=some true):TyOf K H (.ref a) (.ref C)
theorem aBM {x:V}{u t:Value}(I:Inv X pins σ H s)(rx:RelV x u)(ty:TyOf X.K H x t)(e:PySem.W.kitOne X.K t c=some b)(h:∀ tk,Q (.bool b) { s with toks:=tk }) :
  wpAny (model X.prog X.w) A (call (.builtin "isinstance") [u,c]) Q E s:=by
 cases ty with
 | non=>cases(show u=Value.none from rx); exact PySem.W.kia_one PySem.W.kitx_none I.kIn True.intro e (fun z=>nomatch z) h
 | bl y=>cases(show u=Value.bool y from rx); exact PySem.W.kia_one PySem.W.kitx_bool I.kIn True.intro e (fun z=>nomatch z) h
 | int i=>obtain⟨t,q⟩:=(show ∃ t,u=Value.int i t from rx); cases q; exact PySem.W.kia_one PySem.W.kitx_int I.kIn True.intro e (fun z=>nomatch z) h
 | str y=>obtain⟨t,q⟩:=(show ∃ t,u=Value.str y t from rx); cases q; exact PySem.W.kia_one PySem.W.kitx_str I.kIn True.intro e (fun z=>nomatch z) h
 | flt y=>obtain⟨t,q⟩:=(show ∃ t,u=Value.float y t from rx); cases q; exact PySem.W.kia_one PySem.W.kitx_float I.kIn True.intro e (fun z=>nomatch z) h
 | @lst a xs ea=>
  cases(show u=Value.ref a from rx)
  obtain⟨_,_,n,_,h1⟩:=(show ObjOk X.prog X.w H s.heap a (.lst xs) from I.hok a _ ea);exact PySem.W.kia_one PySem.W.kitx_list I.kIn ⟨_,h1,rfl⟩ e (fun z=>nomatch z) h
 | @frz a ob xs ea=>
  cases(show u=Value.ref a from rx)
  obtain⟨_,_,_,n,_,h1⟩:=(show ObjOk X.prog X.w H s.heap a (.frz ob (.lst xs)) from I.hok a _ ea);exact PySem.W.kia_one PySem.W.kitx_list I.kIn ⟨_,h1,rfl⟩ e (fun z=>nomatch z) h
 | @tup a xs ea=>
  cases(show u=Value.ref a from rx)
  obtain⟨_,_,_,p⟩:=(show ObjOk X.prog X.w H s.heap a (.tup xs) from I.hok a _ ea);obtain⟨o,h1,h2,_⟩:=p;exact PySem.W.kia_one PySem.W.kitx_tuple I.kIn ⟨o,h1,h2⟩ e (fun z=>nomatch z) h
 | @dK a kvs ea=>
  cases(show u=Value.ref a from rx)
  obtain⟨_,_,vs,_,p⟩:=(show ObjOk X.prog X.w H s.heap a (.dK kvs) from I.hok a _ ea);obtain⟨o,es,ep,h1,h2,_⟩:=p;exact PySem.W.kia_one PySem.W.kitx_dict I.kIn ⟨o,h1,h2.1⟩ e (fun z=>nomatch z) h
 | @dT a kvs ea=>
  cases(show u=Value.ref a from rx)
  obtain⟨_,_,xs,_,o,es,ep,h1,h2,_⟩:=(show ObjOk X.prog X.w H s.heap a (.dT kvs) from I.hok a _ ea);exact PySem.W.kia_one PySem.W.kitx_dict I.kIn ⟨o,h1,h2.1⟩ e (fun z=>nomatch z) h
 | @ins a C dx fs ea cl ha hn htk hm=>
  cases(show u=Value.ref a from rx)
  obtain⟨mA,O,_⟩:=a2R I.hok ea;obtain⟨od,J,_⟩:=O.look;exact PySem.W.kia_one (PySem.W.kitx_own (cl.get _) cl.hd ha hn htk hm) I.kIn J e (fun z=>nomatch z) h
end
end L2
namespace L2
open PySem PySem.Spec PyProof.Rows
structure Room (k:Nat)(A:Around):Prop where
 hd:A.handled=none
 dp:A.depth+3*k+5<recursionLimit
 un:A.units+16*k+200<cLine
theorem Room.mono {j k:Nat}{A:Around}(r:Room k A)(h:j≤k):Room j A:=⟨r.hd,by have:=r.dp; omega,by have:=r.un; omega⟩
theorem Room.deeper {k:Nat}{A:Around}(r:Room (k+1) A)(env:Env):Room k (A.deeper env):=
 ⟨r.hd,by have:=r.dp; show A.depth+1+3*k+5<_; omega,by have:=r.un; show A.units+3+16*k+200<_; omega⟩
theorem aAM {A:Around}{C:Addr}{us:List Value}{kw:List (Str×Value)}:(A.under (.builtin "type.__call__" ⟨.ref C::us,kw⟩)).depth=A.depth+1:=by
 first|rfl|simp[Around.under,Code.weight,Code.isCreation,Code.isGuard,Code.isCaller,Code.frames,Code.isFrame,guardIds]
theorem aAQ {A:Around}{C:Addr}{us:List Value}{kw:List (Str×Value)}:(A.under (.builtin "type.__call__" ⟨.ref C::us,kw⟩)).units=A.units+1:=by
 first|rfl|simp[Around.under,Code.cUnits,Code.frames,Code.isFrame]
theorem Room.make {k:Nat}{A:Around}(r:Room (k+1) A)(C:Addr)(us:List Value)(kw:List (Str×Value)):Room k (A.under (.builtin "type.__call__" ⟨.ref C::us,kw⟩)):=
 ⟨r.hd,by have:=r.dp; rw[aAM]; omega,by have:=r.un; rw[aAQ]; omega⟩
theorem Room.depth {k:Nat}{A:Around}(r:Room k A):A.depth<recursionLimit:=by have:=r.dp; omega
theorem Room.units {k:Nat}{A:Around}(r:Room k A):A.units+64<cLine:=by have:=r.un; omega
noncomputable def z7:TA:=fun _ H Q=>Q [] H
noncomputable def fH (ta:TE)(tr:TA):TA:=fun σ H Q=>ta σ H fun x H1=>tr σ H1 fun xs H2=>Q (x::xs) H2
section
variable {X:Cx}{e:Expr}{es:List Expr}{te:TE}{t:TA}{pos:Pos}
theorem aF:PA X [] z7:=fun _ _ _ _ H Q I h=>Calls.spliced_nil ⟨[],H,I,.nil,h⟩
theorem aA (ha:PE X e te)(hr:PA X es t)(hs:starEach (e::es) X.env=(false,eval e X.env)::starEach es X.env:=by rfl):PA X (e::es) (fH te t):=by
 intro pos pins s σ H Q I h;rw[hs];show wpAny _ _ (spliced ((false,eval e X.env)::backTo pos (starEach es X.env))) _ _ s;refine Calls.spliced_cons (thn (ha pins s σ H _ I h) fun u s1 ⟨x,H1,I1,r1,q1⟩=>?_);exact thn (hr pos pins s1 σ H1 _ I1 q1) fun us s2 ⟨xs,H2,I2,r2,q2⟩=>⟨x::xs,H2,I2,.cons r1 r2,q2⟩
noncomputable def aOI (t:TA):TE:=fun σ H Q=>t σ H fun xs H1=>xs.length≤sizeLine∧∀ p,H1 p=none→Q (.ref p) (upd H1 p (.tup xs))
noncomputable def aPW (t:TA):TE:=fun σ H Q=>t σ H fun xs H1=>xs.length≤sizeLine∧∀ p,H1 p=none→Q (.ref p) (upd H1 p (.lst xs))
theorem dZ {x1}(h:PA X es t):PE X (.Tuple es x1 pos) (aOI t):=by
 intro pins s σ H Q I hq;refine wpAny_Tuple_spliced (thn (h pos pins s σ H _ I hq) fun us s1 ⟨xs,H1,I1,r,z,q⟩=>⟨by rw[← r.length]; exact z,?_⟩);have hf:H1 s1.heap.objs.size=none:=I1.hok.fresh (Nat.le_refl _);refine⟨.ref s1.heap.objs.size,upd H1 s1.heap.objs.size (.tup xs),I1.laid (t':=s1.toks) (fun b u e=>Heap.get?_push_of_some _ e) (Nat.le_refl _) ?_,rfl,q _ hf⟩;exact⟨z,us,r,⟨_,Heap.get?_push_size _ rfl,rfl,_,rfl⟩⟩
theorem j7 (h:PA X es t):PE X (.List es pos) (aPW t):=by
 intro pins s σ H Q I hq;refine wpAny_List_spliced (thn (h pos pins s σ H _ I hq) fun us s1 ⟨xs,H1,I1,r,z,q⟩=>⟨by rw[← r.length]; exact z,?_⟩);have hf:H1 s1.heap.objs.size=none:=I1.hok.fresh (Nat.le_refl _);refine⟨.ref s1.heap.objs.size,upd H1 s1.heap.objs.size (.lst xs),I1.laid (t':=s1.toks) (fun b u e=>Heap.get?_push_of_some _ e) (Nat.le_refl _) ?_,rfl,q _ hf⟩;exact⟨z,us,0,r,Heap.get?_push_size _ rfl⟩
end
abbrev Sp:=List V→Hp→VK→XK→Prop
abbrev CXT:=List Env→Hp→Shared→XK→Value→Shared→Prop
structure Env0 (P:Program)(w:World)(K:PySem.W.Frag)(mg:Str→Option Value)(base:Heap)(A:Around)(outer:List Env)(s:Shared)(H:Hp):Prop where
 frames:A.frames=some outer
 mod:Mod K mg base
 bs:∀ b o,base.get? b=some o→s.heap.get? b=some o∧H b=none
 bsz:base.objs.size≤s.heap.objs.size
 funs:s.heap.FunFrames base outer
 frf:∀ b∈frs outer,H b=none
 hok:HOk P w H s.heap
 bare:AllBare s.gens
noncomputable def CE (outer:List Env)(P:Program)(w:World)(H:Hp)(s:Shared)(Q:VK)(u:Value)(s':Shared):Prop:=
 ∃ v H',s'.os=s.os∧AllBare s'.gens∧Un (frs outer) [] H H' s.heap s'.heap∧HOk P w H' s'.heap∧RelV v u∧Q v H'
noncomputable def CR (CX:CXT)(outer:List Env)(P:Program)(w:World)(H:Hp)(s:Shared)(Q:VK)(E:XK)(r:Result)(s':Shared):Prop:=
 match r with
 | .ok (.ret u)=>CE outer P w H s Q u s'
 | .ok _=>False
 | .error e=>CX outer H s E e s'
structure FnOk (P:Program)(w:World)(K:PySem.W.Frag)(mg:Str→Option Value)(base:Heap)(CX:CXT)(k:Nat)(f:Addr)(fd:FuncData)(ps:List Str)(sp:Sp):Prop where
 len:∀ vs H Q E,sp vs H Q E→vs.length=ps.length
 run:∀(A:Around) (outer:List Env) (s:Shared) (H:Hp) (args:Args) (us:List Value) (vs:List V) (Q:VK) (E:XK),Room k A→Env0 P w K mg base A outer s H→BindsTo s fd args (ps.zip us)→Vals vs us→sp vs H Q E →
  codeAny (model P w) A (.call (.ref f) args) (CR CX outer P w H s Q E) s
theorem FnOk.imp {P:Program}{w:World}{K:PySem.W.Frag}{mg:Str→Option Value}{base:Heap}{CX:CXT}{k:Nat}{f:Addr}{fd:FuncData}{ps:List Str}{sp sp':Sp}(F:FnOk P w K mg base CX k f fd ps sp)
  (h:∀ vs H Q E,sp' vs H Q E→sp vs H Q E):FnOk P w K mg base CX k f fd ps sp':=
 ⟨fun vs H Q E q=>F.len vs H Q E (h _ _ _ _ q),fun A outer s H args us vs Q E hr he hb hv hs=>F.run A outer s H args us vs Q E hr he hb hv (h _ _ _ _ hs)⟩
theorem Env0.make {P:Program}{w:World}{K:PySem.W.Frag}{mg:Str→Option Value}{base:Heap}{A:Around}{outer:List Env}{s:Shared}{H:Hp}(e:Env0 P w K mg base A outer s H)(C:Addr)(us:List Value)(kw:List (Str×Value)) :
  Env0 P w K mg base (A.under (.builtin "type.__call__" ⟨.ref C::us,kw⟩)) outer s H:=⟨by first|exact e.frames|(simpa [Around.under,Code.envs,Code.isFrame,pushEnvs] using e.frames),e.mod,e.bs,e.bsz,e.funs,e.frf,e.hok,e.bare⟩
section
variable {X:Cx}{pins:List (Addr×Obj)}{σ:St}{H:Hp}{s s':Shared}
theorem Inv.env0 (I:Inv X pins σ H s):Env0 X.prog X.w X.K X.mg X.base X.A X.stack s H:=
 ⟨I.ok.frames,I.ok.mod,I.bs,Nat.le_trans I.ok.bsz I.sz,I.stack,I.stkFree,I.hok,I.bare⟩
theorem Inv.after {Q:VK}{u:Value}(I:Inv X pins σ H s)(h:CE X.stack X.prog X.w H s Q u s'):EP X pins σ Q u s':=by
 obtain⟨v,H',os,bare,un,hok,r,q⟩:=h;obtain⟨hh,g,d,t,os'⟩:=s';obtain rfl:os'=s.os:=os;exact⟨v,H',I.call (h':=hh) (g':=g) (d':=d) (t':=t) (ch:=[]) un hok bare (fun b z=>absurd z (by simp)),r,q⟩
end
noncomputable def aAA (sp:Sp)(dvs:List V)(E:XK)(t:TA):TE:=fun σ H Q=>t σ H fun vs H1=>sp (vs++dvs) H1 Q E
noncomputable def aJH (C:Addr)(m:Str)(sp:Sp)(dvs:List V)(E:XK)(ta:TE)(t:TA):TE:=fun σ H Q=>ta σ H fun x H1=>∃ a dx fs,x=.ref a∧H1 a=some (.ins C dx fs)∧fs.lookup m=none ∧
 t σ H1 fun vs H2=>sp (x::(vs++dvs)) H2 Q E
noncomputable def aL8 (C:Addr)(sp:Sp)(dvs:List V)(E:XK)(t:TA):TE:=fun σ H Q=>t σ H fun vs H1=>∀ x dx,H1 x=none→H1 dx=none→dx≠x →
 sp (.ref x::(vs++dvs)) (upd (upd H1 dx (.own x)) x (.ins C dx [])) (fun v H2=>v=.non∧Q (.ref x) H2) E
noncomputable def Binds (K:PySem.W.Frag)(fd:FuncData)(ps:List Str)(ds:List Value):Prop:=
 ∀(s:Shared) (us:List Value),K.In s.heap→(us++ds).length=ps.length→BindsTo s fd ⟨us,[]⟩ (ps.zip (us++ds))
theorem Binds.all {K:PySem.W.Frag}{fd:FuncData}{ps:List Str}(h:∀ us:List Value,us.length=ps.length→bindArgs fd ⟨us,[]⟩=pure (ps.zip us)):Binds K fd ps []:=fun s us _ hl=>by
 rw[List.append_nil] at hl ⊢;exact .of_eq (h us hl)
noncomputable def yS (CX:CXT)(X:Cx)(E:XK):Prop:=∀(pins:List (Addr×Obj)) (σ:St) (H:Hp) (s:Shared) (e:Value) (s':Shared),Inv X pins σ H s→CX X.stack H s E e s'→X.xe e s'
section
variable {X:Cx}{CX:CXT}{k:Nat}{f C:Addr}{fd:FuncData}{ps:List Str}{sp:Sp}{dvs:List V}{ds:List Value}{E:XK}{x m:Str}{p pos apos:Pos}{e o:Expr}{es:List Expr}{ta:TE}{t:TA}
theorem aE9 {pins:List (Addr×Obj)}{σ:St}{H:Hp}{s:Shared}{Q:VK}{us:List Value}{vs:List V}(F:FnOk X.prog X.w X.K X.mg X.base CX k f fd ps sp)(hr:Room k X.A)(hb:Binds X.K fd ps ds)(hd:Vals dvs ds)(hx:yS CX X E)
  (I:Inv X pins σ H s) (r:Vals vs us) (h:sp (vs++dvs) H Q E):wpAny (model X.prog X.w) X.A (call (.ref f) us) (EP X pins σ Q) X.xe s:=by
 have r2:Vals (vs++dvs) (us++ds):=r.append hd;have hl:(us++ds).length=ps.length:=by rw[← r2.length]; exact F.len _ _ _ _ h
 refine wpAny_call (codeAny_mono (F.run X.A X.stack s H ⟨us,[]⟩ (us++ds) (vs++dvs) Q E hr I.env0 (hb s us I.kIn hl) r2 h) fun r s' hq=>?_)
 cases r with
 | error e=>exact hx pins σ H s e s' I hq
 | ok fl=>
  cases fl with
  | ret u=>exact I.after hq
  | next=>exact False.elim hq
  | brk=>exact False.elim hq
  | cont=>exact False.elim hq
theorem aIW (F:FnOk X.prog X.w X.K X.mg X.base CX k f fd ps sp)(hr:Room k X.A)(hg:Gl X x)(hm:X.mg x=some (.ref f))(hk:PySem.W.keepIn X.K (.ref f)=true)(hb:Binds X.K fd ps ds)(hd:Vals dvs ds)(hx:yS CX X E)
  (ha:PA X (e::es) t) (hdb:(x==("__debug__" : Str))=false:=by decide) (he:starEach (e::es) X.env=(false,eval e X.env)::starEach es X.env:=by rfl) (hpl:(backTo pos (starEach es X.env)).any (·.1)=false:=by rfl) :
  PE X (.Call (.Name x p) (e::es) [] pos) (aAA sp dvs E t):=by
 intro pins s σ H Q I h;refine wpAny_Call_Name_kw (aD0 I hg hm ?_ hdb);refine PySem.W.callWith_K (h₀:=X.base) I.ok.mod.kin hk (thn (ha pos pins s σ H _ I h) fun us s1 ⟨vs,H1,I1,r,q⟩=>⟨I1.kIn,?_⟩) he hpl;exact aE9 F hr hb hd hx I1 r q
theorem uZ {pl:Sem Bool}(he:PE X o ta)(c:Cls X.K C)(hm:Meth X.K C m f)(F:FnOk X.prog X.w X.K X.mg X.base CX k f fd ps sp)(hr:Room k X.A)(hb:Binds X.K fd ps ds)(hd:Vals dvs ds)(hx:yS CX X E)(ha:PA X (e::es) t)
  (hst:starEach (e::es) X.env=(false,eval e X.env)::starEach es X.env:=by rfl) (hpl:(backTo pos (starEach es X.env)).any (·.1)=false:=by rfl)
  (ht:eval (.Call (.Attribute o m apos) (e::es) [] pos) X.env=(do
   let ov←eval o X.env
   standAt apos.atName
   let (f,first)←holding [ov] (getMethod ov m pl)
   callWith pos f first (backTo pos (starEach (e::es) X.env)) (backToKw pos (keywordEach [] X.env))):=by rfl) :
  PE X (.Call (.Attribute o m apos) (e::es) [] pos) (aJH C m sp dvs E ta t):=by
 intro pins s σ H Q I h;refine PySem.W.methodCall_KW (pl:=pl) (thn (he pins s σ H _ I h) fun u s1 ⟨x,H1,I1,rx,a,dx,fs,ex,ea,l,q⟩=>?_) ht;subst ex;obtain rfl:u=Value.ref a:=rx;refine a1H I1 ea c hm l ?_;refine PySem.W.callWith_K (first:=[.ref a]) (h₀:=X.base) I.ok.mod.kin hm.kp (thn (ha pos pins s1 σ H1 _ I1 q) fun us s2 ⟨vs,H2,I2,r,q2⟩=>⟨I2.kIn,?_⟩) hst hpl;exact aE9 (us:=.ref a::us) (vs:=.ref a::vs) F hr hb hd hx I2 (.cons rfl r) q2
theorem gK {pl:Sem Bool}(he:PE X o ta)(c:Cls X.K C)(hm:Meth X.K C m f)(F:FnOk X.prog X.w X.K X.mg X.base CX k f fd ps sp)(hr:Room k X.A)(hb:Binds X.K fd ps ds)(hd:Vals dvs ds)(hx:yS CX X E)
  (ht:eval (.Call (.Attribute o m apos) [] [] pos) X.env=(do
   let ov←eval o X.env
   standAt apos.atName
   let (f,first)←holding [ov] (getMethod ov m pl)
   callWith pos f first (backTo pos (starEach [] X.env)) (backToKw pos (keywordEach [] X.env))):=by rfl) :
  PE X (.Call (.Attribute o m apos) [] [] pos) (aJH C m sp dvs E ta z7):=by
 intro pins s σ H Q I h;refine PySem.W.methodCall_KW (pl:=pl) (thn (he pins s σ H _ I h) fun u s1 ⟨x,H1,I1,rx,a,dx,fs,ex,ea,l,q⟩=>?_) ht;subst ex;obtain rfl:u=Value.ref a:=rx;refine a1H I1 ea c hm l ?_;exact PySem.W.callWith_K0 (first:=[.ref a]) I1.kIn hm.kp (aE9 (us:=[.ref a]) (vs:=[.ref a]) F hr hb hd hx I1 (.cons rfl .nil) q)
structure Mk (K:PySem.W.Frag)(C f:Addr):Prop where
 makes:PySem.W.makesIn K C=true
 init:PySem.W.findIn K (.ref C) "__init__" = some (some (.ref f))
 fn:PySem.W.isFn K (.ref f)=true
 kp:PySem.W.keepIn K (.ref C)=true
theorem aFP {pins:List (Addr×Obj)}{σ:St}{H:Hp}{s:Shared}{Q:VK}{us:List Value}{vs:List V}(M:Mk X.K C f)(F:FnOk X.prog X.w X.K X.mg X.base CX k f fd ps sp)(hr:Room (k+1) X.A)(hb:Binds X.K fd ps ds)(hd:Vals dvs ds)
  (hx:yS CX X E) (I:Inv X pins σ H s) (r:Vals vs us)
  (h:∀ x dx,H x=none→H dx=none→dx≠x→sp (.ref x::(vs++dvs)) (upd (upd H dx (.own x)) x (.ins C dx [])) (fun v H2=>v=.non∧Q (.ref x) H2) E) :
  wpAny (model X.prog X.w) X.A (call (.ref C) us) (EP X pins σ Q) X.xe s:=by
 have hq:=h (s.heap.objs.size+1) s.heap.objs.size (I.hok.fresh (Nat.le_succ _)) (I.hok.fresh (Nat.le_refl _)) (Nat.ne_of_lt (Nat.lt_succ_self _));have I2:=Inv.made (C:=C) I;have r2:Vals (V.ref (s.heap.objs.size+1)::(vs++dvs)) (Value.ref (s.heap.objs.size+1)::(us++ds)):=.cons rfl (r.append hd);have hl:(Value.ref (s.heap.objs.size+1)::us++ds).length=ps.length:=by
  have e:=r2.length;rw[F.len _ _ _ _ hq] at e;exact e.symm
 refine wpAny_call (aFI (f:=f) I.kIn M.makes M.init (beq_iff_eq.mp M.fn) (codeAny_mono (F.run _ X.stack _ _ ⟨Value.ref (s.heap.objs.size+1)::us,[]⟩ (Value.ref (s.heap.objs.size+1)::(us++ds)) _ _ E (hr.make C us [])
  (I2.env0.make C us []) (hb _ (Value.ref (s.heap.objs.size+1)::us) I2.kIn hl) r2 hq) fun r s' hq'=>?_))
 cases r with
 | error e=>exact hx pins σ _ _ e s' I2 hq'
 | ok fl=>
  cases fl with
  | ret u=>
   obtain⟨v,H',I3,rv,ev,q3⟩:=I2.after hq';subst ev;exact⟨rv,⟨V.ref (s.heap.objs.size+1),H',I3,rfl,q3⟩⟩
  | next=>exact False.elim hq'
  | brk=>exact False.elim hq'
  | cont=>exact False.elim hq'
theorem a7S (M:Mk X.K C f)(F:FnOk X.prog X.w X.K X.mg X.base CX k f fd ps sp)(hr:Room (k+1) X.A)(hg:Gl X x)(hm:X.mg x=some (.ref C))(hb:Binds X.K fd ps ds)(hd:Vals dvs ds)(hx:yS CX X E)
  (ha:PA X (e::es) t) (hdb:(x==("__debug__" : Str))=false:=by decide) (he:starEach (e::es) X.env=(false,eval e X.env)::starEach es X.env:=by rfl) (hpl:(backTo pos (starEach es X.env)).any (·.1)=false:=by rfl) :
  PE X (.Call (.Name x p) (e::es) [] pos) (aL8 C sp dvs E t):=by
 intro pins s σ H Q I h;refine wpAny_Call_Name_kw (aD0 I hg hm ?_ hdb);refine PySem.W.callWith_K (h₀:=X.base) I.ok.mod.kin M.kp (thn (ha pos pins s σ H _ I h) fun us s1 ⟨vs,H1,I1,r,q⟩=>⟨I1.kIn,?_⟩) he hpl;exact aFP M F hr hb hd hx I1 r q
end
section
variable {X:Cx}{CX:CXT}{k:Nat}{f C:Addr}{fd:FuncData}{ps ks:List Str}{sp:Sp}{E:XK}{x m:Str}{p pos apos kpos:Pos}{e o:Expr}{es:List Expr}{kws:List Keyword}{te ta:TE}{t tk:TA}{nm:Option Str}
variable {g:List Value→List Value→List Value}{gV:List V→List V→List V}
end
structure FnScope (N P:List Str)(sc:Scope):Prop where
 kind:sc.kind=.function
 co:sc.isCoroutine=false
 gen:sc.isGenerator=false
 nd:N.Nodup
 pre:N.take P.length=P
 par:∀ x∈P,sc.names.lookup x=some .local∨sc.names.lookup x=some .cell
 nofree:∀ y∈sc.names,y.2≠.free
theorem a3Z {kindOf:Str→Option NameKind}{x:Str}:∀{binds:List (Str×Value)} {m:Str→Option Value},(∀ v,(x,v)∉binds)→bindL kindOf binds m x=m x
 | [],_,_=>rfl
 | (n,v)::r,m,h=>by
  unfold bindL;rw[a3Z fun w hw=>h w (List.mem_cons_of_mem _ hw)]
  split
  ·have:x≠n:=by rintro rfl; exact h v List.mem_cons_self
   simp[this]
  ·rfl
theorem a4G {kindOf:Str→Option NameKind}{x:Str}:∀{binds:List (Str×Value)} {m:Str→Option Value},(∀ v,(x,v)∉binds)→bindC kindOf binds m x=m x
 | [],_,_=>rfl
 | (n,v)::r,m,h=>by
  unfold bindC;rw[a4G fun w hw=>h w (List.mem_cons_of_mem _ hw)]
  split
  ·rfl
  ·have:x≠n:=by rintro rfl; exact h v List.mem_cons_self
   simp[this]
theorem a5M {kindOf:Str→Option NameKind}{x:Str}{v:Value}:∀{P:List Str} {vs:List Value} {i:Nat} {m:Str→Option Value},P.Nodup→P[i]?=some x→vs[i]?=some v→kindOf x=some .local →
  bindL kindOf (P.zip vs) m x=some v
 | [],_,_,_,_,h,_,_=>by simp at h
 | _::_,[],_,_,_,_,h,_=>by simp at h
 | p::P,w::vs,0,m,nd,h1,h2,hk=>by
  simp at h1 h2; subst h1; subst h2;show bindL kindOf ((p,w)::P.zip vs) m p=_;unfold bindL;rw[a3Z fun v hv=>(List.nodup_cons.mp nd).1 (List.of_mem_zip hv).1,if_pos hk];simp
 | p::P,w::vs,i+1,m,nd,h1,h2,hk=>by
  show bindL kindOf ((p,w)::P.zip vs) m x=_;unfold bindL;exact a5M (i:=i) (List.nodup_cons.mp nd).2 (by simpa using h1) (by simpa using h2) hk
theorem a4B {kindOf:Str→Option NameKind}{x:Str}{v:Value}:∀{P:List Str} {vs:List Value} {i:Nat} {m:Str→Option Value},P.Nodup→P[i]?=some x→vs[i]?=some v→kindOf x≠some .local →
  bindC kindOf (P.zip vs) m x=some v
 | [],_,_,_,_,h,_,_=>by simp at h
 | _::_,[],_,_,_,_,h,_=>by simp at h
 | p::P,w::vs,0,m,nd,h1,h2,hk=>by
  simp at h1 h2; subst h1; subst h2;show bindC kindOf ((p,w)::P.zip vs) m p=_;unfold bindC;rw[a4G fun v hv=>(List.nodup_cons.mp nd).1 (List.of_mem_zip hv).1,if_neg hk];simp
 | p::P,w::vs,i+1,m,nd,h1,h2,hk=>by
  show bindC kindOf ((p,w)::P.zip vs) m x=_;unfold bindC;exact a4B (i:=i) (List.nodup_cons.mp nd).2 (by simpa using h1) (by simpa using h2) hk
noncomputable def start (N:List Str)(vs:List V):St:=vs.map some++List.replicate (N.length-vs.length) none
noncomputable def aFG (CX:CXT)(P:Program)(w:World)(K:PySem.W.Frag)(mg:Str→Option Value)(base:Heap)(N:List Str)(qual:Str)(scope:Scope)(f:Addr)(cd:Value)(A:Around)(outer:List Env)(s:Shared)(H:Hp)(E:XK):Cx where
 prog:=P
 w:=w
 K:=K
 mg:=mg
 base:=base
 A:=A.deeper (envOfC qual scope s.heap.objs.size f cd)
 N:=N
 s₀:=s
 H₀:=H
 env:=envOfC qual scope s.heap.objs.size f cd
 outer:=outer
 stack:=envOfC qual scope s.heap.objs.size f cd::outer
 ex:=[]
 calm:=true
 fn:=fun _=>true
 pn:=[]
 xe:=fun e s'=>wpAny (model P w) (A.deeper (envOfC qual scope s.heap.objs.size f cd)) (leaving (envOfC qual scope s.heap.objs.size f cd) e) (fun _ s''=>CX outer H s E e s'') (fun e' s''=>CX outer H s E e' s'') s'
theorem a8B {sc:Scope}{n:Nat}{x:Str}(h:sc.names.lookup x=some .cell):∃ c,(cellsFrom n sc.names []).lookup x=some c:=by
 have q:=PySem.W.cellsFrom_some sc.names n [] (.inl h);exact Option.isSome_iff_exists.mp q
theorem aBO {CX:CXT}{P:Program}{w:World}{K:PySem.W.Frag}{mg:Str→Option Value}{base:Heap}{N ps:List Str}{qual:Str}{scope:Scope}{f:Addr}{cd:Value}{A:Around}{outer:List Env}{s s1:Shared}{H:Hp}{E:XK}{us:List Value}{vs:List V}
  (S:FnScope N ps scope) (hd:A.handled=none) (e0:Env0 P w K mg base A outer s H) (hl:vs.length=ps.length) (r:Vals vs us)
  (x:InCallC s s.heap.objs.size (bindL (envOfC qual scope s.heap.objs.size f cd).kindOf (ps.zip us) fun _=>none) (cellsFrom (s.heap.objs.size+1) scope.names []) (bindC (envOfC qual scope s.heap.objs.size f cd).kindOf (ps.zip us) fun _=>none) s1) :
  Inv (aFG CX P w K mg base N qual scope f cd A outer s H E) [] (start N vs) H s1:=by
 have hpl:ps.length≤N.length:=by have:=congrArg List.length S.pre; rw[List.length_take] at this; omega
 obtain⟨h1,tk,rfl,hk⟩:=x.done;have noA:∀ b:Addr,b∉(aFG CX P w K mg base N qual scope f cd A outer s H E).ex:=fun b z=>absurd (show b∈([]:List Addr) from z) (by simp);refine⟨⟨e0.mod,S.kind,rfl,rfl,Nat.le_refl _,fun y z c h1 h2=>?_,fun y hy=>?_,fun y c _ h=>?_,fun _=>hd,Around.frames_deeper e0.frames,.inr ⟨rfl,rfl⟩,fun b z=>absurd z (noA b),e0.bs,e0.bsz,fun b _ _=>noA b,fun b z=>absurd z (noA b),e0.funs,e0.frf⟩,
  rfl,e0.bare,Un.kept hk,⟨_,x.toInCall.ns,fun i y v h1 h2 h3=>?_⟩,fun y c h=>⟨_,x.cell y c h⟩,e0.hok.fresh (Nat.le_refl _),fun y c h=>?_,fun p hp=>absurd (show p∈([]:List (Addr×Obj)) from hp) (by simp),e0.hok.kept hk,?_⟩
 ·exact name_of_addr x.apart (PySem.mem_of_lookup h1) (PySem.mem_of_lookup h2)
 ·have hy:scope.names.lookup y=some .cell∨scope.names.lookup y=some .free:=hy;rcases hy with hy|hy
  ·exact a8B hy
  ·exact absurd rfl (S.nofree _ (PySem.mem_of_lookup hy))
 ·exact Nat.le_of_lt (x.above y c (PySem.mem_of_lookup h))
 ·have hi:i<vs.length:=by
   unfold start at h2
   by_cases hi:i<vs.length
   ·exact hi
   ·rw[List.getElem?_append_right (by simpa using hi)] at h2;rw[List.getElem?_replicate] at h2
    split at h2<;>cases h2
  have ha:vs[i]?=some v:=by
   unfold start at h2;rw[List.getElem?_append_left (by simpa using hi),List.getElem?_map] at h2
   cases e:vs[i]? with
   | none=>rw[e] at h2; cases h2
   | some a=>rw[e] at h2; cases h2; rfl
  obtain⟨u,hu,rv⟩:=r.get ha;have hp:ps[i]?=some y:=by
   rw[← S.pre,List.getElem?_take_of_lt (by omega)]; exact h1
  have ndP:ps.Nodup:=by rw[← S.pre]; exact S.nd.sublist (List.take_sublist _ _)
  refine⟨u,rv,?_⟩;rcases S.par y (List.mem_of_getElem? hp) with k|k
  ·exact .inl ⟨k,a5M ndP hp hu k⟩
  ·obtain⟨c,e⟩:=a8B (n:=s.heap.objs.size+1) k;refine .inr ⟨.inl k,c,e,?_⟩;have q:=x.cell y c e;rw[a4B ndP hp hu (by show scope.names.lookup y≠_; rw[k]; decide)] at q;exact q
 ·exact e0.hok.fresh (Nat.le_of_lt (x.above y c (PySem.mem_of_lookup h)))
 ·unfold start;show _=N.length;rw[List.length_append,List.length_map,List.length_replicate];omega
theorem aNJ {CX:CXT}{P:Program}{w:World}{K:PySem.W.Frag}{mg:Str→Option Value}{base:Heap}{k:Nat}{f:Addr}{name qual:Str}{params:Arguments}{body:List Stmt}{scope:Scope}{dV kV doc pm cdv ct oc:Value}{an od:Option Addr}
  {osl:Array (Option Value)} {N ps:List Str} {sp:Sp} (lk:K.lookup f=some ⟨oc,od,.func (PySem.W.fnOf name qual params body scope dV kV doc pm an cdv ct),osl⟩) (hcd:PySem.W.codeIn K cdv qual=true) (S:FnScope N ps scope)
  (len:∀ vs H Q E,sp vs H Q E→vs.length=ps.length)
  (hbody:∀(A:Around) (outer:List Env) (s:Shared) (H:Hp) (vs:List V) (Q:VK) (E:XK),Room k (A.deeper (envOfC qual scope s.heap.objs.size f cdv))→sp vs H Q E →
   ∃ t,PSs (aFG CX P w K mg base N qual scope f cdv A outer s H E) body t∧t { nx:=fun _ H'=>Q .non H',rt:=Q } (start N vs) H) :
  FnOk P w K mg base CX (k+1) f (PySem.W.fnOf name qual params body scope dV kV doc pm an cdv ct) ps sp:=by
 refine⟨len,fun A outer s H args us vs Q E hr e0 hb r hsp=>?_⟩;have hl:=len _ _ _ _ hsp;have KX:K.In s.heap:=e0.mod.kin.keeps fun b o e=>(e0.bs b o e).1;have lim:s.heap.NoLimit:=e0.mod.nolimit.keeps fun b o e=>(e0.bs b o e).1;have hkind:∀ y∈ps.zip us,scope.names.lookup y.1=some .local∨(scope.names.lookup y.1=some .cell∧((cellsFrom (s.heap.objs.size+1) scope.names []).lookup y.1).isSome=true):=fun⟨n,v⟩ hy=>by
  rcases S.par n (List.of_mem_zip hy).1 with q|q
  ·exact .inl q
  ·exact .inr ⟨q,PySem.W.cellsFrom_some _ _ _ (.inl q)⟩
 refine codeAny_call_function hr.depth (KX _ _ lk) rfl S.co S.gen rfl (PySem.W.codeRec_of KX hcd) (hb _ _ _ _ ?_);refine wpAny_newFunctionEnv_cells S.kind hkind fun env he s1 x=>?_;subst he;refine⟨lim.keeps x.toInCall.keep,codeAny_func ?_⟩;obtain⟨t,ht,hq⟩:=hbody A outer s H vs Q E (hr.deeper _) hsp;have I:Inv (aFG CX P w K mg base N qual scope f cdv A outer s H E) [] (start N vs) H s1:=aBO S hr.hd e0 hl r x;refine wpAny_mono (ht [] s1 (start N vs) H _ I hq) (fun fl s' hs=>?_) fun e s' hs=>hs;have fin:∀{σ':St} {H':Hp} {v:V} {u:Value},Inv (aFG CX P w K mg base N qual scope f cdv A outer s H E) [] σ' H' s'→RelV v u→Q v H'→CE outer P w H s Q u s':=
  fun{σ' H' v u} J rv q=>⟨v,H',J.os,J.bare,J.base,J.hok,rv,q⟩
 cases fl with
 | ret u=>
  obtain⟨v,σ',H',J,rv,q⟩:=hs;exact fin J rv q
 | next=>
  obtain⟨σ',H',J,q⟩:=hs;exact fin (v:=V.non) (u:=Value.none) J rfl q
 | brk=>
  obtain⟨_,_,_,q⟩:=hs;exact False.elim q
 | cont=>
  obtain⟨_,_,_,q⟩:=hs;exact False.elim q
end L2
namespace L2
open PySem PySem.Spec PyProof.Rows
section
variable {X:Cx}{x:Str}{p pos:Pos}{e:Expr}{es:List Expr}{t:TA}{id T:String}{r:List V→Hp→VK→Prop}
noncomputable def tCB (r:List V→Hp→VK→Prop)(t:TA):TE:=fun σ H Q=>t σ H fun vs H1=>r vs H1 Q
theorem bQ (hc:a0M X (.builtin id) r)(hg:Gl X x)(hm:X.mg x=none)(hv:bootBuiltins x=some (.builtin id))(ha:PA X (e::es) t)(hn:x ≠ "__name__" := by decide)(hdb:(x==("__debug__" : Str))=false:=by decide)
  (he:starEach (e::es) X.env=(false,eval e X.env)::starEach es X.env:=by rfl) (hpl:(backTo pos (starEach es X.env)).any (·.1)=false:=by rfl):PE X (.Call (.Name x p) (e::es) [] pos) (tCB r t):=by
 intro pins s σ H Q I h;refine wpAny_Call_Name_kw (wM I hg hm hv ?_ hn hdb);exact PyProof.Rows.callWith_builtin1 (thn (ha pos pins s σ H _ I h) fun us s1 ⟨vs,H1,I1,r1,q1⟩=>hc pins s1 σ H1 vs us Q I1 r1 q1) he hpl
theorem iU (hc:a0M X (.type T) r)(hg:Gl X x)(hm:X.mg x=none)(hv:bootBuiltins x=some (.type T))(ha:PA X (e::es) t)(hn:x ≠ "__name__" := by decide)(hdb:(x==("__debug__" : Str))=false:=by decide)
  (he:starEach (e::es) X.env=(false,eval e X.env)::starEach es X.env:=by rfl) (hpl:(backTo pos (starEach es X.env)).any (·.1)=false:=by rfl):PE X (.Call (.Name x p) (e::es) [] pos) (tCB r t):=by
 intro pins s σ H Q I h;refine wpAny_Call_Name_kw (wM I hg hm hv ?_ hn hdb);exact PyProof.Rows.callWith_type1 (thn (ha pos pins s σ H _ I h) fun us s1 ⟨vs,H1,I1,r1,q1⟩=>hc pins s1 σ H1 vs us Q I1 r1 q1) he hpl
end
end L2
namespace HT
open PySem PyProof.Rows
section
open PySem.SeqAt
open PySem.AutoSeq1 (wpAny_loadPart')
open PySem.MeetsSeq PySem.MeetsSeq2 PySem.MeetsSeq3
end
section
variable {prog:Program}{w:World}{A:Around}{E:Value→Shared→Prop}{s:Shared}
noncomputable def sIx (n d:Nat):Option Int→Nat
 | none=>d
 | some v=>if v<0 then(v+(n:Int)).toNat else min v.toNat n
theorem sIx_nat (n d k:Nat):sIx n d (some (k:Int))=min k n:=by
 show(if (k:Int)<0 then((k:Int)+(n:Int)).toNat else min (k:Int).toNat n)=min k n
 rw[if_neg (by omega),Int.toNat_natCast]
end
end HT
namespace L2
open PySem PySem.Spec PyProof.Rows
abbrev TO:=St→Hp→(Option Int→Hp→Prop)→Prop
noncomputable def PO (X:Cx)(e:Option Expr)(t:TO):Prop:=
 ∀(pins:List (Addr×Obj)) (s:Shared) (σ:St) (H:Hp) (Q:Option Int→Hp→Prop),Inv X pins σ H s→t σ H Q →
  wpAny (model X.prog X.w) X.A (evalPart e X.env) (fun u s'=>∃ o H',Inv X pins σ H' s'∧IsPart u o∧Q o H') X.xe s
noncomputable def aDP:TO:=fun _ H Q=>Q none H
noncomputable def aKH (t:TE):TO:=fun σ H Q=>t σ H fun x H1=>∃ i,x=.int i∧Q (some i) H1
section
variable {X:Cx}{e:Expr}{te:TE}{lo hi:Option Expr}{tl th:TO}{pos p2:Pos}
theorem aK4:PO X none aDP:=by
 intro pins s σ H Q I h;rw[evalPart_none];exact wpAny_pure ⟨none,H,I,.none,h⟩
theorem yP (h:PE X e te):PO X (some e) (aKH te):=by
 intro pins s σ H Q I hw;rw[evalPart_some];refine thn (h pins s σ H _ I hw) fun u s1 ⟨x,H1,I1,r1,q1⟩=>?_;obtain⟨i,rfl,q⟩:=q1;obtain⟨t,rfl⟩:=r1;exact⟨some i,H1,I1,.int i t,q⟩
noncomputable def SlR (X:Cx)(r:V→Option Int→Option Int→Hp→VK→Prop):Prop:=
 ∀(pins:List (Addr×Obj)) (s:Shared) (σ:St) (H:Hp) (x:V) (v vl vu:Value) (lo hi:Option Int) (sl:Addr) (Q:VK),Inv X pins σ H s→RelV x v→s.heap.IsSliceOf sl vl vu .none→IsPart vl lo→IsPart vu hi→r x lo hi H Q →
  ∃ T id,typeLookup (.type T) "__getitem__" = pure (some (.builtin id))∧s.TypeIs v T∧wpAny (model X.prog X.w) X.A (getItem v (.ref sl)) (EP X pins σ Q) X.xe s
noncomputable def tSl (r:V→Option Int→Option Int→Hp→VK→Prop)(te:TE)(tl th:TO):TE:=fun σ H Q=>te σ H fun x H1=>tl σ H1 fun l H2=>th σ H2 fun u H3=>r x l u H3 Q
theorem a8C {r:V→Option Int→Option Int→Hp→VK→Prop}(hr:SlR X r)(he:PE X e te)(hl:PO X lo tl)(hu:PO X hi th):PE X (.Subscript e (.Slice lo hi none p2) pos) (tSl r te tl th):=by
 intro pins s σ H Q I h;refine Subscript_ (thn (he pins s σ H _ I h) fun v s1 ⟨x,H1,I1,r1,q1⟩=>?_);refine wpAny_Slice (thn (hl pins s1 σ H1 _ I1 q1) fun vl s2 ⟨l,H2,I2,pl,q2⟩=>thn (hu pins s2 σ H2 _ I2 q2) fun vu s3 ⟨u,H3,I3,pu,q3⟩=>?_);rw[evalPart_none];refine wpAny_pure ?_;have I4:Inv X pins σ H3 { s3 with heap:=s3.heap.push { cls:=.type "slice", data:=.fields #[vl,vu,.none] } }:=I3.kept (t':=s3.toks) fun b ob q=>Heap.get?_push_of_some _ q;obtain⟨T,id,hT,ht,hg⟩:=hr pins { s3 with heap:=s3.heap.push { cls:=.type "slice", data:=.fields #[vl,vu,.none] } } σ H3 x v vl vu l u s3.heap.objs.size Q I4 r1 (Heap.IsSliceOf.new ..) pl pu q3;show wpAny (model X.prog X.w) X.A (subscriptTail e (.Slice lo hi none p2) v (.ref s3.heap.objs.size)) (EP X pins σ Q) X.xe { s3 with heap:=s3.heap.push { cls:=.type "slice", data:=.fields #[vl,vu,.none] } };exact tail_any (ops:=[.ref s3.heap.objs.size,v]) ht hT hg (by with_unfolding_all rfl)
noncomputable def aK9 (xs:List V)(lo hi:Option Int):List V:=(xs.drop (HT.sIx xs.length 0 lo)).take (HT.sIx xs.length xs.length hi-HT.sIx xs.length 0 lo)
theorem a83 (xs:List V)(lo hi:Option Int):(aK9 xs lo hi).length≤xs.length:=by
 unfold aK9;rw[List.length_take,List.length_drop];omega
end
end L2
namespace L2
open PySem PySem.Spec PyProof.Rows
noncomputable def ixN (n:Nat)(i:Int):Option Nat:=if 0≤i then(if i<n then some i.toNat else none) else if -(n:Int)≤i then some (i+n).toNat else none
noncomputable def atI {α:Type}(xs:List α)(i:Int):Option α:=(ixN xs.length i).bind fun j=>xs[j]?
theorem aDQ {n:Nat}{i:Int}{j:Nat}(h:ixN n i=some j):seqIndex? i n=some j∧j<n ∧ -(n:Int)≤i∧i<n:=by
 unfold ixN at h
 by_cases h0:0≤i
 ·rw[if_pos h0] at h
  by_cases h1:i<n
  ·rw[if_pos h1] at h;have e:i.toNat=j:=Option.some.inj h;exact⟨by rw[seqIndex_of h0 h1,e],by omega,by omega,h1⟩
  ·rw[if_neg h1] at h; cases h
 ·rw[if_neg h0] at h
  by_cases h1 : -(n:Int)≤i
  ·rw[if_pos h1] at h;have e:(i+n).toNat=j:=Option.some.inj h;exact⟨by rw[seqIndex_neg (by omega) h1,e],by omega,h1,by omega⟩
  ·rw[if_neg h1] at h; cases h
theorem a6V {α:Type}{xs:List α}{i:Int}{v:α}(h:atI xs i=some v):∃ j,seqIndex? i xs.length=some j∧xs[j]?=some v∧j<xs.length ∧ -(xs.length:Int)≤i∧i<xs.length:=by
 unfold atI at h
 cases e:ixN xs.length i with
 | none=>rw[e] at h; cases h
 | some j=>
  rw[e] at h;obtain⟨h1,h2,h3,h4⟩:=aDQ e;exact⟨j,h1,h,h2,h3,h4⟩
theorem a6I {α:Type}{xs:List α}{j:Nat}{v:α}(h:xs[j]?=some v):atI xs (j:Int)=some v:=by
 have hj:j<xs.length:=(List.getElem?_eq_some_iff.mp h).1;have e:ixN xs.length (j:Int)=some j:=by
  unfold ixN;rw[if_pos (by omega),if_pos (by omega)]; simp
 unfold atI; rw[e]; exact h
noncomputable def aIC (b:Expr):Prop:=∀ o i,subscripted b false o i=operate [o,i] (getItem o i)
noncomputable def IxR (X:Cx)(r:R2):Prop:=
 ∀(value slice:Expr) (pins:List (Addr×Obj)) (s:Shared) (σ:St) (H:Hp) (x y:V) (v u:Value) (Q:VK),Inv X pins σ H s→RelV x v→RelV y u→r x y H Q →
  subscripted slice false v u=operate [v,u] (getItem v u)→wpAny (model X.prog X.w) X.A (subscriptTail value slice v u) (EP X pins σ Q) X.xe s
noncomputable def MtR (X:Cx)(id:String)(r:V→List V→Hp→VK→Prop):Prop:=
 ∀(pins:List (Addr×Obj)) (s:Shared) (σ:St) (H:Hp) (x:V) (xs:List V) (v:Value) (us:List Value) (Q:VK),Inv X pins σ H s→RelV x v→Vals xs us→r x xs H Q →
  wpAny (model X.prog X.w) X.A (call (.builtin id) (v::us)) (EP X pins σ Q) X.xe s
section
variable {X:Cx}{a b:Expr}{ta tb:TE}{pos:Pos}
theorem IxR.or {r r':R2}(h:IxR X r)(h':IxR X r'):IxR X (fun x y H Q=>r x y H Q∨r' x y H Q):=by
 intro value slice pins s σ H x y v u Q I rx ry q hs;rcases q with q|q
 ·exact h value slice pins s σ H x y v u Q I rx ry q hs
 ·exact h' value slice pins s σ H x y v u Q I rx ry q hs
theorem aV {r:R2}(hr:IxR X r)(ha:PE X a ta)(hb:PE X b tb)(hs:aIC b):PE X (.Subscript a b pos) (tOp r ta tb):=by
 intro pins s σ H Q I h;exact Subscript_ (aNU ha hb I h fun v u s2 x y H2 I2 rx ry q=>hr a b pins s2 σ H2 x y v u Q I2 rx ry q (hs _ _))
noncomputable def aQE (K:PySem.W.Frag):R2:=fun x y H Q=>∃ p xs i v,x=.ref p∧y=.int i∧SqL K H p xs∧atI xs i=some v∧Q v H
noncomputable def aPQ (K:PySem.W.Frag):R2:=fun x y H Q=>∃ p xs i v,x=.ref p∧y=.int i∧SqT K H p xs∧atI xs i=some v∧Q v H
noncomputable def aQG:R2:=fun x y H Q=>∃ z i c,x=.str z∧y=.int i∧z.length≤sizeLine∧atI z.cps.toList i=some c∧Q (.str ⟨#[c]⟩) H
theorem ix_list:IxR X (aQE X.K):=by
 intro value slice pins s σ H x y v u Q I rx ry h hs;obtain⟨p,xs,i,z,rfl,rfl,hq,he,q⟩:=h
 cases rx
 obtain⟨t,rfl⟩:=ry;obtain⟨its,r,pl,hz⟩:=I.list hq;obtain⟨j,h1,h2,h3,h4,h5⟩:=a6V he;obtain⟨w,ew,rw'⟩:=r.get h2;have hl:=r.length;have hn:=a1N;have fin:EP X pins σ Q w s:=⟨z,H,I,rw',q⟩
 by_cases h0:0≤i
 ·have hj:i.toNat=j:=by
   rw[seqIndex_of h0 h5] at h1;exact Option.some.inj h1
  exact item_listR pl.isList h0 (by omega) (by rw[hj]; simpa using ew) fin hs
 ·have hj:(i+(its.toArray.size:Int)).toNat=j:=by
   rw[seqIndex_neg (by omega) h4] at h1;rw[List.size_toArray,←hl];exact Option.some.inj h1
  exact subscriptTail_builtinR (x:=w) pl.isList.typeIs slot_list_getitem.lookup
   (wpAny_getItem_list_neg (Q:=fun r s'=>r=w∧EP X pins σ Q r s') pl.isList (by omega) (by rw[List.size_toArray]<;>omega) (by omega) (by rw[hj]; simpa using ew) ⟨rfl,fin⟩) hs
theorem ix_tup:IxR X (aPQ X.K):=by
 intro value slice pins s σ H x y v u Q I rx ry h hs;obtain⟨p,xs,i,z,rfl,rfl,hq,he,q⟩:=h
 cases rx
 obtain⟨t,rfl⟩:=ry;obtain⟨its,r,pl,hz⟩:=I.tuple hq;obtain⟨j,h1,h2,h3,h4,h5⟩:=a6V he;obtain⟨w,ew,rw'⟩:=r.get h2;have hl:=r.length;have hn:=a1N;have fin:EP X pins σ Q w s:=⟨z,H,I,rw',q⟩;exact subscriptTail_builtinR (x:=w) pl.typeIs slot_tuple_getitem.lookup
  (getItem_tuple (j:=j) (Q:=fun r s'=>r=w∧EP X pins σ Q r s') pl (by omega) (by omega) (by rw[List.size_toArray,←hl]; exact h1) (by simpa using ew) ⟨rfl,fin⟩) hs
theorem aM1:IxR X aQG:=by
 intro value slice pins s σ H x y v u Q I rx ry h hs;obtain⟨z,i,c,rfl,rfl,hz,he,q⟩:=h;obtain⟨t,rfl⟩:=rx;obtain⟨t',rfl⟩:=ry;obtain⟨j,h1,h2,h3,h4,h5⟩:=a6V he;have hl:z.cps.toList.length=z.length:=by simp[Str.length]
 rw[hl] at h1 h4 h5;have hn:=a1N;exact tail_any (typeIs_str s z t) slot_str_getitem.lookup (getItem_str (c:=c) (by
  have e1:decide (i < -(2^63:Int))=false:=decide_eq_false (by omega);have e2:decide (i≥2^63)=false:=decide_eq_false (by omega);rw[e1,e2,Bool.or_false]) (by rw[h1]; simpa using h2) ⟨.str ⟨#[c]⟩,H,I.tok _,⟨_,rfl⟩,q⟩) hs
noncomputable def rIx (K:PySem.W.Frag):R2:=fun x y H Q=>aQE K x y H Q∨aPQ K x y H Q∨aQG x y H Q
theorem aL:IxR X (rIx X.K):=ix_list.or (ix_tup.or aM1)
theorem aAY (its:List Value)(n j:Nat)(u:Value):Obj.mapSeq (·.setIfInBounds j u) { cls:=.type "list", data:=.seq its.toArray n }={ cls:=.type "list", data:=.seq (its.set j u).toArray n }:=by
 simp[Obj.mapSeq]
theorem Inv.lst {pins:List (Addr×Obj)}{σ:St}{H:Hp}{s:Shared}{p:Addr}{xs:List V}(I:Inv X pins σ H s)(h:H p=some (.lst xs)) :
  ∃(its:List Value) (n:Nat),Vals xs its∧s.heap.get? p=some { cls:=.type "list", data:=.seq its.toArray n }∧xs.length≤sizeLine:=by
 obtain⟨z,its,n,r,e⟩:=I.hok p _ h;exact⟨its,n,r,e,z⟩
theorem Inv.lstUpd {pins:List (Addr×Obj)}{σ:St}{H:Hp}{s:Shared}{p:Addr}{xs ys:List V}{its its':List Value}{n n':Nat}{f:Obj→Obj}(I:Inv X pins σ H s)(h:H p=some (.lst xs))
  (ho:s.heap.get? p=some { cls:=.type "list", data:=.seq its.toArray n }) (hf:f { cls:=.type "list", data:=.seq its.toArray n }={ cls:=.type "list", data:=.seq its'.toArray n' }) (r:Vals ys its') (hz:ys.length≤sizeLine) (t:Nat) :
  Inv X pins σ (upd H p (.lst ys)) { s with heap:=s.heap.update p f,toks:=t }:=by
 have e:(s.heap.update p f).get? p=some { cls:=.type "list", data:=.seq its'.toArray n' }:=by
  rw[Heap.get?_update_self f ho (by rw[hf]<;>rfl),hf]
 refine I.write (x:=p) (e:=p) (by rw[h]; trivial) (.inl rfl) (fun b u hb q=>(Heap.get?_update_other _ _ (Ne.symm hb)).trans q) ⟨_,e⟩ ?_;exact⟨hz,its',n',r,e⟩
noncomputable def aM3:V→V→V→Hp→(Hp→Prop)→Prop:=fun o i v H Q=>∃ p xs k j,o=.ref p∧i=.int k∧H p=some (.lst xs)∧ixN xs.length k=some j∧Q (upd H p (.lst (xs.set j v)))
theorem set_list:aQB X aM3:=by
 intro pins s σ H o i v ov iv u Q I ro ri rv h;obtain⟨p,xs,k,j,rfl,rfl,hp,hj,q⟩:=h
 cases ro
 obtain⟨t,rfl⟩:=ri;obtain⟨its,n,r,ho,hz⟩:=I.lst hp;obtain⟨h1,h2,h3,h4⟩:=aDQ hj;have hl:=r.length;have hn:=a1N;have I':Inv X pins σ (upd H p (.lst (xs.set j v))) { s with heap:=s.heap.update p (Obj.mapSeq (·.setIfInBounds j u)) }:=
  I.lstUpd hp ho (aAY its n j u) (r.set rv j) (by rw[List.length_set]; exact hz) s.toks
 by_cases h0:0≤k
 ·have hk:k.toNat=j:=by
   rw[seqIndex_of h0 h4] at h1;exact Option.some.inj h1
  exact PySem.W.ki_setAt ho h0 (by omega) (by rw[List.size_toArray,←hl]; exact h4) (by rw[hk]; exact⟨_,I',q⟩)
 ·have hk:(k+(its.toArray.size:Int)).toNat=j:=by
   rw[seqIndex_neg (by omega) h3] at h1;rw[List.size_toArray,←hl];exact Option.some.inj h1
  exact PySem.W.ki_setBack ho (by omega) (by rw[List.size_toArray,←hl]; exact h3) (by omega) (by rw[hk]; exact⟨_,I',q⟩)
theorem a3W (lo hi:Option Int)(n:Nat):(sliceBounds lo hi none n).1=((HT.sIx n 0 lo:Nat):Int)∧(sliceBounds lo hi none n).2.1=((HT.sIx n n hi:Nat):Int)∧(sliceBounds lo hi none n).2.2=1:=by
 refine⟨?_,?_,rfl⟩
 ·cases lo with
  | none=>simp[sliceBounds,HT.sIx]
  | some i=>
   simp only[sliceBounds,HT.sIx,Option.getD_none,show(1:Int)>0 by decide,if_true]
   by_cases h:i<0
   ·simp only[h,if_true]<;>omega
   ·simp only[h,if_false]<;>omega
 ·cases hi with
  | none=>simp[sliceBounds,HT.sIx]
  | some i=>
   simp only[sliceBounds,HT.sIx,Option.getD_none,show(1:Int)>0 by decide,if_true]
   by_cases h:i<0
   ·simp only[h,if_true]<;>omega
   ·simp only[h,if_false]<;>omega
theorem a2J (its:List Value)(lo hi:Option Int):slicePick its.toArray lo hi none=((its.drop (HT.sIx its.length 0 lo)).take (HT.sIx its.length its.length hi-HT.sIx its.length 0 lo)).toArray:=by
 obtain⟨h1,h2,h3⟩:=a3W lo hi its.toArray.size;unfold slicePick;rw[h1,h2,h3];simp only[sliceRange_one,pick_run,List.size_toArray]<;>rfl
noncomputable def aPU (K:PySem.W.Frag):V→Option Int→Option Int→Hp→VK→Prop:=fun x lo hi H Q=>∃ a xs,x=.ref a∧SqL K H a xs∧∀ p,H p=none→Q (.ref p) (upd H p (.lst (aK9 xs lo hi)))
theorem aCJ:SlR X (aPU X.K):=by
 intro pins s σ H x v vl vu lo hi sl Q I rx hs pl pu h;obtain⟨a,xs,rfl,hx,q⟩:=h
 cases rx
 obtain⟨its,r,ht,hz⟩:=I.list hx;have hlen:=r.length;refine⟨"list", _,slot_list_getitem.lookup,ht.isList.typeIs,?_⟩;refine wpAny_getItem_list_slice ht.isList hs pl pu .none (by simp) ?_ (by rw[List.size_toArray]<;>omega);rw[a2J,←hlen];refine⟨.ref s.heap.objs.size,_,I.laid (t':=s.toks) (o:=.lst (aK9 xs lo hi)) (fun b ob q=>Heap.get?_push_of_some _ q) (Nat.le_refl _) ?_,rfl,q _ (I.hok.fresh (Nat.le_refl _))⟩;exact⟨Nat.le_trans (a83 xs lo hi) hz,_,0,(r.drop (HT.sIx xs.length 0 lo)).take (HT.sIx xs.length xs.length hi-HT.sIx xs.length 0 lo),Heap.get?_push_size _ rfl⟩
theorem bR:a0M X (.builtin "len") (fun xs H Q=>∃ p ys,xs=[.ref p]∧(SqL X.K H p ys∨SqT X.K H p ys)∧Q (.int ys.length) H):=by
 intro pins s σ H xs us Q I r h;obtain⟨p,ys,rfl,hq,q⟩:=h;obtain⟨u,rfl,rx⟩:=vals1 r
 cases rx
 have hn:=a1N;rcases hq with hq|hq
 ·obtain⟨its,r',pl,hz⟩:=I.list hq;have hlen:=r'.length;exact Calls.call_len_list pl.isList (by simp only[List.size_toArray]<;>omega) ⟨.int ys.length,H,I.tok _,⟨s.toks+1,by rw[List.size_toArray,hlen]⟩,q⟩
 ·obtain⟨its,r',pl,hz⟩:=I.tuple hq;have hlen:=r'.length;exact len_tuple pl (by simp only[List.size_toArray]<;>omega) ⟨.int ys.length,H,I.tok _,⟨s.toks+1,by rw[List.size_toArray,hlen]⟩,q⟩
theorem gA:a0M X (.type "list") (fun xs H Q=>∃ p ys,xs=[.ref p]∧(SqL X.K H p ys∨SqT X.K H p ys)∧∀ l,H l=none→Q (.ref l) (upd H l (.lst ys))):=by
 intro pins s σ H xs us Q I r h;obtain⟨p,ys,rfl,hq,q⟩:=h;obtain⟨u,rfl,rx⟩:=vals1 r
 cases rx
 have fin:∀(its:List Value),Vals ys its→ys.length≤sizeLine→∀(h':Heap) (c':Nat),(∀ b o',s.heap.get? b=some o'→h'.get? b=some o') →
   h'.get? s.heap.objs.size=some { cls:=.type "list", dict:=none,data:=.seq its.toArray c',slots:=#[] }→EP X pins σ Q (.ref s.heap.objs.size) { s with heap:=h' }:=fun its r' hz h' c' kp e=>
  ⟨.ref s.heap.objs.size,_,I.laid (t':=s.toks) kp (Nat.le_refl _) (show ObjOk X.prog X.w _ h' _ (.lst ys) from⟨hz,its,c',r',e⟩),rfl,q _ (I.hok.fresh (Nat.le_refl _))⟩
 rcases hq with hq|hq
 ·obtain⟨its,r',pl,hz⟩:=I.list hq;have hlen:=r'.length;obtain⟨o,ho,hc,n,hd⟩:=pl.isList;exact call_list_seq p (.inl rfl) ho hc hd (fun h' c' kp e=>fin its r' hz h' c' kp e) (by simp only[List.size_toArray]<;>omega)
 ·obtain⟨its,r',pl,hz⟩:=I.tuple hq;have hlen:=r'.length;obtain⟨o,ho,hc,n,hd⟩:=pl;exact call_list_seq p (.inr rfl) ho hc hd (fun h' c' kp e=>fin its r' hz h' c' kp e) (by simp only[List.size_toArray]<;>omega)
noncomputable def tyV (K:PySem.W.Frag)(T:String)(x:V)(H:Hp):Prop:=match x with
 | .str _=>T = "str"
 | .int _=>T = "int"
 | .ref p=>(T = "list" ∧ ∃ xs,SqL K H p xs)∨(T = "tuple" ∧ ∃ o,K.lookup p=some o∧o.cls=.type "tuple" ∧ o.dict=none) ∨
   (T = "dict" ∧ ((∃ kvs,H p=some (.dK kvs))∨∃ kvs,H p=some (.dT kvs)))∨(T = "set" ∧ ∃ S n,H p=some (.set S n))
 | _=>False
theorem aMX {pins:List (Addr×Obj)}{σ:St}{H:Hp}{s:Shared}{T:String}{x:V}{v:Value}(I:Inv X pins σ H s)(r:RelV x v)(ty:tyV X.K T x H) :
  s.TypeIs v T∧∀ a,v=.ref a→∃ ob,s.heap.get? a=some ob∧ob.dict=none:=by
 cases x with
 | str z=>
  obtain⟨t,rfl⟩:=r
  cases(show T = "str" from ty)
  exact⟨typeIs_str s z t,fun _ e=>nomatch e⟩
 | int i=>
  obtain⟨t,rfl⟩:=r
  cases(show T = "int" from ty)
  exact⟨typeIs_int s i t,fun _ e=>nomatch e⟩
 | ref p=>
  cases r
  rcases ty with⟨rfl,xs,hq⟩|⟨rfl,o,hk,hc,hd⟩|⟨rfl,hk⟩|⟨rfl,S,n,hk⟩
  ·obtain⟨its,_,pl,_⟩:=I.list hq;refine⟨pl.isList.typeIs,fun a e=>?_⟩
   cases e
   obtain⟨o,n,e,c,hd,_⟩:=pl;exact⟨o,e,hd⟩
  ·refine⟨⟨o,I.kIn p o hk,hc⟩,fun a e=>?_⟩
   cases e
   exact⟨o,I.kIn _ o hk,hd⟩
  ·have z:∃ o,s.heap.get? p=some o∧o.ExactDict:=by
    rcases hk with⟨kvs,hk⟩|⟨kvs,hk⟩
    ·obtain⟨_,_,_,_,o,_,_,e,ex,_⟩:=I.hok p _ hk;exact⟨o,e,ex⟩
    ·obtain⟨_,_,_,_,o,_,_,e,ex,_⟩:=I.hok p _ hk;exact⟨o,e,ex⟩
   obtain⟨o,e,ex⟩:=z;refine⟨⟨o,e,ex.1⟩,fun a e2=>?_⟩
   cases e2
   exact⟨o,e,ex.2.1⟩
  ·obtain⟨o,_,_,_,e,ex,_⟩:=I.hok p _ hk;refine⟨⟨o,e,ex.1⟩,fun a e2=>?_⟩
   cases e2
   exact⟨o,e,ex.2.1⟩
 | _=>exact False.elim ty
noncomputable def tBM (K:PySem.W.Frag)(T:String)(r:V→List V→Hp→VK→Prop)(to:TE)(t:TA):TE:=fun σ H Q=>to σ H fun x H1=>tyV K T x H1∧t σ H1 fun xs H2=>r x xs H2 Q
variable {o e:Expr}{es:List Expr}{to:TE}{t:TA}{name:Str}{apos cpos:Pos}{T id:String}{r:V→List V→Hp→VK→Prop}
theorem aEI (pa:PlainAttrs T)(slot:Slot T name id)(hty:typeOf (.builtin id)=pure (.type "method_descriptor"))(hm:MtR X id r)(ho:PE X o to)(ha:PA X (e::es) t)
  (hbase:attributeBase o name X.env (eval o X.env)=eval o X.env:=by rfl)
  (hfew:((backTo cpos (starEach (e::es) X.env)).all (fun x => !x.1)&&(backToKw cpos (keywordEach [] X.env)).all (fun x=>x.1.isSome)
   && decide ((e::es).length+([]:List Keyword).length+(if ([]:List Keyword).isEmpty then 0 else 1)<30))=true:=by rfl)
  (hline:(apos.endLine==cpos.line)=true:=by rfl) (hs:starEach (e::es) X.env=(false,eval e X.env)::starEach es X.env:=by rfl) (hplain:(backTo cpos (starEach es X.env)).any (·.1)=false:=by rfl) :
  PE X (.Call (.Attribute o name apos) (e::es) [] cpos) (tBM X.K T r to t):=by
 intro pins s σ H Q I h;refine wpAny_Call_method_late hbase hfew hline rfl (thn (ho pins s σ H _ I h) fun v s1 ⟨x,H1,I1,r1,ty,q1⟩=>?_);obtain⟨h1,h2⟩:=aMX I1 r1 ty;refine⟨T,id,pa,slot,hty,h1,h2,?_⟩;have hA:=ha cpos pins s1 σ H1 _ I1 q1;rw[hs] at hA ⊢;refine Calls.callWith_builtin (by show(false||(backTo cpos (starEach es X.env)).any (·.1))=false; rw[hplain]<;>rfl) (Calls.evalArgs_plain ?_);exact thn hA fun us s2 ⟨vs,H2,I2,r2,q2⟩=>hm pins s2 σ H2 x vs v us Q I2 r1 r2 q2
end
end L2
namespace L2
open PySem PySem.Spec PyProof.Rows
noncomputable def MtM (X:Cx)(id:String)(r:V→List V→Hp→VK→Prop):Prop:=
 ∀(pins:List (Addr×Obj)) (s:Shared) (σ:St) (H:Hp) (x:V) (xs:List V) (v:Value) (us:List Value) (Q:VK),Inv X pins σ H s→RelV x v→Vals xs us→r x xs H Q →
  wpAny (model X.prog X.w) X.A (call (.builtin id) (v::us)) (EP X pins σ Q) X.xe s
theorem Vals.one:∀{x:V} {us:List Value},Vals [x] us→∃ u,us=[u]∧RelV x u:=by
 intro x us h
 cases h with
 | cons r t=>cases t; exact⟨_,rfl,r⟩
theorem Vals.two:∀{x y:V} {us:List Value},Vals [x,y] us→∃ u v,us=[u,v]∧RelV x u∧RelV y v:=by
 intro x y us h
 cases h with
 | cons r t=>
  obtain⟨v,rfl,q⟩:=Vals.one t;exact⟨_,_,rfl,r,q⟩
section
variable {X:Cx}{pins:List (Addr×Obj)}{σ:St}{H:Hp}{s:Shared}{l b:Addr}{xs ys zs:List V}
theorem Inv.lset {its its':List Value}{n:Nat}{f:Array Value→Array Value}{t':Nat}(I:Inv X pins σ H s)(hH:H l=some (.lst xs))
  (e:s.heap.get? l=some { cls:=.type "list", data:=.seq its.toArray n }) (hf:f its.toArray=its'.toArray) (hv:Vals ys its') (hz:ys.length≤sizeLine) :
  Inv X pins σ (upd H l (.lst ys)) { s with heap:=s.heap.update l (Obj.mapSeq f),toks:=t' }:=by
 have q:=PySem.IsL.update e f;rw[hf] at q;refine I.write (x:=l) (e:=l) (by rw[hH]; exact trivial) (.inl rfl) (fun b' u hb hu=>(Heap.get?_update_other s.heap (Obj.mapSeq f) (Ne.symm hb)).trans hu) ⟨_,q⟩ ?_;exact⟨hz,its',_,hv,q⟩
theorem Inv.lnew {its:List Value}{t':Nat}(I:Inv X pins σ H s)(hv:Vals ys its)(hz:ys.length≤sizeLine) :
  Inv X pins σ (upd H s.heap.objs.size (.lst ys)) { s with heap:=s.heap.push { cls:=.type "list", data:=.seq its.toArray },toks:=t' }:=
 I.laid (fun _ _ q=>Heap.get?_push_of_some _ q) (Nat.le_refl _) ⟨hz,its,0,hv,Heap.get?_push_size _ rfl⟩
theorem Inv.fresh (I:Inv X pins σ H s):H s.heap.objs.size=none:=I.hok.fresh (Nat.le_refl _)
theorem Inv.lstM (I:Inv X pins σ H s)(hH:H l=some (.lst xs)):xs.length≤sizeLine∧∃(its:List Value) (n:Nat),Vals xs its∧xs.length=its.length∧s.heap.get? l=some { cls:=.type "list", data:=.seq its.toArray n }:=by
 obtain⟨z,its,n,r,e⟩:=I.hok l _ hH;exact⟨z,its,n,r,r.length,e⟩
theorem a9C {n:Nat}(h:n≤sizeLine):Builtin.List.listTooLong n=false:=by
 unfold Builtin.List.listTooLong;exact decide_eq_false (by omega)
end
section
variable {X:Cx}
noncomputable def aB9:V→List V→Hp→VK→Prop:=fun x vs H Q=>∃ l xs y,x=.ref l∧vs=[y]∧H l=some (.lst xs)∧xs.length<sizeLine∧Q .non (upd H l (.lst (xs++[y])))
theorem yG:MtM X "list.append" aB9:=by
 intro pins s σ H x vs v us Q I rx rv h;obtain⟨l,xs,y,rfl,rfl,hH,hz,q⟩:=h
 cases rx
 obtain⟨u,rfl,ru⟩:=rv.one;obtain⟨z,its,n,r,hl,e⟩:=I.lstM hH;refine call_meets F.slot_list_append ⟨_,e,rfl⟩ F.entry_list_append (F.args_list_append_2 _ _) (PySem.list_append l its.toArray n u (by rw[List.size_toArray]; omega)) ⟨e,?_⟩;refine⟨.non,_,I.lset (its':=its++[u]) hH e (by simp) (r.append (.cons ru .nil)) ?_,rfl,q⟩;rw[List.length_append,List.length_singleton];omega
noncomputable def aQ0:R2:=fun x y H Q=>∃ l b xs zs,x=.ref l∧y=.ref b∧H l=some (.lst xs)∧H b=some (.lst zs)∧xs.length+zs.length≤sizeLine∧∀ p,H p=none→Q (.ref p) (upd H p (.lst (xs++zs)))
theorem aHS:OpR X (binaryOp .Add) aQ0:=by
 intro pins s σ H x y v u Q I rx ry h;obtain⟨l,b,xs,zs,rfl,rfl,hH,hB,hz,q⟩:=h
 cases rx
 cases ry
 obtain⟨z,its,n,r,hl,e⟩:=I.lstM hH;obtain⟨z2,its2,n2,r2,hl2,e2⟩:=I.lstM hB;refine PySem.P.add_list e e2 ?_ (by rw[List.size_toArray,List.size_toArray]; omega);have ea:its.toArray++its2.toArray=(its++its2).toArray:=by simp
 rw[ea];exact⟨.ref _,_,I.lnew (t':=s.toks) (r.append r2) (by rw[List.length_append]; omega),rfl,q _ I.fresh⟩
end
section
variable {prog:Program}{w:World}{A:Around}{E:Value→Shared→Prop}{s:Shared}
theorem aDM (its its2:List Value)(a c:Nat):its.toArray.extract 0 a++its2.toArray++its.toArray.extract c its.toArray.size=(its.take a++its2++its.drop c).toArray:=by
  apply Array.toList_inj.mp
  first
    | (simp
       exact List.take_of_length_le (by simp))
    | simp[List.take_of_length_le]
    | simp
theorem aB0 {a c n:Nat}(hac:a≤c)(hc:c≤n):sliceBounds (some (a:Int)) (some (c:Int)) none n=((a:Int),(c:Int),1):=by
 simp only[sliceBounds,Option.getD_none];have h1:¬((a:Int)<0):=by omega
 have h2:¬((c:Int)<0):=by omega
 simp only[h1,h2,if_false,show(1:Int)>0 by decide,if_true]
 congr 1
 ·omega
 ·congr 1; omega
set_option maxRecDepth 100000 in
theorem a3J {l b sl:Addr}{items new:Array Value}{n n2:Nat}{vl vu:Value}{a c:Nat}{Q:Unit→Shared→Prop}
    (e:s.heap.get? l=some { cls:=.type "list", data:=.seq items n }) (e2:s.heap.get? b=some { cls:=.type "list", data:=.seq new n2 }) (hne:l≠b)
    (hs:s.heap.IsSliceOf sl vl vu .none) (pl:IsPart vl (some (a:Int))) (pu:IsPart vu (some (c:Int))) (hac:a≤c) (hc:c≤items.size)
    (hsz:items.size+new.size≤sizeLine) (h:Q () { s with heap:=s.heap.update l (Obj.mapSeq fun xs=>xs.extract 0 a++new++xs.extract c xs.size) }) :
    wpAny (model prog w) A (setItem (.ref l) (.ref sl) (.ref b)) Q E s:=by
  have hl:s.heap.IsList l items:=PySem.IsL.isList e;have hb:s.heap.IsList b new:=PySem.IsL.isList e2;obtain⟨os,hos,hcs,hds⟩:=id hs;have hTs:s.TypeIs (.ref sl) "slice" := ⟨os,hos,hcs⟩;have hstep:¬((rawPart none==rawInt 0)=true):=Bool.false_ne_true;have hsame:Builtin.List.listSameRef (.ref l) (.ref b)=false:=by
    unfold Builtin.List.listSameRef;exact beq_eq_false_iff_ne.mpr hne
  have hmax:(max (a:Int) (c:Int)).toNat=c:=by omega
  have hz':((fun xs:Array Value=>xs.extract 0 a++new++xs.extract c xs.size) items).size≤sizeLine+1:=by
    simp only[Array.size_append,Array.size_extract];omega
  unfold setItem
  try with_reducible refine wpAny_holding ?_
  first|refine wpAny_bind (wpAny_pure ?_)|skip
  refine wpAny_bind (wpAny_sequenceKey hl.typeIs (by decide) ?_);refine wpAny_bind (wpAny_callSpecial?_slot (name:=Str.ofString "__setitem__") hl.typeIs slot_list_setitem
    (wpAny_call_entry slot_list_setitem hl.typeIs entry_list_setitem ?_ (args_list_setitem _ _ _)))
  show wpAny _ _ (Builtin.List.listSubscript? (.ref sl) >>= _) _ _ s;refine wpAny_bind ?_;unfold Builtin.List.listSubscript?;refine wpAny_bind (wpAny_specialOf hTs slice_no_index ?_);simp only[Option.isNone_none,if_true];refine wpAny_pure ?_;show wpAny _ _ (typeOf (.ref sl) >>= _) _ _ s;refine wpAny_bind (wpAny_typeOf hTs ?_)
  first
    | rw[if_neg (by decide)]
    | refine PySem.W.KFB.if_not (by decide) ?_
  rw[listSliceParts_eq];refine wpAny_bind (wpAny_bind (wpAny_field hos hds (x:=.none) rfl (wpAny_bind (wpAny_listPart .none ?_))));rw[if_neg hstep];refine wpAny_bind (wpAny_field hos hds (x:=vl) rfl (wpAny_bind (wpAny_listPart pl ?_)));refine wpAny_bind (wpAny_field hos hds (x:=vu) rfl (wpAny_bind (wpAny_listPart pu (wpAny_pure ?_))))
  first
    | simp only[hsame,Bool.false_eq_true,if_false]
    | refine PySem.W.KFB.if_not hsame ?_
    | (dsimp only
       rw[if_neg (by rw[hsame]; exact Bool.false_ne_true)])
  refine wpAny_bind (m:=Builtin.List.listAllItems (.ref b) "must assign iterable to extended slice") ?_;unfold Builtin.List.listAllItems;refine wpAny_bind (wpAny_typeOf hb.typeIs ?_)
  first
    | refine PySem.W.KFB.if_so (by decide) ?_
    | rw[if_pos (by decide)]
    | simp only[beq_self_eq_true,Bool.true_or,if_true]
  unfold Builtin.List.listItems;refine wpAny_bind (wpAny_seqItems e2 rfl (wpAny_pure ?_));refine wpAny_bind (wpAny_bind (wpAny_seqItems e rfl (wpAny_pure ?_)));refine wpAny_bind (wpAny_of_eq ((sliceIndices_raw (some (a:Int)) (some (c:Int)) none items.size (by simp)).trans (congrArg (pure:Int×Int×Int→Sem (Int×Int×Int)) (aB0 hac hc))) ?_);show wpAny _ _ (if ((1:Int)==1)=true then _ else _) _ _ s;rw[if_pos (by decide)];refine wpAny_bind (wpAny_rule ?_)
  first
    | simp only[a9C hsz,Bool.false_eq_true,if_false]
    | refine PySem.W.KFB.if_not (a9C hsz) ?_
  first|refine wpAny_bind (wpAny_pure ?_)|skip
  show wpAny _ _ (updateSeq l (fun xs=>xs.extract 0 ((a:Int)).toNat++new++xs.extract (max (a:Int) (c:Int)).toNat xs.size) >>= _) _ _ s;rw[hmax,Int.toNat_natCast];refine wpAny_bind (wpAny_updateSeq (hz:=Nat.le_trans (Nat.le_add_right _ _) hsz) (_hz':=hz') e rfl ?_);refine wpAny_bind (wpAny_letGo ?_)
  first
    | exact wpAny_bind (wpAny_pure (wpAny_pure ⟨.none,rfl,wpAny_pure h⟩))
    | exact wpAny_pure ⟨.none,rfl,wpAny_pure h⟩
end
section
variable {X:Cx}
end
end L2
namespace Att
open PySem PySem.W PySem.Calls PyProof.Rows
theorem a06 {P:Params}{h:Heap}:∀(ns:List Int) (vs:List Value),WellAll P h vs (ns.map WData.int)→IntsAre vs ns:=by
 intro ns
 induction ns with
 | nil=>
  intro vs w;rw[List.map_nil] at w
  cases w
  exact .nil
 | cons n ns ih=>
  intro vs w;rw[List.map_cons] at w
  cases w with
  | cons a b=>
   cases a
   exact .cons _ _ (ih _ b)
theorem aC1 {l:OpenLaw}{n:Nat}(hn:l.most=some n){P:Params}{h:Heap}{args:List WData}{vals:List Value}
  (hpre:l.row.toRowW.claim.pre args=true) (hwl:WellAll P h vals args) :
  ∃ a vs ns,vals=[Value.ref a]∧args=[WData.list (ns.map WData.int)]∧h.get? a=some { cls:=.type "list", data:=.seq vs.toArray }∧IntsAre vs ns∧ns.length≤n:=by
 have hsh:WShape.hasAll [] args [.list .int]=true:=(pre_splitW hpre).1;have hc:l.pre.holds [] { args:=args }=true:=(pre_splitW hpre).2;obtain⟨d,r,rfl,h1,h2⟩:=hasAllW_cons hsh;obtain rfl:=hasAllW_nil h2;obtain⟨xs,rfl,h3⟩:=hasW_list h1;obtain⟨ns,rfl⟩:=items_int h3;have hlen:ns.length≤n:=by
  unfold OpenLaw.pre at hc;have h4:(WTm.not (.lt (.lit (.int (n:Int))) (.len (.arg 0)))).holds [] { args:=[.list (ns.map .int)] }=true:=by
   have h4:=(holds_andW hc).1;rw[hn] at h4;exact h4
  have h5:=condW_of h4 (w_not (w_lt w_lit (w_len_list (w_arg rfl))));rw[List.length_map] at h5;refine Nat.le_of_not_lt fun q=>?_;have q':(n:Int)<((ns.length:Nat):Int):=by omega
  first
   | (rw[decide_eq_true q'] at h5; exact absurd h5 (by decide))
   | (simp at h5; omega)
 cases hwl with
 | cons w1 w2=>
  cases w2
  cases w1 with
  | list ho hall=>exact⟨_,_,ns,rfl,rfl,ho,a06 ns _ hall,hlen⟩
theorem aE8 (l:OpenLaw)(args:List WData):l.row.toRowW.claim.post args (.bool true) args=true:=
 postW_of (r:=l.row.toRowW) (X:=(true==true))
  (show WShape.has [] (.bool true) .bool=true by first|rfl|decide|simp[WShape.has,WShape.arms,WShape.armsAll])
  (show(WTm.eq .res (.lit (.bool true))).value [] { args:=args,res:=some (.bool true),after:=args }=some (.bool (true==true)) from w_eq_bool (w_res rfl) w_lit) rfl
theorem attach_call {l:OpenLaw}{n:Nat}{q:Program}{loose:List Str}{XP:(Str→Option Value)→Heap→Prop}{YP:World→Heap→Prop}{d:DefRec}
  (hn:l.most=some n) (hdf:d.params.defaults=[])
  (call:∀(w:World) (s₀ s₁:Shared) (mg mb:Str→Option Value) (fa:Addr) (o:Obj) (pm cd doc:Value) (a:Addr) (vs:List Value) (ns:List Int),
   Ground q loose [] XP w s₀ mg mb s₁.heap→YP w s₁.heap →
   s₁.heap.get? fa=some o→o.data=.func (docDef d.name d.params d.body d.scope pm cd doc)→s₁.heap.CodeRec cd d.name→mg d.name=some (.ref fa) →
   s₁.heap.get? a=some { cls:=.type "list", data:=.seq vs.toArray }→IntsAre vs ns→ns.length≤n→s₁.gens=#[] →
   codeAny (model l.prog w) callerA (.call (.ref fa) ⟨[.ref a],[]⟩) (fun r s'=>r=.ok (.ret (.bool true))∧OldK s₁.heap s'.heap∧s'.os=s₁.os∧AllBare s'.gens) s₁) :
  WalkO q loose XP YP l.row.toRowW d [] (fun f vs=>PySem.call f vs):=by
 intro w s₀ s₁ mg mb G Y fa o pm cd doc dV kV ho hd hcd hD hmg hg args vals as hpre hlay hrd hwl hlo;obtain rfl:dV=.none:=Dflts.none hD hdf;obtain rfl:kV=.none:=Dflts.noKw hD;obtain⟨a,vs,ns,rfl,rfl,hobj,hints,hlen⟩:=aC1 hn hpre hwl;refine enter_call (codeAny_mono (call w s₀ s₁ mg mb fa o pm cd doc a vs ns G Y ho (fd_plain hd) hcd hmg hobj hints hlen hg) fun r s' hq=>?_);obtain⟨rfl,h2,h3,h4⟩:=hq;exact⟨.inl ⟨.bool true,.bool true,[],rfl,fun _=>rfl,.bool true,aE8 l _,fun _=>⟨List.Pairwise.nil,fun _ hm=>(nomatch hm)⟩⟩,h2,h3,h4⟩
section
variable {prog:Program}{w:World}{A:Around}{E:Value→Shared→Prop}{s:Shared}{K:Frag}
end
end Att
namespace L2
open PySem PySem.Spec PyProof.Rows
theorem aC6:∀{vs:List Value} {ns:List Int},IntsAre vs ns→Vals (ns.map V.int) vs:=by
 intro vs ns h
 induction h with
 | nil=>exact .nil
 | cons n t h ih=>exact .cons ⟨t,rfl⟩ ih
noncomputable def Only (H:Hp):Prop:=∀ b,H b=none∨∃ o xs,H b=some (.frz o (.lst xs))
theorem law_call {P:Program}{w:World}{K:PySem.W.Frag}{mg mb:Str→Option Value}{CX:CXT}{k:Nat}{fa a:Addr}{fd:FuncData}{x:Str}{sp:Sp}{s₁:Shared}{vs:List Value}{ns:List Int}
  (KX:K.In s₁.heap) (hns:s₁.heap.Ns mainGlobals mg) (hb:s₁.heap.Ns builtinsNs mb) (hbb:∀ x:Str,x ≠ "__name__" → mb x=bootBuiltins x) (hlim:s₁.heap.NoLimit) (hg:s₁.gens=#[])
  (ha:s₁.heap.get? a=some { cls:=.type "list", data:=.seq vs.toArray }) (hi:IntsAre vs ns) (hl:ns.length≤sizeLine) (hr:Room k callerA)
  (F:∀ base:Heap,K.In base→base.Ns mainGlobals mg→FnOk P w K mg base CX k fa fd [x] sp) (hbind:∀(s:Shared) (u:Value),BindsTo s fd ⟨[u],[]⟩ [(x,u)])
  (hsp:∀ H:Hp,Only H→SqL K H a (ns.map V.int)→sp [.ref a] H (fun v _=>v=.bl true) fun _ _ _=>False)
  (hCX:∀ H e s',CX [] H s₁ (fun _ _ _=>False) e s'→False) :
  codeAny (model P w) callerA (.call (.ref fa) ⟨[.ref a],[]⟩) (fun r s'=>r=.ok (.ret (.bool true))∧OldK s₁.heap s'.heap∧s'.os=s₁.os∧AllBare s'.gens) s₁:=by
 have rv:=aC6 hi;have lenV:=hi.length;have core:∀ H:Hp,Only H→SqL K H a (ns.map V.int)→HOk P w H s₁.heap→(∀ b,H b≠none→b=a)→(H a≠none→K.lookup a=none) →
   codeAny (model P w) callerA (.call (.ref fa) ⟨[.ref a],[]⟩) (fun r s'=>r=.ok (.ret (.bool true))∧OldK s₁.heap s'.heap∧s'.os=s₁.os∧AllBare s'.gens) s₁:=by
  intro H hO hS hok hA hK;have base_of:∀{b:Addr} {o:Obj},s₁.heap.get? b=some o→H b=none→(aFQ s₁.heap H).get? b=some o:=fun e n=>aFV e n;have noA:∀{b:Addr} {o:Obj} {es:Array DictEntry} {ep:Nat},s₁.heap.get? b=some o→o.data=.dict es ep→H b=none:=fun{b o es ep} e d=>by
   cases q:H b with
   | none=>rfl
   | some u=>
    have e':b=a:=hA b (by rw[q]; simp);subst e';rw[ha] at e; cases e;have d':Data.seq vs.toArray _=Data.dict es ep:=d
    cases d'
  have nsK:∀{b:Addr} {m:Str→Option Value},s₁.heap.Ns b m→(aFQ s₁.heap H).Ns b m:=fun{b m} ⟨o,es,ep,e,d,r⟩=>⟨o,es,ep,base_of e (noA e d),d,r⟩;have hKb:K.In (aFQ s₁.heap H):=fun b o e=>base_of (KX b o e) (by
   cases q:H b with
   | none=>rfl
   | some u=>
    have e':b=a:=hA b (by rw[q]; simp);subst e';rw[hK (by rw[q]; simp)] at e; cases e)
  have hM:Mod K mg (aFQ s₁.heap H):=⟨hKb,nsK hns,⟨mb,nsK hb,hbb⟩,let ⟨mc,h1,h2⟩:=hlim; ⟨mc,nsK h1,h2⟩⟩;have e0:Env0 P w K mg (aFQ s₁.heap H) callerA [] s₁ H:=⟨rfl,hM,fun b o e=>aK2 e,Nat.le_of_eq (aDG _ _),trivial,fun b hb=>absurd (show b∈([]:List Addr) from hb) (by simp),hok,.of_eq hg⟩;refine codeAny_mono ((F _ hKb (nsK hns)).run callerA [] s₁ H ⟨[.ref a],[]⟩ [.ref a] [.ref a] _ _ hr e0 (hbind s₁ (.ref a)) (.cons rfl .nil) (hsp H hO hS)) fun r s' h=>?_
  cases r with
  | error e=>exact(hCX H e s' h).elim
  | ok fl=>
   cases fl with
   | next=>exact False.elim h
   | brk=>exact False.elim h
   | cont=>exact False.elim h
   | ret u=>
    obtain⟨v,H',os,bare,un,hok',r',q⟩:=h;have q':v=.bl true:=q;subst q';obtain rfl:u=Value.bool true:=r';refine⟨rfl,OldK.of_keep fun b o e=>?_,os,bare⟩
    cases q:H b with
    | none=>exact un.keep b o e q (by intro z; exact absurd (show b∈([]:List Addr) from z) (by simp)) (by simp)
    | some u=>
     rcases hO b with z|⟨ob,xs,z⟩
     ·rw[q] at z; cases z
     ·have z2:=un.frzs b ob _ z;obtain⟨e1,_⟩:=hok b _ z;obtain⟨e2,_⟩:=hok' b _ z2;rw[e] at e1; cases e1;exact e2
 cases hk:K.lookup a with
 | some o=>
  have e:=KX a o hk;rw[ha] at e
  cases e
  refine core (fun _=>none) (fun _=>.inl rfl) (.inr ⟨_,vs.toArray,_,hk,rfl,rfl,rfl,by rw[List.size_toArray,lenV]; exact hl,by simpa using rv⟩) (fun b u z=>by have z':(none:Option HO)=some u:=z; cases z') (fun b z=>absurd rfl z) fun z=>absurd rfl z
 | none=>
  refine core (fun b=>if b=a then some (.frz { cls:=.type "list", data:=.seq vs.toArray } (.lst (ns.map V.int))) else none) (fun b=>?_) (.inl (.inr ⟨{ cls:=.type "list", data:=.seq vs.toArray },if_pos rfl⟩)) (fun b u z=>?_) (fun b z=>?_) fun _=>hk
  ·by_cases hb:b=a
   ·exact .inr ⟨_,_,if_pos hb⟩
   ·exact .inl (if_neg hb)
  ·by_cases hb:b=a
   ·have z':=(if_pos hb).symm.trans z
    cases z'
    subst hb;exact⟨ha,by rw[List.length_map]; exact hl,vs,_,rv,ha⟩
   ·have z':=(if_neg hb).symm.trans z
    cases z'
  ·by_cases hb:b=a
   ·exact hb
   ·exact absurd (if_neg hb) z
end L2
namespace L2
open PySem PySem.Spec PyProof.Rows
theorem aK3 {l:PySem.W.OpenLaw}{n k:Nat}{q:Program}{loose:List Str}{XP:(Str→Option Value)→Heap→Prop}{YP:World→Heap→Prop}{d:DefRec}{K:Params→PySem.W.Frag}{CX:World→CXT}{sp:World→Sp}{x:Str}
  (hn:l.most=some n) (hn2:n≤sizeLine) (hdf:d.params.defaults=[]) (hr:Room k callerA)
  (hY:∀(w:World) (h:Heap),YP w h→(K w.params).In h)
  (F:∀(w:World) (mg:Str→Option Value) (fa:Addr) (h:Heap),(K w.params).In h→h.Ns mainGlobals mg→mg d.name=some (.ref fa) →
   ∃ fd:FuncData,(∀(s:Shared) (u:Value),BindsTo s fd ⟨[u],[]⟩ [(x,u)]) ∧
    ∀ base:Heap,(K w.params).In base→base.Ns mainGlobals mg→FnOk l.prog w (K w.params) mg base (CX w) k fa fd [x] (sp w))
  (hsp:∀(w:World) (H:Hp) (a:Addr) (ns:List Int),ns.length≤n→Only H→SqL (K w.params) H a (ns.map V.int)→sp w [.ref a] H (fun v _=>v=.bl true) fun _ _ _=>False)
  (hCX:∀(w:World) (H:Hp) (s:Shared) (e:Value) (s':Shared),CX w [] H s (fun _ _ _=>False) e s'→False) :
  PySem.W.WalkO q loose XP YP l.row.toRowW d [] (fun f vs=>PySem.call f vs):=by
 refine Att.attach_call hn hdf fun w s₀ s₁ mg mb fa o pm cd doc a vs ns G Y ho hd hcd hmg hobj hints hlen hg=>?_;have KX:=hY w _ Y;obtain⟨fd,hb,hF⟩:=F w mg fa _ KX G.T.g hmg;exact law_call KX G.T.g G.T.b G.T.builtins G.T.nolimit hg hobj hints (Nat.le_trans hlen hn2) hr hF hb (fun H hO hS=>hsp w H a ns hlen hO hS) fun H e s'=>hCX w H s₁ e s'
end L2
namespace L2
open PySem PySem.Spec PyProof.Rows
noncomputable def inClass (s:Stmt)(j:Nat):Stmt:=match s with
 | .ClassDef _ _ _ body _ _ _ _ _ _ _=>body.getD j (.Pass ⟨0,0,0,0⟩)
 | _=>.Pass ⟨0,0,0,0⟩
noncomputable def sE (s:Stmt):Arguments:=match s with
 | .FunctionDef _ a _ _ _ _ _ _ _ _=>a
 | _=>{ posonlyargs:=[],args:=[],vararg:=none,kwonlyargs:=[],kw_defaults:=[],kwarg:=none,defaults:=[] }
noncomputable def jU (s:Stmt):List Stmt:=match s with
 | .FunctionDef _ _ b _ _ _ _ _ _ _=>b
 | _=>[]
noncomputable def aN (s:Stmt):Scope:=match s with
 | .FunctionDef _ _ _ _ _ _ sc _ _ _=>sc
 | _=>{ kind:=.function,names:=[],isGenerator:=false,isCoroutine:=false }
abbrev CX0:CXT:=fun _ _ _ _ _ _=>False
abbrev E0:XK:=fun _ _ _=>False
theorem lN {X:Cx}:yS CX0 X E0:=fun _ _ _ _ _ _ _ h=>h.elim
structure Fun (K:PySem.W.Frag)(x qual:Str)(st:Stmt)(f:Addr)(fd:FuncData):Prop where
 ex:∃(oc:Value) (od:Option Addr) (kV doc pm:Value) (an:Option Addr) (cdv ct:Value) (osl:Array (Option Value)),
  fd=PySem.W.fnOf x qual (sE st) (jU st) (aN st) .none kV doc pm an cdv ct∧K.lookup f=some ⟨oc,od,.func fd,osl⟩∧PySem.W.codeIn K cdv qual=true
 kp:PySem.W.keepIn K (.ref f)=true
section
variable {P:Program}{w:World}{K:PySem.W.Frag}{mg:Str→Option Value}{base:Heap}
theorem Fun.ok {x qual:Str}{st:Stmt}{f:Addr}{fd:FuncData}{N ps:List Str}{k:Nat}{sp:Sp}(F:Fun K x qual st f fd)(S:FnScope N ps (aN st))(len:∀ vs H Q E,sp vs H Q E→vs.length=ps.length)
  (hbody:∀(cdv:Value) (A:Around) (outer:List Env) (s:Shared) (H:Hp) (vs:List V) (Q:VK) (E:XK),Room k (A.deeper (envOfC qual (aN st) s.heap.objs.size f cdv))→sp vs H Q E →
   ∃ t,PSs (aFG CX0 P w K mg base N qual (aN st) f cdv A outer s H E).nox (jU st) t∧t { nx:=fun _ H'=>Q .non H',rt:=Q } (start N vs) H):FnOk P w K mg base CX0 (k+1) f fd ps sp:=by
 obtain⟨oc,od,kV,doc,pm,an,cdv,ct,osl,rfl,lk,hcd⟩:=F.ex;refine aNJ lk hcd S len fun A outer s H vs Q E hr hsp=>?_;obtain⟨t,h,q⟩:=hbody cdv A outer s H vs Q E hr hsp;exact⟨t,h.nox,q⟩
theorem Fun.binds {x qual:Str}{st:Stmt}{f:Addr}{fd:FuncData}{ps:List Str}(F:Fun K x qual st f fd)
  (h:∀(kV doc pm:Value) (an:Option Addr) (cdv ct:Value) (us:List Value),us.length=ps.length→bindArgs (PySem.W.fnOf x qual (sE st) (jU st) (aN st) .none kV doc pm an cdv ct) ⟨us,[]⟩=pure (ps.zip us)):Binds K fd ps []:=by
 obtain⟨oc,od,kV,doc,pm,an,cdv,ct,osl,rfl,lk,hcd⟩:=F.ex;exact .all (h kV doc pm an cdv ct)
theorem aBL {x qual:Str}{st:Stmt}{f:Addr}{oc:Value}{od an:Option Addr}{osl:Array (Option Value)}{kV doc pm cdv ct:Value}(l:K.lookup f=some ⟨oc,od,.func (PySem.W.fnOf x qual (sE st) (jU st) (aN st) .none kV doc pm an cdv ct),osl⟩)
  (c:PySem.W.codeIn K cdv qual=true) (k:PySem.W.keepIn K (.ref f)=true):Fun K x qual st f (PySem.W.fnOf x qual (sE st) (jU st) (aN st) .none kV doc pm an cdv ct):=⟨⟨oc,od,kV,doc,pm,an,cdv,ct,osl,rfl,l,c⟩,k⟩
end
theorem z9 {n:Nat}(h:n≤1000):n<sizeLine:=Nat.lt_of_le_of_lt h (by decide)
section
variable {X:Cx}
theorem pv (i:Nat){x:Str}{pos:Pos}(hN:X.N[i]?=some x:=by rfl)(hv:Vis X.env.scope x:=by first|exact Or.inl rfl|exact Or.inr (Or.inl rfl)|exact Or.inr (Or.inr rfl))(hd:(x==("__debug__" : Str))=false:=by decide)
  (hcd:(x==("__classdict__" : Str))=false:=by decide):PE X (.Name x pos) (vX i):=aLL hN hv hd hcd
end
theorem xX {A B:Prop}(h:B):if false=true then A else B:=by
 rw[if_neg Bool.false_ne_true];exact h
theorem a1K {A B:Prop}(h:A):if true=true then A else B:=by
 rw[if_pos rfl];exact h
theorem aNL {c A B:Prop}[Decidable c](hc:c)(h:B):if (!decide c)=true then A else B:=by
 rw[decide_eq_true hc];exact xX h
noncomputable def Same (H H':Hp):Prop:=∀ b o,H b=some o→H' b=some o
theorem Same.refl (H:Hp):Same H H:=fun _ _ h=>h
theorem Same.trans {H H1 H2:Hp}(a:Same H H1)(b:Same H1 H2):Same H H2:=fun c o h=>b c o (a c o h)
theorem Same.free {H H':Hp}(e:Same H H'){l:Addr}(h:H' l=Option.none):H l=Option.none:=by
 cases q:H l with
 | none=>rfl
 | some o=>
  rw[e l o q] at h
  cases h
end L2
set_option maxHeartbeats 4000000
namespace LT
theorem cY (a:Rat):(a.den:Int)≠0:=by have:=a.den_nz; omega
theorem den_pos (a:Rat):(0:Int)<a.den:=by have:=a.den_nz; omega
theorem aER (a b:Rat):Rat.divInt (a.num*b.den+b.num*a.den) (a.den*b.den)=a+b:=by
 rw[← Rat.divInt_add_divInt _ _ (cY a) (cY b),Rat.num_divInt_den,Rat.num_divInt_den]
theorem aHG (a b:Rat):Rat.divInt (a.num*b.den-b.num*a.den) (a.den*b.den)=a-b:=by
 rw[Rat.sub_eq_add_neg,←aER a (-b),Rat.neg_num,Rat.neg_den,Int.neg_mul,Int.sub_eq_add_neg]
theorem aCB (a b:Rat):Rat.divInt (a.num*b.num) (a.den*b.den)=a*b:=by
 rw[← Rat.divInt_mul_divInt,Rat.num_divInt_den,Rat.num_divInt_den]
theorem a8T {b:Rat}(h:b≠0):b.num≠0:=fun e=>h (by rw[← Rat.num_divInt_den b,e,Rat.zero_divInt])
theorem aL0 {b:Rat}(h:b≠0):Rat.divInt b.den b.num=b⁻¹:=by
 have e:b*Rat.divInt b.den b.num=1:=by
  conv=>lhs; arg 1; rw[← Rat.num_divInt_den b]
  rw[Rat.divInt_mul_divInt,Int.mul_comm b.num];exact Rat.divInt_self' (Int.mul_ne_zero (cY b) (a8T h))
 grind
theorem aE2 (a:Rat){b:Rat}(h:b≠0):Rat.divInt (a.num*b.den) (a.den*b.num)=a/b:=by
 rw[← Rat.divInt_mul_divInt,Rat.num_divInt_den,aL0 h,Rat.div_def]
theorem aKT (a b:Rat):decide (a.num*b.den<b.num*a.den)=decide (a<b):=by
 rw[decide_eq_decide,Rat.lt_iff]
theorem fd (t:Int)(g:Nat):t.fdiv (g:Int)=t/(g:Int):=Int.fdiv_eq_ediv_of_nonneg t (by omega)
theorem qW {t b:Int}(h:0<b):t.fdiv (Int.gcd t b:Nat)=(Rat.divInt t b).num∧b.fdiv (Int.gcd t b:Nat)=((Rat.divInt t b).den:Int):=by
 rw[Rat.num_divInt,Rat.den_divInt,fd,fd,if_neg (by omega),Int.sign_eq_one_of_pos h,Int.one_mul,Int.gcd_comm b t];refine⟨rfl,?_⟩;obtain⟨n,rfl⟩:∃ n:Nat,b=(n:Int):=⟨b.toNat,by omega⟩;rw[← Int.natCast_ediv,Int.natAbs_natCast]
theorem a8I {t b:Int}(h:b<0):t.fdiv (-(Int.gcd t b:Nat))=(Rat.divInt t b).num∧b.fdiv (-(Int.gcd t b:Nat))=((Rat.divInt t b).den:Int):=by
 have h1:=qW (t := -t) (b := -b) (by omega);have e:Rat.divInt (-t) (-b)=Rat.divInt t b:=by
  have:=Rat.divInt_mul_right (n:=t) (d:=b) (a := -1) (by decide);rw[← this]; congr 1<;>omega
 rw[e,Int.gcd_neg,Int.neg_gcd] at h1;rw[← h1.1,←h1.2];constructor
 ·rw[← Int.neg_neg t,Int.neg_fdiv_neg]; simp
 ·rw[← Int.neg_neg b,Int.neg_fdiv_neg]; simp
theorem a94 {d r:Int}(hd:0≤d)(h:0<r):Int.gcd r (d%r)=Int.gcd d r:=by
 obtain⟨m,rfl⟩:∃ n:Nat,d=(n:Int):=⟨d.toNat,by omega⟩;obtain⟨n,rfl⟩:∃ n:Nat,r=(n:Int):=⟨r.toNat,by omega⟩;rw[← Int.natCast_emod];show Nat.gcd n (m%n)=Nat.gcd m n;rw[Nat.gcd_comm n,←Nat.gcd_rec,Nat.gcd_comm]
theorem aCH {d:Int}(h:0≤d):(Int.gcd d 0:Int)=d:=by
 rw[Int.gcd_zero_right]; omega
theorem a96 (i:Int):0≤(if i<0 then -i else i):=by split<;>omega
theorem aDE (i j:Int):Int.gcd (if i<0 then -i else i) (if j<0 then -j else j)=Int.gcd i j:=by
 split<;>split<;>simp only[Int.gcd_neg,Int.neg_gcd]
noncomputable def Bt (k:Nat)(i:Int):Prop:=i.natAbs<2^k
noncomputable def Sz (k:Nat)(q:Rat):Prop:=Bt k q.num∧Bt k q.den
theorem Bt.mono {k m:Nat}{i:Int}(h:Bt k i)(l:k≤m):Bt m i:=Nat.lt_of_lt_of_le h (Nat.pow_le_pow_right (by decide) l)
theorem Sz.mono {k m:Nat}{q:Rat}(h:Sz k q)(l:k≤m):Sz m q:=⟨h.1.mono l,h.2.mono l⟩
theorem Bt.mul {k m:Nat}{i j:Int}(h:Bt k i)(g:Bt m j):Bt (k+m) (i*j):=by
 unfold Bt at *; rw[Int.natAbs_mul,Nat.pow_add];exact Nat.mul_lt_mul'' h g
theorem Bt.add {k:Nat}{i j:Int}(h:Bt k i)(g:Bt k j):Bt (k+1) (i+j):=by
 unfold Bt at *; have:=Int.natAbs_add_le i j; rw[Nat.pow_succ]; omega
theorem Bt.neg {k:Nat}{i:Int}(h:Bt k i):Bt k (-i):=by unfold Bt at *; omega
theorem Bt.sub {k:Nat}{i j:Int}(h:Bt k i)(g:Bt k j):Bt (k+1) (i-j):=by
 rw[Int.sub_eq_add_neg]; exact h.add g.neg
theorem Bt.ediv {k:Nat}{i:Int}(h:Bt k i)(g:Nat):Bt k (i/(g:Int)):=by
 unfold Bt at *;exact Nat.lt_of_le_of_lt (by exact Int.natAbs_ediv_le_natAbs _ _) h
theorem Sz.divInt {k:Nat}{t b:Int}(h:Bt k t)(g:Bt k b)(h0:b≠0):Sz k (Rat.divInt t b):=by
 rcases Int.lt_or_gt_of_ne h0 with hb|hb
 ·have e:Rat.divInt (-t) (-b)=Rat.divInt t b:=by
   have:=Rat.divInt_mul_right (n:=t) (d:=b) (a := -1) (by decide);rw[← this]; congr 1<;>omega
  rw[← e];have n:=qW (t := -t) (b := -b) (by omega);rw[fd,fd] at n;exact⟨by rw[← n.1]; exact h.neg.ediv _,by rw[← n.2]; exact g.neg.ediv _⟩
 ·have n:=qW (t:=t) (b:=b) hb;rw[fd,fd] at n;exact⟨by rw[← n.1]; exact h.ediv _,by rw[← n.2]; exact g.ediv _⟩
theorem Sz.add {k m:Nat}{a b:Rat}(h:Sz k a)(g:Sz m b):Sz (k+m+1) (a+b):=by
 rw[← aER];refine Sz.divInt (Bt.add (h.1.mul g.2) ?_) ((h.2.mul g.2).mono (by omega)) (Int.mul_ne_zero (cY a) (cY b));exact(g.1.mul h.2).mono (by omega)
theorem Sz.sub {k m:Nat}{a b:Rat}(h:Sz k a)(g:Sz m b):Sz (k+m+1) (a-b):=by
 rw[← aHG];refine Sz.divInt (Bt.sub (h.1.mul g.2) ?_) ((h.2.mul g.2).mono (by omega)) (Int.mul_ne_zero (cY a) (cY b));exact(g.1.mul h.2).mono (by omega)
theorem Sz.mul {k m:Nat}{a b:Rat}(h:Sz k a)(g:Sz m b):Sz (k+m) (a*b):=by
 rw[← aCB];exact Sz.divInt (h.1.mul g.1) (h.2.mul g.2) (Int.mul_ne_zero (cY a) (cY b))
theorem Sz.div {k m:Nat}{a b:Rat}(h:Sz k a)(g:Sz m b)(b0:b≠0):Sz (k+m) (a/b):=by
 rw[← aE2 a b0];exact Sz.divInt (h.1.mul g.2) (h.2.mul g.1) (Int.mul_ne_zero (cY a) (a8T b0))
end LT
namespace LT
theorem aO3 (q:Rat):(q.num:Rat)=q*((q.den:Int):Rat):=by
 have h:((q.den:Int):Rat)≠0:=by
  have:=cY q;exact fun e=>this (by exact_mod_cast e)
 have e:=Rat.num_divInt_den q;rw[Rat.divInt_eq_div] at e;grind
theorem dI {t b:Int}{q:Rat}(hb:b≠0)(h:(t:Rat)=q*(b:Rat)):Rat.divInt t b=q:=by
 have h0:(b:Rat)≠0:=fun e=>hb (by exact_mod_cast e);rw[Rat.divInt_eq_div,h];grind
theorem aHB {k:Nat}{i:Int}(h:Bt k i)(hk:1≤k):Sz k (i:Rat):=by
 refine⟨by rw[Rat.num_intCast]; exact h,?_⟩;rw[Rat.den_intCast];exact Nat.lt_of_lt_of_le (by decide:(1:Nat)<2^1) (Nat.pow_le_pow_right (by decide) hk)
end LT
namespace LT
noncomputable def pm (s:Int)(a b:Rat):Rat:=a+(s:Rat)*b
theorem aDC (a b:Rat):pm (-1) a b=a-b:=by show a+((-1:Int):Rat)*b=a-b; grind
theorem aOP (a b:Rat)(s:Int):Rat.divInt (a.num*b.den+s*b.num*a.den) (a.den*b.den)=pm s a b:=by
 refine dI (Int.mul_ne_zero (cY a) (cY b)) ?_;simp only[Rat.intCast_add,Rat.intCast_mul];rw[aO3 a,aO3 b];unfold pm;grind
theorem aJ9 {s:Int}(h:s=1∨s = -1):Bt 1 s:=by
 show s.natAbs<2^1;omega
end LT
namespace L2
open PySem PySem.Spec PyProof.Rows
mutual
inductive Dt (H:Hp):V→PyData→Prop
 | non:Dt H .non .none
 | bl (b:Bool):Dt H (.bl b) (.bool b)
 | int (i:Int):Dt H (.int i) (.int i)
 | str (x:Str):Dt H (.str x) (.str x)
 | tup {p:Addr} {xs:List V} {ds:List PyData}:H p=some (.tup xs)→Dts H xs ds→Dt H (.ref p) (.tuple ds)
 | lst {p:Addr} {xs:List V} {ds:List PyData}:H p=some (.lst xs)→Dts H xs ds→Dt H (.ref p) (.list ds)
 | dic {p:Addr} {kvs:List (Key×V)} {kds:List (PyData×PyData)}:H p=some (.dK kvs)→Dtk H kvs kds→Dt H (.ref p) (.dict kds)
inductive Dts (H:Hp):List V→List PyData→Prop
 | nil:Dts H [] []
 | cons {x:V} {xs:List V} {d:PyData} {ds:List PyData}:Dt H x d→Dts H xs ds→Dts H (x::xs) (d::ds)
inductive Dtk (H:Hp):List (Key×V)→List (PyData×PyData)→Prop
 | nil:Dtk H [] []
 | cons {n:Int} {x:V} {d:PyData} {kvs:List (Key×V)} {kds:List (PyData×PyData)}:Dt H x d→Dtk H kvs kds→Dtk H ((Sum.inl n,x)::kvs) ((.int n,d)::kds)
end
mutual
theorem Dt.reads {P:Program}{w:World}{H:Hp}{h:Heap}(ok:HOk P w H h):∀(d:PyData) (x:V) (v:Value),Dt H x d→RelV x v→∃ as,Reads h v d as
 | .none,_,_,e,r=>by cases e; cases r; exact⟨_,.none⟩
 | .bool _,_,_,e,r=>by cases e; cases r; exact⟨_,.bool _⟩
 | .int _,_,_,e,r=>by cases e; obtain⟨t,rfl⟩:=r; exact⟨_,.int _ _⟩
 | .str _,_,_,e,r=>by cases e; obtain⟨t,rfl⟩:=r; exact⟨_,.str _ _⟩
 | .list ds,_,_,e,r=>by
  cases e with
  | @lst p xs _ hp rs=>
   cases r
   obtain⟨_,its,n,r',hg⟩:=(show ObjOk P w H h p (.lst xs) from ok p _ hp);obtain⟨as,q⟩:=Dts.reads ok ds xs its rs r';exact⟨_,.list hg rfl rfl (by simpa using q)⟩
 | .tuple ds,_,_,e,r=>by
  cases e with
  | @tup p xs _ hp rs=>
   cases r
   obtain⟨_,its,r',o,h1,h2,n,h3⟩:=(show ObjOk P w H h p (.tup xs) from ok p _ hp);obtain⟨as,q⟩:=Dts.reads ok ds xs its rs r';exact⟨_,.tuple h1 h2 h3 (by simpa using q)⟩
 | .dict kds,_,_,e,r=>by
  cases e with
  | @dic p kvs _ hp rs=>
   cases r
   obtain⟨_,_,vs,kv,o,es,ep,h1,h2,h3,_,h4,_⟩:=(show ObjOk P w H h p (.dK kvs) from ok p _ hp);obtain⟨as,bs,q1,q2⟩:=Dtk.reads ok kds kvs vs es.toList rs kv h4;exact⟨_,.dict h1 h2.1 h3 q1 q2⟩
theorem Dts.reads {P:Program}{w:World}{H:Hp}{h:Heap}(ok:HOk P w H h):∀(ds:List PyData) (xs:List V) (vs:List Value),Dts H xs ds→Vals xs vs→∃ as,ReadsAll h vs ds as
 | [],_,_,e,r=>by cases e; cases r; exact⟨_,.nil⟩
 | d::ds,_,_,e,r=>by
  cases e with
  | cons e1 e2=>
   cases r with
   | cons r1 r2=>
    obtain⟨as,q1⟩:=Dt.reads ok d _ _ e1 r1;obtain⟨bs,q2⟩:=Dts.reads ok ds _ _ e2 r2;exact⟨_,.cons q1 q2⟩
theorem Dtk.reads {P:Program}{w:World}{H:Hp}{h:Heap}(ok:HOk P w H h):∀(kds:List (PyData×PyData)) (kvs:List (Key×V)) (vs:List (Key×Value)) (es:List DictEntry),Dtk H kvs kds→KV kvs vs→Pairs (fY P w) es vs →
  ∃ as bs,ReadsAll h (es.map (·.key)) (kds.map (·.1)) as∧ReadsAll h (es.map (·.val)) (kds.map (·.2)) bs
 | [],_,_,_,e,r,z=>by cases e; cases r; cases z; exact⟨_,_,.nil,.nil⟩
 | (k,d)::kds,_,_,_,e,r,z=>by
  cases e with
  | @cons n _ _ _ _ e1 e2=>
   cases r with
   | cons r1 r2=>
    cases z with
    | @cons en kv _ _ z1 z2 z3=>
     obtain⟨k1,rv⟩:=r1;obtain⟨as,q1⟩:=Dt.reads ok d _ _ e1 rv;obtain⟨as2,bs2,q3,q4⟩:=Dtk.reads ok kds _ _ _ e2 r2 z3;have kr:∃ cs,Reads h en.key (.int n) cs:=by
      rcases cU ((aAL P w _ _).symm.trans z1) with⟨i,t,a,b⟩|⟨_,_,a,_⟩
      ·rw[← k1] at a
       cases a
       rw[b];exact⟨_,.int _ _⟩
      ·rw[← k1] at a
       cases a
     obtain⟨cs,kr⟩:=kr;exact⟨_,_,.cons kr q3,.cons (z2▸q1:Reads h en.val d as) q4⟩
end
mutual
theorem Dt.same {H H':Hp}(g:Same H H'):∀(d:PyData) (x:V),Dt H x d→Dt H' x d
 | .none,_,e=>by cases e; exact .non
 | .bool _,_,e=>by cases e; exact .bl _
 | .int _,_,e=>by cases e; exact .int _
 | .str _,_,e=>by cases e; exact .str _
 | .list ds,_,e=>by
  cases e with
  | lst hp rs=>exact .lst (g _ _ hp) (Dts.same g ds _ rs)
 | .tuple ds,_,e=>by
  cases e with
  | tup hp rs=>exact .tup (g _ _ hp) (Dts.same g ds _ rs)
 | .dict kds,_,e=>by
  cases e with
  | dic hp rs=>exact .dic (g _ _ hp) (Dtk.same g kds _ rs)
theorem Dts.same {H H':Hp}(g:Same H H'):∀(ds:List PyData) (xs:List V),Dts H xs ds→Dts H' xs ds
 | [],_,e=>by cases e; exact .nil
 | d::ds,_,e=>by
  cases e with
  | cons e1 e2=>exact .cons (Dt.same g d _ e1) (Dts.same g ds _ e2)
theorem Dtk.same {H H':Hp}(g:Same H H'):∀(kds:List (PyData×PyData)) (kvs:List (Key×V)),Dtk H kvs kds→Dtk H' kvs kds
 | [],_,e=>by cases e; exact .nil
 | (_,d)::kds,_,e=>by
  cases e with
  | cons e1 e2=>exact .cons (Dt.same g d _ e1) (Dtk.same g kds _ e2)
end
mutual
noncomputable def fG:PyData→Bool
 | .list _=>false
 | .dict _=>false
 | .tuple ds=>cI ds
 | _=>true
noncomputable def cI:List PyData→Bool
 | []=>true
 | d::ds=>fG d&&cI ds
end
noncomputable def aMM (x:Addr)(H H':Hp):Prop:=∀ b o,b≠x→H b=some o→H' b=some o
theorem uE {H:Hp}{p:Addr}(h:H p=none)(o:HO):Same H (upd H p o):=fun b u q=>by rw[b7 (bG q h)]; exact q
theorem a4P {H:Hp}{p:Addr}(o:HO):aMM p H (upd H p o):=fun b u n q=>by rw[b7 n]; exact q
structure Good (d:PyData):Prop where
 lay:d.canLay0=true
 dep:d.depth≤60
section
variable {X:Cx}
theorem aL9 {u a b:Nat}(h:u+64<cLine)(ha:a≤60):u+min a b<cLine:=by
 have:min a b≤a:=Nat.min_le_left _ _;omega
noncomputable def aQI:R2:=fun x y H Q=>∃ dx dy,Dt H x dx∧Dt H y dy∧Good dx∧Good dy∧Q (.bl (PyData.eqv dx dy)) H
noncomputable def aQD:R2:=fun x y H Q=>∃ dx dy,Dt H x dx∧Dt H y dy∧Good dx∧Good dy∧Q (.bl (!PyData.eqv dx dy)) H
theorem lE (hu:X.A.units+64<cLine):OpR X (compareOp .Eq) aQI:=by
 intro pins s σ H x y v u Q I rx ry h;obtain⟨dx,dy,ex,ey,gx,gy,q⟩:=h;obtain⟨as,r1⟩:=Dt.reads I.hok dx x v ex rx;obtain⟨bs,r2⟩:=Dt.reads I.hok dy y u ey ry;exact SeqAt.compareEq_reads r1 r2 gx.lay gy.lay (aL9 hu gx.dep) ⟨.bl _,H,I,rfl,q⟩
theorem j6 (hu:X.A.units+64<cLine):OpR X (compareOp .NotEq) aQD:=by
 intro pins s σ H x y v u Q I rx ry h;obtain⟨dx,dy,ex,ey,gx,gy,q⟩:=h;obtain⟨as,r1⟩:=Dt.reads I.hok dx x v ex rx;obtain⟨bs,r2⟩:=Dt.reads I.hok dy y u ey ry;exact SeqAt.compareNe_reads r1 r2 gx.lay gy.lay (aL9 hu gx.dep) ⟨.bl _,H,I,rfl,q⟩
theorem bT:OpR X (binaryOp .Mult) (rI IntMulOk fun i j=>.int (i*j)):=opI fun _ _ _ _ _ _ _ hc q=>mul_int q hc
noncomputable def aGR (_ j:Int):Prop:=j≠0∧LT.Bt 9000 j
theorem aQP {i j:Int}(h:aGR i j):Builtin.divisionGoesByPylong i j=false:=by
 refine PyProof.noPylong_of_log2 ((Nat.log2_lt ?_).mpr h.2);have:=h.1;omega
theorem qQ:OpR X (binaryOp .FloorDiv) (rI aGR fun i j=>.int (i.fdiv j)):=opI fun _ _ _ _ _ _ _ hc q=>floordiv_int hc.1 q (.inl (aQP hc))
theorem bits_le {k:Nat}{i:Int}(h:LT.Bt k i):Builtin.Int.intBits i≤k:=by
 unfold Builtin.Int.intBits
 split
 ·exact Nat.zero_le _
 ·rename_i h0
  have:i.natAbs≠0:=by
   intro e;exact h0 (by simpa using e)
  exact(Nat.log2_lt this).mpr h
theorem aN5 {k m:Nat}{i j:Int}(h:LT.Bt k i)(g:LT.Bt m j)(hk:k≤1048576:=by decide)(hm:m≤1048576:=by decide):IntMulOk i j:=
 IntMulOk.of_bits (Nat.le_trans (bits_le h) hk) (Nat.le_trans (bits_le g) hm)
theorem sO {a b v:Int}{j j':Nat}{p p' pos:Pos}(h:a^b.toNat=v)(hc:aQ8 a b):PE X (.BinOp (.Constant (.int a) j p) .Pow (.Constant (.int b) j' p') pos) (tC (.int v)):=by
 intro pins s σ H Q I hq;subst h;exact bJ aKD aC aC pins s σ H Q I ⟨_,_,rfl,rfl,hc,hq⟩
noncomputable def aR4:V→Option Value
 | .ty n=>some (.type n)
 | .ref a=>some (.ref a)
 | _=>none
noncomputable def aPS (K:PySem.W.Frag):List V→Hp→VK→Prop:=fun xs H Q=>∃ x c cv t b,xs=[x,c]∧aR4 c=some cv∧TyOf K H x t∧PySem.W.kitOne K t cv=some b∧Q (.bl b) H
theorem a2V:a0M X (.builtin "isinstance") (aPS X.K):=by
 intro pins s σ H xs us Q I r h;obtain⟨x,c,cv,t,b,rfl,ec,ty,e,q⟩:=h;obtain⟨u,v,rfl,rx,rc⟩:=vals2 r;have ev:v=cv:=by
  cases c<;>first
   | (cases ec; exact rc)
   | cases ec
 subst ev;exact aBM I rx ty e fun tk=>⟨.bl b,H,I.tok tk,rfl,q⟩
structure Cal (P:Program)(w:World)(K:PySem.W.Frag)(mg:Str→Option Value)(base:Heap)(k:Nat)(x:Str)(ps:List Str)(sp:Sp):Prop where
 ex:∃(f:Addr) (fd:FuncData),FnOk P w K mg base CX0 k f fd ps sp∧mg x=some (.ref f)∧PySem.W.keepIn K (.ref f)=true∧Binds K fd ps []
variable {j k:Nat}{x:Str}{ps:List Str}{sp:Sp}{e:Expr}{es:List Expr}{t:TA}{p pos:Pos}
theorem aJ (c:Cal X.prog X.w X.K X.mg X.base j x ps sp)(hr:Room k X.A)(hg:Gl X x)(ha:PA X (e::es) t)(hjk:j≤k:=by decide)
  (hdb:(x==("__debug__" : Str))=false:=by decide) (he:starEach (e::es) X.env=(false,eval e X.env)::starEach es X.env:=by rfl) (hpl:(backTo pos (starEach es X.env)).any (·.1)=false:=by rfl) :
  PE X (.Call (.Name x p) (e::es) [] pos) (aAA sp [] E0 t):=by
 obtain⟨f,fd,F,hm,hk,hb⟩:=c.ex;exact aIW F (hr.mono hjk) hg hm hk hb .nil lN ha hdb he hpl
end
structure Bl (K:PySem.W.Frag)(mg:Str→Option Value):Prop where
 len_:mg "len" = none
 abs_:mg "abs" = none
 range_:mg "range" = none
 isinstance_:mg "isinstance" = none
 int_:mg "int" = none
 bool_:mg "bool" = none
 tuple_:mg "tuple" = none
 max_:mg "max" = none
 min_:mg "min" = none
 list_:mg "list" = none
 all_:mg "all" = none
 any_:mg "any" = none
 sorted_:mg "sorted" = none
 zip_:mg "zip" = none
 set_:mg "set" = none
 sum_:mg "sum" = none
 str_:mg "str" = none
 enumerate_:mg "enumerate" = none
 kib:PySem.W.kitOne K (.type "int") (.type "bool")=some false
 kbi:PySem.W.kitOne K (.type "bool") (.type "int")=some true
theorem aFJ (K:PySem.W.Frag)(t:Value):PySem.W.kitOne K t t=some true:=by
 unfold PySem.W.kitOne;rw[if_pos (beq_self_eq_true t)]
end L2
namespace L2
open PySem PySem.Spec PyProof.Rows LT
theorem aNW {c A B:Prop}[Decidable c](h:c)(a:A):if decide c=true then A else B:=by rw[decide_eq_true h]; exact a1K a
theorem aLP {c A B:Prop}[Decidable c](h:¬c)(b:B):if decide c=true then A else B:=by rw[decide_eq_false h]; exact xX b
theorem aNR {c A B:Prop}[Decidable c](h:¬c)(a:A):if (!decide c)=true then A else B:=by rw[decide_eq_false h]; exact a1K a
theorem fX {c A B:Prop}[Decidable c](h1:c→A)(h2:¬c→B):if decide c=true then A else B:=by
 by_cases h:c
 ·exact aNW h (h1 h)
 ·exact aLP h (h2 h)
theorem a3B {c A B:Prop}[Decidable c](h1:¬c→A)(h2:c→B):if (!decide c)=true then A else B:=by
 by_cases h:c
 ·exact aNL h (h2 h)
 ·exact aNR h (h1 h)
theorem iM {n:Nat}(h:n≤1000):n≤sizeLine:=Nat.le_of_lt (z9 h)
theorem aET {n:Nat}(h:Nat.ble n 1000=true):n≤sizeLine:=iM (Nat.le_of_ble_eq_true h)
noncomputable def bU (q:Rat):PyData:=.tuple [.int q.num,.int (q.den:Int)]
theorem qG (q:Rat):Good (bU q):=⟨rfl,by show 1≤60; decide⟩
theorem aID (a b:Rat):PyData.eqv (bU a) (bU b)=decide (a=b):=by
 show((a.num==b.num)&&(((a.den:Int)==(b.den:Int))&&true))=decide (a=b)
 rw[Bool.and_true]
 by_cases e:a=b
 ·subst e; simp
 ·rw[decide_eq_false e];refine Bool.eq_false_iff.mpr fun h=>e ?_;rw[Bool.and_eq_true] at h;have h1:a.num=b.num:=beq_iff_eq.mp h.1;have h2:(a.den:Int)=(b.den:Int):=beq_iff_eq.mp h.2;exact Rat.ext h1 (by omega)
noncomputable def o5 (l:Rat×Rat):PyData:=.tuple [bU l.1,bU l.2]
noncomputable def aGS (K:PySem.W.Frag):Sp:=fun vs H Q _=>∃(a:Addr) (ns:List Int),vs=[.ref a]∧SqL K H a (ns.map V.int)∧ns.length≤63∧∀ H',Q (.bl true) H'
theorem aHR {k:Nat}{t b:Int}(h:Bt k b)(h0:b≠0):Bt k (Int.gcd t b:Nat):=by
 unfold Bt at *;refine Nat.lt_of_le_of_lt ?_ h;show Int.gcd t b≤b.natAbs;exact Nat.le_of_dvd (by omega) (Nat.gcd_dvd_right _ _)
theorem aHJ {t b:Int}(h0:b≠0):((Int.gcd t b:Nat):Int)≠0:=by
 have:=Int.gcd_pos_of_ne_zero_right t h0;omega
end L2
namespace L2
open PySem PySem.Spec PyProof.Rows
section
variable {κ:Type}[DecidableEq κ]
noncomputable def a7Q (kvs:List (κ×V))(k:κ):Option V:=(kvs.find? fun kv=>decide (kv.1=k)).map (·.2)
noncomputable def putK (kvs:List (κ×V))(k:κ)(v:V):List (κ×V):=
 if (kvs.any fun kv=>decide (kv.1=k))=true then kvs.map (fun kv=>if kv.1=k then(kv.1,v) else kv) else kvs++[(k,v)]
theorem xV {p:κ×V}{r:List (κ×V)}{k:κ}(e:p.1=k):a7Q (p::r) k=some p.2:=by simp[a7Q,List.find?_cons,e]
theorem xU {p:κ×V}{r:List (κ×V)}{k:κ}(e:¬p.1=k):a7Q (p::r) k=a7Q r k:=by simp[a7Q,List.find?_cons,e]
theorem a2A (k:κ):∀ kvs:List (κ×V),(kvs.any fun kv=>decide (kv.1=k))=(a7Q kvs k).isSome
 | []=>rfl
 | p::r=>by
  rw[List.any_cons]
  by_cases e:p.1=k
  ·simp only[xV e,decide_eq_true e,Bool.true_or,Option.isSome_some]
  ·rw[xU e,decide_eq_false e,Bool.false_or]; exact a2A k r
theorem yN (kvs:List (κ×V))(k:κ)(v:V):(putK kvs k v).length≤kvs.length+1:=by
 unfold putK
 split
 ·rw[List.length_map]; omega
 ·rw[List.length_append,List.length_cons,List.length_nil]; omega
theorem RelO.isSome_eq {o:Option V}{u:Option Value}(r:RelO o u):o.isSome=u.isSome:=by
 cases o with
 | none=>cases u with
  | none=>rfl
  | some _=>exact(show False from r).elim
 | some _=>cases u with
  | none=>exact(show False from r).elim
  | some _=>rfl
theorem KV.val {kvs:List (κ×V)}{vs:List (κ×Value)}(r:KV kvs vs)(k:κ):RelO (a7Q kvs k) (valueAt vs k):=by
 unfold KV at r
 induction r with
 | nil=>exact True.intro
 | @cons p q ps qs h t ih=>
  obtain⟨h1,h2⟩:=h
  by_cases e:p.1=k
  ·have e':q.1=k:=h1.symm.trans e;have b:valueAt (q::qs) k=some q.2:=by simp[valueAt,List.find?_cons,e']
   rw[xV e,b]; exact h2
  ·have e':¬q.1=k:=fun z=>e (h1.trans z);have b:valueAt (q::qs) k=valueAt qs k:=by simp[valueAt,List.find?_cons,e']
   rw[xU e,b]; exact ih
theorem KV.any {kvs:List (κ×V)}{vs:List (κ×Value)}(r:KV kvs vs)(k:κ):(kvs.any fun kv=>decide (kv.1=k))=vs.any fun kv=>decide (kv.1=k):=by
 unfold KV at r
 induction r with
 | nil=>rfl
 | cons h t ih=>rw[List.any_cons,List.any_cons,ih,h.1]
theorem KV.repl {kvs:List (κ×V)}{vs:List (κ×Value)}(r:KV kvs vs)(k:κ){y:V}{u:Value}(ry:RelV y u) :
  KV (kvs.map fun kv=>if kv.1=k then(kv.1,y) else kv) (vs.map fun kv=>if kv.1=k then(kv.1,u) else kv):=by
 unfold KV at r ⊢
 induction r with
 | nil=>exact .nil
 | @cons p q ps qs h t ih=>
  rw[List.map_cons,List.map_cons];refine .cons ?_ ih;obtain⟨h1,h2⟩:=h
  by_cases e:p.1=k
  ·rw[if_pos e,if_pos (h1.symm.trans e)]; exact⟨h1,ry⟩
  ·rw[if_neg e,if_neg (fun z=>e (h1.trans z))]; exact⟨h1,h2⟩
theorem KV.put {kvs:List (κ×V)}{vs:List (κ×Value)}(r:KV kvs vs)(k:κ){y:V}{u:Value}(ry:RelV y u):KV (putK kvs k y) (stored vs k u):=by
 unfold putK stored;rw[r.any k]
 by_cases e:(vs.any fun kv=>decide (kv.1=k))=true
 ·rw[if_pos e,if_pos e]; exact r.repl k ry
 ·rw[if_neg e,if_neg e]; exact Paired.snoc r ⟨rfl,ry⟩
theorem KV.length {kvs:List (κ×V)}{vs:List (κ×Value)}(r:KV kvs vs):kvs.length=vs.length:=Paired.length r
end
theorem aD6 {P:Program}{w:World}{k:Key}{u:Value}(r:RelV (kV k) u):(fY P w).is k u=true:=by
 cases k with
 | inl i=>obtain⟨t,e⟩:=(show ∃ t,u=Value.int i t from r); subst e; exact a7U P w i t
 | inr x=>obtain⟨t,e⟩:=(show ∃ t,u=Value.str x t from r); subst e; exact a82 P w x t
theorem a5W {P:Program}{w:World}:∀{ks:List Key} {us:List Value},Vals (ks.map kV) us→ItemsAre (fY P w) ks us
 | [],_,r=>by rw[List.map_nil] at r; cases r; exact .nil
 | k::ks,_,r=>by
  rw[List.map_cons] at r
  cases r with
  | cons h t=>exact .cons (aD6 h) (a5W t)
abbrev KT (H:Hp):List (List Key×V)→List (List Key×Addr×Value)→Prop:=Paired fun p q=>p.1=q.1∧H q.2.1=some (.tup (p.1.map kV))∧RelV p.2 q.2.2
theorem KT.val {H:Hp}{kvs:List (List Key×V)}{xs:List (List Key×Addr×Value)}(r:KT H kvs xs)(k:List Key):RelO (a7Q kvs k) ((atKey xs k).map (·.2)):=by
 induction r with
 | nil=>exact True.intro
 | @cons p q ps qs h t ih=>
  obtain⟨h1,_,h2⟩:=h
  by_cases e:p.1=k
  ·have e':q.1=k:=h1.symm.trans e;have b:atKey (q::qs) k=some q.2:=by simp[atKey,List.find?_cons,e']
   rw[xV e,b]; exact h2
  ·have e':¬q.1=k:=fun z=>e (h1.trans z);have b:atKey (q::qs) k=atKey qs k:=by simp[atKey,List.find?_cons,e']
   rw[xU e,b]; exact ih
theorem KT.repl {H:Hp}{kvs:List (List Key×V)}{xs:List (List Key×Addr×Value)}(r:KT H kvs xs)(k:List Key){y:V}{u:Value}(ry:RelV y u) :
  KT H (kvs.map fun kv=>if kv.1=k then(kv.1,y) else kv) (xs.map (putAt k u)):=by
 induction r with
 | nil=>exact .nil
 | @cons p q ps qs h t ih=>
  rw[List.map_cons,List.map_cons];refine .cons ?_ ih;obtain⟨h1,h2,h3⟩:=h;unfold putAt
  by_cases e:p.1=k
  ·rw[if_pos e,if_pos (h1.symm.trans e)]; exact⟨h1,h2,ry⟩
  ·rw[if_neg e,if_neg (fun z=>e (h1.trans z))]; exact⟨h1,h2,h3⟩
theorem KT.put {H:Hp}{kvs:List (List Key×V)}{xs:List (List Key×Addr×Value)}(r:KT H kvs xs)(k:List Key){b:Addr}{y:V}{u:Value}(hb:H b=some (.tup (k.map kV)))(ry:RelV y u) :
  KT H (putK kvs k y) (storedH xs k b u):=by
 have e:(kvs.any fun kv=>decide (kv.1=k))=(atKey xs k).isSome:=by
  rw[a2A,(r.val k).isSome_eq,Option.isSome_map]
 unfold putK storedH;rw[e]
 by_cases q:(atKey xs k).isSome=true
 ·rw[if_pos q,if_pos q]; exact r.repl k ry
 ·rw[if_neg q,if_neg q]; exact Paired.snoc r ⟨rfl,hb,ry⟩
theorem KT.keeps {H H':Hp}{kvs:List (List Key×V)}{xs:List (List Key×Addr×Value)}(r:KT H kvs xs)(ht:∀ b ys,H b=some (.tup ys)→H' b=some (.tup ys)):KT H' kvs xs:=
 Paired.mapP r fun _ _ z=>⟨z.1,ht _ _ z.2.1,z.2.2⟩
section
variable {P:Program}{w:World}{H:Hp}{h:Heap}{a:Addr}
theorem aLT {u:HO}(ok:HOk P w H h)(e:Rd H a u):ObjOk P w H h a u:=e.ok ok
theorem aBQ {kvs:List (Key×V)}(ok:HOk P w H h)(e:Rd H a (.dK kvs)):kvs.length≤sizeLine∧(a==sysModules)=false∧∃ vs,KV kvs vs∧h.DictOf (fY P w) a vs:=
 show ObjOk P w H h a (.dK kvs) from aLT ok e
theorem aNE {kvs:List (Key×V)}(ok:HOk P w H h)(e:H a=some (.dK kvs)):kvs.length≤sizeLine∧(a==sysModules)=false∧∃ vs,KV kvs vs∧h.DictOf (fY P w) a vs:=aBQ ok (.inl e)
theorem a4Q {ks:List Key}(ok:HOk P w H h)(e:H a=some (.tup (ks.map kV))):(tupleKind (fY P w)).is h ks a:=by
 obtain⟨_,its,r,o,h1,h2,n,h3⟩:=(show ObjOk P w H h a (.tup (ks.map kV)) from ok a _ e);exact⟨o,its.toArray,n,h1,h2,h3,by simpa using a5W r⟩
theorem aD3 {kvs:List (List Key×V)}(ok:HOk P w H h)(e:Rd H a (.dT kvs)):kvs.length≤sizeLine∧(a==sysModules)=false ∧
  ∃ xs,KT H kvs xs∧h.DictOfH (tupleKind (fY P w)) a xs:=by
 obtain⟨z,y,xs,r,o,es,ep,h1,h2,h3,h4,h5⟩:=(show ObjOk P w H h a (.dT kvs) from aLT ok e);refine⟨z,y,xs,r,o,es,ep,h1,h2,h3,h4,fun x hx=>?_,h5⟩;have all:∀{l:List (List Key×V)} {m:List (List Key×Addr×Value)},KT H l m→∀ x∈m,(tupleKind (fY P w)).is h x.1 x.2.1:=by
  intro l m q
  induction q with
  | nil=>intro x hx; exact nomatch hx
  | @cons p q ps qs hq t ih=>
   intro x hx;rcases List.mem_cons.mp hx with e|hx
   ·subst e;exact a4Q ok (by rw[← hq.1]; exact hq.2.1)
   ·exact ih x hx
 exact all r x hx
theorem aKX {kvs:List (List Key×V)}(ok:HOk P w H h)(e:H a=some (.dT kvs)):kvs.length≤sizeLine∧(a==sysModules)=false ∧
  ∃ xs,KT H kvs xs∧h.DictOfH (tupleKind (fY P w)) a xs:=aD3 ok (.inl e)
end
noncomputable def DGet (H:Hp)(a:Addr)(y:V)(r:Option V):Prop:=
 (∃ kvs k,Rd H a (.dK kvs)∧y=kV k∧r=a7Q kvs k)∨∃ kvs k b,Rd H a (.dT kvs)∧y=.ref b∧H b=some (.tup (k.map kV))∧r=a7Q kvs k
noncomputable def DPut (H:Hp)(a:Addr)(y v:V)(H':Hp):Prop:=
 (∃ kvs k,H a=some (.dK kvs)∧y=kV k∧kvs.length<sizeLine∧H'=upd H a (.dK (putK kvs k v))) ∨
 ∃ kvs k b,H a=some (.dT kvs)∧y=.ref b∧H b=some (.tup (k.map kV))∧kvs.length<sizeLine∧H'=upd H a (.dT (putK kvs k v))
theorem DGet.t {H:Hp}{a b:Addr}{kvs:List (List Key×V)}{k:List Key}(e:H a=some (.dT kvs))(eb:H b=some (.tup (k.map kV))):DGet H a (.ref b) (a7Q kvs k):=.inr ⟨kvs,k,b,.inl e,rfl,eb,rfl⟩
theorem DPut.t {H:Hp}{a b:Addr}{kvs:List (List Key×V)}{k:List Key}{v:V}(e:H a=some (.dT kvs))(eb:H b=some (.tup (k.map kV)))(hl:kvs.length<sizeLine) :
  DPut H a (.ref b) v (upd H a (.dT (putK kvs k v))):=.inr ⟨kvs,k,b,e,rfl,eb,hl,rfl⟩
section
variable {X:Cx}{pins:List (Addr×Obj)}{σ:St}{H:Hp}{s:Shared}{a:Addr}{y v:V}{u r:Value}{o:Option V}{A:Around}{E:Value→Shared→Prop}
theorem Inv.big (I:Inv X pins σ H s):sysModules<s.heap.objs.size:=by
 have h:mainGlobals<s.heap.objs.size:=(I.mod.glob.keeps I.bk).lt;exact Nat.lt_trans (by decide) h
theorem aEG {Q:Value→Shared→Prop}(hu:A.units+1<cLine)(I:Inv X pins σ H s)(g:DGet H a y (some v))(ry:RelV y u)(h:∀ w' s',Inv X pins σ H s'→RelV v w'→Q w' s') :
  wpAny (model X.prog X.w) A (getItem (.ref a) u) Q E s:=by
 rcases g with⟨kvs,k,e,ey,l⟩|⟨kvs,k,b,e,ey,eb,l⟩
 ·subst ey;obtain⟨z,hd,vs,rel,dd⟩:=aBQ I.hok e;obtain⟨w',hw,rw'⟩:=RelO.some_of (v:=v) (o:=valueAt vs k) (by rw[l]; exact rel.val k);exact wpAny_getItem_of (aD6 ry) dd.mapOf hw (h w' _ (I.tok _) rw')
 ·subst ey
  cases(show u=Value.ref b from ry)
  obtain⟨z,hd,xs,rel,dd⟩:=aD3 I.hok e;obtain⟨w',hw,rw'⟩:=RelO.some_of (v:=v) (o:=(atKey xs k).map (·.2)) (by rw[l]; exact rel.val k);obtain⟨p,hp,hp2⟩:=Option.map_eq_some_iff.mp hw;refine wpAny_getItem_heap (tupleKind_room_in1 hu) (a4Q I.hok eb) dd hp ?_;rw[hp2];exact h w' _ (I.tok _) rw'
theorem aR1 {Q:Value→Shared→Prop}(hu:A.units+1<cLine)(I:Inv X pins σ H s)(g:DGet H a y o)(ry:RelV y u)(h:∀ s',Inv X pins σ H s'→Q (.bool o.isSome) s') :
  wpAny (model X.prog X.w) A (compareOp .In u (.ref a)) Q E s:=by
 rcases g with⟨kvs,k,e,ey,l⟩|⟨kvs,k,b,e,ey,eb,l⟩
 ·subst ey;obtain⟨z,hd,vs,rel,dd⟩:=aBQ I.hok e;refine wpAny_in_of (aD6 ry) hd dd.mapOf ?_;rw[← (rel.val k).isSome_eq,←l];exact h _ (I.tok _)
 ·subst ey
  cases(show u=Value.ref b from ry)
  obtain⟨z,hd,xs,rel,dd⟩:=aD3 I.hok e;refine wpAny_in_heap (tupleKind_room_in1 hu) (a4Q I.hok eb) hd dd ?_;have q:=(rel.val k).isSome_eq;rw[Option.isSome_map] at q;rw[← q,←l];exact h _ (I.tok _)
theorem aJP {Q:Value→Shared→Prop}(hu:A.units+1<cLine)(I:Inv X pins σ H s)(g:DGet H a y o)(ry:RelV y u)(h:∀ s',Inv X pins σ H s'→Q (.bool (!o.isSome)) s') :
  wpAny (model X.prog X.w) A (compareOp .NotIn u (.ref a)) Q E s:=by
 rcases g with⟨kvs,k,e,ey,l⟩|⟨kvs,k,b,e,ey,eb,l⟩
 ·subst ey;obtain⟨z,hd,vs,rel,dd⟩:=aBQ I.hok e;refine wpAny_notIn_of (aD6 ry) hd dd.mapOf ?_;rw[← (rel.val k).isSome_eq,←l];exact h _ (I.tok _)
 ·subst ey
  cases(show u=Value.ref b from ry)
  obtain⟨z,hd,xs,rel,dd⟩:=aD3 I.hok e;refine wpAny_notIn_heap (tupleKind_room_in1 hu) (a4Q I.hok eb) hd dd ?_;have q:=(rel.val k).isSome_eq;rw[Option.isSome_map] at q;rw[← q,←l];exact h _ (I.tok _)
theorem aD1 {h':Heap}{t':Nat}{ob:HO}(I:Inv X pins σ H s)(mu:Mut (H a))(hs:Heap.SameBut a s.heap h')(he:∃ q,h'.get? a=some q)(new:ObjOk X.prog X.w (upd H a ob) h' a ob) :
  Inv X pins σ (upd H a ob) { s with heap:=h',toks:=t' }:=
 I.write (x:=a) (e:=a) mu (.inl rfl) (fun b q hb z=>(hs.2 b hb).trans z) he new
theorem aMI {P:Program}{w:World}{H':Hp}{h':Heap}{kvs:List (Key×V)}{vs:List (Key×Value)}(z:kvs.length≤sizeLine)(hd:(a==sysModules)=false)(rel:KV kvs vs)(dd:h'.DictOf (fY P w) a vs) :
  ObjOk P w H' h' a (.dK kvs):=⟨z,hd,vs,rel,dd⟩
theorem aEP {H':Hp}{Q:Unit→Shared→Prop}(hu:A.units+1<cLine)(I:Inv X pins σ H s)(g:DPut H a y v H')(ry:RelV y u)(rv:RelV v r)(h:∀ s',Inv X pins σ H' s'→Q () s') :
  wpAny (model X.prog X.w) A (setItem (.ref a) u r) Q E s:=by
 rcases g with⟨kvs,k,e,ey,l,eH⟩|⟨kvs,k,b,e,ey,eb,l,eH⟩
 ·subst ey eH;obtain⟨z,hd,vs,rel,dd⟩:=aNE I.hok e;have hz:vs.length≤sizeLine:=by rw[← rel.length]; exact z
  have hl:(putK kvs k v).length≤sizeLine:=by have:=yN kvs k v; omega
  refine wpAny_setItem_pairs (hsz:=hz) (aD6 ry) dd fun h' dd' hs=>h _ ?_;have he:∃ q,h'.get? a=some q:=let ⟨q,_,_,hq,_⟩:=dd'; ⟨q,hq⟩;exact aD1 I (by rw[e]; exact True.intro) hs he (aMI hl hd (rel.put k rv) dd')
 ·subst ey eH
  cases(show u=Value.ref b from ry)
  obtain⟨z,hd,xs,rel,dd⟩:=aKX I.hok e;have hz:xs.length≤sizeLine:=by rw[← Paired.length rel]; exact z
  have hl:(putK kvs k v).length≤sizeLine:=by have:=yN kvs k v; omega
  refine wpAny_setItem_heap (hsz:=hz) (tupleKind_room_in1 hu) (a4Q I.hok eb) dd fun h' dd' hs=>h _ ?_;obtain⟨q,es,ep,hq,h2,h3,h4,_,h5⟩:=dd';refine aD1 I (by rw[e]; exact True.intro) hs ⟨q,hq⟩ ⟨hl,hd,_,(rel.put k eb rv).keeps fun c ys ec=>?_,q,es,ep,hq,h2,h3,h4,h5⟩;rw[b7 (aAK ec e (fun z=>nomatch z))];exact ec
end
section
variable {X:Cx}{pins:List (Addr×Obj)}{σ:St}{H:Hp}{s:Shared}{a:Addr}{kvs:List (Key×V)}{k:Key}{u:Value}{A:Around}{E:Value→Shared→Prop}
end
noncomputable def aQJ (i:Expr):Prop:=∀ ov iv,subscripted i false ov iv=operate [ov,iv] (getItem ov iv)
theorem aI4 {prog:Program}{w:World}{A:Around}{E:Value→Shared→Prop}{s:Shared}{env:Env}{value slice:Expr}{pos:Pos}{T id:String}{Q:Value→Shared→Prop}
  (hl:typeLookup (.type T) "__getitem__" = pure (some (.builtin id))) (hs:aQJ slice)
  (h:wpAny (model prog w) A (eval value env) (fun o s₁=>wpAny (model prog w) A (eval slice env) (fun i s₂=>s₂.TypeIs o T∧wpAny (model prog w) A (getItem o i) Q E s₂) E s₁) E s) :
  wpAny (model prog w) A (eval (.Subscript value slice pos) env) Q E s:=by
 refine Subscript_ (wpAny_mono h (fun o s₁ h₁=>wpAny_mono h₁ (fun i s₂ h₂=>?_) fun _ _ x=>x) fun _ _ x=>x);obtain⟨hT,h₂⟩:=h₂;unfold subscriptTail;refine wpAny_bind ?_;rw[getitemInPython_of_ne hT.not_modules];refine wpAny_bind (wpAny_specialOf hT hl ?_);have fin:wpAny (model prog w) A (subscripted slice false o i) (fun r s₃=>wpAny (model prog w) A (letTemporaryGo value o r >>= fun _=>pure r) Q E s₃) E s₂:=by
  rw[hs o i];exact wpAny_operating (wpAny_mono h₂ (fun r s₃ h₃=>wpAny_bind (wpAny_letTemporaryGo (wpAny_pure h₃))) fun _ _ x=>x)
 first
  | exact wpAny_pure (wpAny_bind fin)
  | exact wpAny_bind (wpAny_pure (wpAny_bind fin))
  | exact wpAny_bind fin
theorem a6R {X:Cx}{pins:List (Addr×Obj)}{σ:St}{H:Hp}{s:Shared}{a:Addr}{y:V}{o:Option V}(I:Inv X pins σ H s)(g:DGet H a y o):s.TypeIs (.ref a) "dict" := by
 rcases g with⟨kvs,k,e,_,_⟩|⟨kvs,k,b,e,_,_,_⟩
 ·obtain⟨_,_,vs,_,dd⟩:=aBQ I.hok e;exact dd.typeIs
 ·obtain⟨_,_,xs,_,dd⟩:=aD3 I.hok e;exact dd.typeIs
noncomputable def aL6 (td ty:TE):TE:=fun σ H Q=>td σ H fun x H1=>ty σ H1 fun y H2=>∃ a v,x=.ref a∧DGet H2 a y (some v)∧Q v H2
noncomputable def aQ2 (ty td:TE):TE:=fun σ H Q=>ty σ H fun y H1=>td σ H1 fun x H2=>∃ a o,x=.ref a∧DGet H2 a y o∧Q (.bl o.isSome) H2
noncomputable def aDY (ty td:TE):TE:=fun σ H Q=>ty σ H fun y H1=>td σ H1 fun x H2=>∃ a o,x=.ref a∧DGet H2 a y o∧Q (.bl (!o.isSome)) H2
noncomputable def aMA (td ty tv:TE):TS:=fun D σ H=>tv σ H fun v H1=>td σ H1 fun x H2=>ty σ H2 fun y H3=>∃ a H4,x=.ref a∧DPut H3 a y v H4∧D.nx σ H4
section
variable {X:Cx}{o i e value:Expr}{pos pos' tpos:Pos}{td ty tv:TE}
theorem aJY (hu:X.A.units+1<cLine)(ho:PE X o td)(hi:PE X i ty)(hs:aQJ i):PE X (.Subscript o i pos) (aL6 td ty):=by
 intro pins s σ H Q I h;refine aI4 PySem.F.slot_dict_getitem.lookup hs (thn (ho pins s σ H _ I h) fun u s1 ⟨x,H1,I1,rx,q1⟩=>thn (hi pins s1 σ H1 _ I1 q1) fun iv s2 ⟨y,H2,I2,ry,a,v,ex,g,q2⟩=>?_);subst ex;obtain rfl:u=Value.ref a:=rx;exact⟨a6R I2 g,aEG hu I2 g ry fun w' s3 I3 rw'=>⟨v,H2,I3,rw',q2⟩⟩
theorem aLW (hu:X.A.units+1<cLine)(hi:PE X i ty)(ho:PE X o td):PC X .In i o (aQ2 ty td):=by
 intro pins s σ H Q I h;refine thn (hi pins s σ H _ I h) fun iv s1 ⟨y,H1,I1,ry,q1⟩=>thn (ho pins s1 σ H1 _ I1 q1) fun u s2 ⟨x,H2,I2,rx,a,ov,ex,g,q2⟩=>?_;subst ex;obtain rfl:u=Value.ref a:=rx;exact aR1 hu I2 g ry fun s3 I3=>⟨.bl ov.isSome,H2,I3,rfl,q2⟩
theorem aCI (hu:X.A.units+1<cLine)(hi:PE X i ty)(ho:PE X o td):PC X .NotIn i o (aDY ty td):=by
 intro pins s σ H Q I h;refine thn (hi pins s σ H _ I h) fun iv s1 ⟨y,H1,I1,ry,q1⟩=>thn (ho pins s1 σ H1 _ I1 q1) fun u s2 ⟨x,H2,I2,rx,a,ov,ex,g,q2⟩=>?_;subst ex;obtain rfl:u=Value.ref a:=rx;exact aJP hu I2 g ry fun s3 I3=>⟨.bl (!ov.isSome),H2,I3,rfl,q2⟩
theorem aDD (hu:X.A.units+1<cLine)(ho:PE X o td)(hi:PE X i ty)(hv:PE X value tv)(hs:swapsWith value (some (.Subscript o i pos')) pos.line X.env=pure false) :
  PS X (.Assign [.Subscript o i pos'] value pos) (aMA td ty tv):=by
 intro pins s σ H D I h;refine wpAny_Assign_Subscript (thn (hv pins s σ H _ I h) fun r s1 ⟨v,H1,I1,rv,q1⟩=>thn (ho pins s1 σ H1 _ I1 q1) fun u s2 ⟨x,H2,I2,rx,q2⟩=>thn (hi pins s2 σ H2 _ I2 q2) fun iv s3 ⟨y,H3,I3,ry,a,H4,ex,g,q3⟩=>?_) hs;subst ex;obtain rfl:u=Value.ref a:=rx;exact aEP hu I3 g ry rv fun s4 I4=>⟨σ,H4,I4,q3⟩
end
theorem aGQ {P:Program}{w:World}{H:Hp}(h:Heap)(hb:sysModules<h.objs.size):ObjOk P w H (h.push { cls:=.type "dict", data:=.dict #[] }) h.objs.size (.dT []):=
 ⟨Nat.zero_le _,beq_eq_false_iff_ne.mpr (Ne.symm (Nat.ne_of_lt hb)),[],.nil,_,#[],0,Heap.get?_push_size _ rfl,⟨rfl,rfl,rfl⟩,rfl,rfl,List.nodup_nil⟩
noncomputable def aHQ:TE:=fun _ H Q=>∀ p,H p=none→Q (.ref p) (upd H p (.dT []))
section
variable {X:Cx}{pos:Pos}
theorem a8H:PE X (.Dict [] [] pos) aHQ:=fun pins s σ H Q I h=>
 wpAny_Dict_empty ⟨.ref s.heap.objs.size,_,I.laid (a:=s.heap.objs.size) (o:=.dT []) (t':=s.toks) (fun _ _ q=>Heap.get?_push_of_some _ q) (Nat.le_refl _) (aGQ s.heap I.big),rfl,h _ (I.hok.fresh (Nat.le_refl _))⟩
end
section
variable {X:Cx}{pins:List (Addr×Obj)}{σ:St}{H:Hp}{s:Shared}{a:Addr}{y d:V}{u r:Value}{o:Option V}{A:Around}{E:Value→Shared→Prop}
end
section
variable {X:Cx}{o e f:Expr}{apos cpos:Pos}{td ty tx:TE}
end
section
variable {X:Cx}{pins:List (Addr×Obj)}{σ:St}{H:Hp}{s:Shared}{a:Addr}{kvs:List (Key×V)}{A:Around}{E:Value→Shared→Prop}
end
section
variable {X:Cx}{pins:List (Addr×Obj)}{σ:St}{H:Hp}{s:Shared}{a:Addr}{y:V}{u:Value}{A:Around}{E:Value→Shared→Prop}
end
end L2
namespace L2
open PySem PySem.Spec PyProof.Rows
section
variable {κ:Type}[DecidableEq κ]
end
end L2
abbrev Fg:=PySem.W.Frag
abbrev Mg:=PySem.Str→Option PySem.Value
namespace L2.VS
open PySem PySem.Spec PyProof.Rows
section
abbrev D:=PyData
structure Pb where
 P:V→Hp→Prop
 mono:∀{v G G'},Same G G'→P v G→P v G'
structure Bx where
 P:V→List Addr→Hp→Hp→Prop
 mono:∀{v fp G G' H},Same G G'→P v fp G H→P v fp G' H
 loc:∀{v fp G H H'},(∀ b∈fp,H' b=H b)→P v fp G H→P v fp G H'
 dom:∀{v fp G H},P v fp G H→∀ b∈fp,∃ o,H b=some o
 uniq:∀{v fp fp' G H},P v fp G H→P v fp' G H→fp=fp'
 nt:∀{v fp G H},P v fp G H→∀ b∈fp,∀ xs,H b=some (.tup xs)→∃ q∈fp,V.ref q∈xs∧∃ vs,H q=some (.lst vs)
 view:Option D
 vok:∀{v fp G H G' d},P v fp G H→view=some d→Same G G'→(∀ b∈fp,G' b=H b)→Dt G' v d
 pv:Option Pb:=none
 pok:∀{v fp G H G' B},P v fp G H→pv=some B→Same G G'→(∀ b∈fp,G' b=H b)→B.P v G':=by intro _ _ _ _ _ _ _ z; cases z
inductive Sl where
 | no|val (d:D)|own (ds:List D)|pen|con (p:Addr)|box (B:Bx)|pub (B:Pb)
abbrev En:=List Sl
inductive Rv where
 | val (d:D)|own (ds:List D)|box (B:Bx)
def Rv.d:Rv→D
 | .val d=>d
 | .own ds=>.list ds
 | .box B=>B.view.getD .none
def Rv.sl:Rv→Sl
 | .val d=>.val d
 | .own ds=>.own ds
 | .box B=>.box B
inductive Fl where
 | nx (Γ:En)|rt (r:Rv)|bk (Γ:En)|ct (Γ:En)
variable {P0:Addr→Hp→Prop}
structure Fra (P0:Addr→Hp→Prop) where
 H0:Hp
 G0:Hp
 pen:Option Addr
 stab:∀ p,pen=some p→∀ H H',(∀ b o,H0 b=some o→H' b=H b)→P0 p H→P0 p H'
 pin:∀ p,pen=some p→∀ H,P0 p H→∃ o,H p=some o
 pin0:∀ p,pen=some p→∃ o,H0 p=some o
 pg:∀ p,pen=some p→G0 p=none
def Fra.PI (F:Fra P0)(H:Hp):Prop:=∀ p,F.pen=some p→P0 p H
theorem Fra.stab' (F:Fra P0):∀ H H',(∀ b o,F.H0 b=some o→H' b=H b)→F.PI H→F.PI H':=fun H H' h pi p e=>F.stab p e H H' h (pi p e)
structure Rf (F:Fra P0)(G H:Hp):Prop where
 sub:Same G H
 g0:∀ b o,F.H0 b=some o→G b=F.G0 b
 h0:∀ b o,F.H0 b=some o→F.pen≠some b→H b=some o
 pn:F.PI H
def SlF (F:Fra P0)(G H:Hp)(x:Option (Option V))(fp:List Addr):Sl→Prop
 | .no=>fp=[]
 | .val d=>fp=[]∧∃ v,x=some (some v)∧Dt G v d
 | .own ds=>∃ p vs,fp=[p]∧x=some (some (.ref p))∧F.H0 p=none∧G p=none∧H p=some (.lst vs)∧Dts G vs ds
 | .pen=>fp=[]∧∃ p,x=some (some (.ref p))∧F.pen=some p
 | .con p=>fp=[]∧x=some (some (.ref p))
 | .pub B=>fp=[]∧∃ v,x=some (some v)∧B.P v G
 | .box B=>∃ v,x=some (some v)∧B.P v fp G H∧∀ b∈fp,F.H0 b=none∧G b=none
def aNO (F:Fra P0)(G H:Hp)(x:Option (Option V)):Sl→Prop
 | .no=>True
 | .val d=>∃ v,x=some (some v)∧Dt G v d
 | .own ds=>∃ p vs,x=some (some (.ref p))∧F.H0 p=none∧G p=none∧H p=some (.lst vs)∧Dts G vs ds
 | .pen=>∃ p,x=some (some (.ref p))∧F.pen=some p
 | .con p=>x=some (some (.ref p))
 | .pub B=>∃ v,x=some (some v)∧B.P v G
 | .box B=>∃ v fp,x=some (some v)∧B.P v fp G H∧∀ b∈fp,F.H0 b=none∧G b=none
theorem SlF.ok {F:Fra P0}{G H:Hp}{x:Option (Option V)}{fp:List Addr}:∀{s:Sl},SlF F G H x fp s→aNO F G H x s
 | .no,_=>trivial
 | .val _,h=>h.2
 | .own _,h=>let ⟨p,vs,_,r⟩:=h; ⟨p,vs,r⟩
 | .pen,h=>h.2
 | .con _,h=>h.2
 | .pub _,h=>h.2
 | .box _,h=>let ⟨v,r⟩:=h; ⟨v,fp,r⟩
theorem SlF.mine {F:Fra P0}{G H:Hp}{x:Option (Option V)}{fp:List Addr}{b:Addr}(hb:b∈fp):∀{s:Sl},SlF F G H x fp s→F.H0 b=none∧G b=none∧∃ o,H b=some o
 | .no,h=>by rw[show fp=[] from h] at hb; cases hb
 | .val _,h=>by rw[h.1] at hb; cases hb
 | .own _,h=>by
  obtain⟨p,vs,e,_,h1,h2,h3,_⟩:=h;rw[e] at hb;rw[List.mem_singleton.mp hb];exact⟨h1,h2,_,h3⟩
 | .pen,h=>by rw[h.1] at hb; cases hb
 | .con _,h=>by rw[h.1] at hb; cases hb
 | .pub _,h=>by rw[h.1] at hb; cases hb
 | .box B,h=>by
  obtain⟨v,_,h2,h3⟩:=h;exact⟨(h3 b hb).1,(h3 b hb).2,B.dom h2 b hb⟩
theorem SlF.go {F:Fra P0}{G H G' H':Hp}{x:Option (Option V)}{fp:List Addr}(g:Same G G')(k:∀ b∈fp,G' b=none∧H' b=H b):∀{s:Sl},SlF F G H x fp s→SlF F G' H' x fp s
 | .no,h=>h
 | .val _,h=>let ⟨e,v,e1,d1⟩:=h; ⟨e,v,e1,Dt.same g _ _ d1⟩
 | .own _,h=>by
  obtain⟨p,vs,e,e1,e2,e3,e4,e5⟩:=h;have:=k p (by rw[e]; exact List.mem_singleton.mpr rfl);exact⟨p,vs,e,e1,e2,this.1,this.2.trans e4,Dts.same g _ _ e5⟩
 | .pen,h=>h
 | .con _,h=>h
 | .pub B,h=>let ⟨e,v,e1,d1⟩:=h; ⟨e,v,e1,B.mono g d1⟩
 | .box B,h=>by
  obtain⟨v,h1,h2,h3⟩:=h;exact⟨v,h1,B.loc (fun b hb=>(k b hb).2) (B.mono g h2),fun b hb=>⟨(h3 b hb).1,(k b hb).1⟩⟩
structure R (F:Fra P0)(Γ:En)(σ:St)(G H:Hp):Prop where
 fr:Rf F G H
 len:Γ.length=σ.length
 fps:∃ fps:Nat→List Addr,(∀(i:Nat) s,Γ[i]?=some s→SlF F G H σ[i]? (fps i) s)∧∀(i j:Nat) (s t:Sl),Γ[i]?=some s→Γ[j]?=some t→i≠j→∀ b∈fps i,b∉fps j
theorem R.sl {F:Fra P0}{Γ:En}{σ:St}{G H:Hp}(r:R F Γ σ G H)(i:Nat)(s:Sl)(e:Γ[i]?=some s):aNO F G H σ[i]? s:=
 let ⟨_,h,_⟩:=r.fps; (h i s e).ok
theorem R.of {F:Fra P0}{Γ:En}{σ:St}{G H:Hp}(fr:Rf F G H)(len:Γ.length=σ.length)(sl:∀(i:Nat) s,Γ[i]?=some s→aNO F G H σ[i]? s)(nb:∀(i:Nat) B,Γ[i]?≠some (.box B))
  (ap:∀(i j:Nat) x y,i≠j→Γ[i]?=some (.own x)→Γ[j]?=some (.own y)→σ[i]?≠σ[j]?):R F Γ σ G H:=by
 refine⟨fr,len,fun i=>match Γ[i]?,σ[i]? with|some (.own _),some (some (.ref p))=>[p]|_,_=>[],fun i s e=>?_,fun i j s t ei ej hij b hb hc=>?_⟩
 ·have h:=sl i s e
  cases s with
  | no=>simp only[e]; rfl
  | val d=>simp only[e]; exact⟨rfl,h⟩
  | own ds=>
   obtain⟨p,vs,e1,r⟩:=h;simp only[e,e1];exact⟨p,vs,rfl,rfl,r⟩
  | pen=>simp only[e]; exact⟨rfl,h⟩
  | con q=>simp only[e]; exact⟨rfl,h⟩
  | pub B=>simp only[e]; exact⟨rfl,h⟩
  | box B=>exact absurd e (nb i B)
 ·simp only[ei] at hb;simp only[ej] at hc
  cases s with
  | own x=>
   cases t with
   | own y=>
    split at hb
    ·rename_i p _ e1
     split at hc
     ·rename_i q _ e2
      have e1:=List.mem_singleton.mp hb;have e2:=List.mem_singleton.mp hc;exact ap i j x y hij ei ej (by simp_all)
     ·cases hc
    ·cases hb
   | _=>simp at hc
  | _=>simp at hb
section
variable {F:Fra P0}{Γ:En}{σ:St}{G H G' H':Hp}{p:Addr}{o:HO}
theorem Rf.dom (h:Rf F G H){b:Addr}(e:F.H0 b=some o):∃ o',H b=some o':=by
 by_cases hb:F.pen=some b
 ·exact F.pin b hb H (h.pn b hb)
 ·exact⟨o,h.h0 b o e hb⟩
theorem Rf.fresh (h:Rf F G H)(hp:H p=none):F.H0 p=none:=by
 cases e:F.H0 p with
 | none=>rfl
 | some o=>
  obtain⟨o',e'⟩:=h.dom e;rw[hp] at e'; cases e'
theorem Rf.gfresh (h:Rf F G H)(hp:H p=none):G p=none:=h.sub.free hp
theorem Rf.pub (h:Rf F G H)(hp:H p=none):Rf F (upd G p o) (upd H p o):=by
 have hf:=h.fresh hp;have hn:∀ b u,F.H0 b=some u→b≠p:=fun b u e z=>by rw[z,hf] at e; cases e
 refine⟨fun b u e=>?_,fun b u e=>?_,fun b u e hb=>?_,F.stab' H _ (fun b u e=>b7 (hn b u e)) h.pn⟩
 ·by_cases hb:b=p
  ·subst hb; rw[bM] at e; cases e; exact bM
  ·rw[b7 hb] at e ⊢; exact h.sub b u e
 ·rw[b7 (hn b u e)]; exact h.g0 b u e
 ·rw[b7 (hn b u e)]; exact h.h0 b u e hb
theorem Rf.priv (h:Rf F G H)(hp:F.H0 p=none)(hg:G p=none):Rf F G (upd H p o):=by
 have hn:∀ b u,F.H0 b=some u→b≠p:=fun b u e z=>by rw[z,hp] at e; cases e
 refine⟨fun b u e=>?_,h.g0,fun b u e hb=>?_,F.stab' H _ (fun b u e=>b7 (hn b u e)) h.pn⟩
 ·rw[b7 (bG e hg)]; exact h.sub b u e
 ·rw[b7 (hn b u e)]; exact h.h0 b u e hb
theorem Rf.give (h:Rf F G H)(hp:F.H0 p=none)(hH:H p=some o):Rf F (upd G p o) H:=by
 have hn:∀ b u,F.H0 b=some u→b≠p:=fun b u e z=>by rw[z,hp] at e; cases e
 refine⟨fun b u e=>?_,fun b u e=>?_,h.h0,h.pn⟩
 ·by_cases hb:b=p
  ·subst hb; rw[bM] at e; cases e; exact hH
  ·rw[b7 hb] at e; exact h.sub b u e
 ·rw[b7 (hn b u e)]; exact h.g0 b u e
def R.Has (_:R F Γ σ G H)(b:Addr):Prop:=∃(i:Nat) (s:Sl) (fp:List Addr),Γ[i]?=some s∧SlF F G H σ[i]? fp s∧b∈fp
theorem R.keep (r:R F Γ σ G H)(f:Rf F G' H')(g:Same G G')
  (k:∀ b o,r.Has b→F.H0 b=none→G b=none→H b=some o→G' b=none∧H' b=some o):R F Γ σ G' H':=by
 obtain⟨fps,h1,h2⟩:=r.fps;refine⟨f,r.len,fps,fun i s e=>(h1 i s e).go g fun b hb=>?_,h2⟩;obtain⟨m1,m2,o,m3⟩:=(h1 i s e).mine hb;obtain⟨k1,k2⟩:=k b o ⟨i,s,fps i,e,h1 i s e,hb⟩ m1 m2 m3;exact⟨k1,k2.trans m3.symm⟩
theorem R.new (r:R F Γ σ G H)(hp:H p=none):R F Γ σ (upd G p o) (upd H p o):=by
 refine r.keep (r.fr.pub hp) (uE (r.fr.gfresh hp) o) fun q u _ _ g h=>?_;have hq:q≠p:=bG h hp;rw[b7 hq,b7 hq];exact⟨g,h⟩
theorem R.newP (r:R F Γ σ G H)(hp:H p=none):R F Γ σ G (upd H p o):=by
 refine r.keep (r.fr.priv (r.fr.fresh hp) (r.fr.gfresh hp)) (Same.refl _) fun q u _ _ g h=>?_;have hq:q≠p:=bG h hp;rw[b7 hq];exact⟨g,h⟩
def RvO (F:Fra P0)(G H:Hp)(r:V):Rv→Prop
 | .val d=>Dt G r d
 | .own ds=>∃ p vs,r=.ref p∧F.H0 p=none∧G p=none∧H p=some (.lst vs)∧Dts G vs ds
 | .box B=>∃ fp,B.P r fp G H∧∀ b∈fp,F.H0 b=none∧G b=none
def Apart (F:Fra P0)(Γ:En)(σ:St)(G H:Hp)(r:V):Rv→Prop
 | .val _=>True
 | .own _=>∀(i:Nat) s fp,Γ[i]?=some s→SlF F G H σ[i]? fp s→∀ p,r=.ref p→p∉fp
 | .box B=>∀(i:Nat) s fp f,Γ[i]?=some s→SlF F G H σ[i]? fp s→B.P r f G H→∀ b∈f,b∉fp
theorem R.give (r:R F Γ σ G H){v:V}{ds:List D}(h:RvO F G H v (.own ds))(ha:Apart F Γ σ G H v (.own ds)):∃ G',Same G G'∧R F Γ σ G' H∧Dt G' v (.list ds):=by
 obtain⟨p,vs,rfl,e1,e2,e3,e4⟩:=h;have g:=uE e2 (.lst vs);refine⟨upd G p (.lst vs),g,r.keep (r.fr.give e1 e3) g fun q u hq _ eg eh=>⟨?_,eh⟩,.lst bM (Dts.same g _ _ e4)⟩;have hqp:q≠p:=fun z=>by
  obtain⟨i,s,fp,a1,a2,a3⟩:=hq;rw[z] at a3;exact ha i s fp a1 a2 p rfl a3
 rw[b7 hqp];exact eg
theorem R.giveB (r:R F Γ σ G H){v:V}{B:Bx}{d:D}(h:RvO F G H v (.box B))(ha:Apart F Γ σ G H v (.box B))(hv:B.view=some d):∃ G',Same G G'∧R F Γ σ G' H∧Dt G' v d:=by
 obtain⟨fp,e1,e2⟩:=h;have g:Same G (fun b=>if b∈fp then H b else G b):=fun b o e=>by
  show(if b∈fp then H b else G b)=some o
  rw[if_neg (fun z=>by rw[(e2 b z).2] at e; cases e)];exact e
 refine⟨fun b=>if b∈fp then H b else G b,g,r.keep ⟨fun b o e=>?_,fun b o e=>?_,r.fr.h0,r.fr.pn⟩ g fun q u hq _ eg eh=>⟨?_,eh⟩,B.vok e1 hv g fun b hb=>if_pos hb⟩
 ·have e:(if b∈fp then H b else G b)=some o:=e
  split at e
  ·exact e
  ·exact r.fr.sub b o e
 ·show(if b∈fp then H b else G b)=_
  rw[if_neg (fun z=>by rw[(e2 b z).1] at e; cases e)];exact r.fr.g0 b o e
 ·obtain⟨i,s,f,a1,a2,a3⟩:=hq
  show(if q∈fp then H q else G q)=none
  rw[if_neg fun z=>ha i s f fp a1 a2 e1 q z a3];exact eg
theorem R.set (r:R F Γ σ G H){i:Nat}{v:V}{rv:Rv}(h:RvO F G H v rv)(ha:Apart F Γ σ G H v rv):R F (Γ.set i rv.sl) (σ.set i (some v)) G H:=by
 obtain⟨fps,h1,h2⟩:=r.fps;obtain⟨fp,hf,hd⟩:∃ fp,SlF F G H (some (some v)) fp rv.sl∧∀(j:Nat) s,Γ[j]?=some s→∀ b∈fp,b∉fps j:=by
  cases rv with
  | val d=>exact⟨[],⟨rfl,v,rfl,h⟩,fun j s _ b hb=>nomatch hb⟩
  | own ds=>
   obtain⟨p,vs,rfl,q⟩:=h;exact⟨[p],⟨p,vs,rfl,rfl,q⟩,fun j s ej b hb=>by rw[List.mem_singleton.mp hb]; exact ha j s (fps j) ej (h1 j s ej) p rfl⟩
  | box B=>
   obtain⟨fp,q1,q2⟩:=h;exact⟨fp,⟨v,rfl,q1,q2⟩,fun j s ej b hb=>ha j s (fps j) fp ej (h1 j s ej) q1 b hb⟩
 have lt:∀{m:Nat} {z},(Γ.set i rv.sl)[m]?=some z→m<Γ.length:=fun e=>by
  have:=(List.getElem?_eq_some_iff.mp e).1;simpa using this
 have old:∀{m:Nat} {z},m≠i→(Γ.set i rv.sl)[m]?=some z→Γ[m]?=some z:=fun hm e=>by rw[List.getElem?_set_ne (Ne.symm hm)] at e; exact e
 refine⟨r.fr,by rw[List.length_set,List.length_set]; exact r.len,fun j=>if j=i then fp else fps j,fun j s e=>?_,fun j k s t ej ek hjk b hb hc=>?_⟩
 ·dsimp only
  by_cases hj:j=i
  ·subst hj;have hi:=lt e;rw[List.getElem?_set_self hi] at e;rw[if_pos rfl,List.getElem?_set_self (by rw[← r.len]; exact hi)]
   cases e
   exact hf
  ·rw[if_neg hj,List.getElem?_set_ne (Ne.symm hj)];exact h1 j s (old hj e)
 ·dsimp only at hb hc
  by_cases hj:j=i
  ·have hk:k≠i:=fun z=>hjk (hj.trans z.symm);rw[if_pos hj] at hb;rw[if_neg hk] at hc;exact hd k t (old hk ek) b hb hc
  ·rw[if_neg hj] at hb
   by_cases hk:k=i
   ·rw[if_pos hk] at hc;exact hd j s (old hj ej) b hc hb
   ·rw[if_neg hk] at hc;exact h2 j k s t (old hj ej) (old hk ek) hjk b hb hc
theorem R.setV (r:R F Γ σ G H){i:Nat}{v:V}{d:D}(h:Dt G v d):R F (Γ.set i (.val d)) (σ.set i (some v)) G H:=r.set (rv:=.val d) h trivial
theorem R.drop (r:R F Γ σ G H)(i:Nat):R F (Γ.set i .no) σ G H:=by
 obtain⟨fps,h1,h2⟩:=r.fps;have back:∀{m z},m≠i→(Γ.set i .no)[m]?=some z→Γ[m]?=some z:=fun{m z} hm e=>by rw[List.getElem?_set_ne (Ne.symm hm)] at e; exact e
 refine⟨r.fr,by rw[List.length_set]; exact r.len,fun j=>if j=i then[] else fps j,fun j s e=>?_,fun j k s t ej ek hjk b hb hc=>?_⟩
 ·dsimp only
  by_cases hj:j=i
  ·subst hj;have hi:j<Γ.length:=by
    have:=(List.getElem?_eq_some_iff.mp e).1;simpa using this
   rw[List.getElem?_set_self hi] at e
   cases e
   rw[if_pos rfl];rfl
  ·rw[if_neg hj];exact h1 j s (back hj e)
 ·dsimp only at hb hc
  by_cases hj:j=i
  ·rw[if_pos hj] at hb; cases hb
  ·rw[if_neg hj] at hb
   by_cases hk:k=i
   ·rw[if_pos hk] at hc; cases hc
   ·rw[if_neg hk] at hc;exact h2 j k s t (back hj ej) (back hk ek) hjk b hb hc
theorem R.writeF (r:R F Γ σ G H){i:Nat}{s0 s1:Sl}{H':Hp}(e:Γ[i]?=some s0)(fr:Rf F G H')(h:∀ fp,SlF F G H σ[i]? fp s0→∃ fp',SlF F G H' σ[i]? fp' s1∧(∀ b,b∉fp→(∃ o,H b=some o)→H' b=H b∧b∉fp')):R F (Γ.set i s1) σ G H':=by
 obtain⟨fps,h1,h2⟩:=r.fps;obtain⟨fp',w1,w2⟩:=h (fps i) (h1 i s0 e);have hi:i<Γ.length:=(List.getElem?_eq_some_iff.mp e).1;have back:∀{m z},m≠i→(Γ.set i s1)[m]?=some z→Γ[m]?=some z:=fun{m z} hm e=>by rw[List.getElem?_set_ne (Ne.symm hm)] at e; exact e
 have away:∀{j:Nat} {s:Sl},j≠i→Γ[j]?=some s→∀ b∈fps j,H' b=H b∧b∉fp':=fun hj ej b hb=>
  w2 b (fun z=>h2 _ i _ s0 ej e hj b hb z) ((h1 _ _ ej).mine hb).2.2
 refine⟨fr,by rw[List.length_set]; exact r.len,fun j=>if j=i then fp' else fps j,fun j s ej=>?_,fun j k s t ej ek hjk b hb hc=>?_⟩
 ·dsimp only
  by_cases hj:j=i
  ·subst hj;rw[List.getElem?_set_self hi] at ej
   cases ej
   rw[if_pos rfl];exact w1
  ·rw[if_neg hj];have e0:=back hj ej;exact(h1 j s e0).go (Same.refl _) fun b hb=>⟨((h1 j s e0).mine hb).2.1,(away hj e0 b hb).1⟩
 ·dsimp only at hb hc
  by_cases hj:j=i
  ·have hk:k≠i:=fun z=>hjk (hj.trans z.symm);rw[if_pos hj] at hb;rw[if_neg hk] at hc;exact(away hk (back hk ek) b hc).2 hb
  ·rw[if_neg hj] at hb
   by_cases hk:k=i
   ·rw[if_pos hk] at hc;exact(away hj (back hj ej) b hb).2 hc
   ·rw[if_neg hk] at hc;exact h2 j k s t (back hj ej) (back hk ek) hjk b hb hc
theorem R.write (r:R F Γ σ G H){i:Nat}{ds es:List D}{p:Addr}{ws:List V}(e:Γ[i]?=some (.own ds))(ep:σ[i]?=some (some (.ref p)))(hw:Dts G ws es):R F (Γ.set i (.own es)) σ G (upd H p (.lst ws)):=by
 obtain⟨p',vs,e1,e2,e3,e4,e5⟩:=r.sl i _ e;rw[ep] at e1; cases e1;refine r.writeF e (r.fr.priv e2 e3) fun fp h=>?_;obtain⟨q,us,f0,f1,f2,f3,f4,f5⟩:=h;rw[ep] at f1; cases f1;refine⟨[p],⟨p,ws,rfl,ep,e2,e3,bM,hw⟩,fun b hb _=>?_⟩;have hbp:b≠p:=fun z=>hb (by rw[f0,z]; exact List.mem_singleton.mpr rfl);exact⟨b7 hbp,fun z=>hbp (List.mem_singleton.mp z)⟩
end
abbrev ME:=En→(D→En→Prop)→Prop
abbrev MO:=En→(Rv→En→Prop)→Prop
abbrev MT:=En→(Bool→En→Prop)→Prop
abbrev MA:=En→(List Sl→En→Prop)→Prop
abbrev MD:=En→(List D→En→Prop)→Prop
abbrev MG:=D→En→(En→Prop)→Prop
abbrev MGs:=List D→En→(En→Prop)→Prop
abbrev MS:=En→(Fl→Prop)→Prop
abbrev Fm:=List Sl→(Rv→Prop)→Prop
def VT (P0:Addr→Hp→Prop)(t:TE)(m:ME):Prop:=∀(F:Fra P0) (Γ:En) (σ:St) (G H:Hp) (Q:VK) (Qm:D→En→Prop),R F Γ σ G H→m Γ Qm →
 (∀ d Γ' r G' H',Qm d Γ'→Same G G'→R F Γ' σ G' H'→Dt G' r d→Q r H')→t σ H Q
def VO (P0:Addr→Hp→Prop)(t:TE)(m:MO):Prop:=∀(F:Fra P0) (Γ:En) (σ:St) (G H:Hp) (Q:VK) (Qm:Rv→En→Prop),R F Γ σ G H→m Γ Qm →
 (∀ rv Γ' r G' H',Qm rv Γ'→Same G G'→R F Γ' σ G' H'→RvO F G' H' r rv→Apart F Γ' σ G' H' r rv→Q r H')→t σ H Q
def VTT (P0:Addr→Hp→Prop)(t:TT)(m:MT):Prop:=∀(F:Fra P0) (Γ:En) (σ:St) (G H:Hp) (Q:Bool→Hp→Prop) (Qm:Bool→En→Prop),R F Γ σ G H→m Γ Qm →
 (∀ b Γ' G' H',Qm b Γ'→Same G G'→R F Γ' σ G' H'→Q b H')→t σ H Q
def VD (P0:Addr→Hp→Prop)(t:TA)(m:MD):Prop:=∀(F:Fra P0) (Γ:En) (σ:St) (G H:Hp) (Q:List V→Hp→Prop) (Qm:List D→En→Prop),R F Γ σ G H→m Γ Qm →
 (∀ ds Γ' rs G' H',Qm ds Γ'→Same G G'→R F Γ' σ G' H'→Dts G' rs ds→Q rs H')→t σ H Q
def uK (F:Fra P0)(G:Hp)(r:V):Sl→Prop
 | .val d=>Dt G r d
 | .pen=>∃ p,r=.ref p∧F.pen=some p
 | .con p=>r=.ref p
 | .pub B=>B.P r G
 | _=>False
def VA (P0:Addr→Hp→Prop)(t:TA)(m:MA):Prop:=∀(F:Fra P0) (Γ:En) (σ:St) (G H:Hp) (Q:List V→Hp→Prop) (Qm:List Sl→En→Prop),R F Γ σ G H→m Γ Qm →
 (∀ as Γ' rs G' H',Qm as Γ'→Same G G'→R F Γ' σ G' H'→Paired (uK F G') rs as→Q rs H')→t σ H Q
def VG (P0:Addr→Hp→Prop)(A:Nat→Bool)(g:TG)(m:MG):Prop:=∀(F:Fra P0) (Γ:En) (σ:St) (G H:Hp) (v:V) (d:D) (Q:St→Hp→Prop) (Qm:En→Prop),R F Γ σ G H→Dt G v d→m d Γ Qm →
 (∀ Γ' σ',Qm Γ'→R F Γ' σ' G H→(∀ i,A i=false→σ'[i]?=σ[i]?)→Q σ' H)→g v σ H Q
def VGs (P0:Addr→Hp→Prop)(A:Nat→Bool)(g:TGs)(m:MGs):Prop:=∀(F:Fra P0) (Γ:En) (σ:St) (G H:Hp) (vs:List V) (ds:List D) (Q:St→Hp→Prop) (Qm:En→Prop),R F Γ σ G H→Dts G vs ds→m ds Γ Qm →
 (∀ Γ' σ',Qm Γ'→R F Γ' σ' G H→(∀ i,A i=false→σ'[i]?=σ[i]?)→Q σ' H)→g vs σ H Q
def Post (F:Fra P0)(A:Nat→Bool)(σ0:St)(G:Hp)(E:Ends):Fl→Prop
 | .nx Γ=>∀ σ G' H',Same G G'→R F Γ σ G' H'→(∀ i,A i=false→σ[i]?=σ0[i]?)→E.nx σ H'
 | .rt rv=>∀ r G' H',Same G G'→Rf F G' H'→RvO F G' H' r rv→E.rt r H'
 | .bk Γ=>∀ σ G' H',Same G G'→R F Γ σ G' H'→(∀ i,A i=false→σ[i]?=σ0[i]?)→E.bk σ H'
 | .ct Γ=>∀ σ G' H',Same G G'→R F Γ σ G' H'→(∀ i,A i=false→σ[i]?=σ0[i]?)→E.ct σ H'
def VSA (P0:Addr→Hp→Prop)(A:Nat→Bool)(t:TS)(m:MS):Prop:=∀(F:Fra P0) (Γ:En) (σ:St) (G H:Hp) (E:Ends) (Qm:Fl→Prop),R F Γ σ G H→m Γ Qm→(∀ fl,Qm fl→Post F A σ G E fl)→t E σ H
abbrev aQM:Nat→Bool:=fun _=>true
abbrev VS (P0:Addr→Hp→Prop)(t:TS)(m:MS):Prop:=VSA P0 aQM t m
theorem Post.same {F:Fra P0}{A:Nat→Bool}{σ0 σ1:St}{G G':Hp}{E:Ends}(g:Same G G')(hσ:∀ i,A i=false→σ1[i]?=σ0[i]?):∀{fl:Fl},Post F A σ0 G E fl→Post F A σ1 G' E fl
 | .nx _,h=>fun σ G2 H2 s r e=>h σ G2 H2 (g.trans s) r fun i hi=>(e i hi).trans (hσ i hi)
 | .rt _,h=>fun r G2 H2 s=>h r G2 H2 (g.trans s)
 | .bk _,h=>fun σ G2 H2 s r e=>h σ G2 H2 (g.trans s) r fun i hi=>(e i hi).trans (hσ i hi)
 | .ct _,h=>fun σ G2 H2 s r e=>h σ G2 H2 (g.trans s) r fun i hi=>(e i hi).trans (hσ i hi)
def SsX (P0:Addr→Hp→Prop)(X:Cx)(sts:List Stmt)(m:MS):Prop:=∃ t,PSs X sts t∧VS P0 t m
end
section
variable {P0:Addr→Hp→Prop}
theorem _root_.L2.Dts.get {G:Hp}:∀{vs:List V} {ds:List D} {i:Nat} {d:D},Dts G vs ds→ds[i]?=some d→∃ v,vs[i]?=some v∧Dt G v d
 := by
  intro vs ds i d h e
  induction ds generalizing vs i with
  | nil=>cases e
  | cons x ds ih=>
    cases h with
    | cons a b=>
      cases i with
      | zero=>cases e; exact⟨_,rfl,a⟩
      | succ i=>
        have q:=ih b (show ds[i]?=some d from e);exact q
theorem _root_.L2.Dts.len {G:Hp}:∀{vs:List V} {ds:List D},Dts G vs ds→vs.length=ds.length
 := by
  intro vs ds h
  induction ds generalizing vs with
  | nil=>cases h; rfl
  | cons x ds ih=>cases h with|cons a b=>exact congrArg Nat.succ (ih b)
theorem _root_.L2.Dts.app {G:Hp}:∀{vs ws:List V} {ds es:List D},Dts G vs ds→Dts G ws es→Dts G (vs++ws) (ds++es)
 := by
  intro vs ws ds es h g
  induction ds generalizing vs with
  | nil=>cases h; exact g
  | cons x ds ih=>cases h with|cons a b=>exact .cons a (ih b)
theorem _root_.L2.Dts.drp {G:Hp}:∀{vs:List V} {ds:List D} (n:Nat),Dts G vs ds→Dts G (vs.drop n) (ds.drop n)
 | _,_,0,h=>h
 | _,_,_+1,.nil=>.nil
 | _,_,n+1,.cons _ b=>Dts.drp n b
theorem _root_.L2.Dts.tak {G:Hp}:∀{vs:List V} {ds:List D} (n:Nat),Dts G vs ds→Dts G (vs.take n) (ds.take n)
 | _,_,0,_=>.nil
 | _,_,_+1,.nil=>.nil
 | _,_,n+1,.cons a b=>.cons a (Dts.tak n b)
theorem _root_.L2.Dts.sets {G:Hp}{v:V}{d:D}(h:Dt G v d):∀{vs:List V} {ds:List D} (n:Nat),Dts G vs ds→Dts G (vs.set n v) (ds.set n d)
 | _,_,_,.nil=>.nil
 | _,_,0,.cons _ b=>.cons h b
 | _,_,n+1,.cons a b=>.cons a (Dts.sets h n b)
def oQ (o:Option D)(k:D→Prop):Prop:=match o with
 | some d=>k d
 | none=>False
theorem aEM {o:Option D}{k:D→Prop}(h:oQ o k):∃ d,o=some d∧k d:=by
 cases o with
 | none=>exact h.elim
 | some d=>exact⟨d,rfl,h⟩
def mC (d:D):ME:=fun Γ Q=>Q d Γ
def aM (i:Nat):ME:=fun Γ Q=>match Γ[i]? with
 | some (.val d)=>Q d Γ
 | _=>False
def mI0 (g:Int→Int→D)(ma mb:ME):ME:=fun Γ Q=>ma Γ fun x Γ1=>mb Γ1 fun y Γ2=>match x,y with
 | .int i,.int j=>Q (g i j) Γ2
 | _,_=>False
def mI (C:Int→Int→Prop)(g:Int→Int→D)(ma mb:ME):ME:=fun Γ Q=>ma Γ fun x Γ1=>mb Γ1 fun y Γ2=>match x,y with
 | .int i,.int j=>C i j∧Q (g i j) Γ2
 | _,_=>False
def mU (g:Int→D)(ma:ME):ME:=fun Γ Q=>ma Γ fun x Γ1=>match x with
 | .int i=>Q (g i) Γ1
 | _=>False
def mEq (ma mb:ME):ME:=fun Γ Q=>ma Γ fun x Γ1=>mb Γ1 fun y Γ2=>Good x∧Good y∧Q (.bool (PyData.eqv x y)) Γ2
def mNe (ma mb:ME):ME:=fun Γ Q=>ma Γ fun x Γ1=>mb Γ1 fun y Γ2=>Good x∧Good y∧Q (.bool (!PyData.eqv x y)) Γ2
def isN:D→Bool
 | .none=>true
 | _=>false
def aF3 (ma:ME):ME:=fun Γ Q=>ma Γ fun x Γ1=>Q (.bool (isN x)) Γ1
def a0A (ma:ME):ME:=fun Γ Q=>ma Γ fun x Γ1=>Q (.bool (!isN x)) Γ1
def aBA (ma mb:ME):ME:=fun Γ Q=>ma Γ fun x Γ1=>match x with
 | .bool c=>if c=true then mb Γ1 Q else Q (.bool false) Γ1
 | _=>False
def aPI (ma mb:ME):ME:=fun Γ Q=>ma Γ fun x Γ1=>match x with
 | .bool c=>if c=true then Q (.bool true) Γ1 else mb Γ1 Q
 | _=>False
def aF4 (ma:ME):ME:=fun Γ Q=>ma Γ fun x Γ1=>match x with
 | .bool c=>Q (.bool (!c)) Γ1
 | _=>False
def dM (ma:ME):MT:=fun Γ Q=>ma Γ fun x Γ1=>match x with
 | .bool c=>Q c Γ1
 | _=>False
def a6C (ma mb:MT):MT:=fun Γ Q=>ma Γ fun c Γ1=>if c=true then mb Γ1 Q else Q false Γ1
def mOr (ma mb:MT):MT:=fun Γ Q=>ma Γ fun c Γ1=>if c=true then Q true Γ1 else mb Γ1 Q
def aB5 (ma:MT):MT:=fun Γ Q=>ma Γ fun c Γ1=>Q (!c) Γ1
def aO7 (mc:MT)(ma mb:ME):ME:=fun Γ Q=>mc Γ fun c Γ1=>if c=true then ma Γ1 Q else mb Γ1 Q
def aOC (mc:MT)(ma mb:MO):MO:=fun Γ Q=>mc Γ fun c Γ1=>if c=true then ma Γ1 Q else mb Γ1 Q
def kJ:MD:=fun Γ Q=>Q [] Γ
def bN (ma:ME)(mr:MD):MD:=fun Γ Q=>ma Γ fun x Γ1=>mr Γ1 fun xs Γ2=>Q (x::xs) Γ2
def cG:MA:=fun Γ Q=>Q [] Γ
def bC (ma:ME)(mr:MA):MA:=fun Γ Q=>ma Γ fun x Γ1=>mr Γ1 fun xs Γ2=>Q (.val x::xs) Γ2
def wU (md:MD):ME:=fun Γ Q=>md Γ fun ds Γ1=>ds.length≤1000∧Q (.tuple ds) Γ1
def a6B (md:MD):MO:=fun Γ Q=>md Γ fun ds Γ1=>ds.length≤1000∧Q (.own ds) Γ1
def ixD:D→D→Option D
 | .tuple ds,.int i=>atI ds i
 | .list ds,.int i=>atI ds i
 | _,_=>none
def mIx (ma mb:ME):ME:=fun Γ Q=>ma Γ fun x Γ1=>mb Γ1 fun y Γ2=>oQ (ixD x y) fun d=>Q d Γ2
def nbQ:Rv→Prop→Prop
 | .box B,p=>B.view.isSome=true∧p
 | _,p=>p
def cD (mo:MO):ME:=fun Γ Q=>mo Γ fun rv Γ1=>nbQ rv (Q rv.d Γ1)
def cH (m:ME):MO:=fun Γ Q=>m Γ fun d Γ1=>Q (.val d) Γ1
def a4J (i:Nat):MO:=fun Γ Q=>match Γ[i]? with
 | some (.val d)=>Q (.val d) Γ
 | some (.own ds)=>Q (.own ds) (Γ.set i .no)
 | some (.box B)=>Q (.box B) (Γ.set i .no)
 | _=>False
def bO (n:Nat)(f:Fm)(ma:MA):MO:=fun Γ Q=>ma Γ fun as Γ1=>as.length=n∧f as fun rv=>Q rv Γ1
def aJ5:D→Option D
 | .tuple ds=>some (.int ds.length)
 | .list ds=>some (.int ds.length)
 | _=>none
def a6Z (ma:ME):ME:=fun Γ Q=>ma Γ fun x Γ1=>oQ (aJ5 x) fun d=>Q d Γ1
def wQ:D→Option (List D)
 | .tuple ds=>some ds
 | .list ds=>some ds
 | _=>none
def sW (ma:ME):MO:=fun Γ Q=>ma Γ fun x Γ1=>match wQ x with
 | some ds=>Q (.own ds) Γ1
 | none=>False
def cutD (xs:List D)(lo hi:Option Int):List D:=(xs.drop (HT.sIx xs.length 0 lo)).take (HT.sIx xs.length xs.length hi-HT.sIx xs.length 0 lo)
abbrev MP:=En→(Option Int→En→Prop)→Prop
def pNo:MP:=fun Γ Q=>Q none Γ
def pSo (m:ME):MP:=fun Γ Q=>m Γ fun x Γ1=>match x with
 | .int i=>Q (some i) Γ1
 | _=>False
def aN3 (ma:ME)(ml mh:MP):MO:=fun Γ Q=>ma Γ fun x Γ1=>ml Γ1 fun lo Γ2=>mh Γ2 fun hi Γ3=>match x with
 | .list ds=>Q (.own (cutD ds lo hi)) Γ3
 | _=>False
def aN8 (ma mb:ME):MO:=fun Γ Q=>ma Γ fun x Γ1=>mb Γ1 fun y Γ2=>match x,y with
 | .list ds,.list es=>ds.length+es.length≤1000∧Q (.own (ds++es)) Γ2
 | _,_=>False
def VP (P0:Addr→Hp→Prop)(t:TO)(m:MP):Prop:=∀(F:Fra P0) (Γ:En) (σ:St) (G H:Hp) (Q:Option Int→Hp→Prop) (Qm:Option Int→En→Prop),R F Γ σ G H→m Γ Qm →
 (∀ d Γ' G' H',Qm d Γ'→Same G G'→R F Γ' σ G' H'→Q d H')→t σ H Q
section
variable {ta tb tc:TE}{ma mb:ME}{tA tB':TT}{mA mB:MT}{K:Fg}
theorem aN7 {v:V}{d:D}(h:∀ G,Dt G v d):VT P0 (tC v) (mC d):=fun _ _ _ G _ _ _ r m k=>k _ _ _ _ _ m (Same.refl _) r (h G)
theorem aB {i:Nat}:VT P0 (vX i) (aM i):=by
 intro F Γ σ G H Q Qm r m k;unfold aM at m
 split at m
 ·rename_i d e
  obtain⟨v,e1,d1⟩:=r.sl i _ e;exact⟨v,e1,k _ _ _ _ _ m (Same.refl _) r d1⟩
 ·exact m.elim
theorem aK7 {r2:R2}{m2:D→D→(D→Prop)→Prop}(ha:VT P0 ta ma)(hb:VT P0 tb mb)
  (h:∀(F:Fra P0) (Γ:En) (σ:St) (G H:Hp) (x y:V) (d e:D) (Q:VK) (Qm:D→Prop),R F Γ σ G H→Dt G x d→Dt G y e→m2 d e Qm→(∀ u r G' H',Qm u→Same G G'→R F Γ σ G' H'→Dt G' r u→Q r H')→r2 x y H Q) :
  VT P0 (tOp r2 ta tb) (fun Γ Q=>ma Γ fun x Γ1=>mb Γ1 fun y Γ2=>m2 x y fun d=>Q d Γ2):=by
 intro F Γ σ G H Q Qm r m k;refine ha F Γ σ G H _ _ r m fun d Γ1 x G1 H1 m1 s1 r1 d1=>?_;refine hb F Γ1 σ G1 H1 _ _ r1 m1 fun e Γ2 y G2 H2 m2 s2 r2 d2=>?_;exact h F Γ2 σ G2 H2 x y d e _ _ r2 (Dt.same s2 _ _ d1) d2 m2 fun u w G3 H3 q s3 r3 d3=>k _ _ _ _ _ q ((s1.trans s2).trans s3) r3 d3
theorem aF0 {gv:Int→Int→V}{g:Int→Int→D}(hg:∀ G i j,Dt G (gv i j) (g i j))(ha:VT P0 ta ma)(hb:VT P0 tb mb):VT P0 (tOp (rI0 gv) ta tb) (mI0 g ma mb):=by
 refine aK7 (m2:=fun x y Q=>match x,y with|.int i,.int j=>Q (g i j)|_,_=>False) ha hb fun F Γ σ G H x y d e Q Qm r d1 d2 m k=>?_
 split at m
 ·cases d1; cases d2
  exact⟨_,_,rfl,rfl,k _ _ _ _ m (Same.refl _) r (hg _ _ _)⟩
 ·exact m.elim
theorem aNY {C:Int→Int→Prop}{gv:Int→Int→V}{g:Int→Int→D}(hg:∀ G i j,Dt G (gv i j) (g i j))(ha:VT P0 ta ma)(hb:VT P0 tb mb):VT P0 (tOp (rI C gv) ta tb) (mI C g ma mb):=by
 refine aK7 (m2:=fun x y Q=>match x,y with|.int i,.int j=>C i j∧Q (g i j)|_,_=>False) ha hb fun F Γ σ G H x y d e Q Qm r d1 d2 m k=>?_
 split at m
 ·cases d1; cases d2
  exact⟨_,_,rfl,rfl,m.1,k _ _ _ _ m.2 (Same.refl _) r (hg _ _ _)⟩
 ·exact m.elim
theorem aQQ {gv:Int→V}{g:Int→D}(hg:∀ G i,Dt G (gv i) (g i))(ha:VT P0 ta ma):VT P0 (tUn (rU gv) ta) (mU g ma):=by
 intro F Γ σ G H Q Qm r m k;refine ha F Γ σ G H _ _ r m fun d Γ1 x G1 H1 m1 s1 r1 d1=>?_
 split at m1
 ·cases d1
  exact⟨_,rfl,k _ _ _ _ _ m1 s1 r1 (hg _ _)⟩
 ·exact m1.elim
theorem uW (ha:VT P0 ta ma)(hb:VT P0 tb mb):VT P0 (tOp aQI ta tb) (mEq ma mb):=by
 refine aK7 (m2:=fun x y Q=>Good x∧Good y∧Q (.bool (PyData.eqv x y))) ha hb fun F Γ σ G H x y d e Q Qm r d1 d2 m k=>?_;exact⟨d,e,Dt.same r.fr.sub _ _ d1,Dt.same r.fr.sub _ _ d2,m.1,m.2.1,k _ _ _ _ m.2.2 (Same.refl _) r (.bl _)⟩
theorem rB (ha:VT P0 ta ma)(hb:VT P0 tb mb):VT P0 (tOp aQD ta tb) (mNe ma mb):=by
 refine aK7 (m2:=fun x y Q=>Good x∧Good y∧Q (.bool (!PyData.eqv x y))) ha hb fun F Γ σ G H x y d e Q Qm r d1 d2 m k=>?_;exact⟨d,e,Dt.same r.fr.sub _ _ d1,Dt.same r.fr.sub _ _ d2,m.1,m.2.1,k _ _ _ _ m.2.2 (Same.refl _) r (.bl _)⟩
theorem aHW {G:Hp}{x:V}{d:D}(h:Dt G x d):decide (x=V.non)=isN d:=by
 cases h<;>first|rfl|exact decide_eq_false (by intro z; cases z)
theorem zR (ha:VT P0 ta ma):VT P0 (tOp (fun x y H Q=>y=.non∧Q (.bl (decide (x=.non))) H) ta (tC .non)) (aF3 ma):=by
 intro F Γ σ G H Q Qm r m k;refine ha F Γ σ G H _ _ r m fun d Γ1 x G1 H1 m1 s1 r1 d1=>⟨rfl,?_⟩;rw[aHW d1];exact k _ _ _ _ _ m1 s1 r1 (.bl _)
theorem vW (ha:VT P0 ta ma):VT P0 (tOp (fun x y H Q=>y=.non∧Q (.bl (!decide (x=.non))) H) ta (tC .non)) (a0A ma):=by
 intro F Γ σ G H Q Qm r m k;refine ha F Γ σ G H _ _ r m fun d Γ1 x G1 H1 m1 s1 r1 d1=>⟨rfl,?_⟩;rw[aHW d1];exact k _ _ _ _ _ m1 s1 r1 (.bl _)
theorem aDO (ha:VT P0 ta ma)(hb:VT P0 tb mb):VT P0 (aLC ta tb) (aBA ma mb):=by
 intro F Γ σ G H Q Qm r m k;refine ha F Γ σ G H _ _ r m fun d Γ1 x G1 H1 m1 s1 r1 d1=>?_
 split at m1
 ·rename_i c
  cases d1
  refine⟨c,rfl,?_⟩
  cases c with
  | true=>exact a1K (hb F Γ1 σ G1 H1 _ _ r1 m1 fun e Γ2 y G2 H2 m2 s2 r2 d2=>k _ _ _ _ _ m2 (s1.trans s2) r2 d2)
  | false=>exact xX (k _ _ _ _ _ m1 s1 r1 (.bl _))
 ·exact m1.elim
theorem aPD (ha:VT P0 ta ma)(hb:VT P0 tb mb):VT P0 (aQ1 ta tb) (aPI ma mb):=by
 intro F Γ σ G H Q Qm r m k;refine ha F Γ σ G H _ _ r m fun d Γ1 x G1 H1 m1 s1 r1 d1=>?_
 split at m1
 ·rename_i c
  cases d1
  refine⟨c,rfl,?_⟩
  cases c with
  | true=>exact a1K (k _ _ _ _ _ m1 s1 r1 (.bl _))
  | false=>exact xX (hb F Γ1 σ G1 H1 _ _ r1 m1 fun e Γ2 y G2 H2 m2 s2 r2 d2=>k _ _ _ _ _ m2 (s1.trans s2) r2 d2)
 ·exact m1.elim
theorem aGZ (ha:VT P0 ta ma):VT P0 (aKO ta) (aF4 ma):=by
 intro F Γ σ G H Q Qm r m k;refine ha F Γ σ G H _ _ r m fun d Γ1 x G1 H1 m1 s1 r1 d1=>?_
 split at m1
 ·cases d1
  exact⟨_,rfl,k _ _ _ _ _ m1 s1 r1 (.bl _)⟩
 ·exact m1.elim
theorem bB (ha:VT P0 ta ma):VTT P0 (aMZ ta) (dM ma):=by
 intro F Γ σ G H Q Qm r m k;refine ha F Γ σ G H _ _ r m fun d Γ1 x G1 H1 m1 s1 r1 d1=>?_
 split at m1
 ·cases d1
  exact⟨_,rfl,k _ _ _ _ m1 s1 r1⟩
 ·exact m1.elim
theorem jY (ha:VT P0 ta ma):VTT P0 (tB ta) (dM ma):=bB ha
theorem iH (ha:VTT P0 tA mA)(hb:VTT P0 tB' mB):VTT P0 (aPX tA tB') (a6C mA mB):=by
 intro F Γ σ G H Q Qm r m k;refine ha F Γ σ G H _ _ r m fun c Γ1 G1 H1 m1 s1 r1=>?_
 cases c with
 | true=>exact a1K (hb F Γ1 σ G1 H1 _ _ r1 m1 fun e Γ2 G2 H2 m2 s2 r2=>k _ _ _ _ m2 (s1.trans s2) r2)
 | false=>exact xX (k _ _ _ _ m1 s1 r1)
theorem lC (ha:VTT P0 tA mA)(hb:VTT P0 tB' mB):VTT P0 (tOr tA tB') (mOr mA mB):=by
 intro F Γ σ G H Q Qm r m k;refine ha F Γ σ G H _ _ r m fun c Γ1 G1 H1 m1 s1 r1=>?_
 cases c with
 | true=>exact a1K (k _ _ _ _ m1 s1 r1)
 | false=>exact xX (hb F Γ1 σ G1 H1 _ _ r1 m1 fun e Γ2 G2 H2 m2 s2 r2=>k _ _ _ _ m2 (s1.trans s2) r2)
theorem lO (ha:VTT P0 tA mA):VTT P0 (aQK tA) (aB5 mA):=by
 intro F Γ σ G H Q Qm r m k;exact ha F Γ σ G H _ _ r m fun c Γ1 G1 H1 m1 s1 r1=>k _ _ _ _ m1 s1 r1
theorem aLF (hc:VTT P0 tA mA)(ha:VT P0 ta ma)(hb:VT P0 tb mb):VT P0 (tIf tA ta tb) (aO7 mA ma mb):=by
 intro F Γ σ G H Q Qm r m k;refine hc F Γ σ G H _ _ r m fun c Γ1 G1 H1 m1 s1 r1=>?_
 cases c with
 | true=>exact a1K (ha F Γ1 σ G1 H1 _ _ r1 m1 fun e Γ2 y G2 H2 m2 s2 r2 d2=>k _ _ _ _ _ m2 (s1.trans s2) r2 d2)
 | false=>exact xX (hb F Γ1 σ G1 H1 _ _ r1 m1 fun e Γ2 y G2 H2 m2 s2 r2 d2=>k _ _ _ _ _ m2 (s1.trans s2) r2 d2)
theorem aKU {oa ob:MO}(hc:VTT P0 tA mA)(ha:VO P0 ta oa)(hb:VO P0 tb ob):VO P0 (tIf tA ta tb) (aOC mA oa ob):=by
 intro F Γ σ G H Q Qm r m k;refine hc F Γ σ G H _ _ r m fun c Γ1 G1 H1 m1 s1 r1=>?_
 cases c with
 | true=>exact a1K (ha F Γ1 σ G1 H1 _ _ r1 m1 fun e Γ2 y G2 H2 m2 s2 r2 d2 a2=>k _ _ _ _ _ m2 (s1.trans s2) r2 d2 a2)
 | false=>exact xX (hb F Γ1 σ G1 H1 _ _ r1 m1 fun e Γ2 y G2 H2 m2 s2 r2 d2 a2=>k _ _ _ _ _ m2 (s1.trans s2) r2 d2 a2)
theorem bV:VD P0 z7 kJ:=fun _ _ _ _ _ _ _ r m k=>k _ _ _ _ _ m (Same.refl _) r .nil
theorem aU {tr:TA}{mr:MD}(ha:VT P0 ta ma)(hr:VD P0 tr mr):VD P0 (fH ta tr) (bN ma mr):=by
 intro F Γ σ G H Q Qm r m k;refine ha F Γ σ G H _ _ r m fun d Γ1 x G1 H1 m1 s1 r1 d1=>?_;exact hr F Γ1 σ G1 H1 _ _ r1 m1 fun e Γ2 y G2 H2 m2 s2 r2 d2=>k _ _ _ _ _ m2 (s1.trans s2) r2 (.cons (Dt.same s2 _ _ d1) d2)
theorem aQ:VA P0 z7 cG:=fun _ _ _ _ _ _ _ r m k=>k _ _ _ _ _ m (Same.refl _) r .nil
theorem aH {tr:TA}{mr:MA}(ha:VT P0 ta ma)(hr:VA P0 tr mr):VA P0 (fH ta tr) (bC ma mr):=by
 intro F Γ σ G H Q Qm r m k;refine ha F Γ σ G H _ _ r m fun d Γ1 x G1 H1 m1 s1 r1 d1=>?_;exact hr F Γ1 σ G1 H1 _ _ r1 m1 fun e Γ2 y G2 H2 m2 s2 r2 d2=>k _ _ _ _ _ m2 (s1.trans s2) r2 (.cons (Dt.same s2 _ _ d1) d2)
theorem eY {t:TA}{md:MD}(h:VD P0 t md):VT P0 (aOI t) (wU md):=by
 intro F Γ σ G H Q Qm r m k;refine h F Γ σ G H _ _ r m fun ds Γ1 xs G1 H1 m1 s1 r1 d1=>⟨iM (by rw[d1.len]; exact m1.1),fun p hp=>?_⟩;have g:=uE (r1.fr.gfresh hp) (.tup xs);exact k _ _ _ _ _ m1.2 (s1.trans g) (r1.new hp) (.tup bM (Dts.same g _ _ d1))
theorem SlF.det {F:Fra P0}{G H:Hp}{x:Option (Option V)}{fp fp':List Addr}:∀{s:Sl},SlF F G H x fp s→SlF F G H x fp' s→fp=fp'
 | .no,h,g=>(show fp=[] from h).trans (show fp'=[] from g).symm
 | .val _,h,g=>h.1.trans g.1.symm
 | .pen,h,g=>h.1.trans g.1.symm
 | .con _,h,g=>h.1.trans g.1.symm
 | .pub _,h,g=>h.1.trans g.1.symm
 | .own _,h,g=>by
  obtain⟨p,vs,e,e1,_⟩:=h;obtain⟨q,ws,f,f1,_⟩:=g;rw[e1] at f1; cases f1;rw[e,f]
 | .box B,h,g=>by
  obtain⟨v,e1,e2,_⟩:=h;obtain⟨v',f1,f2,_⟩:=g;rw[e1] at f1; cases f1;exact B.uniq e2 f2
theorem R.before {F:Fra P0}{Γ:En}{σ:St}{G H G' H':Hp}(r:R F Γ σ G H)(g:Same G G')(k:∀ b o,F.H0 b=none→G b=none→H b=some o→G' b=none∧H' b=some o){i:Nat}{s:Sl}{fp:List Addr}(e:Γ[i]?=some s)(h:SlF F G' H' σ[i]? fp s):∀ b∈fp,∃ o,H b=some o:=by
 obtain⟨fps,h1,h2⟩:=r.fps;have h0:=h1 i s e;have h3:SlF F G' H' σ[i]? (fps i) s:=h0.go g fun b hb=>by
  obtain⟨m1,m2,o,m3⟩:=h0.mine hb;obtain⟨k1,k2⟩:=k b o m1 m2 m3;exact⟨k1,k2.trans m3.symm⟩
 rw[h.det h3];exact fun b hb=>(h0.mine hb).2.2
theorem Apart.new {F:Fra P0}{Γ:En}{σ:St}{G H G' H':Hp}(r:R F Γ σ G H){p:Addr}(hp:H p=none){ds:List D}(g:Same G G')(k:∀ b o,F.H0 b=none→G b=none→H b=some o→G' b=none∧H' b=some o):Apart F Γ σ G' H' (.ref p) (.own ds):=by
 intro i s fp e h q eq hq
 cases eq
 obtain⟨o,eo⟩:=r.before g k e h p hq;rw[hp] at eo; cases eo
theorem Apart.newB {F:Fra P0}{Γ:En}{σ:St}{G H G' H':Hp}(r:R F Γ σ G H){v:V}{B:Bx}(hp:∀ fp,B.P v fp G' H'→∀ b∈fp,H b=none)(g:Same G G')(k:∀ b o,F.H0 b=none→G b=none→H b=some o→G' b=none∧H' b=some o):Apart F Γ σ G' H' v (.box B):=by
 intro i s fp f e h hf b hb hc;obtain⟨o,eo⟩:=r.before g k e h b hc;rw[hp f hf b hb] at eo; cases eo
theorem sY {F:Fra P0}{Γ:En}{σ:St}{G H:Hp}(r:R F Γ σ G H){p:Addr}{xs:List V}{ds:List D}(hp:H p=none)(d:Dts G xs ds) :
  R F Γ σ G (upd H p (.lst xs))∧RvO F G (upd H p (.lst xs)) (.ref p) (.own ds)∧Apart F Γ σ G (upd H p (.lst xs)) (.ref p) (.own ds):=
 ⟨r.newP hp,⟨p,xs,rfl,r.fr.fresh hp,r.fr.gfresh hp,bM,d⟩,Apart.new r hp (Same.refl _) fun b o _ g e=>⟨g,by rw[b7 (bG e hp)]; exact e⟩⟩
theorem lJ {t:TA}{md:MD}(h:VD P0 t md):VO P0 (aPW t) (a6B md):=by
 intro F Γ σ G H Q Qm r m k;refine h F Γ σ G H _ _ r m fun ds Γ1 xs G1 H1 m1 s1 r1 d1=>⟨iM (by rw[d1.len]; exact m1.1),fun p hp=>?_⟩;obtain⟨a,b,c⟩:=sY r1 hp d1;exact k _ _ _ _ _ m1.2 s1 a b c
theorem aP {mo:MO}(h:VO P0 ta mo):VT P0 ta (cD mo):=by
 intro F Γ σ G H Q Qm r m k;refine h F Γ σ G H _ _ r m fun rv Γ1 x G1 H1 m1 s1 r1 d1 a1=>?_
 cases rv with
 | val d=>exact k _ _ _ _ _ m1 s1 r1 d1
 | own ds=>
  obtain⟨G2,s2,r2,d2⟩:=r1.give d1 a1;exact k _ _ _ _ _ m1 (s1.trans s2) r2 d2
 | box B=>
  obtain⟨hv,m1⟩:=m1;obtain⟨d,hd⟩:=Option.isSome_iff_exists.mp hv;obtain⟨G2,s2,r2,d2⟩:=r1.giveB d1 a1 hd;have m1:Qm (B.view.getD .none) Γ1:=m1;rw[hd] at m1;exact k _ _ _ _ _ m1 (s1.trans s2) r2 d2
theorem aR (h:VT P0 ta ma):VO P0 ta (cH ma):=by
 intro F Γ σ G H Q Qm r m k;exact h F Γ σ G H _ _ r m fun d Γ1 x G1 H1 m1 s1 r1 d1=>k _ _ _ _ _ m1 s1 r1 d1 trivial
theorem R.apart {F:Fra P0}{Γ:En}{σ:St}{G H:Hp}(r:R F Γ σ G H){i j:Nat}{s t:Sl}{fp fq:List Addr}(hij:i≠j)(ei:Γ[i]?=some s)(ej:Γ[j]?=some t)(hi:SlF F G H σ[i]? fp s)(hj:SlF F G H σ[j]? fq t):∀ b∈fp,b∉fq:=by
 obtain⟨fps,h1,h2⟩:=r.fps;rw[hi.det (h1 i s ei),hj.det (h1 j t ej)];exact h2 i j s t ei ej hij
theorem a2O {i:Nat}:VO P0 (vX i) (a4J i):=by
 intro F Γ σ G H Q Qm r m k;have other:∀{j:Nat} {s s0:Sl} {fp fq:List Addr},Γ[i]?=some s0→SlF F G H σ[i]? fp s0→(Γ.set i .no)[j]?=some s→SlF F G H σ[j]? fq s→∀ b∈fp,b∉fq:=by
  intro j s s0 fp fq e h ej hj b hb hc
  by_cases hij:i=j
  ·subst hij;have hi:i<Γ.length:=(List.getElem?_eq_some_iff.mp e).1;rw[List.getElem?_set_self hi] at ej
   cases ej
   rw[show fq=[] from hj] at hc; cases hc
  ·rw[List.getElem?_set_ne hij] at ej;exact r.apart hij e ej h hj b hb hc
 unfold a4J at m
 split at m
 ·rename_i d e
  obtain⟨v,e1,d1⟩:=r.sl i _ e;exact⟨v,e1,k _ _ _ _ _ m (Same.refl _) r d1 trivial⟩
 ·rename_i ds e
  obtain⟨p,vs,e1,e2⟩:=r.sl i _ e;refine⟨_,e1,k _ _ _ _ _ m (Same.refl _) (r.drop i) ⟨p,vs,rfl,e2⟩ fun j s fp ej hj q eq hq=>?_⟩
  cases eq
  exact other e (fp:=[p]) ⟨p,vs,rfl,e1,e2⟩ ej hj p (List.mem_singleton.mpr rfl) hq
 ·rename_i B e
  obtain⟨v,fp,e1,e2,e3⟩:=r.sl i _ e;refine⟨_,e1,k _ _ _ _ _ m (Same.refl _) (r.drop i) ⟨fp,e2,e3⟩ fun j s fq f ej hj hf b hb=>?_⟩;rw[B.uniq hf e2] at hb;exact other e (fp:=fp) ⟨v,e1,e2,e3⟩ ej hj b hb
 ·exact m.elim
theorem aX (ha:VT P0 ta ma)(hb:VT P0 tb mb):VT P0 (tOp (rIx K) ta tb) (mIx ma mb):=by
 refine aK7 (m2:=fun x y Q=>oQ (ixD x y) Q) ha hb fun F Γ σ G H x y d e Q Qm r d1 d2 m k=>?_;obtain⟨u,hu,q⟩:=aEM m;unfold ixD at hu
 split at hu
 ·rename_i ds i
  cases d2
  cases d1 with
  | @tup p xs _ hp rs=>
   obtain⟨j,h1,h2⟩:∃ j,ixN ds.length i=some j∧ds[j]?=some u:=by
    unfold atI at hu
    cases e:ixN ds.length i with
    | none=>rw[e] at hu; cases hu
    | some j=>rw[e] at hu; exact⟨j,rfl,hu⟩
   obtain⟨v,hv,dv⟩:=Dts.get rs h2;refine .inr (.inl ⟨p,xs,i,v,rfl,rfl,SqT.of (r.fr.sub _ _ hp),?_,k _ _ _ _ q (Same.refl _) r dv⟩);unfold atI;rw[rs.len,h1];exact hv
 ·rename_i ds i
  cases d2
  cases d1 with
  | @lst p xs _ hp rs=>
   obtain⟨j,h1,h2⟩:∃ j,ixN ds.length i=some j∧ds[j]?=some u:=by
    unfold atI at hu
    cases e:ixN ds.length i with
    | none=>rw[e] at hu; cases hu
    | some j=>rw[e] at hu; exact⟨j,rfl,hu⟩
   obtain⟨v,hv,dv⟩:=Dts.get rs h2;refine .inl ⟨p,xs,i,v,rfl,rfl,SqL.of (r.fr.sub _ _ hp),?_,k _ _ _ _ q (Same.refl _) r dv⟩;unfold atI;rw[rs.len,h1];exact hv
 ·cases hu
theorem aHT {rr:List V→Hp→VK→Prop}{m1:D→(D→Prop)→Prop}(ha:VT P0 ta ma)
  (h:∀(F:Fra P0) (Γ:En) (σ:St) (G H:Hp) (x:V) (d:D) (Q:VK) (Qm:D→Prop),R F Γ σ G H→Dt G x d→m1 d Qm→(∀ u r G' H',Qm u→Same G G'→R F Γ σ G' H'→Dt G' r u→Q r H')→rr [x] H Q) :
  VT P0 (tCB rr (fH ta z7)) (fun Γ Q=>ma Γ fun x Γ1=>m1 x fun d=>Q d Γ1):=by
 intro F Γ σ G H Q Qm r m k;refine ha F Γ σ G H _ _ r m fun d Γ1 x G1 H1 m1 s1 r1 d1=>?_;exact h F Γ1 σ G1 H1 x d _ _ r1 d1 m1 fun u w G3 H3 q s3 r3 d3=>k _ _ _ _ _ q (s1.trans s3) r3 d3
theorem oN (ha:VT P0 ta ma):VT P0 (tCB (fun xs H Q=>∃ p ys,xs=[.ref p]∧(SqL K H p ys∨SqT K H p ys)∧Q (.int ys.length) H) (fH ta z7)) (a6Z ma):=by
 refine aHT (m1:=fun x Q=>oQ (aJ5 x) Q) ha fun F Γ σ G H x d Q Qm r d1 m k=>?_;obtain⟨u,hu,q⟩:=aEM m;unfold aJ5 at hu
 split at hu
 ·cases hu
  cases d1 with
  | @tup p xs _ hp rs=>exact⟨p,xs,rfl,.inr (SqT.of (r.fr.sub _ _ hp)),by rw[rs.len]; exact k _ _ _ _ q (Same.refl _) r (.int _)⟩
 ·cases hu
  cases d1 with
  | @lst p xs _ hp rs=>exact⟨p,xs,rfl,.inl (SqL.of (r.fr.sub _ _ hp)),by rw[rs.len]; exact k _ _ _ _ q (Same.refl _) r (.int _)⟩
 ·cases hu
def aH2 (ma:ME):ME:=fun Γ Q=>ma Γ fun x Γ1=>match x with
 | .int i=>Q (.int (if i<0 then -i else i)) Γ1
 | _=>False
theorem a0T (ha:VT P0 ta ma):VT P0 (tCB (fun xs H Q=>∃ i,xs=[.int i]∧Q (.int (if i<0 then -i else i)) H) (fH ta z7)) (aH2 ma):=by
 refine aHT (m1:=fun x Q=>match x with|.int i=>Q (.int (if i<0 then -i else i))|_=>False) ha fun F Γ σ G H x d Q Qm r d1 m k=>?_
 split at m
 ·cases d1
  exact⟨_,rfl,k _ _ _ _ m (Same.refl _) r (.int _)⟩
 ·exact m.elim
theorem pF (ha:VT P0 ta ma):VO P0 (tCB (fun xs H Q=>∃ p ys,xs=[.ref p]∧(SqL K H p ys∨SqT K H p ys)∧∀ l,H l=none→Q (.ref l) (upd H l (.lst ys))) (fH ta z7)) (sW ma):=by
 intro F Γ σ G H Q Qm r m k;refine ha F Γ σ G H _ _ r m fun d Γ1 x G1 H1 m1 s1 r1 d1=>?_
 split at m1
 ·rename_i ds e
  cases d1<;>simp only[wQ] at e<;>try (cases e)
  ·rename_i p xs hp rs
   refine⟨p,xs,rfl,.inr (SqT.of (r1.fr.sub _ _ hp)),fun l hl=>?_⟩;obtain⟨a,b,c⟩:=sY r1 hl rs;exact k _ _ _ _ _ m1 s1 a b c
  ·rename_i p xs hp rs
   refine⟨p,xs,rfl,.inl (SqL.of (r1.fr.sub _ _ hp)),fun l hl=>?_⟩;obtain⟨a,b,c⟩:=sY r1 hl rs;exact k _ _ _ _ _ m1 s1 a b c
 ·exact m1.elim
theorem aO6:VP P0 aDP pNo:=fun _ _ _ _ _ _ _ r m k=>k _ _ _ _ m (Same.refl _) r
theorem aBZ (ha:VT P0 ta ma):VP P0 (aKH ta) (pSo ma):=by
 intro F Γ σ G H Q Qm r m k;refine ha F Γ σ G H _ _ r m fun d Γ1 x G1 H1 m1 s1 r1 d1=>?_
 split at m1
 ·cases d1
  exact⟨_,rfl,k _ _ _ _ m1 s1 r1⟩
 ·exact m1.elim
theorem _root_.L2.Dts.cut {G:Hp}{vs:List V}{ds:List D}(h:Dts G vs ds)(lo hi:Option Int):Dts G (aK9 vs lo hi) (cutD ds lo hi):=by
 unfold aK9 cutD;rw[h.len];exact Dts.tak _ (Dts.drp _ h)
theorem aH7 {tl th:TO}{ml mh:MP}(ha:VT P0 ta ma)(hl:VP P0 tl ml)(hh:VP P0 th mh):VO P0 (tSl (aPU K) ta tl th) (aN3 ma ml mh):=by
 intro F Γ σ G H Q Qm r m k;refine ha F Γ σ G H _ _ r m fun d Γ1 x G1 H1 m1 s1 r1 d1=>?_;refine hl F Γ1 σ G1 H1 _ _ r1 m1 fun lo Γ2 G2 H2 m2 s2 r2=>?_;refine hh F Γ2 σ G2 H2 _ _ r2 m2 fun hi Γ3 G3 H3 m3 s3 r3=>?_
 split at m3
 ·have d1:=Dt.same (s2.trans s3) _ _ d1
  cases d1 with
  | @lst p xs _ hp rs=>
   refine⟨p,xs,rfl,SqL.of (r3.fr.sub _ _ hp),fun l hl=>?_⟩;obtain⟨a,b,c⟩:=sY r3 hl (rs.cut lo hi);exact k _ _ _ _ _ m3 ((s1.trans s2).trans s3) a b c
 ·exact m3.elim
theorem aHF (ha:VT P0 ta ma)(hb:VT P0 tb mb):VO P0 (tOp aQ0 ta tb) (aN8 ma mb):=by
 intro F Γ σ G H Q Qm r m k;refine ha F Γ σ G H _ _ r m fun d Γ1 x G1 H1 m1 s1 r1 d1=>?_;refine hb F Γ1 σ G1 H1 _ _ r1 m1 fun e Γ2 y G2 H2 m2 s2 r2 d2=>?_;have d1:=Dt.same s2 _ _ d1
 split at m2
 ·cases d1 with
  | @lst p xs _ hp rs=>
   cases d2 with
   | @lst q ys _ hq ss=>
    refine⟨p,q,xs,ys,rfl,rfl,r2.fr.sub _ _ hp,r2.fr.sub _ _ hq,iM (by rw[rs.len,ss.len]; exact m2.1),fun l hl=>?_⟩;obtain⟨a,b,c⟩:=sY r2 hl (rs.app ss);exact k _ _ _ _ _ m2.2 (s1.trans s2) a b c
 ·exact m2.elim
def spM (P0:Addr→Hp→Prop)(n:Nat)(f:Fm):Sp:=fun vs H Q _=>∃(F:Fra P0) (as:List Sl) (Qm:Rv→Prop),F.H0=H∧Rf F F.G0 H∧Paired (uK F F.G0) vs as∧as.length=n∧f as Qm ∧
 ∀ rv r G' H',Qm rv→Rf F G' H'→RvO F G' H' r rv→Q r H'
def Fra.sub (F:Fra P0){G H:Hp}(r:Rf F G H):Fra P0 where
 H0:=H
 G0:=G
 pen:=F.pen
 stab:=fun p e H1 H2 h=>F.stab p e H1 H2 fun b o e=>let ⟨o',e'⟩:=r.dom e; h b o' e'
 pin:=F.pin
 pin0:=fun p e=>F.pin p e H (r.pn p e)
 pg:=fun p e=>by
  obtain⟨o,e0⟩:=F.pin0 p e;rw[r.g0 p o e0];exact F.pg p e
theorem Fra.subRf (F:Fra P0){G H:Hp}(r:Rf F G H):Rf (F.sub r) G H:=⟨r.sub,fun _ _ _=>rfl,fun _ _ e _=>e,r.pn⟩
theorem Rf.back {F:Fra P0}{G H G' H':Hp}(r:Rf F G H)(h:Rf (F.sub r) G' H'):Rf F G' H'∧Same G G':=by
 refine⟨⟨h.sub,fun b o e=>?_,fun b o e hb=>?_,h.pn⟩,fun b o e=>?_⟩
 ·obtain⟨o',e'⟩:=r.dom e;exact(h.g0 b o' e').trans (r.g0 b o e)
 ·exact h.h0 b o (r.h0 b o e hb) hb
 ·exact(h.g0 b o (r.sub b o e)).trans e
theorem Fra.pen_ne (F:Fra P0){p:Addr}(h:F.H0 p=none):F.pen≠some p:=fun e=>by
 obtain⟨o,e0⟩:=F.pin0 p e;rw[h] at e0; cases e0
theorem R.after {F:Fra P0}{Γ:En}{σ:St}{G H G' H':Hp}(r:R F Γ σ G H)(h:Rf (F.sub r.fr) G' H'):R F Γ σ G' H'∧Same G G':=by
 obtain⟨a,b⟩:=r.fr.back h;refine⟨r.keep a b fun p u _ e1 e2 e3=>⟨(h.g0 p _ e3).trans e2,h.h0 p _ e3 (F.pen_ne e1)⟩,b⟩
theorem aW {n:Nat}{f:Fm}{t:TA}{m:MA}{E:XK}(h:VA P0 t m):VO P0 (aAA (spM P0 n f) [] E t) (bO n f m):=by
 intro F Γ σ G H Q Qm r hm k;refine h F Γ σ G H _ _ r hm fun as Γ1 rs G1 H1 m1 s1 r1 d1=>?_;refine⟨F.sub r1.fr,as,fun rv=>Qm rv Γ1,rfl,F.subRf r1.fr,?_,m1.1,m1.2,fun rv v G2 H2 q f2 v2=>?_⟩
 ·rw[List.append_nil];exact Paired.imp' (fun a s h=>by cases s<;>exact h) d1
 ·obtain⟨r2,s2⟩:=r1.after f2;refine k _ _ _ _ _ q (s1.trans s2) r2 ?_ ?_
  ·cases rv with
   | val d=>exact v2
   | own ds=>
    obtain⟨p,vs,e,e1,e2,e3,e4⟩:=v2;exact⟨p,vs,e,r1.fr.fresh e1,e2,e3,e4⟩
   | box B=>
    obtain⟨fp,e1,e2⟩:=v2;exact⟨fp,e1,fun b hb=>⟨r1.fr.fresh (e2 b hb).1,(e2 b hb).2⟩⟩
  ·have kp:∀ b o,F.H0 b=none→G1 b=none→H1 b=some o→G2 b=none∧H2 b=some o:=fun b o h1 h2 h3=>⟨(f2.g0 b _ h3).trans h2,f2.h0 b _ h3 (F.pen_ne h1)⟩
   cases rv with
   | val d=>trivial
   | own ds=>
    obtain⟨p,vs,rfl,e1,e2,e3,e4⟩:=v2;exact Apart.new r1 e1 s2 kp
   | box B=>
    obtain⟨fp,e1,e2⟩:=v2;exact Apart.newB r1 (fun f hf b hb=>by rw[B.uniq hf e1] at hb; exact(e2 b hb).1) s2 kp
end
end
section
variable {P0:Addr→Hp→Prop}{A:Nat→Bool}
def gN (i:Nat):MG:=fun d Γ Q=>Q (Γ.set i (.val d))
def aG9:MGs:=fun ds Γ Q=>match ds with
 | []=>Q Γ
 | _=>False
def zG (g:MG)(gs:MGs):MGs:=fun ds Γ Q=>match ds with
 | d::r=>g d Γ fun Γ1=>gs r Γ1 Q
 | []=>False
def gT (n:Nat)(gs:MGs):MG:=fun d Γ Q=>match d with
 | .tuple ds=>ds.length=n∧gs ds Γ Q
 | _=>False
theorem vJ {i:Nat}{v:Option V}{σ:St}(hA:A i=true):∀ j,A j=false→(σ.set i v)[j]?=σ[j]?:=fun j hj=>List.getElem?_set_ne (fun z=>by rw[z,hj] at hA; cases hA)
theorem dC {i:Nat}(hA:A i=true:=by rfl):VG P0 A (a5R i) (gN i):=fun _ _ _ _ _ _ _ _ _ r h m k=>k _ _ m (r.setV h) (vJ hA)
theorem aD2:VGs P0 A aPY aG9:=by
 intro F Γ σ G H vs ds Q Qm r h m k
 cases h with
 | nil=>exact⟨rfl,k _ _ m r fun _ _=>rfl⟩
 | cons _ _=>exact m.elim
theorem tK {g:TG}{gs:TGs}{m:MG}{ms:MGs}(h1:VG P0 A g m)(h2:VGs P0 A gs ms):VGs P0 A (aMU g gs) (zG m ms):=by
 intro F Γ σ G H vs ds Q Qm r h hm k
 cases h with
 | nil=>exact hm.elim
 | cons a b=>exact⟨_,_,rfl,h1 F Γ σ G H _ _ _ _ r a hm fun Γ1 σ1 m1 r1 e1=>h2 F Γ1 σ1 G H _ _ _ _ r1 b m1 fun Γ2 σ2 m2 r2 e2=>k _ _ m2 r2 fun i hi=>(e2 i hi).trans (e1 i hi)⟩
theorem aGX {K:Fg}{n:Nat}{gs:TGs}{ms:MGs}(h:VGs P0 A gs ms):VG P0 A (aPZ K n gs) (gT n ms):=by
 intro F Γ σ G H v d Q Qm r hd m k;unfold gT at m
 split at m
 ·cases hd with
  | @tup p xs _ hp rs=>exact⟨p,xs,rfl,SqT.of (r.fr.sub _ _ hp),by rw[rs.len]; exact m.1,h F Γ σ G H _ _ _ _ r rs m.2 k⟩
 ·exact m.elim
def Walk (P0:Addr→Hp→Prop)(J:It)(G0:Hp)(ds:List D):Prop:=∀(F:Fra P0) (Γ:En) (σ:St) (G H:Hp),Same G0 G→R F Γ σ G H →
 (∀ i d,ds[i]?=some d→J.go i H∧∀ x H',J.yld i H x H'→∃ G',Same G G'∧R F Γ σ G' H'∧Dt G' x d)∧J.stop ds.length H
def VI (P0:Addr→Hp→Prop)(wi:TI)(m:MD):Prop:=∀(F:Fra P0) (Γ:En) (σ:St) (G H:Hp) (Q:It→Hp→Prop) (Qm:List D→En→Prop),R F Γ σ G H→m Γ Qm →
 (∀ ds Γ' J G' H',Qm ds Γ'→Same G G'→R F Γ' σ G' H'→Walk P0 J G' ds→Q J H')→wi σ H Q
def aGH (ma:ME):MD:=fun Γ Q=>ma Γ fun x Γ1=>match x with
 | .list ds=>Q ds Γ1
 | _=>False
def aP3 (ma:ME):MD:=fun Γ Q=>ma Γ fun x Γ1=>match x with
 | .tuple ds=>Q ds Γ1
 | _=>False
def iB (lo:Int)(n:Nat):List D:=(List.range n).map fun(k:Nat)=>PyData.int (lo+k)
def a4Z (md:MD):MD:=fun Γ Q=>md Γ fun ds Γ1=>match ds with
 | [.int j] => -(2^62)≤j∧j<2^62∧Q (iB 0 j.toNat) Γ1
 | _=>False
def aK1 (md:MD):MD:=fun Γ Q=>md Γ fun ds Γ1=>match ds with
 | [.int i,.int j]=>(-(2^62)≤i∧i<2^62 ∧ -(2^62)≤j∧j<2^62)∧Q (iB i (j-i).toNat) Γ1
 | _=>False
theorem s8 {K:Fg}{ta:TE}{ma:ME}(ha:VT P0 ta ma):VI P0 (aLS K ta) (aGH ma):=by
 intro F Γ σ G H Q Qm r m k;refine ha F Γ σ G H _ _ r m fun d Γ1 x G1 H1 m1 s1 r1 d1=>?_
 split at m1
 ·cases d1 with
  | @lst p xs ds hp rs=>
   refine⟨p,rfl,⟨xs,SqL.of (r1.fr.sub _ _ hp)⟩,k _ _ _ _ _ m1 s1 r1 fun F2 Γ2 σ2 G2 H2 s2 r2=>⟨fun i d e=>?_,?_⟩⟩
   ·have hq:H2 p=some (.lst xs):=r2.fr.sub _ _ (s2 _ _ hp);obtain⟨v,ev,dv⟩:=Dts.get rs e;refine⟨⟨xs,v,SqL.of hq,ev⟩,fun y H3 hy=>⟨G2,Same.refl _,?_⟩⟩;obtain⟨rfl,hy⟩:=hy;have:=hy xs (SqL.of hq);rw[ev] at this
    cases this
    exact⟨r2,Dt.same s2 _ _ dv⟩
   ·exact⟨xs,SqL.of (r2.fr.sub _ _ (s2 _ _ hp)),by rw[rs.len]; exact Nat.le_refl _⟩
 ·exact m1.elim
theorem aN0 {K:Fg}{ta:TE}{ma:ME}(ha:VT P0 ta ma):VI P0 (aQH K ta) (aP3 ma):=by
 intro F Γ σ G H Q Qm r m k;refine ha F Γ σ G H _ _ r m fun d Γ1 x G1 H1 m1 s1 r1 d1=>?_
 split at m1
 ·cases d1 with
  | @tup p xs ds hp rs=>
   refine⟨p,rfl,⟨xs,SqT.of (r1.fr.sub _ _ hp)⟩,k _ _ _ _ _ m1 s1 r1 fun F2 Γ2 σ2 G2 H2 s2 r2=>⟨fun i d e=>?_,?_⟩⟩
   ·have hq:H2 p=some (.tup xs):=r2.fr.sub _ _ (s2 _ _ hp);obtain⟨v,ev,dv⟩:=Dts.get rs e;refine⟨⟨xs,v,SqT.of hq,ev⟩,fun y H3 hy=>⟨G2,Same.refl _,?_⟩⟩;obtain⟨rfl,hy⟩:=hy;have:=hy xs (SqT.of hq);rw[ev] at this
    cases this
    exact⟨r2,Dt.same s2 _ _ dv⟩
   ·exact⟨xs,SqT.of (r2.fr.sub _ _ (s2 _ _ hp)),by rw[rs.len]; exact Nat.le_refl _⟩
 ·exact m1.elim
theorem a1F {G:Hp}(lo:Int)(n:Nat):Walk P0 (Itr lo n) G (iB lo n):=by
 intro F Γ σ G2 H2 _ r;have hl:(iB lo n).length=n:=by simp[iB]
 refine⟨fun i d e=>?_,by rw[hl]; exact Nat.le_refl _⟩;have hi:i<n:=by have:=(List.getElem?_eq_some_iff.mp e).1; omega
 refine⟨hi,fun x H' hy=>?_⟩;obtain⟨rfl,rfl⟩:=hy;refine⟨G2,Same.refl _,r,?_⟩;unfold iB at e;rw[List.getElem?_map,List.getElem?_range hi] at e
 cases e
 exact .int _
theorem vR {t:TA}{md:MD}(h:VD P0 t md):VI P0 (aKR t) (a4Z md):=by
 intro F Γ σ G H Q Qm r m k;refine h F Γ σ G H _ _ r m fun ds Γ1 xs G1 H1 m1 s1 r1 d1=>?_
 split at m1
 ·rename_i j
  cases d1 with
  | cons a b=>
   cases a; cases b
   exact⟨j,rfl,m1.1,m1.2.1,k _ _ _ _ _ m1.2.2 s1 r1 (a1F _ _)⟩
 ·exact m1.elim
theorem aJ6 {t:TA}{md:MD}(h:VD P0 t md):VI P0 (aLG t) (aK1 md):=by
 intro F Γ σ G H Q Qm r m k;refine h F Γ σ G H _ _ r m fun ds Γ1 xs G1 H1 m1 s1 r1 d1=>?_
 split at m1
 ·rename_i i j
  cases d1 with
  | cons a b=>
   cases a
   cases b with
   | cons b c=>
    cases b; cases c
    exact⟨i,j,rfl,m1.1,k _ _ _ _ _ m1.2 s1 r1 (a1F _ _)⟩
 ·exact m1.elim
def mNx:MS:=fun Γ Q=>Q (.nx Γ)
def cC (a b:MS):MS:=fun Γ Q=>a Γ fun fl=>match fl with
 | .nx Γ1=>b Γ1 Q
 | fl=>Q fl
def dW (i:Nat)(m:MO):MS:=fun Γ Q=>m Γ fun rv Γ1=>Q (.nx (Γ1.set i rv.sl))
def aNT (m:ME)(g:MG):MS:=fun Γ Q=>m Γ fun d Γ1=>g d Γ1 fun Γ2=>Q (.nx Γ2)
def aPH (i j:Nat)(m:MD):MS:=fun Γ Q=>m Γ fun ds Γ1=>match ds with
 | [d,e]=>Q (.nx ((Γ1.set i (.val d)).set j (.val e)))
 | _=>False
def gZ (m:MO):MS:=fun Γ Q=>m Γ fun rv _=>Q (.rt rv)
def mIf (c:MT)(a b:MS):MS:=fun Γ Q=>c Γ fun k Γ1=>if k=true then a Γ1 Q else b Γ1 Q
def aDV:MS:=fun _ _=>False
def forL (g:MG)(b:MS):List D→En→(Fl→Prop)→Prop
 | [],Γ,Q=>Q (.nx Γ)
 | d::ds,Γ,Q=>g d Γ fun Γ1=>b Γ1 fun fl=>match fl with
  | .nx Γ2=>forL g b ds Γ2 Q
  | .ct Γ2=>forL g b ds Γ2 Q
  | .bk Γ2=>Q (.nx Γ2)
  | .rt rv=>Q (.rt rv)
def aB4 (mi:MD)(g:MG)(b:MS):MS:=fun Γ Q=>mi Γ fun ds Γ1=>forL g b ds Γ1 Q
def uQ (c:MT)(b:MS):MS:=fun Γ Q=>∃ W:Nat→En→Prop,(∃ n,W n Γ)∧∀ n Γ,W n Γ→c Γ fun k Γ1=>if k=true then b Γ1 fun fl=>match fl with
  | .nx Γ2=>∃ n',n'<n∧W n' Γ2
  | .ct Γ2=>∃ n',n'<n∧W n' Γ2
  | .bk Γ2=>Q (.nx Γ2)
  | .rt rv=>Q (.rt rv)
 else Q (.nx Γ1)
def rP (i:Nat)(m:ME):MS:=fun Γ Q=>match Γ[i]? with
 | some (.own _)=>m Γ fun d Γ1=>match Γ1[i]? with
  | some (.own ds)=>ds.length<1000∧Q (.nx (Γ1.set i (.own (ds++[d]))))
  | _=>False
 | _=>False
def aCP (i:Nat)(m:MS):MS:=fun Γ Q=>match Γ[i]? with
 | some (.own ds)=>m (Γ.set i (.val (.list ds))) Q
 | _=>m Γ Q
theorem dH:VSA P0 A aL5 mNx:=fun _ _ _ _ _ _ _ r m k=>k _ m _ _ _ (Same.refl _) r fun _ _=>rfl
theorem a99:VSA P0 A aGV aDV:=fun _ _ _ _ _ _ _ _ m _=>m.elim
theorem aO {t u:TS}{a b:MS}(ha:VSA P0 A t a)(hb:VSA P0 A u b):VSA P0 A (aQ3 t u) (cC a b):=by
 intro F Γ σ G H E Qm r m k;refine ha F Γ σ G H _ _ r m fun fl q=>?_
 cases fl with
 | nx Γ1=>exact fun σ1 G1 H1 s1 r1 e1=>hb F Γ1 σ1 G1 H1 E Qm r1 q fun fl q=>(k fl q).same s1 e1
 | rt rv=>exact k _ q
 | bk Γ1=>exact k _ q
 | ct Γ1=>exact k _ q
theorem b8 {i:Nat}{t:TE}{m:MO}(h:VO P0 t m)(hA:A i=true:=by rfl):VSA P0 A (aFZ t (a5R i)) (dW i m):=by
 intro F Γ σ G H E Qm r hm k;exact h F Γ σ G H _ _ r hm fun rv Γ1 x G1 H1 m1 s1 r1 d1 a1=>k _ m1 _ _ _ s1 (r1.set d1 a1) (vJ hA)
theorem aL3 {t:TE}{g:TG}{m:ME}{mg:MG}(h:VT P0 t m)(hg:VG P0 A g mg):VSA P0 A (aFZ t g) (aNT m mg):=by
 intro F Γ σ G H E Qm r hm k;exact h F Γ σ G H _ _ r hm fun d Γ1 x G1 H1 m1 s1 r1 d1=>hg F Γ1 σ G1 H1 x d _ _ r1 d1 m1 fun Γ2 σ2 m2 r2 e2=>k _ m2 _ _ _ s1 r2 e2
theorem aM0 {i j:Nat}{t:TA}{m:MD}(h:VD P0 t m)(hA:A i=true:=by rfl)(hB:A j=true:=by rfl):VSA P0 A (aQ4 i j t) (aPH i j m):=by
 intro F Γ σ G H E Qm r hm k;refine h F Γ σ G H _ _ r hm fun ds Γ1 x G1 H1 m1 s1 r1 d1=>?_
 split at m1
 ·cases d1 with
  | cons a b=>
   cases b with
   | cons b c=>
    cases c
    exact⟨_,_,rfl,k _ m1 _ _ _ s1 ((r1.setV a).setV b) fun q hq=>(vJ hB q hq).trans (vJ hA q hq)⟩
 ·exact m1.elim
theorem bK {t:TE}{m:MO}(h:VO P0 t m):VSA P0 A (aN2 t) (gZ m):=by
 intro F Γ σ G H E Qm r hm k;exact h F Γ σ G H _ _ r hm fun rv Γ1 x G1 H1 m1 s1 r1 d1 _=>k _ m1 _ _ _ s1 r1.fr d1
theorem dG {c:TT}{t u:TS}{mc:MT}{a b:MS}(hc:VTT P0 c mc)(ha:VSA P0 A t a)(hb:VSA P0 A u b):VSA P0 A (aQC c t u) (mIf mc a b):=by
 intro F Γ σ G H E Qm r m k;refine hc F Γ σ G H _ _ r m fun k1 Γ1 G1 H1 m1 s1 r1=>?_
 cases k1 with
 | true=>exact a1K (ha F Γ1 σ G1 H1 E Qm r1 m1 fun fl q=>(k fl q).same s1 fun _ _=>rfl)
 | false=>exact xX (hb F Γ1 σ G1 H1 E Qm r1 m1 fun fl q=>(k fl q).same s1 fun _ _=>rfl)
theorem uP {c:TT}{t:TS}{mc:MT}{b:MS}(hc:VTT P0 c mc)(hb:VSA P0 A t b):VSA P0 A (aHM c t) (uQ mc b):=by
 intro F Γ σ G H E Qm r m k;obtain⟨W,⟨n0,w0⟩,turn⟩:=m;refine⟨fun n σ1 H1=>∃ Γ1 G1,Same G G1∧R F Γ1 σ1 G1 H1∧W n Γ1∧∀ i,A i=false→σ1[i]?=σ[i]?,⟨n0,Γ,G,Same.refl _,r,w0,fun _ _=>rfl⟩,?_⟩;rintro n σ1 H1 ⟨Γ1,G1,s1,r1,w1,e1⟩;refine hc F Γ1 σ1 G1 H1 _ _ r1 (turn n Γ1 w1) fun k2 Γ2 G2 H2 m2 s2 r2=>?_
 cases k2 with
 | true=>
  refine a1K ⟨_,fun _ _ h=>h,?_⟩;refine hb F Γ2 σ1 G2 H2 _ _ r2 m2 fun fl q=>?_
  cases fl with
  | nx Γ3=>
   obtain⟨n',hn,w3⟩:=q;exact fun σ3 G3 H3 s3 r3 e3=>⟨n',hn,Γ3,G3,(s1.trans s2).trans s3,r3,w3,fun i hi=>(e3 i hi).trans (e1 i hi)⟩
  | ct Γ3=>
   obtain⟨n',hn,w3⟩:=q;exact fun σ3 G3 H3 s3 r3 e3=>⟨n',hn,Γ3,G3,(s1.trans s2).trans s3,r3,w3,fun i hi=>(e3 i hi).trans (e1 i hi)⟩
  | bk Γ3=>exact fun σ3 G3 H3 s3 r3 e3=>k _ q _ _ _ ((s1.trans s2).trans s3) r3 fun i hi=>(e3 i hi).trans (e1 i hi)
  | rt rv=>exact fun v G3 H3 s3 r3=>k _ q _ _ _ ((s1.trans s2).trans s3) r3
 | false=>exact xX (k _ m2 _ _ _ (s1.trans s2) r2 e1)
theorem rG {wi:TI}{g:TG}{t:TS}{mi:MD}{mg:MG}{b:MS}(hi:VI P0 wi mi)(hg:VG P0 A g mg)(hb:VSA P0 A t b):VSA P0 A (aQ5 wi g t) (aB4 mi mg b):=by
 intro F Γ σ G H E Qm r m k;refine hi F Γ σ G H _ _ r m fun ds Γ1 J G1 H1 m1 s1 r1 wk=>?_;refine⟨fun i n σ2 H2=>n=ds.length-i∧i≤ds.length∧∃ Γ2 G2,Same G1 G2∧R F Γ2 σ2 G2 H2∧forL mg b (ds.drop i) Γ2 Qm∧∀ i,A i=false→σ2[i]?=σ[i]?,⟨ds.length,by simp,Nat.zero_le _,Γ1,G1,Same.refl _,r1,m1,fun _ _=>rfl⟩,?_⟩;rintro i n σ2 H2 ⟨rfl,hle,Γ2,G2,s2,r2,m2,e2⟩;obtain⟨go,stop⟩:=wk F Γ2 σ2 G2 H2 s2 r2
 by_cases hlt:i<ds.length
 ·refine .inr ⟨(go i ds[i] (by simp[hlt])).1,fun σ' H'=>ds.length-(i+1)<ds.length-i∧i+1≤ds.length∧∃ Γ3 G3,Same G1 G3∧R F Γ3 σ' G3 H'∧forL mg b (ds.drop (i+1)) Γ3 Qm∧∀ i,A i=false→σ'[i]?=σ[i]?,fun σ' H' h=>⟨_,h.1,rfl,h.2⟩,fun x H' hy=>?_⟩;obtain⟨G3,s3,r3,d3⟩:=(go i ds[i] (by simp[hlt])).2 x H' hy;rw[List.drop_eq_getElem_cons hlt] at m2;refine hg F Γ2 σ2 G3 H' x _ _ _ r3 d3 m2 fun Γ4 σ4 m4 r4 e4=>?_;refine hb F Γ4 σ4 G3 H' _ _ r4 m4 fun fl q=>?_
  cases fl with
  | nx Γ5=>exact fun σ5 G5 H5 s5 r5 e5=>⟨by omega,hlt,Γ5,G5,(s2.trans s3).trans s5,r5,q,fun i hi=>((e5 i hi).trans (e4 i hi)).trans (e2 i hi)⟩
  | ct Γ5=>exact fun σ5 G5 H5 s5 r5 e5=>⟨by omega,hlt,Γ5,G5,(s2.trans s3).trans s5,r5,q,fun i hi=>((e5 i hi).trans (e4 i hi)).trans (e2 i hi)⟩
  | bk Γ5=>exact fun σ5 G5 H5 s5 r5 e5=>k _ q _ _ _ ((s1.trans s2).trans (s3.trans s5)) r5 fun i hi=>((e5 i hi).trans (e4 i hi)).trans (e2 i hi)
  | rt rv=>exact fun v G5 H5 s5 r5=>k _ q _ _ _ ((s1.trans s2).trans (s3.trans s5)) r5
 ·have e:i=ds.length:=by omega
  subst e;rw[List.drop_length] at m2;exact .inl ⟨stop,k _ m2 _ _ _ (s1.trans s2) r2 e2⟩
theorem zU {K:Fg}{i:Nat}{t:TE}{m:ME}(h:VT P0 t m):VSA P0 A (aIQ (tBM K "list" aB9 (vX i) (fH t z7))) (rP i m):=by
 intro F Γ σ G H E Qm r hm k;unfold rP at hm
 split at hm
 ·rename_i ds0 e0
  obtain⟨p,vs,e1,e2,e3,e4,e5⟩:=r.sl i _ e0;refine⟨_,e1,.inl ⟨rfl,_,SqL.of e4⟩,?_⟩;refine h F Γ σ G H _ _ r hm fun d Γ1 x G1 H1 m1 s1 r1 d1=>?_
  split at m1
  ·rename_i ds e
   obtain⟨p',ws,f1,f2,f3,f4,f5⟩:=r1.sl i _ e;rw[e1] at f1; cases f1;refine⟨p,ws,x,rfl,rfl,f4,z9 (by rw[f5.len]; exact Nat.le_of_lt m1.1),?_⟩;exact k _ m1.2 _ _ _ s1 (r1.write e e1 (f5.app (.cons d1 .nil))) fun _ _=>rfl
  ·exact m1.elim
 ·exact hm.elim
theorem R.pub1 {F:Fra P0}{Γ:En}{σ:St}{G H:Hp}(r:R F Γ σ G H){i:Nat}{ds:List D}(e:Γ[i]?=some (.own ds)):∃ G',Same G G'∧R F (Γ.set i (.val (.list ds))) σ G' H:=by
 obtain⟨p,vs,e1,e2,e3,e4,e5⟩:=r.sl i _ e;have hap:Apart F (Γ.set i .no) σ G H (.ref p) (.own ds):=fun j s fp ej hj q eq hq=>by
  cases eq
  by_cases hji:i=j
  ·subst hji;have hi:i<Γ.length:=(List.getElem?_eq_some_iff.mp e).1;rw[List.getElem?_set_self hi] at ej
   cases ej
   rw[show fp=[] from hj] at hq; cases hq
  ·rw[List.getElem?_set_ne hji] at ej;exact r.apart hji e ej (fp:=[p]) ⟨p,vs,rfl,e1,e2,e3,e4,e5⟩ hj p (List.mem_singleton.mpr rfl) hq
 obtain⟨G',s,r',d'⟩:=(r.drop i).give (ds:=ds) ⟨p,vs,rfl,e2,e3,e4,e5⟩ hap;refine⟨G',s,?_⟩;have q:=r'.setV (i:=i) d';rw[List.set_set] at q;have hs:σ.set i (some (.ref p))=σ:=by
  apply List.ext_getElem?;intro j
  by_cases hj:i=j
  ·subst hj;have hi:i<σ.length:=(List.getElem?_eq_some_iff.mp e1).1;rw[List.getElem?_set_self hi,e1]
  ·rw[List.getElem?_set_ne hj]
 rw[hs] at q;exact q
theorem aME {i:Nat}{t:TS}{m:MS}(h:VSA P0 A t m):VSA P0 A t (aCP i m):=by
 intro F Γ σ G H E Qm r hm k;unfold aCP at hm
 split at hm
 ·rename_i ds e
  obtain⟨G',s,r'⟩:=r.pub1 e;exact h F _ σ G' H E Qm r' hm fun fl q=>(k fl q).same s fun _ _=>rfl
 ·exact h F Γ σ G H E Qm r hm k
def mFn (n:Nat)(b:MS):Fm:=fun as Q=>b (as++List.replicate n .no) fun fl=>match fl with
 | .rt rv=>Q rv
 | .nx _=>Q (.val .none)
 | _=>False
theorem aGD {n k:Nat}{N:List Str}{t:TS}{b:MS}(h:VS P0 t b)(hN:N.length=n+k){vs:List V}{H:Hp}{Q:VK}{E:XK}(hs:spM P0 n (mFn k b) vs H Q E) :
  t { nx:=fun _ H'=>Q .non H',rt:=Q } (start N vs) H:=by
 obtain⟨F,as,Qm,rfl,rf,pr,hl,hm,q⟩:=hs;have hlen:vs.length=as.length:=Paired.length pr;have get:∀{vs:List V} {as:List Sl} {i:Nat} {s:Sl},Paired (uK F F.G0) vs as→as[i]?=some s→∃ v,vs[i]?=some v∧uK F F.G0 v s:=by
  intro vs as i s pr
  induction pr generalizing i with
  | nil=>intro e; simp at e
  | cons a b ih=>
   cases i with
   | zero=>intro e; simp at e; subst e; exact⟨_,rfl,a⟩
   | succ i=>intro e; simpa using ih (i:=i) (by simpa using e)
 have at_:∀{i:Nat} {s:Sl},(as++List.replicate k Sl.no)[i]?=some s→s≠.no→∃ v,(start N vs)[i]?=some (some v)∧uK F F.G0 v s:=by
  intro i s e hne
  by_cases hi:i<as.length
  ·rw[List.getElem?_append_left hi] at e;obtain⟨v,ev,av⟩:=get pr e;refine⟨v,?_,av⟩;unfold start;rw[List.getElem?_append_left (by rw[List.length_map]; omega),List.getElem?_map,ev];rfl
  ·rw[List.getElem?_append_right (by omega),List.getElem?_replicate] at e
   split at e
   ·cases e; exact absurd rfl hne
   ·cases e
 have r:R F (as++List.replicate k .no) (start N vs) F.G0 F.H0:=by
  refine R.of rf ?_ (fun i s e=>?_) (fun i B e=>?_) (fun i j x y _ e _=>?_)
  ·unfold start;simp only[List.length_append,List.length_replicate,List.length_map];omega
  ·cases s with
   | no=>trivial
   | val d=>
    obtain⟨v,ev,av⟩:=at_ e (by intro z; cases z)
    exact⟨v,ev,av⟩
   | own ds=>
    obtain⟨v,ev,av⟩:=at_ e (by intro z; cases z)
    exact av.elim
   | pen=>
    obtain⟨v,ev,p,rfl,ep⟩:=at_ e (by intro z; cases z)
    exact⟨p,ev,ep⟩
   | con q=>
    obtain⟨v,ev,av⟩:=at_ e (by intro z; cases z)
    have av:v=.ref q:=av;rw[av] at ev;exact ev
   | pub B=>
    obtain⟨v,ev,av⟩:=at_ e (by intro z; cases z)
    exact⟨v,ev,av⟩
   | box B=>
    obtain⟨v,ev,av⟩:=at_ e (by intro z; cases z)
    exact av.elim
  ·obtain⟨v,ev,av⟩:=at_ e (by intro z; cases z)
   exact av.elim
  ·obtain⟨v,ev,av⟩:=at_ e (by intro z; cases z)
   exact av.elim
 refine h F _ _ _ _ _ _ r hm fun fl hq=>?_
 cases fl with
 | nx Γ=>exact fun σ G' H' _ r' _=>q _ _ _ _ hq r'.fr .non
 | rt rv=>exact fun v G' H' _ f' v'=>q _ _ _ _ hq f' v'
 | bk Γ=>exact hq.elim
 | ct Γ=>exact hq.elim
theorem aIB {n:Nat}{f:Fm}{ps:List Str}(h:ps.length=n):∀ vs H Q E,spM P0 n f vs H Q E→vs.length=ps.length:=by
 rintro vs H Q E ⟨F,as,Qm,_,_,pr,hl,_⟩;rw[Paired.length pr,hl,h]
theorem _root_.L2.Fun.okV {P:Program}{w:World}{K:Fg}{mg:Mg}{base:Heap}{x qual:Str}{st:Stmt}{f:Addr}{fd:FuncData}{N ps:List Str}{k n j:Nat}{b:MS}
  (F:Fun K x qual st f fd) (S:FnScope N ps (aN st)) (hn:ps.length=n) (hN:N.length=n+j)
  (hbody:∀(cdv:Value) (A:Around) (outer:List Env) (s:Shared) (H:Hp) (E:XK),Room k (A.deeper (envOfC qual (aN st) s.heap.objs.size f cdv)) →
   SsX P0 (aFG CX0 P w K mg base N qual (aN st) f cdv A outer s H E).nox (jU st) b):FnOk P w K mg base CX0 (k+1) f fd ps (spM P0 n (mFn j b)):=by
 refine F.ok S (aIB hn) fun cdv A outer s H vs Q E hr hs=>?_;obtain⟨t,h1,h2⟩:=hbody cdv A outer s H E hr;exact⟨t,h1,aGD h2 hN hs⟩
end
section
variable {P0:Addr→Hp→Prop}
def rQ:D→String
 | .none => "NoneType"
 | .bool _ => "bool"
 | .int _ => "int"
 | .str _ => "str"
 | .list _ => "list"
 | .tuple _ => "tuple"
 | .dict _ => "dict"
def aGI (a b:String):Bool:=a==b||(a == "bool" && b == "int")
def tyL:List String:=["NoneType", "bool", "int", "str", "list", "tuple", "dict"]
def Kit (K:Fg):Prop:=∀ a∈tyL,∀ b∈tyL,PySem.W.kitOne K (.type a) (.type b)=some (aGI a b)
theorem Kit.mk' {K:Fg}(h:∀ a∈tyL,∀ b∈tyL,(a==b)=false→PySem.W.kitOne K (.type a) (.type b)=some (a == "bool" && b == "int")):Kit K:=by
 intro a ha b hb
 by_cases e:a=b
 ·subst e;rw[aFJ];simp[aGI]
 ·have e':(a==b)=false:=by simpa using e
  rw[h a ha b hb e'];simp[aGI,e']
theorem aIY {K:Fg}{H:Hp}{x:V}{d:D}(h:Dt H x d):TyOf K H x (.type (rQ d))∧rQ d∈tyL:=by
 cases h with
 | non=>exact⟨.non,by simp[rQ,tyL]⟩
 | bl b=>exact⟨.bl b,by simp[rQ,tyL]⟩
 | int i=>exact⟨.int i,by simp[rQ,tyL]⟩
 | str x=>exact⟨.str x,by simp[rQ,tyL]⟩
 | tup hp _=>exact⟨.tup hp,by simp[rQ,tyL]⟩
 | lst hp _=>exact⟨.lst hp,by simp[rQ,tyL]⟩
 | dic hp _=>exact⟨.dK hp,by simp[rQ,tyL]⟩
def aMT (n:String)(ma:ME):ME:=fun Γ Q=>ma Γ fun x Γ1=>Q (.bool (aGI (rQ x) n)) Γ1
theorem aBR {K:Fg}{n:String}{ta:TE}{ma:ME}(hk:Kit K)(hn:n∈tyL)(ha:VT P0 ta ma):VT P0 (tCB (aPS K) (fH ta (fH (tC (.ty n)) z7))) (aMT n ma):=by
 intro F Γ σ G H Q Qm r m k;refine ha F Γ σ G H _ _ r m fun d Γ1 x G1 H1 m1 s1 r1 d1=>?_;obtain⟨h1,h2⟩:=aIY (K:=K) (Dt.same r1.fr.sub _ _ d1);exact⟨x,.ty n,.type n,_,_,rfl,rfl,h1,hk _ h2 _ hn,k _ _ _ _ _ m1 s1 r1 (.bl _)⟩
section
variable {X:Cx}
structure Goods (ds:List D):Prop where
 lay:PyData.canLayAll0 ds=true
 dep:PyData.depthAll ds≤59
def aPP (neg:Bool):R2:=fun x y H Q=>∃ dx ds,Dt H x dx∧(Dt H y (.list ds)∨Dt H y (.tuple ds))∧Good dx∧Goods ds∧Q (.bl (if neg then !(ds.any fun e=>PyData.eqv e dx) else ds.any fun e=>PyData.eqv e dx)) H
theorem aN1 {u a b:Nat}(h:u+64<cLine)(ha:a≤59):u+1+min a b<cLine:=by
 have:min a b≤a:=Nat.min_le_left _ _;omega
theorem aHC (hu:X.A.units+64<cLine):OpR X (compareOp .In) (aPP false):=by
 intro pins s σ H x y v u Q I rx ry h;obtain⟨dx,ds,ex,ey,gx,gs,q⟩:=h;obtain⟨as,r1⟩:=Dt.reads I.hok dx x v ex rx;rcases ey with ey|ey
 ·obtain⟨bs,r2⟩:=Dt.reads I.hok _ y u ey ry;exact SeqAt.in_list_reads r2 r1 gs.lay gx.lay (aN1 hu gs.dep) ⟨.bl _,H,I,rfl,q⟩
 ·obtain⟨bs,r2⟩:=Dt.reads I.hok _ y u ey ry;exact SeqAt.in_tuple_reads r2 r1 gs.lay gx.lay (aN1 hu gs.dep) ⟨.bl _,H,I,rfl,q⟩
def mIn (neg:Bool)(ma mb:ME):ME:=fun Γ Q=>ma Γ fun x Γ1=>mb Γ1 fun y Γ2=>match wQ y with
 | some ds=>Good x∧Goods ds∧Q (.bool (if neg then !(ds.any fun e=>PyData.eqv e x) else ds.any fun e=>PyData.eqv e x)) Γ2
 | none=>False
theorem aM5 {neg:Bool}{ta tb:TE}{ma mb:ME}(ha:VT P0 ta ma)(hb:VT P0 tb mb):VT P0 (tOp (aPP neg) ta tb) (mIn neg ma mb):=by
 refine aK7 (m2:=fun x y Q=>match wQ y with|some ds=>Good x∧Goods ds∧Q (.bool (if neg then !(ds.any fun e=>PyData.eqv e x) else ds.any fun e=>PyData.eqv e x))|none=>False) ha hb fun F Γ σ G H x y d e Q Qm r d1 d2 m k=>?_
 split at m
 ·rename_i ds hds
  refine⟨d,ds,Dt.same r.fr.sub _ _ d1,?_,m.1,m.2.1,k _ _ _ _ m.2.2 (Same.refl _) r (.bl _)⟩;have d2:=Dt.same r.fr.sub _ _ d2
  cases d2<;>simp only[wQ] at hds<;>try (cases hds)
  ·exact .inr (.tup (by assumption) (by assumption))
  ·exact .inl (.lst (by assumption) (by assumption))
 ·exact m.elim
end
def a66 (H H':Hp):Prop:=∀ b xs,H b=some (.tup xs)→H' b=some (.tup xs)∨∃ q vs,V.ref q∈xs∧H q=some (.lst vs)
theorem no_ref {H:Hp}{q:Addr}{vs:List V}(hq:H q=some (.lst vs)):∀(ds:List D) (xs:List V),cI ds=true→Dts H xs ds→V.ref q∉xs
 | [],xs,_,e,h=>by cases e; cases h
 | d::ds,xs,z,e,h=>by
  have z':fG d=true∧cI ds=true:=by simpa [cI] using z
  cases e with
  | cons e1 e2=>
   rcases List.mem_cons.mp h with e|e
   ·subst e
    cases e1 with
    | tup hp _=>rw[hq] at hp; cases hp
    | lst hp _=>exact absurd z'.1 (by simp[fG])
    | dic hp _=>exact absurd z'.1 (by simp[fG])
   ·exact no_ref hq ds _ z'.2 e2 e
mutual
theorem Dt.sameU {H H':Hp}(g:a66 H H'):∀(d:PyData) (x:V),fG d=true→Dt H x d→Dt H' x d
 | .none,_,_,e=>by cases e; exact .non
 | .bool _,_,_,e=>by cases e; exact .bl _
 | .int _,_,_,e=>by cases e; exact .int _
 | .str _,_,_,e=>by cases e; exact .str _
 | .list _,_,z,_=>absurd z (by simp[fG])
 | .tuple ds,_,z,e=>by
  have z':cI ds=true:=by simpa [fG] using z
  cases e with
  | tup hp rs=>
   rcases g _ _ hp with h|⟨q,vs,h1,h2⟩
   ·exact .tup h (Dts.sameU g ds _ z' rs)
   ·exact absurd h1 (no_ref h2 ds _ z' rs)
 | .dict _,_,z,_=>absurd z (by simp[fG])
theorem Dts.sameU {H H':Hp}(g:a66 H H'):∀(ds:List PyData) (xs:List V),cI ds=true→Dts H xs ds→Dts H' xs ds
 | [],_,_,e=>by cases e; exact .nil
 | d::ds,_,z,e=>by
  have z':fG d=true∧cI ds=true:=by simpa [cI] using z
  cases e with
  | cons e1 e2=>exact .cons (Dt.sameU g d _ z'.1 e1) (Dts.sameU g ds _ z'.2 e2)
end
def a3L:En→En:=List.map fun s=>match s with
 | .own ds=>.val (.list ds)
 | .box B=>match B.view with
  | some d=>.val d
  | none=>match B.pv with
   | some b=>.pub b
   | none=>.no
 | s=>s
def aJO (m:ME):ME:=fun Γ Q=>m (a3L Γ) fun d Γ1=>fG d=true∧Γ1=a3L Γ∧Q d Γ
def tE (m:MT):MT:=fun Γ Q=>m (a3L Γ) fun b Γ1=>Γ1=a3L Γ∧Q b Γ
def a5X (m:MO):MO:=fun Γ Q=>m (a3L Γ) fun rv Γ1=>cI (match rv with|.val d=>[d]|.own ds=>ds|.box _=>[.list []])=true∧Γ1=a3L Γ∧Q rv Γ
def OwnA (F:Fra P0)(Γ:En)(σ:St)(G H:Hp)(b:Addr):Prop:=∃(i:Nat) (s:Sl) (fp:List Addr),Γ[i]?=some s∧SlF F G H σ[i]? fp s∧b∈fp
section
variable {F:Fra P0}{Γ:En}{σ:St}{G H:Hp}
open Classical in
noncomputable def aA7 (F:Fra P0)(Γ:En)(σ:St)(G H:Hp):Hp:=fun b=>if OwnA F Γ σ G H b then H b else G b
noncomputable def rW (F:Fra P0)(Γ:En)(σ:St)(G H:Hp)(G1:Hp):Hp:=fun b=>open Classical in if OwnA F Γ σ G H b then none else G1 b
theorem OwnA.at {b:Addr}(h:OwnA F Γ σ G H b):F.H0 b=none∧G b=none∧∃ o,H b=some o:=by
 obtain⟨i,s,fp,_,e,hb⟩:=h;exact e.mine hb
theorem OwnA.tup {b:Addr}(h:OwnA F Γ σ G H b){xs:List V}(e:H b=some (.tup xs)):∃ q vs,V.ref q∈xs∧OwnA F Γ σ G H q∧H q=some (.lst vs):=by
 obtain⟨i,s,fp,e0,e1,hb⟩:=h
 cases s with
 | no=>rw[show fp=[] from e1] at hb; cases hb
 | val d=>rw[e1.1] at hb; cases hb
 | pen=>rw[e1.1] at hb; cases hb
 | con q=>rw[e1.1] at hb; cases hb
 | pub B=>rw[e1.1] at hb; cases hb
 | own ds=>
  obtain⟨p,vs,f0,_,_,_,f3,_⟩:=e1;rw[f0] at hb;rw[List.mem_singleton.mp hb,f3] at e
  cases e
 | box B=>
  have e1':=e1;obtain⟨v,_,h2,_⟩:=e1;obtain⟨q,q1,q2,vs,q3⟩:=B.nt h2 b hb xs e;exact⟨q,vs,q2,⟨i,_,fp,e0,e1',q1⟩,q3⟩
theorem R.pubAll (r:R F Γ σ G H):Same G (aA7 F Γ σ G H)∧R F (a3L Γ) σ (aA7 F Γ σ G H) H:=by
 have g:Same G (aA7 F Γ σ G H):=fun b o e=>by
  unfold aA7
  by_cases h:OwnA F Γ σ G H b
  ·have:=h.at.2.1;rw[e] at this; cases this
  ·rw[if_neg h]; exact e
 have nob:∀(i:Nat) s,(a3L Γ)[i]?=some s→(∀ x,s≠.own x)∧∀ B,s≠.box B:=by
  intro i s e;unfold a3L at e;rw[List.getElem?_map] at e
  cases e0:Γ[i]? with
  | none=>rw[e0] at e; cases e
  | some s0=>
   rw[e0] at e
   cases s0 with
   | box B=>
    have e:(match B.view with|some d=>Sl.val d|none=>match B.pv with|some b=>Sl.pub b|none=>Sl.no)=s:=Option.some.inj e
    cases hv:B.view with
    | none=>
     cases hw:B.pv with
     | none=>rw[hv,hw] at e; subst e; exact⟨fun x z=>(nomatch z),fun x z=>(nomatch z)⟩
     | some b=>rw[hv,hw] at e; subst e; exact⟨fun x z=>(nomatch z),fun x z=>(nomatch z)⟩
    | some d=>rw[hv] at e; subst e; exact⟨fun x z=>(nomatch z),fun x z=>(nomatch z)⟩
   | _=>cases e; exact⟨fun x z=>(nomatch z),fun x z=>(nomatch z)⟩
 refine⟨g,R.of ⟨fun b o e=>?_,fun b o e=>?_,r.fr.h0,r.fr.pn⟩ ?_ (fun i s e=>?_) (fun i B e=>(nob i _ e).2 B rfl) (fun i j x y _ e=>((nob i _ e).1 x rfl).elim)⟩
 ·unfold aA7 at e
  split at e
  ·exact e
  ·exact r.fr.sub b o e
 ·have h:¬OwnA F Γ σ G H b:=fun h=>by
   have:=h.at.1;rw[e] at this; cases this
  unfold aA7;rw[if_neg h];exact r.fr.g0 b o e
 ·unfold a3L;rw[List.length_map];exact r.len
 ·unfold a3L at e;rw[List.getElem?_map] at e
  cases e0:Γ[i]? with
  | none=>rw[e0] at e; cases e
  | some s0=>
   rw[e0] at e;have h:=r.sl i s0 e0
   cases s0 with
   | no=>cases e; trivial
   | val d=>cases e; obtain⟨v,e1,d1⟩:=h; exact⟨v,e1,Dt.same g _ _ d1⟩
   | own ds=>
    cases e
    obtain⟨p,vs,e1,e2,e3,e4,e5⟩:=h;refine⟨_,e1,.lst ?_ (Dts.same g _ _ e5)⟩;unfold aA7;rw[if_pos ⟨i,_,[p],e0,⟨p,vs,rfl,e1,e2,e3,e4,e5⟩,List.mem_singleton.mpr rfl⟩];exact e4
   | pen=>cases e; exact h
   | con q=>cases e; exact h
   | pub B=>cases e; obtain⟨v,e1,e2⟩:=h; exact⟨v,e1,B.mono g e2⟩
   | box B=>
    have e:(match B.view with|some d=>Sl.val d|none=>match B.pv with|some b=>Sl.pub b|none=>Sl.no)=s:=Option.some.inj e;obtain⟨v,fp,e1,e2,e3⟩:=h
    cases hv:B.view with
    | none=>
     cases hw:B.pv with
     | none=>rw[hv,hw] at e; subst e; trivial
     | some b0=>
      rw[hv,hw] at e;subst e;refine⟨v,e1,B.pok e2 hw g fun b hb=>?_⟩;unfold aA7;rw[if_pos ⟨i,_,fp,e0,⟨v,e1,e2,e3⟩,hb⟩]
    | some d=>
     rw[hv] at e;subst e;refine⟨v,e1,B.vok e2 hv g fun b hb=>?_⟩;unfold aA7;rw[if_pos ⟨i,_,fp,e0,⟨v,e1,e2,e3⟩,hb⟩]
theorem R.backG (r:R F Γ σ G H){G1 H1:Hp}(s:Same (aA7 F Γ σ G H) G1)(f1:Rf F G1 H1) :
  (∀ b,OwnA F Γ σ G H b→G1 b=H b∧H1 b=H b)∧Same G (rW F Γ σ G H G1)∧Rf F (rW F Γ σ G H G1) H1∧a66 G1 (rW F Γ σ G H G1):=by
 have s0:=(r.pubAll).1;have own:∀ b,OwnA F Γ σ G H b→G1 b=H b∧H1 b=H b:=fun b h=>by
  obtain⟨_,_,o,e⟩:=h.at;have q:aA7 F Γ σ G H b=H b:=by unfold aA7; rw[if_pos h]
  rw[e] at q ⊢;exact⟨s b _ q,f1.sub b _ (s b _ q)⟩
 have g:Same G (rW F Γ σ G H G1):=fun b o e=>by
  have h:¬OwnA F Γ σ G H b:=fun h=>by
   have:=h.at.2.1;rw[e] at this; cases this
  unfold rW;rw[if_neg h];exact s b o (s0 b o e)
 refine⟨own,g,⟨fun b o e=>?_,fun b o e=>?_,f1.h0,f1.pn⟩,fun b xs e=>?_⟩
 ·unfold rW at e
  split at e
  ·cases e
  ·exact f1.sub b o e
 ·have h:¬OwnA F Γ σ G H b:=fun h=>by
   have:=h.at.1;rw[e] at this; cases this
  unfold rW;rw[if_neg h];exact f1.g0 b o e
 ·by_cases h:OwnA F Γ σ G H b
  ·have e':H b=some (.tup xs):=by rw[← (own b h).1]; exact e
   obtain⟨q,vs,q1,q2,q3⟩:=h.tup e';exact .inr ⟨q,vs,q1,by rw[(own q q2).1]; exact q3⟩
  ·refine .inl ?_;unfold rW;rw[if_neg h];exact e
theorem a4L {G1:Hp}{b:Addr}(h:OwnA F Γ σ G H b):rW F Γ σ G H G1 b=none:=by
 unfold rW;rw[if_pos h]
theorem R.back (r:R F Γ σ G H){G' H':Hp}(s:Same (aA7 F Γ σ G H) G')(r':R F (a3L Γ) σ G' H'):Same G (rW F Γ σ G H G')∧R F Γ σ (rW F Γ σ G H G') H'∧a66 G' (rW F Γ σ G H G'):=by
 obtain⟨own,g,f,t⟩:=r.backG s r'.fr;obtain⟨fps,h1,h2⟩:=r.fps;refine⟨g,⟨f,r.len,fps,fun i sl e=>(h1 i sl e).go g fun b hb=>?_,h2⟩,t⟩;have ho:OwnA F Γ σ G H b:=⟨i,sl,fps i,e,h1 i sl e,hb⟩;exact⟨a4L ho,(own b ho).2⟩
end
theorem aI9 {t:TE}{m:ME}(h:VT P0 t m):VT P0 t (aJO m):=by
 intro F Γ σ G H Q Qm r hm k;obtain⟨s0,r0⟩:=r.pubAll;refine h F _ σ _ H _ _ r0 hm fun d Γ1 x G1 H1 m1 s1 r1 d1=>?_;obtain⟨hd,rfl,q⟩:=m1;obtain⟨s2,r2,t2⟩:=r.back s1 r1;exact k _ _ _ _ _ q s2 r2 (Dt.sameU t2 _ _ hd d1)
theorem qD {t:TT}{m:MT}(h:VTT P0 t m):VTT P0 t (tE m):=by
 intro F Γ σ G H Q Qm r hm k;obtain⟨s0,r0⟩:=r.pubAll;refine h F _ σ _ H _ _ r0 hm fun b Γ1 G1 H1 m1 s1 r1=>?_;obtain⟨rfl,q⟩:=m1;obtain⟨s2,r2,t2⟩:=r.back s1 r1;exact k _ _ _ _ q s2 r2
theorem a74 {t:TE}{m:MO}(h:VO P0 t m):VO P0 t (a5X m):=by
 intro F Γ σ G H Q Qm r hm k;obtain⟨s0,r0⟩:=r.pubAll;refine h F _ σ _ H _ _ r0 hm fun rv Γ1 x G1 H1 m1 s1 r1 d1 a1=>?_;obtain⟨hd,rfl,q⟩:=m1;obtain⟨s2,r2,t2⟩:=r.back s1 r1
 cases rv with
 | val d=>
  have hd':fG d=true:=by simpa [cI] using hd
  exact k _ _ _ _ _ q s2 r2 (Dt.sameU t2 _ _ hd' d1) trivial
 | box B=>exact absurd hd (by simp[cI,fG])
 | own ds=>
  obtain⟨p,vs,rfl,e1,e2,e3,e4⟩:=d1;refine k _ _ _ _ _ q s2 r2 ⟨p,vs,rfl,e1,?_,e3,Dts.sameU t2 _ _ hd e4⟩ fun i s fp ei hf q' eq hq=>?_
  ·unfold rW
   split
   ·rfl
   ·exact e2
  ·cases eq
   obtain⟨fps,f1,f2⟩:=r.fps;have h0:=f1 i s ei;have own:=(r.backG s1 r1.fr).1;have h3:SlF F (rW F Γ σ G H G1) H1 σ[i]? (fps i) s:=h0.go s2 fun b hb=>by
    have ho:OwnA F Γ σ G H b:=⟨i,s,fps i,ei,h0,hb⟩;exact⟨a4L ho,(own b ho).2⟩
   rw[hf.det h3] at hq;have ho:OwnA F Γ σ G H p:=⟨i,s,fps i,ei,h0,hq⟩;obtain⟨_,_,o,e'⟩:=ho.at;have:=(own p ho).1;rw[e2,e'] at this; cases this
section
variable {ta tb:TE}{ma mb:ME}
abbrev a7X:=mI0 fun i j=>PyData.int (i+j)
abbrev aGY:=mI0 fun i j=>PyData.int (i-j)
abbrev xJ:=mI IntMulOk fun i j=>PyData.int (i*j)
abbrev a7Z:=mI aGR fun i j=>PyData.int (i.fdiv j)
abbrev aNS:=mI (fun _ j=>0<j) fun i j=>PyData.int (i%j)
abbrev aK8:=mU fun i=>PyData.int (-i)
abbrev mLt:=mI0 fun i j=>PyData.bool (decide (i<j))
abbrev mGt:=mI0 fun i j=>PyData.bool (decide (j<i))
theorem lL (ha:VT P0 ta ma)(hb:VT P0 tb mb):VT P0 (tOp (rI0 fun i j=>.int (i+j)) ta tb) (a7X ma mb):=aF0 (fun _ _ _=>.int _) ha hb
theorem yF (ha:VT P0 ta ma)(hb:VT P0 tb mb):VT P0 (tOp (rI0 fun i j=>.int (i-j)) ta tb) (aGY ma mb):=aF0 (fun _ _ _=>.int _) ha hb
theorem eO (ha:VT P0 ta ma)(hb:VT P0 tb mb):VT P0 (tOp (rI IntMulOk fun i j=>.int (i*j)) ta tb) (xJ ma mb):=aNY (fun _ _ _=>.int _) ha hb
theorem v4 (ha:VT P0 ta ma)(hb:VT P0 tb mb):VT P0 (tOp (rI aGR fun i j=>.int (i.fdiv j)) ta tb) (a7Z ma mb):=aNY (fun _ _ _=>.int _) ha hb
theorem aH5 (ha:VT P0 ta ma)(hb:VT P0 tb mb):VT P0 (tOp (rI (fun _ j=>0<j) fun i j=>.int (i%j)) ta tb) (aNS ma mb):=aNY (fun _ _ _=>.int _) ha hb
theorem a5Y (ha:VT P0 ta ma):VT P0 (tUn (rU fun i=>.int (-i)) ta) (aK8 ma):=aQQ (fun _ _=>.int _) ha
theorem yC (ha:VT P0 ta ma)(hb:VT P0 tb mb):VT P0 (tOp (rI0 fun i j=>.bl (decide (i<j))) ta tb) (mLt ma mb):=aF0 (fun _ _ _=>.bl _) ha hb
theorem aLZ (ha:VT P0 ta ma)(hb:VT P0 tb mb):VT P0 (tOp (rI0 fun i j=>.bl (decide (j<i))) ta tb) (mGt ma mb):=aF0 (fun _ _ _=>.bl _) ha hb
theorem aG {i:Int}:VT P0 (tC (.int i)) (mC (.int i)):=aN7 fun _=>.int i
theorem a0J {b:Bool}:VT P0 (tC (.bl b)) (mC (.bool b)):=aN7 fun _=>.bl b
theorem a8U {s:Str}:VT P0 (tC (.str s)) (mC (.str s)):=aN7 fun _=>.str s
theorem lG:VT P0 (tC .non) (mC .none):=aN7 fun _=>.non
end
end
section
def jR:Fl→Prop:=fun fl=>fl=.rt (.val (.bool true))
end
end L2.VS
namespace L2.VS
open PySem PySem.Spec PyProof.Rows LT
section
variable {Γ:En}{i j n:Nat}{d e x y:D}{ma mb:ME}{oa ob:MO}{ta tb:MT}{md:MD}{aa:MA}{sa sb:MS}{g:MG}{gs:MGs}{mp mq:MP}
theorem aPA {Q:Fl→Prop}(h:sa Γ fun fl=>match fl with|.nx Γ1=>sb Γ1 Q|fl=>Q fl):cC sa sb Γ Q:=h
theorem aGF {Q:Fl→Prop}(h:Q (.nx Γ)):mNx Γ Q:=h
theorem aPL {Q:Fl→Prop}(h:oa Γ fun rv Γ1=>Q (.nx (Γ1.set i rv.sl))):dW i oa Γ Q:=h
theorem aOS {Q:Fl→Prop}(h:ma Γ fun d Γ1=>g d Γ1 fun Γ2=>Q (.nx Γ2)):aNT ma g Γ Q:=h
theorem aOK {Q:Fl→Prop}(h:md Γ fun ds Γ1=>match ds with|[d,e]=>Q (.nx ((Γ1.set i (.val d)).set j (.val e)))|_=>False):aPH i j md Γ Q:=h
theorem aNM {Q:Fl→Prop}(h:oa Γ fun rv _=>Q (.rt rv)):gZ oa Γ Q:=h
theorem aR3 {Q:Fl→Prop}(h:ta Γ fun k Γ1=>if k=true then sa Γ1 Q else sb Γ1 Q):mIf ta sa sb Γ Q:=h
theorem aP4 {Q:Fl→Prop}(h:md Γ fun ds Γ1=>forL g sa ds Γ1 Q):aB4 md g sa Γ Q:=h
def aPJ (i:Nat)(d:D)(Γ1:En)(Q:Fl→Prop):Prop:=match Γ1[i]? with
 | some (.own ds)=>ds.length<1000∧Q (.nx (Γ1.set i (.own (ds++[d]))))
 | _=>False
theorem aEZ {Q:Fl→Prop}{ds:List D}(h0:Γ[i]?=some (.own ds))(h:ma Γ fun d Γ1=>aPJ i d Γ1 Q):rP i ma Γ Q:=by
 unfold rP;rw[h0];exact h
theorem aBC {Q:Fl→Prop}{Γ1:En}{ds:List D}(h0:Γ1[i]?=some (.own ds))(h1:ds.length<1000)(h:Q (.nx (Γ1.set i (.own (ds++[d]))))):aPJ i d Γ1 Q:=by
 unfold aPJ;rw[h0];exact⟨h1,h⟩
theorem aLQ {Q:Fl→Prop}{ds:List D}(h0:Γ[i]?=some (.own ds))(h:sa (Γ.set i (.val (.list ds))) Q):aCP i sa Γ Q:=by
 unfold aCP;rw[h0];exact h
theorem i_c {Q:D→En→Prop}(h:Q d Γ):mC d Γ Q:=h
theorem aOD {Q:D→En→Prop}(h0:Γ[i]?=some (.val d))(h:Q d Γ):aM i Γ Q:=by
 unfold aM;rw[h0];exact h
theorem aR0 {f:Int→Int→D}{Q:D→En→Prop}(h:ma Γ fun x Γ1=>mb Γ1 fun y Γ2=>match x,y with|.int i,.int j=>Q (f i j) Γ2|_,_=>False):mI0 f ma mb Γ Q:=h
theorem i_I {C:Int→Int→Prop}{f:Int→Int→D}{Q:D→En→Prop}(h:ma Γ fun x Γ1=>mb Γ1 fun y Γ2=>match x,y with|.int i,.int j=>C i j∧Q (f i j) Γ2|_,_=>False):mI C f ma mb Γ Q:=h
theorem i_U {f:Int→D}{Q:D→En→Prop}(h:ma Γ fun x Γ1=>match x with|.int i=>Q (f i) Γ1|_=>False):mU f ma Γ Q:=h
theorem aOB {Q:D→En→Prop}(h:ma Γ fun x Γ1=>match x with|.int i=>Q (.int (if i<0 then -i else i)) Γ1|_=>False):aH2 ma Γ Q:=h
theorem aQR {Q:D→En→Prop}(h:ma Γ fun x Γ1=>mb Γ1 fun y Γ2=>Good x∧Good y∧Q (.bool (PyData.eqv x y)) Γ2):mEq ma mb Γ Q:=h
theorem aQT {Q:D→En→Prop}(h:ma Γ fun x Γ1=>mb Γ1 fun y Γ2=>Good x∧Good y∧Q (.bool (!PyData.eqv x y)) Γ2):mNe ma mb Γ Q:=h
theorem aO2 {Q:D→En→Prop}(h:ma Γ fun x Γ1=>Q (.bool (isN x)) Γ1):aF3 ma Γ Q:=h
theorem aKY {Q:D→En→Prop}(h:ma Γ fun x Γ1=>Q (.bool (!isN x)) Γ1):a0A ma Γ Q:=h
theorem aMR {Q:D→En→Prop}(h:ma Γ fun x Γ1=>match x with|.bool c=>if c=true then mb Γ1 Q else Q (.bool false) Γ1|_=>False):aBA ma mb Γ Q:=h
theorem aP9 {Q:D→En→Prop}(h:ma Γ fun x Γ1=>match x with|.bool c=>if c=true then Q (.bool true) Γ1 else mb Γ1 Q|_=>False):aPI ma mb Γ Q:=h
theorem aM6 {Q:D→En→Prop}(h:ma Γ fun x Γ1=>match x with|.bool c=>Q (.bool (!c)) Γ1|_=>False):aF4 ma Γ Q:=h
theorem aPK {Q:Bool→En→Prop}(h:ma Γ fun x Γ1=>match x with|.bool c=>Q c Γ1|_=>False):dM ma Γ Q:=h
theorem aO5 {Q:Bool→En→Prop}(h:ta Γ fun c Γ1=>if c=true then tb Γ1 Q else Q false Γ1):a6C ta tb Γ Q:=h
theorem aR2 {Q:Bool→En→Prop}(h:ta Γ fun c Γ1=>if c=true then Q true Γ1 else tb Γ1 Q):mOr ta tb Γ Q:=h
theorem aNI {Q:Bool→En→Prop}(h:ta Γ fun c Γ1=>Q (!c) Γ1):aB5 ta Γ Q:=h
theorem aOG {Q:D→En→Prop}(h:ta Γ fun c Γ1=>if c=true then ma Γ1 Q else mb Γ1 Q):aO7 ta ma mb Γ Q:=h
theorem aOA {Q:Rv→En→Prop}(h:ta Γ fun c Γ1=>if c=true then oa Γ1 Q else ob Γ1 Q):aOC ta oa ob Γ Q:=h
theorem aNV {Q:List D→En→Prop}(h:Q [] Γ):kJ Γ Q:=h
theorem aMB {Q:List D→En→Prop}(h:ma Γ fun x Γ1=>md Γ1 fun xs Γ2=>Q (x::xs) Γ2):bN ma md Γ Q:=h
theorem aLN {Q:List Sl→En→Prop}(h:Q [] Γ):cG Γ Q:=h
theorem aMQ {Q:List Sl→En→Prop}(h:ma Γ fun x Γ1=>aa Γ1 fun xs Γ2=>Q (.val x::xs) Γ2):bC ma aa Γ Q:=h
theorem aPE {Q:D→En→Prop}(h:md Γ fun ds Γ1=>ds.length≤1000∧Q (.tuple ds) Γ1):wU md Γ Q:=h
theorem aND {Q:Rv→En→Prop}(h:md Γ fun ds Γ1=>ds.length≤1000∧Q (.own ds) Γ1):a6B md Γ Q:=h
theorem aQX {Q:D→En→Prop}(h:ma Γ fun x Γ1=>mb Γ1 fun y Γ2=>oQ (ixD x y) fun d=>Q d Γ2):mIx ma mb Γ Q:=h
theorem aNN {Q:D→En→Prop}(h:ma Γ fun x Γ1=>oQ (aJ5 x) fun d=>Q d Γ1):a6Z ma Γ Q:=h
theorem aOU {s:String}{Q:D→En→Prop}(h:ma Γ fun x Γ1=>Q (.bool (aGI (rQ x) s)) Γ1):aMT s ma Γ Q:=h
theorem aOR {Q:D→En→Prop}(h:oa Γ fun rv Γ1=>nbQ rv (Q rv.d Γ1)):cD oa Γ Q:=h
theorem aOF {Q:Rv→En→Prop}(h:ma Γ fun d Γ1=>Q (.val d) Γ1):cH ma Γ Q:=h
theorem aMK {Q:Rv→En→Prop}{ds:List D}(h0:Γ[i]?=some (.own ds))(h:Q (.own ds) (Γ.set i .no)):a4J i Γ Q:=by
 unfold a4J;rw[h0];exact h
theorem aL1 {f:Fm}{Q:Rv→En→Prop}(h:aa Γ fun as Γ1=>as.length=n∧f as fun rv=>Q rv Γ1):bO n f aa Γ Q:=h
theorem aGO {Q:Rv→En→Prop}(h:ma Γ fun x Γ1=>match wQ x with|some ds=>Q (.own ds) Γ1|none=>False):sW ma Γ Q:=h
theorem aOE {Q:Rv→En→Prop}(h:ma Γ fun x Γ1=>mp Γ1 fun lo Γ2=>mq Γ2 fun hi Γ3=>match x with|.list ds=>Q (.own (cutD ds lo hi)) Γ3|_=>False):aN3 ma mp mq Γ Q:=h
theorem aNC {Q:Option Int→En→Prop}(h:Q none Γ):pNo Γ Q:=h
theorem aOT {Q:Option Int→En→Prop}(h:ma Γ fun x Γ1=>match x with|.int i=>Q (some i) Γ1|_=>False):pSo ma Γ Q:=h
theorem aOH {Q:Rv→En→Prop}(h:ma Γ fun x Γ1=>mb Γ1 fun y Γ2=>match x,y with|.list ds,.list es=>ds.length+es.length≤1000∧Q (.own (ds++es)) Γ2|_,_=>False):aN8 ma mb Γ Q:=h
theorem aQL {neg:Bool}{Q:D→En→Prop}(h:ma Γ fun x Γ1=>mb Γ1 fun y Γ2=>match wQ y with|some ds=>Good x∧Goods ds∧Q (.bool (if neg then !(ds.any fun e=>PyData.eqv e x) else ds.any fun e=>PyData.eqv e x)) Γ2|none=>False):mIn neg ma mb Γ Q:=h
theorem aLH {Q:D→En→Prop}(h:ma (a3L Γ) fun d Γ1=>fG d=true∧Γ1=a3L Γ∧Q d Γ):aJO ma Γ Q:=h
theorem aHZ {Q:Bool→En→Prop}(h:ta (a3L Γ) fun b Γ1=>Γ1=a3L Γ∧Q b Γ):tE ta Γ Q:=h
theorem aJX {Q:Rv→En→Prop}(h:oa (a3L Γ) fun rv Γ1=>cI (match rv with|.val d=>[d]|.own ds=>ds|.box _=>[.list []])=true∧Γ1=a3L Γ∧Q rv Γ):a5X oa Γ Q:=h
theorem aNK {Q:List D→En→Prop}(h:ma Γ fun x Γ1=>match x with|.list ds=>Q ds Γ1|_=>False):aGH ma Γ Q:=h
theorem aNF {Q:List D→En→Prop}(h:ma Γ fun x Γ1=>match x with|.tuple ds=>Q ds Γ1|_=>False):aP3 ma Γ Q:=h
theorem aKN {Q:List D→En→Prop}(h:md Γ fun ds Γ1=>match ds with|[.int j] => -(2^62)≤j∧j<2^62∧Q (iB 0 j.toNat) Γ1|_=>False):a4Z md Γ Q:=h
theorem aMD {Q:List D→En→Prop}(h:md Γ fun ds Γ1=>match ds with|[.int i,.int j]=>(-(2^62)≤i∧i<2^62 ∧ -(2^62)≤j∧j<2^62)∧Q (iB i (j-i).toNat) Γ1|_=>False):aK1 md Γ Q:=h
theorem aQY {Q:En→Prop}(h:Q (Γ.set i (.val d))):gN i d Γ Q:=h
theorem aQS {Q:En→Prop}{ds:List D}(hl:ds.length=n)(h:gs ds Γ Q):gT n gs (.tuple ds) Γ Q:=⟨hl,h⟩
theorem aJE {Q:En→Prop}(h:Q Γ):aG9 [] Γ Q:=h
theorem aFN {Q:En→Prop}{ds:List D}(h:g d Γ fun Γ1=>gs ds Γ1 Q):zG g gs (d::ds) Γ Q:=h
theorem pU {k:Nat}{as:List Sl}{Q:Rv→Prop}(h:sa (as++List.replicate k .no) fun fl=>match fl with|.rt rv=>Q rv|.nx _=>Q (.val .none)|_=>False):mFn k sa as Q:=h
theorem cO {o:Option D}{k:D→Prop}(h0:o=some d)(h:k d):oQ o k:=by rw[h0]; exact h
structure KOk (I:En→Prop)(Q K:Fl→Prop):Prop where
 nx:∀ Γ,I Γ→K (.nx Γ)
 ct:∀ Γ,I Γ→K (.ct Γ)
 bk:∀ Γ,Q (.nx Γ)→K (.bk Γ)
 rt:∀ rv,Q (.rt rv)→K (.rt rv)
theorem yV {ds:List D}{Q:Fl→Prop}(I:Nat→En→Prop)(h0:I 0 Γ)(hs:∀ i d Γ K,ds[i]?=some d→I i Γ→KOk (I (i+1)) Q K→g d Γ fun Γ1=>sa Γ1 K)(he:∀ Γ,I ds.length Γ→Q (.nx Γ)):forL g sa ds Γ Q:=by
 have aux:∀(es:List D) (k:Nat) (Γ:En),(∀ i d,es[i]?=some d→ds[k+i]?=some d)→k+es.length=ds.length→I k Γ→forL g sa es Γ Q:=by
  intro es
  induction es with
  | nil=>intro k Γ _ hl hi; exact he Γ (by rw[← hl]; simpa using hi)
  | cons d es ih=>
   intro k Γ hd hl hi;have next:∀ Γ2,I (k+1) Γ2→forL g sa es Γ2 Q:=fun Γ2 h3=>ih (k+1) Γ2 (fun i e he'=>by
    have:=hd (i+1) e (by simpa using he');rw[show k+1+i=k+(i+1) by omega]; exact this) (by rw[← hl,List.length_cons]; omega) h3
   exact hs k d Γ _ (by simpa using hd 0 d rfl) hi ⟨next,next,fun _ h=>h,fun _ h=>h⟩
 exact aux ds 0 Γ (fun i d h=>by simpa using h) (by simp) h0
theorem jP {lo:Int}{n:Nat}{Q:Fl→Prop}(I:Nat→En→Prop)(h0:I 0 Γ)(hs:∀ i Γ K,i<n→I i Γ→KOk (I (i+1)) Q K→g (.int (lo+i)) Γ fun Γ1=>sa Γ1 K)(he:∀ Γ,I n Γ→Q (.nx Γ)):forL g sa (iB lo n) Γ Q:=by
 have hl:(iB lo n).length=n:=by simp[iB]
 refine yV I h0 (fun i d Γ K e hi hk=>?_) (by rw[hl]; exact he);have hi':i<n:=by have:=(List.getElem?_eq_some_iff.mp e).1; omega
 unfold iB at e;rw[List.getElem?_map,List.getElem?_range hi'] at e
 cases e
 exact hs i Γ K hi' hi hk
theorem pH {Q:Fl→Prop}(I:Nat→En→Prop)(m0:Nat)(h0:I m0 Γ)(hs:∀ m Γ,I m Γ→ta Γ fun k Γ1=>if k=true then sa Γ1 fun fl=>match fl with
  | .nx Γ2=>∃ n',n'<m∧I n' Γ2
  | .ct Γ2=>∃ n',n'<m∧I n' Γ2
  | .bk Γ2=>Q (.nx Γ2)
  | .rt rv=>Q (.rt rv)
 else Q (.nx Γ1)):uQ ta sa Γ Q:=⟨I,⟨m0,h0⟩,hs⟩
end
theorem aOZ {A B:Prop}(h:B):if (!true)=true then A else B:=xX h
theorem aNG {A B:Prop}(h:A):if (!false)=true then A else B:=a1K h
theorem good_int (i:Int):Good (.int i):=⟨rfl,by show 0≤60; decide⟩
theorem aJR (i j:Int):PyData.eqv (.int i) (.int j)=decide (i=j):=by
 show(i==j)=_
 exact Bool.beq_eq_decide_eq i j
section
variable {P:D→Prop}{Γ:En}{Q:D→En→Prop}
end
def Gd (n:Nat)(d:D):Prop:=d.canLay0=true∧d.depth≤n
theorem Gd.good {n:Nat}{d:D}(h:Gd n d)(hn:n≤60:=by decide):Good d:=⟨h.1,Nat.le_trans h.2 hn⟩
theorem Gd.mono {n m:Nat}{d:D}(h:Gd n d)(hn:n≤m:=by decide):Gd m d:=⟨h.1,Nat.le_trans h.2 hn⟩
theorem gds {n:Nat}:∀{ds:List D},(∀ d∈ds,Gd n d)→PyData.canLayAll0 ds=true∧PyData.depthAll ds≤n
 | [],_=>⟨rfl,Nat.zero_le _⟩
 | d::ds,h=>by
  have h1:=h d List.mem_cons_self;have h2:=gds (ds:=ds) fun e he=>h e (List.mem_cons_of_mem _ he);refine⟨by show(d.canLay0&&PyData.canLayAll0 ds)=true; rw[h1.1,h2.1]; rfl,?_⟩;show max d.depth (PyData.depthAll ds)≤n;exact Nat.max_le.mpr ⟨h1.2,h2.2⟩
theorem a5N {n:Nat}{ds:List D}(h:∀ d∈ds,Gd n d):Gd (n+1) (.tuple ds):=⟨(gds h).1,Nat.succ_le_succ (gds h).2⟩
theorem uH {n:Nat}{ds:List D}(h:∀ d∈ds,Gd n d):Gd (n+1) (.list ds):=⟨(gds h).1,Nat.succ_le_succ (gds h).2⟩
theorem a9N {n:Nat}{ds:List D}(h:∀ d∈ds,Gd n d)(hn:n≤59:=by decide):Goods ds:=⟨(gds h).1,Nat.le_trans (gds h).2 hn⟩
theorem oY (i:Int):Gd 0 (.int i):=⟨rfl,Nat.le_refl _⟩
theorem gd_none:Gd 0 .none:=⟨rfl,Nat.le_refl _⟩
theorem aMO (s:Str)(h:(PyData.str s).canLay0=true:=by decide +kernel):Gd 0 (.str s):=⟨h,Nat.le_refl _⟩
theorem good_str (s:Str)(h:(PyData.str s).canLay0=true:=by decide +kernel):Good (.str s):=(aMO s h).good
theorem a8K (q:Rat):Gd 1 (bU q):=a5N (n:=0) fun d h=>by
 rcases List.mem_cons.mp h with rfl|h
 ·exact oY _
 ·rw[List.mem_singleton.mp h]; exact oY _
theorem aIU (l:Rat×Rat):Gd 2 (o5 l):=a5N (n:=1) fun d h=>by
 rcases List.mem_cons.mp h with rfl|h
 ·exact a8K _
 ·rw[List.mem_singleton.mp h]; exact a8K _
theorem aQO {n:Nat}{a b:D}(ha:Gd n a)(hb:Gd n b):Gd (n+1) (.tuple [a,b]):=a5N fun d h=>by
 rcases List.mem_cons.mp h with rfl|h
 ·exact ha
 ·rw[List.mem_singleton.mp h]; exact hb
theorem xM {d:D}(h:Good d):PyData.eqv d d=true:=SeqAt.eqv_refl d h.lay
theorem isT {d:D}{n:String}{A B:Prop}(h:aGI (rQ d) n=true)(a:A):if aGI (rQ d) n=true then A else B:=by rw[h]; exact a1K a
theorem aQU {d:D}{n:String}{A B:Prop}(h:aGI (rQ d) n=true)(b:B):if (!aGI (rQ d) n)=true then A else B:=by rw[h]; exact xX b
theorem aIT (q:Rat):ixD (bU q) (.int 0)=some (.int q.num):=rfl
theorem aJ4 (q:Rat):ixD (bU q) (.int 1)=some (.int (q.den:Int)):=rfl
theorem aGP (l:Rat×Rat):ixD (o5 l) (.int 0)=some (bU l.1):=rfl
theorem aG7 (l:Rat×Rat):ixD (o5 l) (.int 1)=some (bU l.2):=rfl
end L2.VS
namespace L2
open PySem PySem.Spec PyProof.Rows
def a6H (env:Env):List (Str×NameKind)→List (Str×Addr)→List (Str×Addr)
 | [],cs=>cs
 | (n,k)::r,cs=>if (k==.free)=true then a6H env r ((n,(env.cells.lookup n).getD 0)::cs) else a6H env r cs
theorem aBB {env:Env}:∀(names:List (Str×NameKind)) (cs:List (Str×Addr)),(∀ y∈names,y.2=.free→∃ c,env.cells.lookup y.1=some c) →
  (forIn names cs fun(x:Str×NameKind) (r:List (Str×Addr))=>(do
   if (x.2==NameKind.free)=true then do
    let a←cellOf env x.1
    pure (ForInStep.yield ((x.1,a)::r))
   else pure (ForInStep.yield r):Sem (ForInStep (List (Str×Addr)))))=pure (a6H env names cs)
 | [],cs,_=>rfl
 | (n,k)::r,cs,h=>by
  have ih:=fun cs=>aBB (env:=env) r cs fun y hy=>h y (List.mem_cons_of_mem _ hy);rw[List.forIn_cons];unfold a6H
  by_cases hk:(k==NameKind.free)=true
  ·obtain⟨c,hc⟩:=h (n,k) List.mem_cons_self (by simpa using hk);have hc':env.cells.lookup n=some c:=hc;have e:cellOf env n=pure c:=by unfold cellOf; rw[hc']
   simp only[hk,if_true,e,hc',Option.getD_some];simp only[pure_bind];exact ih _
  ·have hk':(k==NameKind.free)=false:=by simpa using hk
   simp only[hk',Bool.false_eq_true,if_false,pure_bind];exact ih _
theorem aBY {scope:Scope}{env:Env}(h:∀ y∈scope.names,y.2=.free→∃ c,env.cells.lookup y.1=some c):closureFor scope env=pure (a6H env scope.names []):=by
 have e:=aBB (env:=env) scope.names [] h;unfold closureFor;rw[← e];simp only[bind_pure]
theorem uI {env:Env}:∀(names:List (Str×NameKind)) (cs:List (Str×Addr)),(∀ y∈names,y.2=.free→∃ c,env.cells.lookup y.1=some c)→(∀ x c,cs.lookup x=some c→env.cells.lookup x=some c) →
  ∀ x c,(a6H env names cs).lookup x=some c→env.cells.lookup x=some c
 | [],cs,_,h=>h
 | (n,k)::r,cs,hf,h=>by
  have ih:=fun cs=>uI (env:=env) r cs fun y hy=>hf y (List.mem_cons_of_mem _ hy);unfold a6H
  by_cases hk:(k==NameKind.free)=true
  ·rw[if_pos hk];obtain⟨c0,hc⟩:=hf (n,k) List.mem_cons_self (by simpa using hk);have hc':env.cells.lookup n=some c0:=hc;refine ih _ fun x c e=>?_;rw[List.lookup_cons] at e
   cases hx:x==n with
   | true=>
    rw[hx,hc'] at e;have:x=n:=by simpa using hx
    rw[this,hc'];exact e
   | false=>rw[hx] at e; exact h x c e
  ·rw[if_neg hk];exact ih _ h
theorem xZ {env:Env}:∀(names:List (Str×NameKind)) (cs:List (Str×Addr)) (x:Str),((∃ k,(x,k)∈names∧k=.free)∨(cs.lookup x).isSome=true)→((a6H env names cs).lookup x).isSome=true
 | [],cs,x,h=>by
  rcases h with⟨k,hm,_⟩|h
  ·cases hm
  ·exact h
 | (n,k)::r,cs,x,h=>by
  unfold a6H
  by_cases hk:(k==NameKind.free)=true
  ·rw[if_pos hk];refine xZ r _ x ?_
   by_cases hx:x=n
   ·right
    rw[List.lookup_cons,hx];simp
   ·rcases h with⟨k',hm,hf⟩|h
    ·rcases List.mem_cons.mp hm with e|hm
     ·cases e; exact absurd rfl hx
     ·exact .inl ⟨k',hm,hf⟩
    ·right
     rw[List.lookup_cons];have:(x==n)=false:=by simpa using hx
     rw[this];exact h
  ·rw[if_neg hk];refine xZ r _ x ?_;rcases h with⟨k',hm,hf⟩|h
   ·rcases List.mem_cons.mp hm with e|hm
    ·cases e; subst hf; exact absurd rfl hk
    ·exact .inl ⟨k',hm,hf⟩
   ·exact .inr h
theorem pC {env:Env}:∀{names:List (Str×NameKind)} {x:Str},(∀ y∈names,y.2≠.cell) →
    ((names.map fun(n,k)=>if (k==NameKind.free&&env.scope.kind==.function&&env.kindOf n==some .cell) then(n,NameKind.cell) else(n,k)).lookup x=some .cell ∨
     (names.map fun(n,k)=>if (k==NameKind.free&&env.scope.kind==.function&&env.kindOf n==some .cell) then(n,NameKind.cell) else(n,k)).lookup x=some .free)→(x,NameKind.free)∈names
  | [],_,_,h=>by simp at h
  | (n,k)::r,x,hc,h=>by
    have ih:=@pC env r x (fun y hy=>hc y (List.mem_cons_of_mem _ hy));have hk:k≠.cell:=hc (n,k) List.mem_cons_self;rw[List.map_cons] at h
    by_cases hf:(k==NameKind.free&&env.scope.kind==.function&&env.kindOf n==some .cell)=true
    · have kf:k=.free:=by
        have:=(Bool.and_eq_true _ _▸hf:_∧_).1;have:=(Bool.and_eq_true _ _▸this:_∧_).1;simpa using this
      simp only[hf,if_true] at h;rw[List.lookup_cons] at h
      cases hx:x==n with
      | true=>
        have:x=n:=by simpa using hx
        subst this; subst kf;exact List.mem_cons_self
      | false=>rw[hx] at h; exact List.mem_cons_of_mem _ (ih h)
    · simp only[hf,Bool.false_eq_true,if_false] at h;rw[List.lookup_cons] at h
      cases hx:x==n with
      | true=>
        have:x=n:=by simpa using hx
        subst this;rw[hx] at h;rcases h with h|h
        · exact absurd (Option.some.inj h) hk
        · have:k=.free:=Option.some.inj h;subst this;exact List.mem_cons_self
      | false=>rw[hx] at h; exact List.mem_cons_of_mem _ (ih h)
def lB (X:Cx)(N:List Str)(scope:Scope)(C:Addr)(s₀:Shared)(H₀:Hp)(ex:List Addr):Cx where
 prog:=X.prog
 w:=X.w
 K:=X.K
 mg:=X.mg
 base:=X.base
 A:=X.A
 N:=N
 s₀:=s₀
 H₀:=H₀
 env:=compEnvC scope (a6H X.env scope.names []) C X.env
 outer:=X.stack
 stack:=X.stack
 ex:=ex
 fn:=fun _=>false
 calm:=X.calm
 pn:=[]
 xe:=fun _ _=>False
def blk (nt:Nat)(fv:List Nat)(σ:St):St:=List.replicate nt none++fv.map fun j=>(σ[j]?).getD none
def aJ7 (nt:Nat)(fv:List Nat)(wi:TI)(g:TG)(ti:TT)(te:TE):TE:=fun σ H Q=>wi σ H fun J H1=>∃ W:Nat→Nat→List V→Hp→Prop,(∃ m,W 0 m [] H1)∧∀ i m ys H,W i m ys H →
 (J.stop i H∧ys.length≤sizeLine∧∀ p,H p=none→Q (.ref p) (upd H p (.lst ys))) ∨
 (J.go i H∧ys.length≤sizeLine∧∀ x H',J.yld i H x H'→g x (blk nt fv σ) H' fun σ2 H2=>(∀ i,nt≤i→σ2[i]?=(blk nt fv σ)[i]?)∧ti σ2 H2 fun b H3=>if b=true then te σ2 H3 fun v H4=>∃ m',m'<m∧W (i+1) m' (ys++[v]) H4 else ∃ m',m'<m∧W (i+1) m' ys H3)
def PTs (X:Cx)(cs:List Expr)(t:TT):Prop:=
 ∀(pins:List (Addr×Obj)) (s:Shared) (σ:St) (H:Hp) (Q:Bool→Hp→Prop),Inv X pins σ H s→t σ H Q →
  wpAny (model X.prog X.w) X.A (forIn cs true fun c r=>if r=true then do let ok←isTrue c X.env (eval c X.env); pure (ForInStep.yield ok) else pure (ForInStep.yield r)) (TP X pins σ Q) X.xe s
def aMW:TT:=fun _ H Q=>Q true H
theorem v9 {X:Cx}:PTs X [] aMW:=fun _ _ _ H _ I h=>wpAny_tests_nil ⟨H,I,h⟩
structure BlkOk (X:Cx)(N:List Str)(scope:Scope)(nt:Nat)(fv:List Nat):Prop where
 kind:scope.kind=.function
 ncell:∀ y∈scope.names,y.2≠.cell
 names:∀ y∈scope.names,y.2=.local→scope.names.lookup y.1=some .local
 free:∀ y∈scope.names,y.2=.free→X.env.kindOf y.1=some .cell
 len:N.length=nt+fv.length
 fv:∀ i x,N[nt+i]?=some x→∃ j,fv[i]?=some j∧X.N[j]?=some x∧X.env.kindOf x=some .cell∧(relabel scope X.env).names.lookup x=some .cell
section
variable {X:Cx}{N:List Str}{scope:Scope}{nt:Nat}{fv:List Nat}{pins:List (Addr×Obj)}{σ:St}{H:Hp}{s:Shared}
theorem BlkOk.cells (B:BlkOk X N scope nt fv)(I:Inv X pins σ H s):∀ y∈scope.names,y.2=.free→∃ c,X.env.cells.lookup y.1=some c:=fun y hy hf=>I.ok.has y.1 (.inl (B.free y hy hf))
theorem aLR (B:BlkOk X N scope nt fv)(I:Inv X pins σ H s){C:Addr}{fp:List Addr}(hC:s.heap.objs.size≤C)(hf:∀ b∈fp,aB3 X pins H b)(hlt:∀ b∈fp,b<s.heap.objs.size) :
  (lB X N scope C s H fp).Ok:=by
 have sub:∀ x c,(a6H X.env scope.names []).lookup x=some c→X.env.cells.lookup x=some c:=uI _ _ (B.cells I) (fun x c e=>by simp at e);refine⟨I.ok.mod,B.kind,I.ok.glob,I.ok.blt,hC,fun x y c e1 e2=>I.ok.inj x y c (sub x c e1) (sub y c e2),fun x hx=>?_,fun x c h=>absurd h (by show ¬(false=true); decide),I.ok.hd,I.ok.frames,.inl rfl,fun b hb=>⟨?_,fun x c e=>?_⟩,I.bs,Nat.le_trans I.ok.bsz I.sz,fun b o e hb=>?_,fun b hb z=>?_,I.stack,I.stkFree⟩
 ·have hm:(x,NameKind.free)∈scope.names:=pC B.ncell hx;exact Option.isSome_iff_exists.mp (xZ scope.names [] x (.inl ⟨_,hm,rfl⟩))
 ·exact Nat.ne_of_lt (Nat.lt_of_lt_of_le (hlt b hb) hC)
 ·exact(hf b hb).2.2.2.2.1 x c (sub x c e)
 ·rcases(hf b hb).2.2.2.1 with z|z
  ·exact I.ok.noex b o e z
  ·exact absurd (Nat.lt_of_lt_of_le (Heap.lt_size e) (Nat.le_trans I.ok.bsz z)) (Nat.lt_irrefl _)
 ·rcases List.mem_cons.mp (I.stkSub b z) with z|z
  ·exact(hf b hb).2.1 z
  ·exact(hf b hb).2.2.1 z
theorem aEF (B:BlkOk X N scope nt fv)(I:Inv X pins σ H s){C:Addr}{fp:List Addr}(hC:s.heap.objs.size≤C)(hf:∀ b∈fp,aB3 X pins H b)(hlt:∀ b∈fp,b<s.heap.objs.size){h':Heap}{tk:Nat}
  (k:∀ b o,s.heap.get? b=some o→h'.get? b=some o) (hn:∃ m,h'.Ns C m):Inv (lB X N scope C s H fp) [] (blk nt fv σ) H { s with heap:=h',toks:=tk }:=by
 have sub:∀ x c,(a6H X.env scope.names []).lookup x=some c→X.env.cells.lookup x=some c:=uI _ _ (B.cells I) (fun x c e=>by simp at e);obtain⟨m,hn⟩:=hn;refine⟨aLR B I hC hf hlt,rfl,I.bare,Un.kept k,⟨m,hn,fun i x v e1 e2 e3=>?_⟩,fun x c e=>?_,I.hok.fresh hC,fun x c e=>I.freeC x c (sub x c e),fun p hp=>(nomatch hp),I.hok.kept k,?_⟩
 ·have hi:nt≤i:=by
   refine Nat.le_of_not_lt fun hlt=>?_;unfold blk at e2;rw[List.getElem?_append_left (by simpa using hlt),List.getElem?_replicate] at e2
   split at e2<;>cases e2
  obtain⟨j,hj⟩:∃ j,i=nt+j:=⟨i-nt,by omega⟩;subst hj;obtain⟨o,f1,f2,f3,f4⟩:=B.fv j x e1;unfold blk at e2;rw[List.getElem?_append_right (by simp),List.length_replicate,Nat.add_sub_cancel_left,List.getElem?_map,f1] at e2;have e2':(σ[o]?).getD none=some v:=Option.some.inj e2;have e4:σ[o]?=some (some v):=by
   cases q:σ[o]? with
   | none=>rw[q] at e2'; cases e2'
   | some z=>rw[q] at e2'; exact congrArg some e2'
  obtain⟨m0,hn0,hl⟩:=I.loc;obtain⟨u,ru,lk⟩:=hl o x v f2 e4 (.inr (.inl f3));refine⟨u,ru,.inr ⟨.inl f4,?_⟩⟩;rcases lk with⟨z,_⟩|⟨_,c,hc,hcell⟩
  ·rw[f3] at z; cases z
  ·have hm:(x,NameKind.free)∈scope.names:=pC B.ncell (.inl f4);obtain⟨c',hc'⟩:=Option.isSome_iff_exists.mp (xZ (env:=X.env) scope.names [] x (.inl ⟨_,hm,rfl⟩));have:=sub x c' hc';rw[hc] at this
   cases this
   obtain⟨oc,h1,h2⟩:=hcell;exact⟨c,hc',oc,k c oc h1,h2⟩
 ·obtain⟨v,oc,h1,h2⟩:=I.cell x c (sub x c e);exact⟨v,oc,k c oc h1,h2⟩
 ·show(blk nt fv σ).length=N.length
  unfold blk;rw[List.length_append,List.length_replicate,List.length_map];exact B.len.symm
end
section
variable {prog:Program}{w:World}{A:Around}{R:Result→Shared→Prop}{s:Shared}
theorem a5S {elt target iter:Expr}{ifs:List Expr}{scope:Scope}{pos:Pos}{it acc:Value}{env:Env}(I:Nat→Shared→Prop)
  (turn:∀ n s,I n s→wpAny (model prog w) A (pyNext it) (fun r s₁=>match r with
   | none=>R (.ok .next) s₁
   | some v=>wpAny (model prog w) A (letOwnedTupleGo target it v) (fun _ s₁'=>wpAny (model prog w) A (assign target env v) (fun _ s₂=>
     wpAny (model prog w) A (forIn ifs true fun c r=>if r=true then do let ok←isTrue c env (eval c env); pure (ForInStep.yield ok) else pure (ForInStep.yield r)) (fun ok s₃=>
      if ok=true then wpAny (model prog w) A (eval elt env) (fun x s₄=>
       wpAny (model prog w) A (call (.builtin "list.append") [acc,x]) (fun _ s₅=>∃ m,m<n∧I m s₅) (fun _ _=>False) s₄) (fun _ _=>False) s₃
      else ∃ m,m<n∧I m s₃) (fun _ _=>False) s₂) (fun _ _=>False) s₁') (fun _ _=>False) s₁) (fun _ _=>False) s)
  (n:Nat) (h:I n s) :
  codeAny (model prog w) A (.compLoop (.ListComp elt [⟨target,iter,ifs,0⟩] scope pos) 0 it acc env) R s:=by
 refine codeAny_loop rfl I (fun n s hI=>?_) n h;show wpAny _ A ((compTurn (.ListComp elt [⟨target,iter,ifs,0⟩] scope pos) 0 it acc env).onRaise (fun x=>do noteFrame x env; theTreesLotGoes x)) _ _ s;refine wpAny_noted ?_;rw[compTurn_list];refine wpAny_bind (wpAny_standAt (wpAny_bind (wpAny_mono (turn n s hI) (fun r s₁ h₁=>?_) fun _ _ f=>f.elim)))
 cases r with
 | none=>exact wpAny_pure h₁
 | some v=>
  refine wpAny_bind (wpAny_mono h₁ (fun _ s₁' h₁'=>?_) fun _ _ f=>f.elim);refine wpAny_bind (wpAny_mono h₁' (fun _ s₂ h₂=>wpAny_bind (wpAny_mono h₂ (fun ok s₃ h₃=>?_) fun _ _ f=>f.elim)) fun _ _ f=>f.elim)
  cases ok with
  | false=>exact wpAny_pure ⟨rfl,h₃⟩
  | true=>
   exact wpAny_bind (wpAny_bind (wpAny_mono h₃ (fun x s₄ h₄=>wpAny_bind (wpAny_mono h₄ (fun _ s₅ h₅=>wpAny_pure (wpAny_pure ⟨rfl,h₅⟩)) fun _ _ f=>f.elim)) fun _ _ f=>f.elim))
end
end L2
namespace L2
open PySem PySem.Spec PyProof.Rows
section
variable {X:Cx}{N:List Str}{scope:Scope}{nt:Nat}{fv:List Nat}{elt tg iter:Expr}{ifs:List Expr}{wi:TI}{g:TG}{ti:TT}{te:TE}{pos:Pos}
def yM (its:List Value)(n:Nat):Obj:={ cls:=.type "list", dict:=none,data:=.seq its.toArray n }
theorem a9J (hc:X.calm=true)(B:BlkOk X N scope nt fv)
  (hg:∀ C s₀ H₀ ex,PG (lB X N scope C s₀ H₀ ex) tg g) (ht:∀ C s₀ H₀ ex,PTs (lB X N scope C s₀ H₀ ex) ifs ti) (he:∀ C s₀ H₀ ex,PE (lB X N scope C s₀ H₀ ex) elt te)
  {pins:List (Addr×Obj)} {σ:St} {s2:Shared} {H2:Hp} {it:Addr} {fp:List Addr} {tn:Nat→Heap→Prop} {J:It} (I2:Inv X pins σ H2 s2) (T:Turn X.prog X.w X.K tg J fp it tn) (st2:tn 0 s2.heap) (f2:∀ b∈fp,aB3 X pins H2 b)
  {W:Nat→Nat→List V→Hp→Prop} {m0:Nat} (w0:W 0 m0 [] H2) {Q:VK}
  (turn:∀ i m ys H,W i m ys H→(J.stop i H∧ys.length≤sizeLine∧∀ p,H p=none→Q (.ref p) (upd H p (.lst ys))) ∨
   (J.go i H∧ys.length≤sizeLine∧∀ x H',J.yld i H x H'→g x (blk nt fv σ) H' fun σ2 H2=>(∀ i,nt≤i→σ2[i]?=(blk nt fv σ)[i]?)∧ti σ2 H2 fun b H3=>if b=true then te σ2 H3 fun v H4=>∃ m',m'<m∧W (i+1) m' (ys++[v]) H4 else ∃ m',m'<m∧W (i+1) m' ys H3))
  {RR:Value→Addr→Result→Shared→Prop}
  (hR:∀ D C s',s2.heap.objs.size≤C→(∃ m,s'.heap.Ns C m)→(∀ h',Heap.SameBut C s'.heap h'→∃ H',Inv X pins σ H' { s' with heap:=h' }∧H' C=none∧Q (.ref D) H')→RR (.ref D) C (.ok .next) s') :
  wpAny (model X.prog X.w) X.A (newList []) (fun acc s₃=>wpAny (model X.prog X.w) X.A (newFunctionEnv scope X.env.globals (a6H X.env scope.names []) [] X.env.qual none .none (some X.env)) (fun cenv s₄=>
   codeAny (model X.prog X.w) X.A (.compStart (.ListComp elt [⟨tg,iter,ifs,0⟩] scope pos) 0 (.ref it) acc { cenv with scope:=relabel scope X.env }) (RR acc cenv.locals) s₄) X.xe s₃) X.xe s2:=by
 refine wpAny_newObj_type (wpAny_newFunctionEnv B.ncell (by intro y hy; simp at hy) (fun h₁ hns₁ hsb₁=>?_) B.kind);dsimp only at hns₁ hsb₁ ⊢;generalize hH2:s2.heap.push { cls:=.type "list", dict:=none,data:=.seq ([]:List Value).toArray }=Hh at hns₁ hsb₁ ⊢;have hC:Hh.objs.size=s2.heap.objs.size+1:=by rw[← hH2,Heap.size_push]
 have hDC:s2.heap.objs.size≠Hh.objs.size:=by rw[hC]; exact Nat.ne_of_lt (Nat.lt_succ_self _)
 have hCle:s2.heap.objs.size≤Hh.objs.size:=by rw[hC]; exact Nat.le_succ _
 have below:∀ b,b<s2.heap.objs.size→b≠Hh.objs.size∧b≠s2.heap.objs.size:=fun b hb=>⟨by rw[hC]; exact Nat.ne_of_lt (Nat.lt_succ_of_lt hb),Nat.ne_of_lt hb⟩;have old:∀ b o,s2.heap.get? b=some o→h₁.get? b=some o:=fun b o e=>hsb₁.extBut b o (below b (Heap.lt_size e)).1 (Heap.get?_push_of_some _ (hH2▸Heap.get?_push_of_some _ e));have hacc:h₁.get? s2.heap.objs.size=some (yM [] 0):=hsb₁.extBut _ _ hDC (Heap.get?_push_of_some _ (hH2▸Heap.get?_push_size _ rfl));have flt:∀ b∈fp,b<s2.heap.objs.size:=fun b hb=>by obtain⟨o,e,_⟩:=T.obj 0 _ st2 b hb; exact Heap.lt_size e
 have fresh:∀ a,s2.heap.objs.size≤a→s2.heap.get? a=none:=fun a ha=>by
  cases e:s2.heap.get? a with
  | none=>rfl
  | some o'=>exact absurd (Heap.lt_size e) (Nat.not_lt.mpr ha)
 have ftk:∀{H':Hp} {pl:List (Addr×Obj)},(∀ b∈fp,H' b=none)→(∀ p∈pl,p.1∉fp)→∀ b∈fp,aB3 (lB X N scope Hh.objs.size s2 H2 fp) pl H' b:=fun{H' pl} hn hp b hb=>
  ⟨hn b hb,(below b (flt b hb)).1,fun z=>by
   rcases List.mem_cons.mp (I2.stkSub b z) with z|z
   ·exact(f2 b hb).2.1 z
   ·exact(f2 b hb).2.2.1 z,.inl hb,fun x c e=>(f2 b hb).2.2.2.2.1 x c (uI _ _ (B.cells I2) (fun x c e=>by simp at e) x c e),fun p hp' z=>hp p hp' (z▸hb)⟩
 have Dfp:s2.heap.objs.size∉fp:=fun hm=>Nat.lt_irrefl _ (flt _ hm);have Dfs:s2.heap.objs.size∉frs X.stack:=fun z=>by
  rcases List.mem_cons.mp (I2.stkSub _ z) with z|z
  ·exact Nat.lt_irrefl _ (z▸I2.lt)
  ·exact I2.nofs (Nat.le_refl _) z
 have Dcell:∀ x c,(a6H X.env scope.names []).lookup x=some c→c≠s2.heap.objs.size:=fun x c e z=>by
  obtain⟨v,q⟩:=I2.cell x c (uI _ _ (B.cells I2) (fun x c e=>by simp at e) x c e);exact Nat.lt_irrefl _ (z▸q.lt)
 have Iblk:Inv (lB X N scope Hh.objs.size s2 H2 fp) [] (blk nt fv σ) H2 { s2 with heap:=h₁,toks:=s2.toks+([]:List (Str×Value)).length }:=aEF B I2 hCle f2 flt old ⟨_,hns₁⟩;have pinD:∀{s':Shared} {H':Hp} {σ':St} {its:List Value} {n:Nat} {pl:List (Addr×Obj)},Inv (lB X N scope Hh.objs.size s2 H2 fp) pl σ' H' s'→s'.heap.get? s2.heap.objs.size=some (yM its n)→H' s2.heap.objs.size=none →
   Inv (lB X N scope Hh.objs.size s2 H2 fp) [(s2.heap.objs.size,yM its n)] σ' H' s':=fun I e hn=>I.pins_of fun p hp=>by
  rw[List.mem_singleton.mp hp];exact⟨e,hn,hDC,Dfs,fun v z=>by cases z⟩
 have loop:∀ s₃:Shared,s₃={ s2 with heap:=h₁,toks:=s2.toks+([]:List (Str×Value)).length } →
   codeAny (model X.prog X.w) X.A (.compLoop (.ListComp elt [⟨tg,iter,ifs,0⟩] scope pos) 0 (.ref it) (.ref s2.heap.objs.size) (compEnvC scope (a6H X.env scope.names []) Hh.objs.size X.env)) (RR (.ref s2.heap.objs.size) Hh.objs.size) s₃:=by
  rintro s₃ rfl;refine a5S (fun n s'=>∃ i ys its k H',Inv (lB X N scope Hh.objs.size s2 H2 fp) [(s2.heap.objs.size,yM its k)] (blk nt fv σ) H' s'∧tn i s'.heap∧(∀ b∈fp,H' b=none)∧W i n ys H'∧Vals ys its) ?_ m0
   ⟨0,[],[],0,H2,pinD Iblk hacc (I2.hok.fresh (Nat.le_refl _)),T.keep _ _ _ st2 fun b _ o e=>old b o e,fun b hb=>(f2 b hb).1,w0,.nil⟩
  rintro n s' ⟨i,ys,its,k,H',I',st',fr',w',vs'⟩;obtain⟨pd,pn,_,_,_⟩:=I'.pin (s2.heap.objs.size,yM its k) (by exact List.mem_cons_self);have pfp:∀{o:Obj},∀ p∈[(s2.heap.objs.size,o)],p.1∉fp:=fun p hp=>by rw[List.mem_singleton.mp hp]; exact Dfp
  rcases turn i n ys H' w' with⟨stop,hz,q⟩|⟨go,hz,step⟩
  ·refine wpAny_mono (T.done (lB X N scope Hh.objs.size s2 H2 fp) rfl rfl rfl hc i _ s' _ H' (fun _ _=>False) I' (ftk fr' pfp) st' stop) (fun r s1 ⟨hr,I1⟩=>?_) fun _ _ f=>f;subst hr;obtain⟨pd1,pn1,_,_,_⟩:=I1.pin (s2.heap.objs.size,yM its k) (by exact List.mem_cons_self);obtain⟨m,hm,_⟩:=I1.loc;refine hR _ _ s1 hCle ⟨m,hm⟩ fun h' sb=>⟨upd H' s2.heap.objs.size (.lst ys),?_,by rw[b7 (Ne.symm hDC)]; exact I1.free,q _ pn1⟩;have keepT:∀ b u,H' b=some u→b≠Hh.objs.size:=fun b u e z=>by
    have e0:H' Hh.objs.size=none:=I1.free;rw[z,e0] at e
    cases e
   have kept:∀ b o,b≠Hh.objs.size→s1.heap.get? b=some o→h'.get? b=some o:=fun b o hb e=>sb.extBut b o hb e;have un:=I1.base;refine I2.call' (s':={ s1 with heap:=h' }) (ch:=fp) I1.os ⟨fun b o e hn hb hx=>?_,fun b o e hn hb hx=>?_,fun b o e hn hx=>?_,fun b o e hx=>?_,fun b xs e=>?_,fun b o u e=>?_,fun b ps e=>?_⟩ ?_ I1.bare fun b hb=>?_
   ·exact kept b o (below b (Heap.lt_size e)).1 (un.keep b o e hn hb hx)
   ·obtain⟨sl,e1⟩:=un.slot b o e hn hb hx;exact⟨sl,kept b _ (below b (Heap.lt_size e)).1 e1⟩
   ·rw[b7 (below b (Heap.lt_size e)).2];exact un.free b o e hn hx
   ·obtain⟨o',e1⟩:=un.there b o e hx;exact⟨o',kept b o' (below b (Heap.lt_size e)).1 e1⟩
   ·have e1:=un.tups b xs e;rw[b7 (bG e1 pn1)];exact e1
   ·have e1:=un.frzs b o u e;rw[b7 (bG e1 pn1)];exact e1
   ·obtain⟨mo,e1⟩:=un.tbls b ps e;exact⟨mo,by rw[b7 (bG e1 pn1)]; exact e1⟩
   ·intro b u e
    by_cases hb:b=s2.heap.objs.size
    ·subst hb;rw[bM] at e
     cases e
     exact⟨hz,its,k,vs',kept _ _ hDC pd1⟩
    ·rw[b7 hb] at e;refine(I1.hok b u e).stay (fun c v hc' q'=>kept c v ?_ q') (fun c q'=>by rw[b7 (bG q' pn1)]; exact q') fun c xs q'=>by rw[b7 (bG q' pn1)]; exact q'
     rcases hc' with z|z
     ·rw[z]; exact keepT b u e
     ·exact keepT c _ z
   ·exact⟨(f2 b hb).2.2.2.1,(f2 b hb).2.1,(f2 b hb).2.2.2.2.1,(f2 b hb).2.2.2.2.2⟩
  ·refine wpAny_mono (T.item (lB X N scope Hh.objs.size s2 H2 fp) rfl rfl rfl hc i _ s' _ H' (fun _ _=>False) I' (ftk fr' pfp) st' go) (fun r s3 ⟨u,hr,h3⟩=>?_) fun _ _ f=>f;subst hr;refine wpAny_mono h3 (fun _ s4 ⟨x,H4,I4,r4,y4,st4,fr4⟩=>?_) fun _ _ f=>f;have I4':=I4.pinned (ftk fr4 pfp) (T.obj _ _ st4);refine wpAny_mono (hg Hh.objs.size s2 H2 fp _ s4 _ H4 x u _ I4' r4 (step x H4 y4)) (fun _ s5 ⟨σ5,H5,I5,x5,q5⟩=>?_) fun _ _ f=>f;refine wpAny_mono (ht Hh.objs.size s2 H2 fp _ s5 σ5 H5 _ I5 q5) (fun b s6 ⟨H6,I6,q6⟩=>?_) fun _ _ f=>f;have weak:∀{s':Shared} {H':Hp} {pl:List (Addr×Obj)},Inv (lB X N scope Hh.objs.size s2 H2 fp) pl σ5 H' s'→Inv (lB X N scope Hh.objs.size s2 H2 fp) pl (blk nt fv σ) H' s':=by
    intro s' H' pl I;refine I.weak ((aEF B I2 hCle f2 flt old ⟨_,hns₁⟩ (tk:=0)).len.trans I.len.symm) fun j v e=>?_
    by_cases hj:nt≤j
    ·rw[x5 j hj]; exact e
    ·unfold blk at e;rw[List.getElem?_append_left (by simpa using hj),List.getElem?_replicate] at e
     split at e<;>cases e
   have pnew:∀{s':Shared} {H':Hp} {σ':St},Inv (lB X N scope Hh.objs.size s2 H2 fp) ([(s2.heap.objs.size,yM its k)]++a68 fp s4.heap) σ' H' s' →
     s'.heap.get? s2.heap.objs.size=some (yM its k)∧H' s2.heap.objs.size=none∧tn (i+1) s'.heap∧∀ b∈fp,H' b=none:=fun{s' H' σ'} I=>by
    obtain⟨p1,p2,_⟩:=I.pin (s2.heap.objs.size,yM its k) (by exact List.mem_cons_self);refine⟨p1,p2,T.keep _ _ _ st4 fun b hb o e=>(I.pin (b,o) (List.mem_append_right _ (List.mem_append_right _ (pZ hb e)))).1,fun b hb=>?_⟩;obtain⟨o,e,d⟩:=T.obj _ _ st4 b hb;exact(I.pin (b,o) (List.mem_append_right _ (List.mem_append_right _ (pZ hb e)))).2.1
   cases b with
   | false=>
    obtain⟨m',hm,w6⟩:=q6;obtain⟨p1,p2,p3,p4⟩:=pnew I6;exact⟨m',hm,i+1,ys,its,k,H6,weak (pinD I6 p1 p2),p3,p4,w6,vs'⟩
   | true=>
    refine wpAny_mono (he Hh.objs.size s2 H2 fp _ s6 σ5 H6 _ I6 q6) (fun v s7 ⟨y,H7,I7,r7,q7⟩=>?_) fun _ _ f=>f;obtain⟨m',hm,w7⟩:=q7;obtain⟨p1,p2,p3,p4⟩:=pnew I7;have hl:=vs'.length;refine wpAny_list_append_plain (l:=s2.heap.objs.size) (items:=its.toArray) ⟨k,p1⟩ (fun h8 pl8 sb8=>?_) (by rw[List.size_toArray]; omega);obtain⟨k8,e8⟩:=pl8;have e8':h8.get? s2.heap.objs.size=some (yM (its++[v]) k8):=by
     rw[e8];unfold yM;simp
    have I7':=(weak I7).pins_of (pins':=[]) fun p hp=>(nomatch hp);have I8:Inv (lB X N scope Hh.objs.size s2 H2 fp) [] (blk nt fv σ) H7 { s7 with heap:=h8 }:=I7'.turned (t':=s7.toks) (it:=s2.heap.objs.size) (fun b o hb e=>(sb8.2 b hb).trans e) p2 hDC (.inr (Nat.le_refl _)) Dcell (fun p hp=>(nomatch hp));exact⟨m',hm,i+1,ys++[y],its++[v],k8,H7,pinD I8 e8' p2,T.keep _ _ _ p3 fun b hb o e=>(sb8.2 b (fun z=>Dfp (z▸hb))).trans e,p4,w7,vs'.append (.cons r7 .nil)⟩
 exact codeAny_compStart_list (loop _ rfl) (T.self X.A 0 _ _ _ (T.keep _ _ _ st2 fun b _ o e=>old b o e) (loop _ rfl))
theorem tY (hc:X.calm=true)(B:BlkOk X N scope nt fv)(hi:PI X tg iter wi)
  (hg:∀ C s₀ H₀ ex,PG (lB X N scope C s₀ H₀ ex) tg g) (ht:∀ C s₀ H₀ ex,PTs (lB X N scope C s₀ H₀ ex) ifs ti) (he:∀ C s₀ H₀ ex,PE (lB X N scope C s₀ H₀ ex) elt te)
  (hs:∀ x,foldedSetIterable iter X.env x=pure x:=by intro _; rfl):PE X (.ListComp elt [⟨tg,iter,ifs,0⟩] scope pos) (aJ7 nt fv wi g ti te):=by
 intro pins s σ H Q I h;rw[eval_ListComp];refine wpAny_comprehension_free (use:=none) rfl hs (aBY (B.cells I)) B.kind B.names (thn (hi pins s σ H _ I h) fun xv s1 h1=>thn h1 fun itv s2 h2=>?_);obtain⟨it,fp,tn,J,H2,rfl,I2,T,st2,f2,W,⟨m0,w0⟩,turn⟩:=h2;refine a9J hc B hg ht he I2 T st2 f2 w0 turn (RR:=fun acc C=>compPost (model X.prog X.w) X.A X.xe none (EP X pins σ Q) acc C) fun D C s' hC hn hq=>?_;obtain⟨m,hm⟩:=hn;refine⟨m,hm,fun h' sb=>?_⟩;obtain⟨H',I',_,q'⟩:=hq h' sb;exact⟨.ref D,H',I',rfl,q'⟩
theorem aIM {i:Nat}{x:Str}{pos' spos:Pos}(hN:X.N.Nodup)(hi':X.N[i]?=some x)(hx:X.env.scope.names.lookup x=some .local)(hc:X.calm=true)(B:BlkOk X N scope nt fv)(hi:PI X tg iter wi)
  (hg:∀ C s₀ H₀ ex,PG (lB X N scope C s₀ H₀ ex) tg g) (ht:∀ C s₀ H₀ ex,PTs (lB X N scope C s₀ H₀ ex) ifs ti) (he:∀ C s₀ H₀ ex,PE (lB X N scope C s₀ H₀ ex) elt te)
  (hsw:swapsWith (.ListComp elt [⟨tg,iter,ifs,0⟩] scope pos) (some (.Name x pos')) spos.line X.env=pure true:=by rfl)
  (hs:∀ x,foldedSetIterable iter X.env x=pure x:=by intro _; rfl):PS X (.Assign [.Name x pos'] (.ListComp elt [⟨tg,iter,ifs,0⟩] scope pos) spos) (aFZ (aJ7 nt fv wi g ti te) (a5R i)):=by
 intro pins s σ H D I h;rw[exec_Assign_Name_used _ _ _ _ hsw];refine wpAny_bind (wpAny_standAt (wpAny_bind ?_));show wpAny _ X.A (do let _←comprehension (.ListComp elt [⟨tg,iter,ifs,0⟩] scope pos) scope X.env _ (newList []) false (eval iter X.env) (some (assign (.Name x pos') X.env))) _ _ s;refine wpAny_bind (wpAny_mono (wpAny_comprehension_free (use:=some (assign (.Name x pos') X.env)) (Q:=fun _ s'=>SP X pins D .next s') rfl hs (aBY (B.cells I)) B.kind B.names
  (thn (hi pins s σ H _ I h) fun xv s1 h1=>thn h1 fun itv s2 h2=>?_)) (fun _ s' h'=>wpAny_pure (wpAny_pure h')) fun _ _ e=>e)
 obtain⟨it,fp,tn,J,H2,rfl,I2,T,st2,f2,W,⟨m0,w0⟩,turn⟩:=h2;refine a9J (Q:=fun v H1=>a5R i v σ H1 D.nx) hc B hg ht he I2 T st2 f2 w0 turn (RR:=fun acc C=>compPost (model X.prog X.w) X.A X.xe (some (assign (.Name x pos') X.env)) (fun _ s'=>SP X pins D .next s') acc C) fun L C s' hC hn hq=>?_;obtain⟨m,hm⟩:=hn;obtain⟨H',I',hC',q'⟩:=hq s'.heap (Heap.SameBut.refl ..);have hCL:C≠X.env.locals:=fun z=>by
  have:=I2.lt;rw[← z] at this;exact Nat.lt_irrefl _ (Nat.lt_of_lt_of_le this hC)
 have Ccell:∀ y c,X.env.cells.lookup y=some c→c≠C:=fun y c e z=>by
  obtain⟨v,qc⟩:=I2.cell y c e;exact Nat.lt_irrefl _ (Nat.lt_of_lt_of_le (z▸qc.lt) hC)
 show wpAny _ X.A (assign (.Name x pos') X.env (.ref L)) _ _ s';refine wpAny_assign_Name (a5G (v:=.ref L) I' hN hi' (.inl hx) rfl (fun s'' I'' sb''=>?_) (.inr hx));obtain⟨a,sb,ha⟩:=sb'';have haC:C≠a:=by
  rcases ha with z|z
  ·rw[z]; exact hCL
  ·exact(Ccell x a z).symm
 refine⟨m,hm.sameBut sb haC,fun h' sb'=>?_⟩;refine⟨_,H',I''.turned (t':=s''.toks) (it:=C) (fun b o hb e=>(sb'.2 b hb).trans e) hC' hCL (.inr (Nat.le_trans I2.sz hC)) Ccell fun p hp z=>?_,q'⟩;have e:=(I2.pin p hp).1;exact Nat.lt_irrefl _ (Nat.lt_of_lt_of_le (z▸Heap.lt_size e) hC)
end
end L2
namespace L2
open PySem PySem.Spec PyProof.Rows
def aQW (scope osc:Scope):List (Str×NameKind):=scope.names.map fun(n,k)=>if (k==.free&&osc.kind==.function&&osc.names.lookup n==some .cell) then(n,.cell) else(n,k)
def aQ6 (osc:Scope)(ON N:List Str)(scope:Scope)(nt:Nat)(fv:List Nat):Bool:=
 scope.kind==.function&&scope.names.all (fun y=>y.2 != .cell)&&scope.names.all (fun y=>y.2 != .local||scope.names.lookup y.1==some .local) &&
 scope.names.all (fun y=>y.2 != .free||osc.names.lookup y.1==some .cell)&&N.length==nt+fv.length &&
 (List.range fv.length).all fun i=>match N[nt+i]?,fv[i]? with
  | some x,some j=>ON[j]?==some x&&osc.names.lookup x==some .cell&&(aQW scope osc).lookup x==some .cell
  | _,_=>false
theorem a0W {X:Cx}{osc:Scope}{ON N:List Str}{scope:Scope}{nt:Nat}{fv:List Nat}(h:aQ6 osc ON N scope nt fv=true)(e1:X.env.scope=osc:=by rfl)(e2:X.N=ON:=by rfl):BlkOk X N scope nt fv:=by
 subst e1 e2;unfold aQ6 at h;simp only[Bool.and_eq_true,List.all_eq_true,Bool.or_eq_true,bne_iff_ne,ne_eq,beq_iff_eq] at h;obtain⟨⟨⟨⟨⟨h1,h2⟩,h3⟩,h4⟩,h5⟩,h6⟩:=h;refine⟨h1,h2,fun y hy e=>?_,fun y hy e=>?_,h5,fun i x e=>?_⟩
 ·rcases h3 y hy with z|z
  ·exact absurd e z
  ·exact z
 ·rcases h4 y hy with z|z
  ·exact absurd e z
  ·exact z
 ·have hi:i<fv.length:=by
   have:=(List.getElem?_eq_some_iff.mp e).1;omega
  have q:=h6 i (List.mem_range.mpr hi);rw[e,List.getElem?_eq_getElem hi] at q;simp only[Bool.and_eq_true,beq_iff_eq] at q;obtain⟨⟨q1,q2⟩,q3⟩:=q;exact⟨fv[i],List.getElem?_eq_getElem hi,q1,q2,q3⟩
end L2
namespace L2.VS
open PySem PySem.Spec PyProof.Rows
section
variable {P0:Addr→Hp→Prop}
def vA:MT:=fun Γ Q=>Q true Γ
theorem qR:VTT P0 aMW vA:=fun _ _ _ _ _ _ _ r m k=>k _ _ _ _ m (Same.refl _) r
def aO8:Option Sl→Sl
 | some (.val d)=>.val d
 | some .pen=>.pen
 | some (.pub B)=>.pub B
 | _=>.no
def aJ1 (nt:Nat)(fv:List Nat)(Γ:En):En:=List.replicate nt .no++fv.map fun j=>aO8 Γ[j]?
def a0F (g:MG)(t:MT)(e:ME)(Γb:En):List D→List D→(List D→Prop)→Prop
 | [],acc,Q=>Q acc
 | d::ds,acc,Q=>g d Γb fun Γ1=>t Γ1 fun b Γ2=>if b=true then e Γ2 fun v _=>a0F g t e Γb ds (acc++[v]) Q else a0F g t e Γb ds acc Q
def a4R (nt:Nat)(fv:List Nat)(mi:MD)(g:MG)(t:MT)(e:ME):MO:=fun Γ Q=>mi Γ fun ds Γ1=>ds.length≤1000∧a0F g t e (aJ1 nt fv Γ1) ds [] fun out=>Q (.own out) Γ1
theorem aP7 {F:Fra P0}{Γ:En}{σ:St}{G H G' H':Hp}{nt:Nat}{fv:List Nat}(r:R F Γ σ G H)(rf:Rf (F.sub r.fr) G' H')(s:Same G G'):R (F.sub r.fr) (aJ1 nt fv Γ) (blk nt fv σ) G' H':=by
 have at_:∀{i:Nat} {sl:Sl},(aJ1 nt fv Γ)[i]?=some sl→sl≠.no→∃(j:Nat) (s0:Sl),Γ[j]?=some s0∧sl=aO8 (some s0)∧(blk nt fv σ)[i]?=some ((σ[j]?).getD none):=by
  intro i sl e hn;unfold aJ1 at e
  by_cases hi:i<nt
  ·rw[List.getElem?_append_left (by simpa using hi),List.getElem?_replicate] at e;rw[if_pos hi] at e
   cases e
   exact absurd rfl hn
  ·rw[List.getElem?_append_right (by simpa using hi),List.length_replicate,List.getElem?_map] at e
   cases ej:fv[i-nt]? with
   | none=>rw[ej] at e; cases e
   | some j=>
    rw[ej] at e;have e':aO8 Γ[j]?=sl:=Option.some.inj e
    cases es:Γ[j]? with
    | none=>rw[es] at e'; exact absurd e'.symm hn
    | some s0=>
     rw[es] at e';refine⟨j,s0,es,e'.symm,?_⟩;unfold blk;rw[List.getElem?_append_right (by simpa using hi),List.length_replicate,List.getElem?_map,ej];rfl
 refine R.of rf (by simp[aJ1,blk]) (fun i sl e=>?_) (fun i B e=>?_) (fun i j x y _ e=>?_)
 ·cases sl with
  | no=>trivial
  | val d=>
   obtain⟨j,s0,h1,h2,h3⟩:=at_ e (by intro z; cases z)
   cases s0 with
   | val d0=>
    cases h2
    obtain⟨v,e1,d1⟩:=r.sl j _ h1;rw[e1] at h3;exact⟨v,h3,Dt.same s _ _ d1⟩
   | _=>cases h2
  | own ds=>
   obtain⟨j,s0,h1,h2,h3⟩:=at_ e (by intro z; cases z)
   cases s0<;>cases h2
  | pen=>
   obtain⟨j,s0,h1,h2,h3⟩:=at_ e (by intro z; cases z)
   cases s0 with
   | pen=>
    obtain⟨p,e1,e2⟩:=r.sl j _ h1;rw[e1] at h3;exact⟨p,h3,e2⟩
   | _=>cases h2
  | con q=>
   obtain⟨j,s0,h1,h2,h3⟩:=at_ e (by intro z; cases z)
   cases s0<;>cases h2
  | pub B=>
   obtain⟨j,s0,h1,h2,h3⟩:=at_ e (by intro z; cases z)
   cases s0 with
   | pub B'=>
    cases h2
    obtain⟨v,e1,e2⟩:=r.sl j _ h1;rw[e1] at h3;exact⟨v,h3,B.mono s e2⟩
   | _=>cases h2
  | box B=>
   obtain⟨j,s0,h1,h2,h3⟩:=at_ e (by intro z; cases z)
   cases s0<;>cases h2
 ·obtain⟨j,s0,h1,h2,h3⟩:=at_ e (by intro z; cases z)
  cases s0<;>cases h2
 ·obtain⟨j,s0,h1,h2,h3⟩:=at_ e (by intro z; cases z)
  cases s0<;>cases h2
theorem vU {nt:Nat}{fv:List Nat}{wi:TI}{g:TG}{ti:TT}{te:TE}{mi:MD}{mg:MG}{mt:MT}{me:ME}(hi:VI P0 wi mi)(hg:VG P0 (fun i=>decide (i<nt)) g mg)(ht:VTT P0 ti mt)(he:VT P0 te me) :
  VO P0 (aJ7 nt fv wi g ti te) (a4R nt fv mi mg mt me):=by
 intro F Γ σ G H Q Qm r m k;refine hi F Γ σ G H _ _ r m fun ds Γ1 J G1 H1 m1 s1 r1 wk=>?_;obtain⟨hsz,m1⟩:=m1;refine⟨fun i n ys H2=>n=ds.length-i∧i≤ds.length∧ys.length≤i∧∃ G2 out,Rf (F.sub r1.fr) G2 H2∧Same G1 G2∧Dts G2 ys out∧a0F mg mt me (aJ1 nt fv Γ1) (ds.drop i) out fun out=>Qm (.own out) Γ1,
  ⟨ds.length,by simp,Nat.zero_le _,Nat.zero_le _,G1,[],F.subRf r1.fr,Same.refl _,.nil,by simpa using m1⟩,?_⟩
 rintro i n ys H2 ⟨rfl,hle,hy,G2,out,rf2,s2,d2,m2⟩;have rb:=aP7 (nt:=nt) (fv:=fv) r1 rf2 s2;obtain⟨go,stop⟩:=wk (F.sub r1.fr) _ _ G2 H2 s2 rb;have small:ys.length≤sizeLine:=iM (by omega)
 by_cases hlt:i<ds.length
 ·refine .inr ⟨(go i ds[i] (by simp[hlt])).1,small,fun x H' hyl=>?_⟩;obtain⟨G3,s3,r3,d3⟩:=(go i ds[i] (by simp[hlt])).2 x H' hyl;rw[List.drop_eq_getElem_cons hlt] at m2;refine hg (F.sub r1.fr) _ _ G3 H' x _ _ _ r3 d3 m2 fun Γ4 σ4 m4 r4 e4=>⟨fun j hj=>e4 j (decide_eq_false (by omega)),?_⟩;refine ht (F.sub r1.fr) _ _ G3 H' _ _ r4 m4 fun b Γ5 G5 H5 m5 s5 r5=>?_
  cases b with
  | true=>
   refine a1K (he (F.sub r1.fr) _ _ G5 H5 _ _ r5 m5 fun d Γ6 v G6 H6 m6 s6 r6 d6=>?_);refine⟨ds.length-(i+1),by omega,rfl,hlt,by rw[List.length_append,List.length_singleton]; omega,G6,out++[d],r6.fr,((s2.trans s3).trans s5).trans s6,?_,m6⟩;exact(Dts.same ((s3.trans s5).trans s6) _ _ d2).app (.cons d6 .nil)
  | false=>
   refine xX ?_;exact⟨ds.length-(i+1),by omega,rfl,hlt,by omega,G5,out,r5.fr,(s2.trans s3).trans s5,Dts.same (s3.trans s5) _ _ d2,m5⟩
 ·have e:i=ds.length:=by omega
  subst e;rw[List.drop_length] at m2;refine .inl ⟨stop,small,fun p hp=>?_⟩;obtain⟨r7,s7⟩:=r1.after rf2;obtain⟨a,b,c⟩:=sY r7 hp d2;exact k _ _ _ _ _ m2 (s1.trans s7) a b c
theorem aLV {nt:Nat}{fv:List Nat}{mi:MD}{mg:MG}{mt:MT}{me:ME}{Γ:En}{Q:Rv→En→Prop}(h:mi Γ fun ds Γ1=>ds.length≤1000∧a0F mg mt me (aJ1 nt fv Γ1) ds [] fun out=>Q (.own out) Γ1):a4R nt fv mi mg mt me Γ Q:=h
theorem pQ {α:Type}{mg:MG}{mt:MT}{me:ME}{Γb:En}(p:α→Bool)(f:α→D)(enc:α→D):∀(xs:List α) (acc:List D) (Q:List D→Prop),
  (∀ x∈xs,∀(K:List D→Prop) (k:D→Prop) (k0:Prop),(p x=true→k (f x))→(p x=false→k0)→mg (enc x) Γb fun Γ1=>mt Γ1 fun b Γ2=>if b=true then me Γ2 fun v _=>k v else k0) →
  Q (acc++(xs.filter p).map f)→a0F mg mt me Γb (xs.map enc) acc Q
 | [],acc,Q,_,q=>by simpa [a0F] using q
 | x::xs,acc,Q,h,q=>by
  show mg (enc x) Γb fun Γ1=>mt Γ1 fun b Γ2=>if b=true then me Γ2 fun v _=>a0F mg mt me Γb (xs.map enc) (acc++[v]) Q else a0F mg mt me Γb (xs.map enc) acc Q
  refine h x List.mem_cons_self Q (fun v=>a0F mg mt me Γb (xs.map enc) (acc++[v]) Q) _ (fun hp=>?_) fun hp=>?_
  ·refine pQ p f enc xs _ Q (fun y hy=>h y (List.mem_cons_of_mem _ hy)) ?_;simpa [List.filter_cons,hp,List.append_assoc] using q
  ·refine pQ p f enc xs _ Q (fun y hy=>h y (List.mem_cons_of_mem _ hy)) ?_;simpa [List.filter_cons,hp] using q
end
end L2.VS
namespace L2
open PySem PySem.Spec PyProof.Rows
section
variable {X:Cx}
def aBG (n:Nat)(x:Int):Nat:=if x<0 then(x+(n:Int)).toNat else min x.toNat n
def zN {α:Type}(xs:List α)(x:Int)(y:α):List α:=xs.take (aBG xs.length x)++y::xs.drop (aBG xs.length x)
theorem aGB {α:Type}(xs:List α)(x:Int)(y:α):(zN xs x y).length=xs.length+1:=by
 unfold zN;rw[List.length_append,List.length_cons,List.length_take,List.length_drop];omega
theorem Vals.ins {xs:List V}{us:List Value}(r:Vals xs us)(x:Int){y:V}{u:Value}(h:RelV y u):Vals (zN xs x y) (zN us x u):=by
 unfold zN;rw[r.length];exact(r.take _).append (.cons h (r.drop _))
def aCQ:V→List V→Hp→VK→Prop:=fun x vs H Q=>∃ l xs i y,x=.ref l∧vs=[.int i,y]∧H l=some (.lst xs) ∧ -(2^63)≤i∧i<2^63∧xs.length<sizeLine∧Q .non (upd H l (.lst (zN xs i y)))
theorem aEN:MtM X "list.insert" aCQ:=by
 intro pins s σ H x vs v us Q I rx rv h;obtain⟨l,xs,i,y,rfl,rfl,hH,h1,h2,hz,q⟩:=h
 cases rx
 obtain⟨u0,u,rfl,ru0,ru⟩:=rv.two;obtain⟨t,rfl⟩:=ru0;obtain⟨z,its,n,r,hl,e⟩:=I.lstM hH;have hf:Builtin.List.listFitsIndex i=true:=by
  unfold Builtin.List.listFitsIndex;rw[Bool.and_eq_true];exact⟨decide_eq_true h1,decide_eq_true h2⟩
 refine call_meets F.slot_list_insert ⟨_,e,rfl⟩ F.entry_list_insert (F.args_list_insert_3 _ _ _) (PySem.AutoSeq1.list_insert_list_int_val_1 l its.toArray n i t u (by simp[hf]) (by rw[List.size_toArray]; omega)) ⟨e,?_⟩;refine⟨.non,_,I.lset (its':=zN its i u) hH e ?_ (r.ins i ru) ?_,rfl,q⟩
 ·show(its.toArray.extract 0 (if i<0 then(i+(its.toArray.size:Int)).toNat else min i.toNat its.toArray.size)).push u++its.toArray.extract (if i<0 then(i+(its.toArray.size:Int)).toNat else min i.toNat its.toArray.size)=(zN its i u).toArray
  rw[List.size_toArray];unfold zN aBG;generalize (if i<0 then(i+(its.length:Int)).toNat else min i.toNat its.length)=k;apply Array.toList_inj.mp;simp;exact List.take_of_length_le (by simp)
 ·rw[aGB];omega
end
end L2
namespace L2.VS
open PySem PySem.Spec PyProof.Rows
section
variable {P0:Addr→Hp→Prop}
theorem _root_.L2.Dts.ins {G:Hp}{vs:List V}{ds:List D}(r:Dts G vs ds)(x:Int){y:V}{d:D}(h:Dt G y d):Dts G (zN vs x y) (zN ds x d):=by
 unfold zN;rw[r.len];exact(r.tak _).app (.cons h (r.drp _))
def aKS (i:Nat)(x:D)(d:D)(Γ1:En)(Q:Fl→Prop):Prop:=match Γ1[i]?,x with
 | some (.own ds),.int k => -(2^63)≤k∧k<2^63∧ds.length<1000∧Q (.nx (Γ1.set i (.own (zN ds k d))))
 | _,_=>False
def a03 (i:Nat)(ma mb:ME):MS:=fun Γ Q=>match Γ[i]? with
 | some (.own _)=>ma Γ fun x Γ1=>mb Γ1 fun d Γ2=>aKS i x d Γ2 Q
 | _=>False
theorem aDT {K:Fg}{i:Nat}{ta tb:TE}{ma mb:ME}(ha:VT P0 ta ma)(hb:VT P0 tb mb){A:Nat→Bool}:VSA P0 A (aIQ (tBM K "list" aCQ (vX i) (fH ta (fH tb z7)))) (a03 i ma mb):=by
 intro F Γ σ G H E Qm r hm k;unfold a03 at hm
 split at hm
 ·rename_i ds0 e0
  obtain⟨p,vs,e1,e2,e3,e4,e5⟩:=r.sl i _ e0;refine⟨_,e1,.inl ⟨rfl,_,SqL.of e4⟩,?_⟩;refine ha F Γ σ G H _ _ r hm fun c Γ1 y G1 H1 m1 s1 r1 d1=>?_;refine hb F Γ1 σ G1 H1 _ _ r1 m1 fun d Γ2 x G2 H2 m2 s2 r2 d2=>?_;unfold aKS at m2
  split at m2
  ·rename_i ds j e
   cases d1
   obtain⟨p',ws,f1,f2,f3,f4,f5⟩:=r2.sl i _ e;rw[e1] at f1; cases f1;refine⟨p,ws,j,x,rfl,rfl,f4,m2.1,m2.2.1,z9 (by rw[f5.len]; exact Nat.le_of_lt m2.2.2.1),?_⟩;exact k _ m2.2.2.2 _ _ _ (s1.trans s2) (r2.write e e1 (f5.ins j d2)) fun _ _=>rfl
  ·exact m2.elim
 ·exact hm.elim
theorem aFC {i:Nat}{ma mb:ME}{Γ:En}{Q:Fl→Prop}{ds:List D}(h0:Γ[i]?=some (.own ds))(h:ma Γ fun x Γ1=>mb Γ1 fun d Γ2=>aKS i x d Γ2 Q):a03 i ma mb Γ Q:=by
 unfold a03;rw[h0];exact h
theorem aM7 {i:Nat}{j:Int}{d:D}{Γ:En}{Q:Fl→Prop}{ds:List D}(h0:Γ[i]?=some (.own ds))(h1 : -(2^63)≤j)(h2:j<2^63)(h3:ds.length<1000)(h:Q (.nx (Γ.set i (.own (zN ds j d))))):aKS i (.int j) d Γ Q:=by
 unfold aKS;rw[h0];exact⟨h1,h2,h3,h⟩
end
end L2.VS
namespace L2
open PySem PySem.Spec PyProof.Rows
section
variable {X:Cx}
def bAt (ys:List V)(i:Nat):Bool:=match ys[i]? with
 | some (.bl b)=>b
 | _=>false
def aNX:V→Bool
 | .bl _=>true
 | _=>false
theorem aG4 {A:Around}{ys:List V}{its:List Value}(r:Vals ys its)(hb:ys.all aNX=true):TruthOf X.prog X.w A (fun i v=>its.toArray[i]?=some v) (bAt ys):=by
 intro i v s Q E hP hq;have hv:its[i]?=some v:=by simpa using hP
 have hi:i<ys.length:=by
  have:=(List.getElem?_eq_some_iff.mp hv).1;rw[r.length]; exact this
 obtain⟨u,hu,ru⟩:=r.get (List.getElem?_eq_getElem hi);rw[hv] at hu
 cases hu
 have hbl:=List.all_eq_true.mp hb ys[i] (List.getElem_mem hi);unfold bAt at hq;rw[List.getElem?_eq_getElem hi] at hq
 cases e:ys[i] with
 | bl b=>
  rw[e] at ru hq
  cases ru
  exact wpAny_truthy_bool hq
 | _=>rw[e] at hbl; cases hbl
theorem range_all (ys:List V)(bs:List Bool)(h:ys=bs.map V.bl):(List.range ys.length).all (bAt ys)=bs.all id:=by
 subst h;rw[Bool.eq_iff_iff,List.all_eq_true,List.all_eq_true];constructor
 ·intro h b hb;obtain⟨i,hi,e⟩:=List.mem_iff_getElem.mp hb;have q:=h i (List.mem_range.mpr (by simpa using hi));unfold bAt at q;rw[List.getElem?_map,List.getElem?_eq_getElem hi,e] at q;exact q
 ·intro h i hi;have hi':i<bs.length:=by simpa using List.mem_range.mp hi
  unfold bAt;rw[List.getElem?_map,List.getElem?_eq_getElem hi'];exact h _ (List.getElem_mem hi')
theorem aKG (bs:List Bool):(bs.map V.bl).all aNX=true:=by simp[aNX]
theorem aIE (hc:X.calm=true){pins:List (Addr×Obj)}{σ:St}{H:Hp}{s:Shared}{p:Addr}{bs:List Bool}{f:(Nat→Bool)→List Nat→Bool}{Q:Value→Shared→Prop}(I:Inv X pins σ H s)(hx:SqL X.K H p (bs.map V.bl))
  (h:∀ s',Inv X pins σ H s'→Q (.bool (f (bAt (bs.map V.bl)) (List.range (bs.map V.bl).length))) s') :
  wpAny (model X.prog X.w) X.A.in1 (pyIter (.ref p)) (fun it s₂=>∃ I fp wr n P St tr,it=.ref I∧Walks X.prog X.w X.A.in1 I fp wr n P St∧St 0 s₂.heap∧TruthOf X.prog X.w X.A.in1 P tr ∧
   ∀ h' tk,(∀ b o,b∉wr→s₂.heap.get? b=some o→h'.get? b=some o)→Q (.bool (f tr (List.range n))) { s₂ with heap:=h',toks:=tk }) X.xe s:=by
 obtain⟨its,r,ht,hz⟩:=I.list hx;have hlt:p<s.heap.objs.size:=by
  obtain⟨o,ho,_⟩:=ht.isList;exact Heap.lt_size ho
 refine wpAny_pyIter_list ht.isList ?_;refine⟨s.heap.objs.size,_,_,_,_,_,bAt (bs.map V.bl),rfl,Walks.list (A:=X.A.in1) (show X.A.in1.handled=none from I.ok.hd hc) s.heap.objs.size p (Nat.ne_of_lt hlt) its.toArray,⟨⟨_,Heap.get?_push_size _ rfl,rfl,rfl⟩,?_⟩,aG4 r (aKG bs),fun h' tk hk=>?_⟩
 ·obtain⟨o,ho,q⟩:=ht.isList;exact⟨o,Heap.get?_push_of_some _ ho,q⟩
 ·have hl:its.toArray.size=(bs.map V.bl).length:=by rw[List.size_toArray]; exact r.length.symm
  rw[hl];refine h _ (I.kept (h':=h') (t':=tk) fun b o e=>hk b o (by simp; exact Nat.ne_of_lt (Heap.lt_size e)) (Heap.get?_push_of_some _ e))
theorem a5U (hc:X.calm=true):a0M X (.builtin "all") (fun xs H Q=>∃(p:Addr) (bs:List Bool),xs=[.ref p]∧SqL X.K H p (bs.map V.bl)∧Q (.bl (bs.all id)) H):=by
 intro pins s σ H xs us Q I r h;obtain⟨p,bs,rfl,hx,q⟩:=h;obtain⟨u,rfl,ru⟩:=vals1 r
 cases ru
 exact call_all_walk (aIE (f:=fun tr l=>l.all tr) hc I hx fun s' I'=>⟨.bl _,H,I',rfl,by rw[range_all _ bs rfl]; exact q⟩)
end
end L2
namespace L2.VS
open PySem PySem.Spec PyProof.Rows
section
variable {P0:Addr→Hp→Prop}
def uU:List D→Option (List Bool)
 | []=>some []
 | .bool b::ds=>(uU ds).map (b::·)
 | _::_=>none
theorem aA0 (bs:List Bool):uU (bs.map PyData.bool)=some bs:=by
 induction bs with
 | nil=>rfl
 | cons b bs ih=>show(uU (bs.map PyData.bool)).map (b::·)=_; rw[ih]; rfl
theorem a1G {G:Hp}:∀{vs:List V} {ds:List D} {bs:List Bool},Dts G vs ds→uU ds=some bs→vs=bs.map V.bl
 | _,_,_,.nil,e=>by cases e; rfl
 | _,d::ds,bs,.cons a b,e=>by
  cases a with
  | bl c=>
   show _;have e':(uU ds).map (c::·)=some bs:=e
   cases e2:uU ds with
   | none=>rw[e2] at e'; cases e'
   | some cs=>
    rw[e2] at e'
    cases e'
    rw[a1G b e2];rfl
  | _=>cases e
def mBs (f:List Bool→Bool)(ma:ME):ME:=fun Γ Q=>ma Γ fun x Γ1=>match x with
 | .list ds=>(match uU ds with
  | some bs=>Q (.bool (f bs)) Γ1
  | none=>False)
 | _=>False
abbrev aOM:=mBs fun bs=>bs.all id
theorem aO4 {K:Fg}{f:List Bool→Bool}{ta:TE}{ma:ME}(ha:VT P0 ta ma):VT P0 (tCB (fun xs H Q=>∃(p:Addr) (bs:List Bool),xs=[.ref p]∧SqL K H p (bs.map V.bl)∧Q (.bl (f bs)) H) (fH ta z7)) (mBs f ma):=by
 intro F Γ σ G H Q Qm r m k;refine ha F Γ σ G H _ _ r m fun d Γ1 x G1 H1 m1 s1 r1 d1=>?_
 split at m1
 ·split at m1
  ·rename_i bs e
   cases d1 with
   | @lst p xs _ hp rs=>
    refine⟨p,bs,rfl,SqL.of ?_,k _ _ _ _ _ m1 s1 r1 (.bl _)⟩;rw[← a1G rs e];exact r1.fr.sub _ _ hp
  ·exact m1.elim
 ·exact m1.elim
theorem aHK {K:Fg}{ta:TE}{ma:ME}(ha:VT P0 ta ma):VT P0 (tCB (fun xs H Q=>∃(p:Addr) (bs:List Bool),xs=[.ref p]∧SqL K H p (bs.map V.bl)∧Q (.bl (bs.all id)) H) (fH ta z7)) (aOM ma):=aO4 ha
def aEC (p p':Int→Int→Bool)(ma mb mc:ME):ME:=fun Γ Q=>ma Γ fun x Γ1=>mb Γ1 fun y Γ2=>match x,y with
 | .int i,.int j=>if p i j=true then mc Γ2 fun z Γ3=>(match z with
   | .int l=>Q (.bool (p' j l)) Γ3
   | _=>False) else Q (.bool false) Γ2
 | _,_=>False
theorem aGT {p p':Int→Int→Bool}{ta tb tc:TE}{ma mb mc:ME}(ha:VT P0 ta ma)(hb:VT P0 tb mb)(hc:VT P0 tc mc) :
  VT P0 (aGW (rI0 fun i j=>.bl (p i j)) (rI0 fun i j=>.bl (p' i j)) ta tb tc) (aEC p p' ma mb mc):=by
 intro F Γ σ G H Q Qm r m k;refine ha F Γ σ G H _ _ r m fun d Γ1 x G1 H1 m1 s1 r1 d1=>?_;refine hb F Γ1 σ G1 H1 _ _ r1 m1 fun e Γ2 y G2 H2 m2 s2 r2 d2=>?_
 split at m2
 ·cases d1; cases d2
  rename_i i j
  refine⟨i,j,rfl,rfl,p i j,rfl,?_⟩
  cases hp:p i j with
  | true=>
   rw[hp] at m2;refine a1K (hc F Γ2 σ G2 H2 _ _ r2 m2 fun z Γ3 w G3 H3 m3 s3 r3 d3=>?_)
   split at m3
   ·cases d3
    exact⟨_,_,rfl,rfl,k _ _ _ _ _ m3 ((s1.trans s2).trans s3) r3 (.bl _)⟩
   ·exact m3.elim
  | false=>
   rw[hp] at m2;exact xX (k _ _ _ _ _ m2 (s1.trans s2) r2 (.bl _))
 ·exact m2.elim
theorem aQZ {f:List Bool→Bool}{ma:ME}{Γ:En}{Q:D→En→Prop}(h:ma Γ fun x Γ1=>match x with|.list ds=>(match uU ds with|some bs=>Q (.bool (f bs)) Γ1|none=>False)|_=>False):mBs f ma Γ Q:=h
theorem aJZ {p p':Int→Int→Bool}{ma mb mc:ME}{Γ:En}{Q:D→En→Prop}(h:ma Γ fun x Γ1=>mb Γ1 fun y Γ2=>match x,y with
 | .int i,.int j=>if p i j=true then mc Γ2 fun z Γ3=>(match z with
   | .int l=>Q (.bool (p' j l)) Γ3
   | _=>False) else Q (.bool false) Γ2
 | _,_=>False):aEC p p' ma mb mc Γ Q:=h
end
section
variable {P0:Addr→Hp→Prop}
end
end L2.VS
namespace L2
open PySem PySem.Spec PyProof.Rows
theorem a6P:∀{xs:List V} {us:List Value},xs.length=us.length→(∀(i:Nat) x u,xs[i]?=some x→us[i]?=some u→RelV x u)→Vals xs us
 | [],[],_,_=>.nil
 | x::xs,u::us,hl,h=>.cons (h 0 x u rfl rfl) (a6P (by simpa using hl) fun i y w e1 e2=>h (i+1) y w (by simpa using e1) (by simpa using e2))
def uF (lo:Int)(n:Nat):List V:=(List.range n).map fun(k:Nat)=>V.int (lo+k)
theorem a1M (lo:Int)(n:Nat):(uF lo n).length=n:=by unfold uF; rw[List.length_map,List.length_range]
section
variable {X:Cx}
def aMC:List V→Hp→VK→Prop:=fun xs H Q=>∃ j:Int,xs=[.int j]∧∀ r,H r=none→Q (.ref r) (upd H r (.rng 0 j))
theorem a4C:a0M X (.type "range") aMC:=by
 intro pins s σ H xs us Q I r h;obtain⟨j,rfl,q⟩:=h;obtain⟨u,rfl,rx⟩:=vals1 r;obtain⟨t,rfl⟩:=rx;refine call_range_1 ?_;exact⟨.ref s.heap.objs.size,_,I.laid (o:=.rng 0 j) (fun b o e=>Heap.get?_push_of_some _ e) (Nat.le_refl _) (show ObjOk X.prog X.w _ _ _ (.rng 0 j) from⟨_,_,_,Heap.get?_push_size _ rfl⟩),rfl,q _ (I.hok.fresh (Nat.le_refl _))⟩
def a9A:List V→Hp→VK→Prop:=fun xs H Q=>∃ p lo hi,xs=[.ref p]∧H p=some (.rng lo hi)∧(-(2^62)≤lo∧lo<2^62 ∧ -(2^62)≤hi∧hi<2^62)∧(hi-lo).toNat≤1000 ∧
 ∀ l,H l=none→Q (.ref l) (upd H l (.lst (uF lo (hi-lo).toNat)))
theorem a2N (hc:X.calm=true):a0M X (.type "list") a9A:=by
 intro pins s σ H xs us Q I r h;obtain⟨p,lo,hi,rfl,hp,⟨b1,b2,b3,b4⟩,hn,q⟩:=h;obtain⟨u,rfl,rx⟩:=vals1 r
 cases rx
 obtain⟨t,u,v,hr⟩:=I.hok p _ hp;have hsz:Builtin.Range.rangeSize lo hi 1=((hi-lo).toNat:Int):=by rw[rangeSize_one]; split<;>omega
 refine call_list_range (I.ok.hd hc) hr (small_one b1 b2 b3 b4) hsz (by omega) fun h' tk acc' c' kp e it=>?_;have hl:(uF lo (hi-lo).toNat).length=acc'.toList.length:=by rw[a1M,Array.length_toList]; exact it.1.symm
 have hv:Vals (uF lo (hi-lo).toNat) acc'.toList:=by
  refine a6P hl fun i x w e1 e2=>?_;obtain⟨t',ew⟩:=it.2 i w (by simpa using e2);unfold uF at e1;rw[List.getElem?_map] at e1
  cases e3:(List.range (hi-lo).toNat)[i]? with
  | none=>rw[e3] at e1; cases e1
  | some k=>
   rw[e3] at e1
   cases e1
   have hk:k=i:=by
    obtain⟨hlt,e4⟩:=List.getElem?_eq_some_iff.mp e3;rw[List.getElem_range] at e4;exact e4.symm
   subst hk;exact⟨t',by rw[ew,Int.mul_one]⟩
 exact⟨.ref s.heap.objs.size,_,I.laid kp (Nat.le_refl _) (show ObjOk X.prog X.w _ h' _ (.lst (uF lo (hi-lo).toNat)) from⟨iM (by rw[a1M]; exact hn),acc'.toList,c',hv,by simpa using e⟩),rfl,q _ (I.hok.fresh (Nat.le_refl _))⟩
end
end L2
namespace L2.VS
open PySem PySem.Spec PyProof.Rows
section
variable {P0:Addr→Hp→Prop}{A:Nat→Bool}
def aKV (i:Nat)(f:Int→Int→Int)(m:ME):MS:=fun Γ Q=>match Γ[i]? with
 | some (.val (.int a))=>m Γ fun d Γ1=>match d with
  | .int b=>Q (.nx (Γ1.set i (.val (.int (f a b)))))
  | _=>False
 | _=>False
theorem aM8 {i:Nat}{f:Int→Int→Int}{t:TE}{m:ME}(h:VT P0 t m)(hA:A i=true:=by rfl):VSA P0 A (aQF i t (ipI f)) (aKV i f m):=by
 intro F Γ σ G H E Qm r hm k;unfold aKV at hm
 split at hm
 ·rename_i a e
  obtain⟨v,e1,d1⟩:=r.sl i _ e
  cases d1
  refine⟨_,e1,h F Γ σ G H _ _ r hm fun d Γ1 x G1 H1 m1 s1 r1 d1=>?_⟩
  split at m1
  ·cases d1
   exact⟨_,_,rfl,rfl,k _ m1 _ _ _ s1 (r1.setV (.int _)) (vJ hA)⟩
  ·exact m1.elim
 ·exact hm.elim
abbrev aQN:Int→Int→Int:=fun i j=>i+j
theorem aP5 {i:Nat}{f:Int→Int→Int}{m:ME}{Γ:En}{a:Int}{Q:Fl→Prop}(h0:Γ[i]?=some (.val (.int a)))(h:m Γ fun d Γ1=>match d with|.int b=>Q (.nx (Γ1.set i (.val (.int (f a b)))))|_=>False):aKV i f m Γ Q:=by
 unfold aKV;rw[h0];exact h
theorem aC9 {G:Hp}(lo:Int)(n:Nat):Dts G (uF lo n) (iB lo n):=by
 unfold uF iB;generalize List.range n=xs
 induction xs with
 | nil=>exact .nil
 | cons x xs ih=>exact .cons (.int _) ih
def a1X (ma:ME):MO:=fun Γ Q=>ma Γ fun x Γ1=>match x with
 | .int j=>(0≤j∧j≤1000)∧Q (.own (iB 0 j.toNat)) Γ1
 | _=>False
theorem aAS {ta:TE}{ma:ME}(ha:VT P0 ta ma):VO P0 (tCB a9A (fH (tCB aMC (fH ta z7)) z7)) (a1X ma):=by
 intro F Γ σ G H Q Qm r m k;refine ha F Γ σ G H _ _ r m fun d Γ1 x G1 H1 m1 s1 r1 d1=>?_
 split at m1
 ·rename_i j
  cases d1
  obtain⟨⟨h1,h2⟩,m1⟩:=m1;refine⟨j,rfl,fun p hp=>?_⟩;have r2:=r1.newP (o:=.rng 0 j) hp;refine⟨p,0,j,rfl,bM,⟨by omega,by omega,by omega,by omega⟩,by omega,fun l hl=>?_⟩;have e:(j-0).toNat=j.toNat:=by omega
  rw[e];obtain⟨a,b,c⟩:=sY r2 hl (aC9 0 j.toNat);exact k _ _ _ _ _ m1 s1 a b c
 ·exact m1.elim
theorem aBU {ma:ME}{Γ:En}{Q:Rv→En→Prop}(h:ma Γ fun x Γ1=>match x with|.int j=>(0≤j∧j≤1000)∧Q (.own (iB 0 j.toNat)) Γ1|_=>False):a1X ma Γ Q:=h
end
end L2.VS
namespace PySem
open Sem (wp)
namespace F
theorem zip_no_len:typeLookup (.type "zip") "__len__" = pure none:=by rw[typeLookup_type,builtinLookup_eq_fast]; kernel_rfl
theorem zip_no_hint:typeLookup (.type "zip") "__length_hint__" = pure none:=by rw[typeLookup_type,builtinLookup_eq_fast]; kernel_rfl
end F
set_option hygiene false in
local macro_rules|`(tactic| walk_at "zr")=>`(tactic| (
 simp only[Bool.false_eq_true,if_false,List.forIn_toArray,List.forIn_cons,List.forIn_nil];refine wpAny_bind (wpAny_bind (wpAny_bind (wpAny_holding ?_)));show wpAny _ _ (Builtin.SmallTypes.nextOf (.ref i1) >>= _) _ _ _;refine wpAny_bind (wpAny_nextOf_list_item (h1.extBut hs₀.extBut D.i1z) (hl1.extBut hs₀.extBut D.l1z) hx fun h₂ h1₂ hs₂=>wpAny_pure ?_);refine wpAny_pure ?_;refine wpAny_bind (wpAny_bind (wpAny_holding ?_));show wpAny _ _ (Builtin.SmallTypes.nextOf (.ref i2) >>= _) _ _ _;refine wpAny_bind (wpAny_nextOf_list_item ((h2.extBut hs₀.extBut D.i2z).extBut hs₂.extBut D.i12.symm) ((hl2.extBut hs₀.extBut D.l2z).extBut hs₂.extBut D.l2i1) hy fun h₄ h2₄ hs₄=>wpAny_pure ?_);refine wpAny_pure (wpAny_pure ?_);show wpAny _ _ (newTuple [x,y] >>= _) _ _ _;refine wpAny_bind (wpAny_newTuple (wpAny_pure ⟨_,rfl,?_⟩))
 replace hs₂:Heap.SameBut i1 h₀ h₂:=hs₂
 replace hs₄:Heap.SameBut i2 h₂ h₄:=hs₄
 have hsz:h₄.objs.size=hp.objs.size:=by rw[hs₄.1,hs₂.1,hs₀.1]
 show Q (.ref h₄.objs.size) ⟨h₄.push { cls:=.type "tuple", data:=.seq #[x,y] },g,d,tk,os⟩;have hz₄:mY h₄ z TI TO (rawInt T) (.bool true):=hs₄.extBut _ _ D.i2z.symm (hs₂.extBut _ _ D.i1z.symm hz₀);have hT₄:IsPair (h₄.push { cls:=.type "tuple", data:=.seq #[x,y] }) h₄.objs.size x y:=Heap.get?_push_size _ rfl;rw[hsz] at hT₄ ⊢;exact hQ _ (Heap.get?_push_of_some _ hz₄) ((h1₂.extBut hs₄.extBut D.i12).at fun o e=>Heap.get?_push_of_some _ e) (h2₄.at fun o e=>Heap.get?_push_of_some _ e) hT₄ (by rw[Heap.size_push,hsz])
  fun c o c1 c2 c3 e=>Heap.get?_push_of_some _ (hs₄.extBut _ _ c3 (hs₂.extBut _ _ c2 (hs₀.extBut _ _ c1 e)))))
set_option hygiene false in
local macro_rules|`(tactic| walk_at "ze")=>`(tactic| (
 simp only[Bool.false_eq_true,if_false,List.forIn_toArray,List.forIn_cons,List.forIn_nil];refine wpAny_bind (wpAny_bind (wpAny_bind (wpAny_holding ?_)));show wpAny _ _ (Builtin.SmallTypes.nextOf (.ref i1) >>= _) _ _ _
 cases hx:xs[k1]? with
 | none=>
  refine wpAny_bind (wpAny_nextOf_list_end hh (h1.extBut hs₀.extBut D.i1z) (hl1.extBut hs₀.extBut D.l1z) hx fun h₂ e hs₂ he=>?_);exact hE h₂ e (fun c o c1 c2 c3 x=>hs₂ _ _ c2 (hs₀.extBut _ _ c1 x)) he
 | some x=>
  have hy:ys[k2]?=none:=by rcases hend with h|h; rw[hx] at h; cases h; exact h
  refine wpAny_bind (wpAny_nextOf_list_item (h1.extBut hs₀.extBut D.i1z) (hl1.extBut hs₀.extBut D.l1z) hx fun h₂ h1₂ hs₂=>wpAny_pure ?_);refine wpAny_pure ?_;refine wpAny_bind (wpAny_bind (wpAny_holding ?_));show wpAny _ _ (Builtin.SmallTypes.nextOf (.ref i2) >>= _) _ _ _;refine wpAny_bind (wpAny_nextOf_list_end hh ((h2.extBut hs₀.extBut D.i2z).extBut hs₂.extBut D.i12.symm) ((hl2.extBut hs₀.extBut D.l2z).extBut hs₂.extBut D.l2i1) hy fun h₄ e hs₄ he=>?_);exact hE h₄ e (fun c o c1 c2 c3 x=>hs₄ _ _ c3 (hs₂.extBut _ _ c2 (hs₀.extBut _ _ c1 x))) he))
abbrev mY (h:Heap)(z TI TO:Addr)(f0 f1:Value):Prop:=
 h.get? z=some { cls:=.type "zip", dict:=none,data:=.fields #[f0,f1,.bool false,.ref TI,.ref TO],slots:=#[] }
section
variable {prog:Program}{w:World}{A:Around}{E:Value→Shared→Prop}{s:Shared}
theorem mG {a:Addr}{Q:Option Obj→Shared→Prop}(h:Q (s.heap.get? a) s):wpAny (model prog w) A (loadIfAlive a) Q E s:=by
 intro Γ p hΓ;show wp _ _ (.loadIfAlive a .pure) _ _ _ _;rw[Sem.wp_loadIfAlive];exact wpAny_pure (M:=model prog w) (A:=A) (E:=E) h Γ p hΓ
theorem a09 {z TI TO i1 i2 l1 l2 T:Addr}{k1 k2:Nat}{xs ys:Array Value}{x y:Value}{b1:Bool}{oT:Obj}{Q:Value→Shared→Prop}(D:ZipApart z TI TO i1 i2 l1 l2)
  (hz:mY s.heap z TI TO (rawInt T) (.bool b1)) (hT:s.heap.get? T=some oT) (hTI:IsPair s.heap TI (.ref i1) (.ref i2))
  (h1:s.heap.IsListIter i1 l1 k1) (h2:s.heap.IsListIter i2 l2 k2) (hl1:s.heap.IsList l1 xs) (hl2:s.heap.IsList l2 ys) (hx:xs[k1]?=some x) (hy:ys[k2]?=some y)
  (hQ:∀ h',mY h' z TI TO (rawInt T) (.bool true)→h'.IsListIter i1 l1 (k1+1)→h'.IsListIter i2 l2 (k2+1)→IsPair h' s.heap.objs.size x y→h'.objs.size=s.heap.objs.size+1 →
   (∀ c o,c≠z→c≠i1→c≠i2→s.heap.get? c=some o→h'.get? c=some o)→Q (.ref s.heap.objs.size) { s with heap:=h' }) :
  wpAny (model prog w) A (Builtin.«zip.__next__» ⟨[.ref z],[]⟩) (fun fin s'=>∃ v,fin=.done (.ret v)∧Q v s') E s:=by
 obtain⟨hp,g,d,tk,os⟩:=s;show wpAny _ _ (field (.ref z) 2 >>= _) _ _ _;refine wpAny_bind (wpAny_field hz rfl (x:=.bool false) rfl ?_);show wpAny _ _ (field (.ref z) 3 >>= _) _ _ _;refine wpAny_bind (wpAny_field hz rfl (x:=.ref TI) rfl ?_);refine wpAny_bind (wpAny_seqItems hTI rfl ?_);show wpAny _ _ (Builtin.SmallTypes.ownedTupleIsFree (.ref z) >>= _) _ _ _;refine wpAny_bind ?_;unfold Builtin.SmallTypes.ownedTupleIsFree;refine wpAny_bind (wpAny_field hz rfl (x:=rawInt T) rfl ?_);simp only[rawInt];refine wpAny_bind (mG ?_);simp only[Int.toNat_natCast,hT,Option.isNone_some,Bool.false_eq_true,if_false];refine wpAny_bind (wpAny_field hz rfl (x:=.bool b1) rfl ?_)
 cases b1
 ·rw[if_pos (by decide)];refine wpAny_bind (wpAny_setField_rec hz (by simp) fun h₀ hz₀ hs₀=>wpAny_pure ?_)
  replace hz₀:mY h₀ z TI TO (rawInt T) (.bool true):=hz₀
  replace hs₀:Heap.SameBut z hp h₀:=hs₀
  walk_at "zr"
 ·rw[if_neg (by decide)];refine wpAny_pure ?_;obtain⟨h₀,e₀⟩:∃ h₀,h₀=hp:=⟨_,rfl⟩;have hz₀:mY h₀ z TI TO (rawInt T) (.bool true):=by rw[e₀]; exact hz
  have hs₀:Heap.SameBut z hp h₀:=by rw[e₀]; exact⟨rfl,fun _ _=>rfl⟩
  show wpAny _ _ _ _ _ ⟨hp,g,d,tk,os⟩;rw[show(⟨hp,g,d,tk,os⟩:Shared)=⟨h₀,g,d,tk,os⟩ by rw[e₀]];walk_at "zr"
theorem a1V {z TI TO i1 i2 l1 l2 T:Addr}{k1 k2:Nat}{xs ys:Array Value}{b1:Bool}{oT:Obj}{Q:Fin→Shared→Prop}(hh:A.handled=none)(D:ZipApart z TI TO i1 i2 l1 l2)
  (hz:mY s.heap z TI TO (rawInt T) (.bool b1)) (hT:s.heap.get? T=some oT) (hTI:IsPair s.heap TI (.ref i1) (.ref i2))
  (h1:s.heap.IsListIter i1 l1 k1) (h2:s.heap.IsListIter i2 l2 k2) (hl1:s.heap.IsList l1 xs) (hl2:s.heap.IsList l2 ys) (hend:xs[k1]?=none∨ys[k2]?=none)
  (hE:∀ h' e,(∀ c o,c≠z→c≠i1→c≠i2→s.heap.get? c=some o→h'.get? c=some o)→(∃ o,h'.get? e=some o∧o.cls=.type "StopIteration")→E (.ref e) { s with heap:=h' }) :
  wpAny (model prog w) A (Builtin.«zip.__next__» ⟨[.ref z],[]⟩) Q E s:=by
 obtain⟨hp,g,d,tk,os⟩:=s;show wpAny _ _ (field (.ref z) 2 >>= _) _ _ _;refine wpAny_bind (wpAny_field hz rfl (x:=.bool false) rfl ?_);show wpAny _ _ (field (.ref z) 3 >>= _) _ _ _;refine wpAny_bind (wpAny_field hz rfl (x:=.ref TI) rfl ?_);refine wpAny_bind (wpAny_seqItems hTI rfl ?_);show wpAny _ _ (Builtin.SmallTypes.ownedTupleIsFree (.ref z) >>= _) _ _ _;refine wpAny_bind ?_;unfold Builtin.SmallTypes.ownedTupleIsFree;refine wpAny_bind (wpAny_field hz rfl (x:=rawInt T) rfl ?_);simp only[rawInt];refine wpAny_bind (mG ?_);simp only[Int.toNat_natCast,hT,Option.isNone_some,Bool.false_eq_true,if_false];refine wpAny_bind (wpAny_field hz rfl (x:=.bool b1) rfl ?_)
 cases b1
 ·rw[if_pos (by decide)];refine wpAny_bind (wpAny_setField_rec hz (by simp) fun h₀ hz₀ hs₀=>wpAny_pure ?_)
  replace hz₀:mY h₀ z TI TO (rawInt T) (.bool true):=hz₀
  replace hs₀:Heap.SameBut z hp h₀:=hs₀
  walk_at "ze"
 ·rw[if_neg (by decide)];refine wpAny_pure ?_;obtain⟨h₀,e₀⟩:∃ h₀,h₀=hp:=⟨_,rfl⟩;have hz₀:mY h₀ z TI TO (rawInt T) (.bool true):=by rw[e₀]; exact hz
  have hs₀:Heap.SameBut z hp h₀:=by rw[e₀]; exact⟨rfl,fun _ _=>rfl⟩
  show wpAny _ _ _ _ _ ⟨hp,g,d,tk,os⟩;rw[show(⟨hp,g,d,tk,os⟩:Shared)=⟨h₀,g,d,tk,os⟩ by rw[e₀]];walk_at "ze"
theorem wV {z TI TO i1 i2 l1 l2 T:Addr}{k1 k2:Nat}{xs ys:Array Value}{x y:Value}{b1:Bool}{oT:Obj}{Q:Option Value→Shared→Prop}(D:ZipApart z TI TO i1 i2 l1 l2)
  (hz:mY s.heap z TI TO (rawInt T) (.bool b1)) (hT:s.heap.get? T=some oT) (hTI:IsPair s.heap TI (.ref i1) (.ref i2))
  (h1:s.heap.IsListIter i1 l1 k1) (h2:s.heap.IsListIter i2 l2 k2) (hl1:s.heap.IsList l1 xs) (hl2:s.heap.IsList l2 ys) (hx:xs[k1]?=some x) (hy:ys[k2]?=some y)
  (hQ:∀ h',mY h' z TI TO (rawInt T) (.bool true)→h'.IsListIter i1 l1 (k1+1)→h'.IsListIter i2 l2 (k2+1)→IsPair h' s.heap.objs.size x y→h'.objs.size=s.heap.objs.size+1 →
   (∀ c o,c≠z→c≠i1→c≠i2→s.heap.get? c=some o→h'.get? c=some o)→Q (some (.ref s.heap.objs.size)) { s with heap:=h' }) :
  wpAny (model prog w) A (pyNext (.ref z)) Q E s:=by
 have hT':s.TypeIs (.ref z) "zip" := ⟨_,hz,rfl⟩;unfold pyNext;exact wpAny_bind (wpAny_attempt (wpAny_callSpecial?_slot (name:=Str.ofString "__next__") hT' F.slot_zip_next
  (wpAny_call_entry F.slot_zip_next hT' F.entry_zip_next
   (a09 D hz hT hTI h1 h2 hl1 hl2 hx hy fun h' a1 a3 a4 a5 a6 a7=>wpAny_pure (hQ h' a1 a3 a4 a5 a6 a7)) (F.args_zip_next_1 _))))
theorem yI {z TI TO i1 i2 l1 l2 T:Addr}{k1 k2:Nat}{xs ys:Array Value}{b1:Bool}{oT:Obj}{Q:Option Value→Shared→Prop}(hh:A.handled=none)(D:ZipApart z TI TO i1 i2 l1 l2)
  (hz:mY s.heap z TI TO (rawInt T) (.bool b1)) (hT:s.heap.get? T=some oT) (hTI:IsPair s.heap TI (.ref i1) (.ref i2))
  (h1:s.heap.IsListIter i1 l1 k1) (h2:s.heap.IsListIter i2 l2 k2) (hl1:s.heap.IsList l1 xs) (hl2:s.heap.IsList l2 ys) (hend:xs[k1]?=none∨ys[k2]?=none)
  (hQ:∀ h',(∀ c o,c≠z→c≠i1→c≠i2→s.heap.get? c=some o→h'.get? c=some o)→Q none { s with heap:=h' }):wpAny (model prog w) A (pyNext (.ref z)) Q E s:=by
 have hT':s.TypeIs (.ref z) "zip" := ⟨_,hz,rfl⟩;unfold pyNext;refine wpAny_bind (wpAny_attempt (wpAny_callSpecial?_slot (name:=Str.ofString "__next__") hT' F.slot_zip_next
  (wpAny_call_entry F.slot_zip_next hT' F.entry_zip_next (a1V hh D hz hT hTI h1 h2 hl1 hl2 hend fun h' e hk he=>?_) (F.args_zip_next_1 _))))
 obtain⟨o,ho,hc⟩:=he;refine wpAny_bind (wpAny_isInstance (T := "StopIteration") (b:=true) ⟨o,ho,hc⟩ isSubtype_stop ?_);exact wpAny_pure (hQ _ hk)
end
end PySem
namespace PySem
open Sem (wp)
structure ZAt (N z TI TO i1 i2 l1 l2:Addr)(xs ys:Array Value)(i:Nat)(h:Heap):Prop where
 tI:IsPair h TI (.ref i1) (.ref i2)
 it1:h.IsListIter i1 l1 i
 it2:h.IsListIter i2 l2 i
 li1:h.IsList l1 xs
 li2:h.IsList l2 ys
 zz:(i=0∧IsZip h z TI TO .none∧∃ a b,IsPair h TO a b)∨∃ T b1 oT,mY h z TI TO (rawInt (T:Addr)) (.bool b1)∧h.get? T=some oT∧N≤T
def AccZ (N:Nat)(xs ys:Array Value)(i:Nat)(h:Heap)(acc:Array Value):Prop:=
 acc.size=i∧∀(j:Nat) v,acc[j]?=some v→∃(T:Addr) (x y:Value),v=.ref T∧N≤T∧xs[j]?=some x∧ys[j]?=some y∧IsPair h T x y
theorem AccZ.up {N:Nat}{xs ys:Array Value}{i:Nat}{h h':Heap}{acc:Array Value}(a:AccZ N xs ys i h acc)(k:∀ b o,N≤b→h.get? b=some o→h'.get? b=some o):AccZ N xs ys i h' acc:=
 ⟨a.1,fun j v e=>let ⟨T,x,y,e1,e2,e3,e4,e5⟩:=a.2 j v e; ⟨T,x,y,e1,e2,e3,e4,k _ _ e2 e5⟩⟩
theorem AccZ.push {N:Nat}{xs ys:Array Value}{i:Nat}{h:Heap}{acc:Array Value}{T:Addr}{x y:Value}(a:AccZ N xs ys i h acc)(hT:N≤T)(hx:xs[i]?=some x)(hy:ys[i]?=some y)(hp:IsPair h T x y):AccZ N xs ys (i+1) h (acc.push (.ref T)):=by
 refine⟨by rw[Array.size_push,a.1],fun j v hj=>?_⟩;rw[Array.getElem?_push] at hj
 split at hj
 ·rename_i e; rw[a.1] at e; cases hj; rw[e]; exact⟨T,x,y,rfl,hT,hx,hy,hp⟩
 ·exact a.2 j v hj
theorem agt {N b c:Nat}(h1:c<N)(h2:N≤b):b≠c:=Nat.ne_of_gt (Nat.lt_of_lt_of_le h1 h2)
section
variable {prog:Program}{w:World}{A:Around}{R:Result→Shared→Prop}
theorem uO (hh:A.handled=none){N z TI TO i1 i2 l1 l2 S:Addr}{xs ys:Array Value}(D:ZipApart z TI TO i1 i2 l1 l2)(n1:z<N)(n2:TI<N)(n3:TO<N)(n4:i1<N)(n5:i2<N)(n6:l1<N)(n7:l2<N)(n8:S<N)
  (s1:S≠z) (s2:S≠TI) (s3:S≠TO) (s4:S≠i1) (s5:S≠i2) (s6:S≠l1) (s7:S≠l2) (res:Value) (hn:min xs.size ys.size≤sizeLine) :
  ∀(k i:Nat) (s:Shared) (acc:Array Value) (c:Nat),min xs.size ys.size-i=k→i≤min xs.size ys.size→N≤s.heap.objs.size→ZAt N z TI TO i1 i2 l1 l2 xs ys i s.heap →
  s.heap.get? S=some { cls:=.type "list", dict:=none,data:=.seq acc c,slots:=#[] }→AccZ N xs ys i s.heap acc →
  (∀ h' acc' c',(∀ b o,b<N→b∉[S,z,TO,i1,i2]→s.heap.get? b=some o→h'.get? b=some o)→h'.get? S=some { cls:=.type "list", dict:=none,data:=.seq acc' c',slots:=#[] } →
   AccZ N xs ys (min xs.size ys.size) h' acc'→R (.ok (.ret res)) { s with heap:=h' }) →
  codeAny (model prog w) A (.builtin "list.extend.loop" ⟨[.ref S,.ref z,res],[]⟩) R s:=by
 intro k
 induction k with
 | zero=>
  intro i s acc c hk hi hsz Z hS hacc hR;have hin:i=min xs.size ys.size:=by omega
  subst hin;have hend:xs[min xs.size ys.size]?=none∨ys[min xs.size ys.size]?=none:=by
   rcases Nat.le_total xs.size ys.size with h|h
   ·exact .inl (by rw[Nat.min_eq_left h]; exact Array.getElem?_eq_none (Nat.le_refl _))
   ·exact .inr (by rw[Nat.min_eq_right h]; exact Array.getElem?_eq_none (Nat.le_refl _))
  refine codeAny_builtin F.entry_extend_loop ?_;rw[Around.under_plainId F.plain_extend_loop _];show wpAny _ A.in1 (pyNext (.ref z) >>= _) _ _ s;refine wpAny_bind ?_;rcases Z.zz with⟨e0,hz,a,b,hTO⟩|⟨T,b1,oT,hz,hT,hNT⟩
  ·refine wpAny_pyNext_zip_end (A:=A.in1) hh D hz Z.tI hTO Z.it1 Z.it2 Z.li1 Z.li2 hend fun h' kp=>wpAny_pure (hR h' acc c (fun b o hb hm e=>?_) (kp _ _ s1 s3 s4 s5 hS) (hacc.up fun b o hb e=>?_))
   ·exact kp b o (fun z=>hm (by simp[z])) (fun z=>hm (by simp[z])) (fun z=>hm (by simp[z])) (fun z=>hm (by simp[z])) e
   ·exact kp b o (agt n1 hb) (agt n3 hb) (agt n4 hb) (agt n5 hb) e
  ·refine yI (A:=A.in1) hh D hz hT Z.tI Z.it1 Z.it2 Z.li1 Z.li2 hend fun h' kp=>wpAny_pure (hR h' acc c (fun b o hb hm e=>?_) (kp _ _ s1 s4 s5 hS) (hacc.up fun b o hb e=>?_))
   ·exact kp b o (fun z=>hm (by simp[z])) (fun z=>hm (by simp[z])) (fun z=>hm (by simp[z])) e
   ·exact kp b o (agt n1 hb) (agt n4 hb) (agt n5 hb) e
 | succ k ih=>
  intro i s acc c hk hi hsz Z hS hacc hR;have hlt:i<min xs.size ys.size:=by omega
  have hix:i<xs.size:=Nat.lt_of_lt_of_le hlt (Nat.min_le_left ..);have hiy:i<ys.size:=Nat.lt_of_lt_of_le hlt (Nat.min_le_right ..);have ex:=Array.getElem?_eq_getElem hix;have ey:=Array.getElem?_eq_getElem hiy;refine codeAny_builtin F.entry_extend_loop ?_;rw[Around.under_plainId F.plain_extend_loop _];show wpAny _ A.in1 (pyNext (.ref z) >>= _) _ _ s;refine wpAny_bind ?_;have next:∀(h':Heap) (T:Addr) (b1:Bool) (oT:Obj),mY h' z TI TO (rawInt T) (.bool b1)→h'.get? T=some oT→N≤T→h'.IsListIter i1 l1 (i+1)→h'.IsListIter i2 l2 (i+1)→IsPair h' s.heap.objs.size xs[i] ys[i]→h'.objs.size=s.heap.objs.size+1 →
    (∀ c o,c≠z→c≠TO→c≠i1→c≠i2→s.heap.get? c=some o→h'.get? c=some o) →
    wpAny (model prog w) A.in1 (updateSeq S (·.push (.ref s.heap.objs.size)) >>= fun _=>again (.builtin "list.extend.loop" ⟨[.ref S,.ref z,res],[]⟩)) (fun fin s'=>match fin with|.done f=>R (.ok f) s'|.again c'=>c'.quiet=true∧codeAny (model prog w) A c' R s') (fun e s'=>R (.error e) s') { s with heap:=h' }:=by
   intro h' T b1 oT hz hT hNT it1 it2 hp hsz' kp;have hS':=kp _ _ s1 s3 s4 s5 hS;refine wpAny_bind ?_;have oth:∀ b o,b≠S→h'.get? b=some o→(h'.update S (Obj.mapSeq (·.push (.ref s.heap.objs.size)))).get? b=some o:=fun b o hb e=>(Heap.get?_update_other _ _ (Ne.symm hb)).trans e;refine wpAny_updateSeq hS' rfl (wpAny_pure ⟨plainId_quiet F.plain_extend_loop _,ih (i+1) _ (acc.push (.ref s.heap.objs.size)) _ (by omega) hlt ?_ ⟨?_,?_,?_,?_,?_,?_⟩ (Heap.get?_update_self _ hS' rfl) ?_ fun h'' acc' c' kp2 hS2 hacc2=>?_⟩)
    (by rw[hacc.1]; omega) (by show(acc.push _).size≤sizeLine+1; rw[Array.size_push,hacc.1]; omega)
   ·show N≤(h'.update S _).objs.size;rw[Heap.size_update,hsz']; exact Nat.le_succ_of_le hsz
   ·exact oth _ _ (Ne.symm s2) (kp _ _ D.TIz D.TITO D.TIi1 D.TIi2 Z.tI)
   ·exact it1.at fun o e=>oth _ o (Ne.symm s4) e
   ·exact it2.at fun o e=>oth _ o (Ne.symm s5) e
   ·exact Z.li1.at fun o e=>oth _ o (Ne.symm s6) (kp _ o D.l1z D.l1TO D.l1i1 D.l1i2 e)
   ·exact Z.li2.at fun o e=>oth _ o (Ne.symm s7) (kp _ o D.l2z D.l2TO D.l2i1 D.l2i2 e)
   ·exact .inr ⟨T,b1,oT,oth _ _ (Ne.symm s1) hz,oth _ _ (agt n8 hNT) hT,hNT⟩
   ·exact AccZ.push (hacc.up fun b o hb e=>oth _ _ (agt n8 hb) (kp _ _ (agt n1 hb) (agt n3 hb) (agt n4 hb) (agt n5 hb) e)) hsz ex ey (oth _ _ (agt n8 hsz) hp)
   ·refine hR h'' acc' c' (fun b o hb hm e=>kp2 b o hb hm (oth b o (fun z=>hm (by simp[z])) ?_)) hS2 hacc2;exact kp b o (fun z=>hm (by simp[z])) (fun z=>hm (by simp[z])) (fun z=>hm (by simp[z])) (fun z=>hm (by simp[z])) e
  rcases Z.zz with⟨e0,hz,a,b,hTO⟩|⟨T,b1,oT,hz,hT,hNT⟩
  ·refine wpAny_pyNext_zip_item (A:=A.in1) D hz Z.tI hTO Z.it1 Z.it2 Z.li1 Z.li2 ex ey fun h' a1 a2 a3 a4 a5 a6 kp=>?_;exact next h' s.heap.objs.size false _ a1 a5 hsz a3 a4 a5 a6 kp
  ·refine wV (A:=A.in1) D hz hT Z.tI Z.it1 Z.it2 Z.li1 Z.li2 ex ey fun h' a1 a3 a4 a5 a6 kp=>?_;exact next h' T true oT a1 (kp _ _ (agt n1 hNT) (agt n4 hNT) (agt n5 hNT) hT) hNT a3 a4 a5 a6 fun c o c1 _ c3 c4 e=>kp c o c1 c3 c4 e
end
section
variable {prog:Program}{w:World}{A:Around}{E:Value→Shared→Prop}{s:Shared}
theorem a2L {Q:Value→Shared→Prop}{z TI TO i1 i2 l1 l2:Addr}{xs ys:Array Value}{a b:Value}(hh:A.handled=none)(D:ZipApart z TI TO i1 i2 l1 l2)
  (hz:IsZip s.heap z TI TO .none) (hTI:IsPair s.heap TI (.ref i1) (.ref i2)) (hTO:IsPair s.heap TO a b) (h1:s.heap.IsListIter i1 l1 0) (h2:s.heap.IsListIter i2 l2 0) (hl1:s.heap.IsList l1 xs) (hl2:s.heap.IsList l2 ys) (hn:min xs.size ys.size≤sizeLine)
  (hQ:∀ h' acc' c',(∀ b o,b∉[z,TO,i1,i2]→s.heap.get? b=some o→h'.get? b=some o)→h'.get? s.heap.objs.size=some { cls:=.type "list", dict:=none,data:=.seq acc' c',slots:=#[] } →
   AccZ (s.heap.objs.size+1) xs ys (min xs.size ys.size) h' acc'→Q (.ref s.heap.objs.size) { s with heap:=h' }) :
  wpAny (model prog w) A (call (.type "list") [.ref z]) Q E s:=by
 refine callType_codes (Q₁:=fun obj s₁=>obj=.ref s.heap.objs.size∧s₁={ s with heap:=s.heap.push { cls:=.type "list", data:=.seq #[] } }) F.called_list (F.typeCall_list_1 _) F.entry_list_init
  (code_list_new _ ⟨rfl,rfl⟩) fun obj s₁ h₁=>?_
 obtain⟨rfl,rfl⟩:=h₁;have hS:(s.heap.push { cls:=.type "list", data:=.seq #[] }).get? s.heap.objs.size=some { cls:=.type "list", data:=.seq #[] }:=Heap.get?_push_size _ rfl;refine⟨⟨_,hS,rfl⟩,F.args_list_init_2 _ _,?_⟩;generalize hSe:s.heap.objs.size=S at *;have lt:∀{c o},s.heap.get? c=some o→c<S:=fun e=>by rw[← hSe]; exact Heap.lt_size e
 have lz:=lt hz;have lTI:=lt hTI;have lTO:=lt hTO;have li1:i1<S:=by obtain⟨_,e,_⟩:=h1; exact lt e
 have li2:i2<S:=by obtain⟨_,e,_⟩:=h2; exact lt e
 have ll1:l1<S:=by obtain⟨_,e,_⟩:=hl1; exact lt e
 have ll2:l2<S:=by obtain⟨_,e,_⟩:=hl2; exact lt e
 show wpAny _ _ (do let old←Builtin.List.listItems (.ref S); Builtin.List.listUpdate (.ref S) (fun _=>#[]); letGo old.toList.reverse; Builtin.List.listExtendWith (.ref S) (.ref z) .none) _ _ _;refine wpAny_bind ?_;unfold Builtin.List.listItems;refine wpAny_bind (wpAny_seqItems hS rfl (wpAny_pure ?_));show wpAny _ _ (updateSeq S (fun _=>#[]) >>= fun _=>letGo (#[]:Array Value).toList.reverse >>= fun _=>Builtin.List.listExtendWith (.ref S) (.ref z) .none) _ _ _;refine wpAny_bind (wpAny_updateSeq hS rfl ?_);have hS₂:=Heap.get?_update_self (Obj.mapSeq (fun _=>(#[]:Array Value))) hS rfl;have up₂:∀ b o,s.heap.get? b=some o→((s.heap.push { cls:=.type "list", data:=.seq #[] }).update S (Obj.mapSeq (fun _=>(#[]:Array Value)))).get? b=some o:=
  fun b o e=>(Heap.get?_update_other _ _ (Nat.ne_of_gt (lt e))).trans (Heap.get?_push_of_some _ e)
 have sz₂:((s.heap.push { cls:=.type "list", data:=.seq #[] }).update S (Obj.mapSeq (fun _=>(#[]:Array Value)))).objs.size=S+1:=by rw[Heap.size_update,Heap.size_push,hSe]
 generalize (s.heap.push { cls:=.type "list", data:=.seq #[] }).update S (Obj.mapSeq (fun _=>(#[]:Array Value)))=hp at *;refine wpAny_bind (wpAny_letGo ?_);have hT:(({ s with heap:=hp }:Shared)).TypeIs (.ref z) "zip" := ⟨_,up₂ _ _ hz,rfl⟩;unfold Builtin.List.listExtendWith;refine wpAny_bind (wpAny_typeOf hT ?_);have g1:Builtin.List.listSameRef (.ref S) (.ref z)=false:=by simp[Builtin.List.listSameRef]; exact Nat.ne_of_gt lz
 have g2:(Value.type "zip" == Value.type "list")=false:=by decide
 have g3:(Value.type "zip" == Value.type "tuple")=false:=by decide
 simp only[g1,g2,g3,Bool.or_false,Bool.false_eq_true,if_false];refine wpAny_bind (wpAny_pyIter_zip (up₂ _ _ hz) ?_);refine wpAny_bind (wpAny_holding ?_);unfold Builtin.List.listLengthHint;refine wpAny_bind (wpAny_specialOf hT F.zip_no_len ?_);show wpAny _ _ (specialOf (Value.ref z) (Str.ofString "__length_hint__") >>= _) _ _ _;refine wpAny_bind (wpAny_specialOf hT F.zip_no_hint ?_);refine wpAny_pure ?_;show wpAny _ _ (rule "list.extend.makes-room" >>= fun _=>Builtin.List.listTouch (.ref S) >>= fun _=>
  again (.builtin "list.extend.loop" ⟨[.ref S,.ref z,.none],[]⟩)) _ _ _
 refine wpAny_bind (wpAny_rule ?_);refine wpAny_bind ?_;show wpAny _ _ (updateSeq S (·.push .none) >>= fun _=>updateSeq S (·.pop)) _ _ _;refine wpAny_bind (wpAny_updateSeq hS₂ rfl ?_);have hS₃:=Heap.get?_update_self (Obj.mapSeq (·.push Value.none)) hS₂ rfl;refine wpAny_updateSeq hS₃ rfl ?_;have hS₄:=Heap.get?_update_self (Obj.mapSeq (·.pop)) hS₃ rfl;have up₄:∀ b o,s.heap.get? b=some o→((hp.update S (Obj.mapSeq (·.push Value.none))).update S (Obj.mapSeq (·.pop))).get? b=some o:=
  fun b o e=>(Heap.get?_update_other _ _ (Nat.ne_of_gt (lt e))).trans ((Heap.get?_update_other _ _ (Nat.ne_of_gt (lt e))).trans (up₂ b o e))
 have sz₄:((hp.update S (Obj.mapSeq (·.push Value.none))).update S (Obj.mapSeq (·.pop))).objs.size=S+1:=by rw[Heap.size_update,Heap.size_update,sz₂]
 refine wpAny_pure ⟨plainId_quiet F.plain_extend_loop _,uO (A:=A.in1) hh (N:=S+1) (S:=S) (xs:=xs) (ys:=ys) D (Nat.lt_succ_of_lt lz) (Nat.lt_succ_of_lt lTI) (Nat.lt_succ_of_lt lTO) (Nat.lt_succ_of_lt li1) (Nat.lt_succ_of_lt li2) (Nat.lt_succ_of_lt ll1) (Nat.lt_succ_of_lt ll2) (Nat.lt_succ_self _) (Nat.ne_of_gt lz) (Nat.ne_of_gt lTI) (Nat.ne_of_gt lTO) (Nat.ne_of_gt li1) (Nat.ne_of_gt li2) (Nat.ne_of_gt ll1) (Nat.ne_of_gt ll2) .none hn _ 0 _ _ _ rfl (Nat.zero_le _) (by show S+1≤_; rw[sz₄]; exact Nat.le_refl _) ⟨up₄ _ _ hTI,h1.at fun o e=>up₄ _ o e,h2.at fun o e=>up₄ _ o e,hl1.at fun o e=>up₄ _ o e,hl2.at fun o e=>up₄ _ o e,.inl ⟨rfl,up₄ _ _ hz,_,_,up₄ _ _ hTO⟩⟩ hS₄ ⟨rfl,fun j v e=>by simp at e⟩ fun h' acc' c' kp e1 e2=>?_⟩;exact⟨rfl,hQ h' acc' c' (fun b o hm e=>kp b o (Nat.lt_succ_of_lt (lt e)) (fun h=>by
  rcases List.mem_cons.mp h with z|z
  ·exact absurd (lt e) (by rw[z]; exact Nat.lt_irrefl _)
  ·exact hm z) (up₄ b o e)) e1 e2⟩
end
end PySem
namespace L2
open PySem PySem.Spec PyProof.Rows
theorem a87:∀{v v':V} {u:Value},RelV v u→RelV v' u→v=v':=by
 intro v v' u h h';have go:∀{v:V} {u:Value},RelV v u→v=(match u with|.none=>V.non|.bool b=>.bl b|.int i _=>.int i|.str x _=>.str x|.bytes b _=>.byt b|.float b _=>.flt b|.ref a=>.ref a|.type n=>.ty n|_=>.non):=by
  intro v u h
  cases v<;>first
   | (cases h; rfl)
   | (obtain⟨t,rfl⟩:=h; rfl)
 rw[go h,←go h']
section
variable {X:Cx}{pins:List (Addr×Obj)}{σ:List (Option V)}{H:Hp}{s:Shared}
theorem Inv.laidN {H2:Hp}{h':Heap}{t':Nat}(I:Inv X pins σ H s)(k:∀ b u,s.heap.get? b=some u→h'.get? b=some u)(lo:∀ b,b<s.heap.objs.size→H2 b=H b)
  (new:∀ b o,s.heap.objs.size≤b→H2 b=some o→ObjOk X.prog X.w H2 h' b o):Inv X pins σ H2 { s with heap:=h',toks:=t' }:=by
 refine I.un ⟨fun b u q _ _ _=>k b u q,fun b u q _ _ _=>⟨u.slots,k b u q⟩,fun b u q n _=>(lo b (Heap.lt_size q)).trans n,fun b u q _=>⟨u,k b u q⟩,fun b xs q=>(lo b (I.hok.lt q)).trans q,fun b u xs q=>(lo b (I.hok.lt q)).trans q,fun b ps q=>⟨#[],by rw[lo b (I.hok.lt q),q]; simp⟩⟩ fun b o e=>?_
 by_cases hb:b<s.heap.objs.size
 ·rw[lo b hb] at e;exact(I.hok b o e).stay (fun c v _ q=>k c v q) (fun c q=>(lo c (I.hok.lt q)).trans q) fun c xs q=>(lo c (I.hok.lt q)).trans q
 ·exact new b o (Nat.le_of_not_lt hb) e
def tLZ (K:Fg)(ta:TA):TE:=fun σ H Q=>ta σ H fun vs H1=>∃ p q xs ys,vs=[.ref p,.ref q]∧SqL K H1 p xs∧SqL K H1 q ys ∧
 ∀(l:Addr) (H2:Hp) (us:List V),H1 l=none→Same H1 H2→H2 l=some (.lst us)→Paired (fun(v:V) (z:V×V)=>∃ T,v=.ref T∧H1 T=none∧T≠l∧H2 T=some (.tup [z.1,z.2])) us (xs.zip ys)→Q (.ref l) H2
theorem a4F {α β:Type}{P:α→β→Prop}:∀{xs:List α} {us:List β},xs.length=us.length→(∀(i:Nat) x u,xs[i]?=some x→us[i]?=some u→P x u)→Paired P xs us
 | [],[],_,_=>.nil
 | x::xs,u::us,hl,h=>.cons (h 0 x u rfl rfl) (a4F (by simpa using hl) fun i y w e1 e2=>h (i+1) y w (by simpa using e1) (by simpa using e2))
theorem Vals.at {xs:List V}{us:List Value}(h:Vals xs us){i:Nat}{u:Value}(e:us[i]?=some u):∃ x,xs[i]?=some x∧RelV x u:=by
 induction h generalizing i with
 | nil=>simp at e
 | @cons x w xs us hx _ ih=>
  cases i with
  | zero=>simp at e; subst e; exact⟨x,rfl,hx⟩
  | succ i=>simpa using ih (by simpa using e)
open Classical in
theorem a7B {h0 h':Heap}{N:Nat}{xs ys:List V}{ix iy:List Value}{acc:Array Value}{c':Nat}{Q:VK}{l:Addr}(I:Inv X pins σ H s)(kp:∀ b u,s.heap.get? b=some u→h'.get? b=some u)(rx:Vals xs ix)(ry:Vals ys iy)(hl:s.heap.objs.size≤l)
  (e1:h'.get? l=some { cls:=.type "list", dict:=none,data:=.seq acc c',slots:=#[] }) (e2:AccZ (l+1) ix.toArray iy.toArray (min ix.toArray.size iy.toArray.size) h' acc) (hz:xs.length≤sizeLine)
  (k:∀(l:Addr) (H2:Hp) (us:List V),H l=none→Same H H2→H2 l=some (.lst us)→Paired (fun(v:V) (z:V×V)=>∃ T,v=.ref T∧H T=none∧T≠l∧H2 T=some (.tup [z.1,z.2])) us (xs.zip ys)→Q (.ref l) H2) :
  EP X pins σ Q (.ref l) { s with heap:=h' }:=by
 obtain⟨hs,ha⟩:=e2
 let Pr:Addr→V×V→Prop:=fun b z=>∃ ux uy,l+1≤b∧IsPair h' b ux uy∧RelV z.1 ux∧RelV z.2 uy∧∃ j:Nat,acc[j]?=some (Value.ref b)
 have prU:∀ b z z',Pr b z→Pr b z'→z=z':=by
  rintro b ⟨z1,z2⟩ ⟨z3,z4⟩ ⟨ux,uy,_,p1,p2,p3,_⟩ ⟨vx,vy,_,q1,q2,q3,_⟩;have e:=p1.symm.trans q1;simp only[Option.some.injEq,Obj.mk.injEq,Data.seq.injEq,Array.mk.injEq,List.cons.injEq,and_true,true_and] at e;obtain⟨rfl,rfl⟩:=e;have e1:z1=z3:=a87 p2 q2;have e2:z2=z4:=a87 p3 q3;rw[e1,e2]
 let us:List V:=(acc.toList).map fun u=>match u with|.ref T=>V.ref T|_=>V.non
 let H2:Hp:=fun b=>if b=l then some (.lst us) else if hb:∃ z,Pr b z then some (.tup [(choose hb).1,(choose hb).2]) else H b
 have h2P:∀ b z,b≠l→Pr b z→H2 b=some (.tup [z.1,z.2]):=fun b z hb hz=>by
  have hx:∃ z,Pr b z:=⟨z,hz⟩
  show(if b=l then _ else if hb:∃ z,Pr b z then _ else _)=_
  rw[if_neg hb,dif_pos hx,prU b _ z (choose_spec hx) hz]
 have h2l:H2 l=some (.lst us):=by show(if l=l then _ else _)=_; rw[if_pos rfl]
 have lo:∀ b,b<s.heap.objs.size→H2 b=H b:=fun b hb=>by
  have n1:b≠l:=Nat.ne_of_lt (Nat.lt_of_lt_of_le hb hl);have n2:¬∃ z,Pr b z:=fun⟨z,ux,uy,hN,_⟩=>absurd (Nat.lt_of_lt_of_le hb (Nat.le_trans hl (Nat.le_of_succ_le hN))) (Nat.lt_irrefl _)
  show(if b=l then _ else if hb:∃ z,Pr b z then _ else _)=_
  rw[if_neg n1,dif_neg n2]
 have hxl:=rx.length;have hyl:=ry.length;have hmin:min ix.toArray.size iy.toArray.size≤xs.length:=by rw[hxl]; simpa using Nat.min_le_left _ _
 have vus:Vals us acc.toList:=by
  refine a6P (by simp[us]) fun i x u e3 e4=>?_;obtain⟨T,ux,uy,e5,_⟩:=ha i u (by simpa using e4);have e6:us[i]?=some (V.ref T):=by
   simp only[us];rw[List.getElem?_map,e4,e5]; rfl
  rw[e6] at e3; cases e3;rw[e5]; exact rfl
 refine⟨.ref l,H2,I.laidN (t':=s.toks) kp lo fun b o hb eb=>?_,rfl,k l H2 us (I.hok.fresh hl) (fun b o e=>(lo b (I.hok.lt e)).trans e) h2l ?_⟩
 ·have eb:(if b=l then some (HO.lst us) else if hb:∃ z,Pr b z then some (HO.tup [(choose hb).1,(choose hb).2]) else H b)=some o:=eb
  by_cases n1:b=l
  ·rw[if_pos n1] at eb
   cases eb
   subst n1;refine⟨?_,acc.toList,c',vus,by simpa using e1⟩;rw[vus.length,Array.length_toList,hs];exact Nat.le_trans hmin hz
  ·rw[if_neg n1] at eb
   split at eb
   ·rename_i hx
    cases eb
    obtain⟨ux,uy,_,p1,p2,p3,_⟩:=choose_spec hx;exact⟨iM (by show 2≤1000; decide),[ux,uy],.cons p2 (.cons p3 .nil),⟨_,p1,rfl,_,rfl⟩⟩
   ·rw[I.hok.fresh hb] at eb; cases eb
 ·have hlen:us.length=(xs.zip ys).length:=by
   rw[vus.length,Array.length_toList,hs,List.length_zip,hxl,hyl]; simp
  refine a4F hlen fun i v z e3 e4=>?_;have hi:i<acc.size:=by
   have:=(List.getElem?_eq_some_iff.mp e3).1;rw[vus.length,Array.length_toList] at this;exact this
  have e5:acc[i]?=some acc[i]:=Array.getElem?_eq_getElem hi;obtain⟨T,ux,uy,e6,hT,g1,g2,g3⟩:=ha i _ e5;have e7:us[i]?=some (V.ref T):=by
   simp only[us];rw[List.getElem?_map,Array.getElem?_toList,e5,e6]; rfl
  rw[e7] at e3; cases e3;obtain⟨x,ex,rx'⟩:=Vals.at rx (i:=i) (u:=ux) (by simpa using g1);obtain⟨y,ey,ry'⟩:=Vals.at ry (i:=i) (u:=uy) (by simpa using g2);have ez:z=(x,y):=by
   rw[List.getElem?_zip_eq_some] at e4;obtain⟨f1,f2⟩:=e4;rw[ex] at f1; rw[ey] at f2
   cases f1; cases f2; rfl
  subst ez;have hTl:T≠l:=Nat.ne_of_gt hT;exact⟨T,rfl,I.hok.fresh (Nat.le_trans hl (Nat.le_of_succ_le hT)),hTl,h2P T (x,y) hTl ⟨ux,uy,hT,g3,rx',ry',i,by rw[e5,e6]⟩⟩
theorem aAJ {a b:Expr}{ta:TA}{p p2 pos pos2:Pos}(hc:X.calm=true)(hg1:Gl X "list")(hm1:X.mg "list" = none)(hg2:Gl X "zip")(hm2:X.mg "zip" = none)(ha:PA X [a,b] ta)
  (he:starEach [.Call (.Name "zip" p2) [a,b] [] pos2] X.env=[(false,eval (.Call (.Name "zip" p2) [a,b] [] pos2) X.env)]:=by rfl)
  (he2:starEach [a,b] X.env=(false,eval a X.env)::starEach [b] X.env:=by rfl) (hpl2:(backTo pos2 (starEach [b] X.env)).any (·.1)=false:=by rfl) :
  PE X (.Call (.Name "list" p) [.Call (.Name "zip" p2) [a,b] [] pos2] [] pos) (tLZ X.K ta):=by
 intro pins s σ H Q I h;refine wpAny_Call_Name_kw (wM I hg1 hm1 boot_list ?_ (by decide) (by decide));refine PyProof.Rows.callWith_type1 (rest:=[]) ?_ he rfl;rw[he];refine Calls.spliced_cons ?_;refine wpAny_Call_Name_kw (wM I hg2 hm2 boot_zip ?_ (by decide) (by decide));refine PyProof.Rows.callWith_type1 (thn (ha pos2 pins s σ H _ I h) fun us s1 ⟨vs,H1,I1,r1,p,q,xs,ys,e,hp,hq,k⟩=>?_) he2 hpl2;subst e
 cases r1 with
 | cons ra rb=>
  cases rb with
  | cons rb rc=>
   cases rc
   cases ra
   cases rb
   obtain⟨ix,rx,px,zx⟩:=I1.list hp;obtain⟨iy,ry,py,zy⟩:=I1.list hq;refine call_zip_2 px.isList py.isList fun h' hz hTI hTO i1 i2 sz kp=>?_;refine Calls.spliced_nil ?_;have lp:p<s1.heap.objs.size:=by obtain⟨o,e,_⟩:=px.isList; exact Heap.lt_size e
   have lq:q<s1.heap.objs.size:=by obtain⟨o,e,_⟩:=py.isList; exact Heap.lt_size e
   have ap:∀{b:Addr} (n:Nat),b<s1.heap.objs.size→b≠s1.heap.objs.size+n:=fun n hb=>Nat.ne_of_lt (Nat.lt_of_lt_of_le hb (Nat.le_add_right _ _));have ne:∀(m n:Nat),m≠n→s1.heap.objs.size+m≠s1.heap.objs.size+n:=fun m n h e=>h (Nat.add_left_cancel e);have D:ZipApart (s1.heap.objs.size+4) (s1.heap.objs.size+2) (s1.heap.objs.size+3) (s1.heap.objs.size+0) (s1.heap.objs.size+1) p q:=
    ⟨ne _ _ (by decide),ne _ _ (by decide),ne _ _ (by decide),ne _ _ (by decide),ne _ _ (by decide),ne _ _ (by decide),ne _ _ (by decide),ne _ _ (by decide),ne _ _ (by decide),ne _ _ (by decide),ap _ lp,ap _ lp,ap _ lp,ap _ lp,ap _ lq,ap _ lq,ap _ lq,ap _ lq⟩
   have hmn:min ix.toArray.size iy.toArray.size≤sizeLine:=Nat.le_trans (Nat.min_le_left _ _) (by rw[List.size_toArray,←rx.length]; exact zx);refine a2L (I.ok.hd hc) D hz hTI hTO i1 i2 (px.isList.at fun o e=>kp _ o e) (py.isList.at fun o e=>kp _ o e) hmn fun h'' acc c kp2 e1 e2=>?_;have hsz:s1.heap.objs.size≤h'.objs.size:=by rw[sz]; exact Nat.le_add_right _ _
   have kp3:∀ b u,s1.heap.get? b=some u→h''.get? b=some u:=fun b u e=>kp2 b u (fun hm=>by
    have lb:=Heap.lt_size e;simp only[List.mem_cons,List.not_mem_nil,or_false] at hm;rcases hm with z|z|z|z
    ·exact ap _ lb z
    ·exact ap _ lb z
    ·exact ap 0 lb z
    ·exact ap _ lb z) (kp b u e)
   show EP X pins σ Q _ { s1 with heap:=h'' };exact a7B (s:=s1) (h0:=h') (N:=0) I1 kp3 rx ry hsz e1 e2 zx k
end
end L2
namespace L2.VS
open PySem PySem.Spec PyProof.Rows
section
variable {P0:Addr→Hp→Prop}{K:Fg}
def aK5 (ds es:List D):List D:=(ds.zip es).map fun p=>.tuple [p.1,p.2]
def a2F (ma mb:ME):MO:=fun Γ Q=>ma Γ fun x Γ1=>mb Γ1 fun y Γ2=>match x,y with
 | .list ds,.list es=>Q (.own (aK5 ds es)) Γ2
 | _,_=>False
theorem _root_.L2.Dts.zip {G:Hp}:∀{xs ys:List V} {ds es:List D},Dts G xs ds→Dts G ys es→Paired (fun(z:V×V) (e:D×D)=>Dt G z.1 e.1∧Dt G z.2 e.2) (xs.zip ys) (ds.zip es):=by
 intro xs ys ds es h g
 induction ds generalizing xs ys es with
 | nil=>cases h; exact .nil
 | cons x ds ih=>
  cases h with
  | cons a b=>
   cases es with
   | nil=>cases g; exact .nil
   | cons y es=>cases g with|cons c d=>exact .cons ⟨a,c⟩ (ih b d)
open Classical in
theorem a9S {ta tb:TE}{ma mb:ME}(ha:VT P0 ta ma)(hb:VT P0 tb mb):VO P0 (tLZ K (fH ta (fH tb z7))) (a2F ma mb):=by
 intro F Γ σ G H Q Qm r m k;refine ha F Γ σ G H _ _ r m fun d Γ1 x G1 H1 m1 s1 r1 d1=>?_;refine hb F Γ1 σ G1 H1 _ _ r1 m1 fun e Γ2 y G2 H2 m2 s2 r2 d2=>?_;have d1:=Dt.same s2 _ _ d1
 split at m2
 ·rename_i ds0 es0 _
  cases d1 with
  | @lst p xs _ hp rs=>
   cases d2 with
   | @lst q ys _ hq ss=>
    refine⟨p,q,xs,ys,rfl,SqL.of (r2.fr.sub _ _ hp),SqL.of (r2.fr.sub _ _ hq),fun l H3 us hl sm el pr=>?_⟩
    let G3:Hp:=fun b=>if G2 b=none then(if V.ref b∈us then H3 b else none) else G2 b
    have fresh:∀ b,V.ref b∈us→H2 b=none∧b≠l:=by
     intro b hb;have:∀{us:List V} {zs:List (V×V)},Paired (fun(v:V) (z:V×V)=>∃ T,v=.ref T∧H2 T=none∧T≠l∧H3 T=some (.tup [z.1,z.2])) us zs→V.ref b∈us→H2 b=none∧b≠l:=by
      intro us zs h
      induction h with
      | nil=>intro h; cases h
      | cons h1 _ ih=>
       intro h;rcases List.mem_cons.mp h with e|e
       ·obtain⟨T,e1,e2,e3,_⟩:=h1;rw[← e] at e1
        cases e1
        exact⟨e2,e3⟩
       ·exact ih e
     exact this pr hb
    have g:Same G2 G3:=fun b o e=>by
     show(if G2 b=none then _ else _)=_
     rw[if_neg (by rw[e]; intro z; cases z)];exact e
    have sub:Same G3 H3:=fun b o e=>by
     have e:(if G2 b=none then(if V.ref b∈us then H3 b else none) else G2 b)=some o:=e
     split at e
     ·split at e
      ·exact e
      ·cases e
     ·exact sm _ _ (r2.fr.sub _ _ e)
    have off:∀ b,H2 b≠none→G3 b=G2 b:=fun b hb=>by
     show(if G2 b=none then(if V.ref b∈us then H3 b else none) else G2 b)=_
     split
     ·rename_i e
      rw[if_neg fun h=>hb (fresh b h).1,e]
     ·rfl
    have f:Rf F G3 H3:=⟨sub,fun b o e=>by
      obtain⟨o',e'⟩:=r2.fr.dom e;rw[off b (by rw[e']; intro z; cases z)];exact r2.fr.g0 b o e,fun b o e hb=>sm _ _ (r2.fr.h0 b o e hb),F.stab' H2 _ (fun b u e=>by
      obtain⟨o',e'⟩:=r2.fr.dom e;rw[e'];exact sm _ _ e') r2.fr.pn⟩
    have kp:∀ b o,F.H0 b=none→G2 b=none→H2 b=some o→G3 b=none∧H3 b=some o:=fun b o _ e1 e2=>⟨by rw[off b (by rw[e2]; intro z; cases z)]; exact e1,sm _ _ e2⟩;have r3:R F Γ2 σ G3 H3:=r2.keep f g fun b o _ e0 e1 e2=>kp b o e0 e1 e2;have dus:Dts G3 us (aK5 ds0 es0):=by
     have go:∀{us':List V} {zs:List (V×V)} {es:List (D×D)},(∀ v∈us',v∈us)→Paired (fun(v:V) (z:V×V)=>∃ T,v=.ref T∧H2 T=none∧T≠l∧H3 T=some (.tup [z.1,z.2])) us' zs→Paired (fun(z:V×V) (e:D×D)=>Dt G2 z.1 e.1∧Dt G2 z.2 e.2) zs es→Dts G3 us' (es.map fun p=>.tuple [p.1,p.2]):=by
      intro us' zs es hin h
      induction h generalizing es with
      | nil=>intro h2; cases h2; exact .nil
      | cons h1 _ ih=>
       intro h2
       cases h2 with
       | cons h3 h4=>
        obtain⟨T,rfl,e2,e3,e4⟩:=h1;refine .cons (.tup ?_ (.cons (Dt.same g _ _ h3.1) (.cons (Dt.same g _ _ h3.2) .nil))) (ih (fun v hv=>hin v (List.mem_cons_of_mem _ hv)) h4)
        show(if G2 T=none then(if V.ref T∈us then H3 T else none) else G2 T)=_
        rw[if_pos (r2.fr.gfresh e2),if_pos (hin _ List.mem_cons_self)];exact e4
     exact go (fun _ h=>h) pr (rs.zip ss)
    have hl3:G3 l=none:=by
     show(if G2 l=none then(if V.ref l∈us then H3 l else none) else G2 l)=_
     rw[if_pos (r2.fr.gfresh hl),if_neg fun h=>(fresh l h).2 rfl]
    exact k _ _ _ _ _ m2 ((s1.trans s2).trans g) r3 ⟨l,us,rfl,r2.fr.fresh hl,hl3,el,dus⟩ (Apart.new r2 hl g kp)
 ·exact m2.elim
theorem aD9 {ma mb:ME}{Γ:En}{Q:Rv→En→Prop}(h:ma Γ fun x Γ1=>mb Γ1 fun y Γ2=>match x,y with|.list ds,.list es=>Q (.own (aK5 ds es)) Γ2|_,_=>False):a2F ma mb Γ Q:=h
end
end L2.VS
namespace L2
open PySem PySem.Spec PyProof.Rows
section
variable {X:Cx}{pins:List (Addr×Obj)}{σ:List (Option V)}{H:Hp}{s:Shared}
theorem Inv.turnedL {h':Heap}{t':Nat}{ch:List Addr}{T:Addr}{o:HO}(I:Inv X pins σ H s)(k:∀ b u,b∉ch→s.heap.get? b=some u→h'.get? b=some u)(hch:∀ b∈ch,aB3 X pins H b)(hT:s.heap.objs.size≤T)
  (new:ObjOk X.prog X.w (upd H T o) h' T o):Inv X pins σ (upd H T o) { s with heap:=h',toks:=t' }:=by
 have hn:=I.hok.fresh hT;have nch:∀ b u,H b=some u→b∉ch:=fun b u e z=>by rw[(hch b z).1] at e; cases e
 refine I.step (g':=s.gens) (d':=s.drawn) (ch:=ch) (fun b hb=>⟨(hch b hb).2.2.2.1,(hch b hb).2.1,(hch b hb).2.2.2.2.1,(hch b hb).2.2.2.2.2⟩) (fun b o _ _ hc e _=>k b o hc e) (fun b o _ _ hc e _=>⟨o.slots,k b o hc e⟩)
  (fun b u _ e n=>by rw[b7 (Nat.ne_of_lt (Nat.lt_of_lt_of_le (Heap.lt_size e) hT))]; exact n) (fun b o hc e=>⟨o,k b o hc e⟩) (fun b xs q=>by rw[b7 (bG q hn)]; exact q) (fun b u xs q=>by rw[b7 (bG q hn)]; exact q)
  (fun b ps q=>⟨#[],by rw[b7 (bG q hn),q]; simp⟩) (fun m hm=>?_) (fun b u e=>?_) I.bare
 ·obtain⟨o,es,ep,ho,r⟩:=hm;exact⟨o,es,ep,k _ o (fun z=>(hch _ z).2.1 rfl) ho,r⟩
 ·by_cases hb:b=T
  ·subst hb; rw[bM] at e; cases e; exact new
  ·rw[b7 hb] at e;refine(I.hok b u e).stay (fun c v hc q=>k c v ?_ q) (fun c q=>by rw[b7 (bG q hn)]; exact q) fun c xs q=>by rw[b7 (bG q hn)]; exact q
   rcases hc with z|z
   ·rw[z]; exact nch b u e
   ·exact nch c _ z
theorem Inv.turnedC {h':Heap}{t':Nat}{ch:List Addr}(I:Inv X pins σ H s)(k:∀ b u,b∉ch→s.heap.get? b=some u→h'.get? b=some u)(hch:∀ b∈ch,aB3 X pins H b):Inv X pins σ H { s with heap:=h',toks:=t' }:=by
 have nch:∀ b u,H b=some u→b∉ch:=fun b u e z=>by rw[(hch b z).1] at e; cases e
 refine I.step (g':=s.gens) (d':=s.drawn) (ch:=ch) (fun b hb=>⟨(hch b hb).2.2.2.1,(hch b hb).2.1,(hch b hb).2.2.2.2.1,(hch b hb).2.2.2.2.2⟩) (fun b o _ _ hc e _=>k b o hc e) (fun b o _ _ hc e _=>⟨o.slots,k b o hc e⟩)
  (fun b u _ e n=>n) (fun b o hc e=>⟨o,k b o hc e⟩) (fun b xs q=>q) (fun b u xs q=>q) (fun b ps q=>⟨#[],by rw[q]; simp⟩) (fun m hm=>?_) (fun b u e=>?_) I.bare
 ·obtain⟨o,es,ep,ho,r⟩:=hm;exact⟨o,es,ep,k _ o (fun z=>(hch _ z).2.1 rfl) ho,r⟩
 ·refine(I.hok b u e).stay (fun c v hc q=>k c v ?_ q) (fun _ q=>q) fun _ _ q=>q;rcases hc with z|z
  ·rw[z]; exact nch b u e
  ·exact nch c _ z
end
def Ite (K:Fg)(a:Addr):It:=
  ⟨fun i H=>∃ xs x,SqL K H a xs∧xs[i]?=some x,
   fun i H v H'=>∃ T x,v=.ref T∧H T=none∧H'=upd H T (.tup [.int (i:Int),x])∧∀ xs,SqL K H a xs→xs[i]?=some x,
   fun i H=>∃ xs,SqL K H a xs∧xs.length≤i⟩
theorem aCY {P:Program}{w:World}{K:Fg}{elts:List Expr}{cx}{tp:Pos}{e it a:Addr}(hne:e≠it):Turn P w K (.Tuple elts cx tp) (Ite K a) [e,it] e
  (fun i h=>(∃ old,IsEnum h e it (i:Int) old)∧h.IsListIter it a i) where
 mem:=by simp
 obj:=fun i h st c hc=>by
  obtain⟨⟨old,he⟩,⟨o1,e1,c1,d1⟩⟩:=st;simp only[List.mem_cons,List.not_mem_nil,or_false] at hc;rcases hc with rfl|rfl
  ·exact⟨_,he,fun v z=>by cases z⟩
  ·exact⟨o1,e1,fun v z=>by rw[d1] at z; cases z⟩
 keep:=fun i h h' st k=>by
  obtain⟨⟨old,he⟩,h1⟩:=st;exact⟨⟨old,k e (by simp) _ he⟩,h1.at fun o q=>k it (by simp) o q⟩
 item:=by
  intro X hP hw hK hc i pins s σ H E I hf st hg;subst hP hw hK;obtain⟨xs,x,qx,ex⟩:=hg;obtain⟨ix,rx,px,zx⟩:=I.list qx;obtain⟨ux,gx,rux⟩:=rx.get ex;obtain⟨⟨old,he⟩,h1⟩:=st;refine wpAny_pyNext_enum_item he h1 px.isList (x:=ux) (by simpa using gx) hne fun h' a1 a2 a3 a4 kp=>?_;refine⟨_,rfl,wpAny_letOwnedTupleGo_enum a1 fun h'' he' hs'=>?_⟩;have hs':Heap.SameBut e h' h'':=hs';have nT:s.heap.objs.size≠e:=Nat.ne_of_gt (Heap.lt_size he);have hT:h''.get? s.heap.objs.size=some { cls:=.type "tuple", data:=.seq #[.int i s.toks,ux] }:=hs'.extBut _ _ nT a3;have I2:Inv X pins σ (upd H s.heap.objs.size (.tup [.int (i:Int),x])) { s with heap:=h'',toks:=s.toks+1 }:=I.turnedL (t':=s.toks+1) (ch:=[e,it])
   (fun c o hc q=>hs'.extBut _ _ (fun q=>hc (by simp[q])) (kp c o (fun q=>hc (by simp[q])) (fun q=>hc (by simp[q])) q))
   hf (Nat.le_refl _) ⟨iM (by show 2≤1000; decide),[.int i s.toks,ux],.cons ⟨_,rfl⟩ (.cons rux .nil),⟨_,hT,rfl,_,rfl⟩⟩
  have fr:=I.hok.fresh (Nat.le_refl s.heap.objs.size);refine⟨.ref s.heap.objs.size,_,I2,rfl,⟨_,x,rfl,fr,rfl,fun xs' q1=>by rw[I.list_inj q1 qx]; exact ex⟩,⟨⟨_,by rw[Int.natCast_add]; exact he'⟩,a2.extBut hs'.extBut (Ne.symm hne)⟩,fun c hc=>?_⟩;have lt:c<s.heap.objs.size:=by
   simp only[List.mem_cons,List.not_mem_nil,or_false] at hc;rcases hc with rfl|rfl
   ·exact Heap.lt_size he
   ·obtain⟨_,q,_⟩:=h1; exact Heap.lt_size q
  rw[b7 (Nat.ne_of_lt lt)];exact(hf c hc).1
 done:=by
  intro X hP hw hK hc i pins s σ H E I hf st hg;subst hP hw hK;obtain⟨xs,qx,hle⟩:=hg;obtain⟨ix,rx,px,zx⟩:=I.list qx;obtain⟨⟨old,he⟩,h1⟩:=st;have lx:=rx.length;refine wpAny_pyNext_enum_end (I.ok.hd hc) he h1 px.isList (by simp; omega) fun h' kp=>⟨rfl,I.turnedC (t':=s.toks) (ch:=[e,it]) (fun c o hc q=>?_) hf⟩;exact kp c o (fun q=>hc (by simp[q])) q
 self:=fun _ _ _ _ _ st h=>wpAny_pyIter_enum st.1.choose_spec h
section
variable {X:Cx}
def aKW (K:Fg)(ta:TA):TI:=fun σ H R=>ta σ H fun vs H1=>∃ p xs,vs=[.ref p]∧SqL K H1 p xs∧R (Ite K p) H1
theorem aII {a:Expr}{ta:TA}{p pos tp:Pos}{elts:List Expr}{cx}(hg:Gl X "enumerate")(hm:X.mg "enumerate" = none)(ha:PA X [a] ta)(hs:starEach [a] X.env=[(false,eval a X.env)]:=by rfl) :
  PI X (.Tuple elts cx tp) (.Call (.Name "enumerate" p) [a] [] pos) (aKW X.K ta):=by
 intro pins s σ H R I h;refine wpAny_Call_Name_kw (wM I hg hm boot_enumerate ?_ (by decide) (by decide));refine PyProof.Rows.callWith_type1 (rest:=[]) (thn (ha pos pins s σ H _ I h) fun us s1 ⟨vs,H1,I1,r1,p,xs,e,hp,k⟩=>?_) hs rfl;subst e
 cases r1 with
 | cons ra rc=>
  cases rc
  cases ra
  obtain⟨ix,rx,px,zx⟩:=I1.list hp;refine call_enumerate_list px.isList fun h' he hit sz kp=>?_;refine wpAny_pyIter_enum he ?_;have I2:Inv X pins σ H1 { s1 with heap:=h' }:=I1.kept (t':=s1.toks) kp;refine⟨_,[s1.heap.objs.size+1,s1.heap.objs.size],_,_,H1,rfl,I2,aCY (Nat.ne_of_gt (Nat.lt_succ_self _)),⟨⟨_,he⟩,hit⟩,fun c hc=>?_,k⟩;have hle:s1.heap.objs.size≤c:=by
   simp only[List.mem_cons,List.not_mem_nil,or_false] at hc;rcases hc with rfl|rfl
   ·exact Nat.le_succ _
   ·exact Nat.le_refl _
  exact I1.fpOk hle (I1.hok.fresh hle)
end
end L2
namespace L2.VS
open PySem PySem.Spec PyProof.Rows
section
variable {P0:Addr→Hp→Prop}{K:Fg}
def aR6 (ma mb:ME):MD:=fun Γ Q=>ma Γ fun x Γ1=>mb Γ1 fun y Γ2=>match x,y with
 | .list ds,.list es=>Q (aK5 ds es) Γ2
 | _,_=>False
def uB (ds:List D):List D:=(List.range ds.length).map fun(i:Nat)=>PyData.tuple [.int (i:Int),ds.getD i .none]
def aOQ (ma:ME):MD:=fun Γ Q=>ma Γ fun x Γ1=>match x with
 | .list ds=>Q (uB ds) Γ1
 | _=>False
theorem aJU {ta:TE}{ma:ME}(ha:VT P0 ta ma):VI P0 (aKW K (fH ta z7)) (aOQ ma):=by
 intro F Γ σ G H Q Qm r m k;refine ha F Γ σ G H _ _ r m fun d Γ1 x G1 H1 m1 s1 r1 d1=>?_
 split at m1
 ·rename_i ds
  cases d1 with
  | @lst p xs _ hp rs=>
   refine⟨p,xs,rfl,SqL.of (r1.fr.sub _ _ hp),k _ _ _ _ _ m1 s1 r1 fun F3 Γ3 σ3 G3 H3 s3 r3=>⟨fun i d e=>?_,?_⟩⟩
   ·have hp3:=SqL.of (K:=K) (r3.fr.sub _ _ (s3 _ _ hp));have hi:i<ds.length:=by
     have:=(List.getElem?_eq_some_iff.mp e).1;unfold uB at this;simpa using this
    have ed:d=.tuple [.int (i:Int),ds[i]]:=by
     unfold uB at e;rw[List.getElem?_map,List.getElem?_range hi] at e
     cases e
     simp[List.getD_eq_getElem?_getD,List.getElem?_eq_getElem hi]
    subst ed;obtain⟨v1,g1,dv1⟩:=Dts.get rs (List.getElem?_eq_getElem hi);refine⟨⟨xs,v1,hp3,g1⟩,fun v H4 hy=>?_⟩;obtain⟨T,x',rfl,hT,rfl,hx⟩:=hy;have h1:=hx xs hp3;rw[g1] at h1; cases h1;have g:=uE (r3.fr.gfresh hT) (.tup [.int (i:Int),v1]);exact⟨_,g,r3.new hT,.tup bM (.cons (.int _) (.cons (Dt.same (s3.trans g) _ _ dv1) .nil))⟩
   ·refine⟨xs,SqL.of (r3.fr.sub _ _ (s3 _ _ hp)),?_⟩;have l1:=rs.len;have l3:(uB ds).length=ds.length:=by unfold uB; rw[List.length_map,List.length_range]
    rw[l3,l1];exact Nat.le_refl _
 ·exact m1.elim
theorem aPF {ma:ME}{Γ:En}{Q:List D→En→Prop}(h:ma Γ fun x Γ1=>match x with|.list ds=>Q (uB ds) Γ1|_=>False):aOQ ma Γ Q:=h
end
end L2.VS
namespace L2
open PySem PySem.Spec PyProof.Rows
section
variable {X:Cx}
end
end L2
namespace L2.VS
open PySem PySem.Spec PyProof.Rows
section
variable {P0:Addr→Hp→Prop}
end
section
variable {P0:Addr→Hp→Prop}{A:Nat→Bool}
def aK6 (ds:List D)(d:D):Bx where
 P v fp G H:=∃ p q x vs,v=.ref p∧fp=[p,q]∧p≠q∧H p=some (.tup [.ref q,x])∧H q=some (.lst vs)∧Dt G x d∧Dts G vs ds
 mono g h:=by
  obtain⟨p,q,x,vs,h1,h2,h3,h4,h5,h6,h7⟩:=h;exact⟨p,q,x,vs,h1,h2,h3,h4,h5,Dt.same g _ _ h6,Dts.same g _ _ h7⟩
 loc k h:=by
  obtain⟨p,q,x,vs,h1,h2,h3,h4,h5,h6,h7⟩:=h;subst h2;exact⟨p,q,x,vs,h1,rfl,h3,(k p (by simp)).trans h4,(k q (by simp)).trans h5,h6,h7⟩
 dom h b hb:=by
  obtain⟨p,q,x,vs,h1,h2,h3,h4,h5,h6,h7⟩:=h;subst h2;rcases List.mem_cons.mp hb with e|e
  ·rw[e]; exact⟨_,h4⟩
  ·rw[List.mem_singleton.mp e]; exact⟨_,h5⟩
 uniq h g:=by
  obtain⟨p,q,x,vs,h1,h2,h3,h4,h5,h6,h7⟩:=h;obtain⟨p',q',x',vs',g1,g2,g3,g4,g5,g6,g7⟩:=g;rw[h1] at g1; cases g1;rw[h4] at g4; cases g4;rw[h2,g2]
 nt h b hb xs e:=by
  obtain⟨p,q,x,vs,h1,h2,h3,h4,h5,h6,h7⟩:=h;subst h2;rcases List.mem_cons.mp hb with z|z
  ·rw[z,h4] at e; cases e;exact⟨q,by simp,by simp,vs,h5⟩
  ·rw[List.mem_singleton.mp z,h5] at e; cases e
 view:=some (.tuple [.list ds,d])
 vok h hv g k:=by
  obtain⟨p,q,x,vs,h1,h2,h3,h4,h5,h6,h7⟩:=h
  cases hv
  subst h1 h2;exact .tup ((k p (by simp)).trans h4) (.cons (.lst ((k q (by simp)).trans h5) (Dts.same g _ _ h7)) (.cons (Dt.same g _ _ h6) .nil))
def aCX (i:Nat)(mb:ME):MO:=fun Γ Q=>match Γ[i]? with
 | some (.own _)=>mb Γ fun d Γ1=>match Γ1[i]? with
  | some (.own ds)=>Q (.box (aK6 ds d)) (Γ1.set i .no)
  | _=>False
 | _=>False
theorem aIA {i:Nat}{tb:TE}{mb:ME}(hb:VT P0 tb mb):VO P0 (aOI (fH (vX i) (fH tb z7))) (aCX i mb):=by
 intro F Γ σ G H Q Qm r m k;unfold aCX at m
 split at m
 ·rename_i ds0 e0
  obtain⟨q,vs0,e1,_⟩:=r.sl i _ e0;refine⟨_,e1,?_⟩;refine hb F Γ σ G H _ _ r m fun d Γ1 x G1 H1 m1 s1 r1 d1=>?_
  split at m1
  ·rename_i ds e
   obtain⟨q',vs,f1,f2,f3,f4,f5⟩:=r1.sl i _ e;rw[e1] at f1; cases f1;refine⟨iM (by show 2≤1000; decide),fun p hp=>?_⟩;have hpq:p≠q:=fun z=>by rw[z,f4] at hp; cases hp
   have hl:i<Γ1.length:=(List.getElem?_eq_some_iff.mp e).1;have r2:R F (Γ1.set i .no) σ G1 (upd H1 p (.tup [.ref q,x])):=(r1.newP hp).drop i;have hP:(aK6 ds d).P (.ref p) [p,q] G1 (upd H1 p (.tup [.ref q,x])):=⟨p,q,x,vs,rfl,rfl,hpq,bM,by rw[b7 (Ne.symm hpq)]; exact f4,d1,f5⟩;refine k _ _ _ _ _ m1 s1 r2 ⟨[p,q],hP,fun b hb=>?_⟩ fun j s fp f ej hj hf b hb hc=>?_
   ·rcases List.mem_cons.mp hb with z|z
    ·rw[z]; exact⟨r1.fr.fresh hp,r1.fr.gfresh hp⟩
    ·rw[List.mem_singleton.mp z]; exact⟨f2,f3⟩
   ·rw[(aK6 ds d).uniq hf hP] at hb
    by_cases hij:i=j
    ·subst hij;rw[List.getElem?_set_self hl] at ej
     cases ej
     rw[show fp=[] from hj] at hc; cases hc
    ·rw[List.getElem?_set_ne hij] at ej;rcases List.mem_cons.mp hb with z|z
     ·obtain⟨o,eo⟩:=r1.before (Same.refl _) (fun c o _ g eh=>⟨g,by rw[b7 (bG eh hp)]; exact eh⟩) ej hj b hc;rw[z,hp] at eo; cases eo
     ·rw[List.mem_singleton.mp z] at hc;exact(r1.newP hp).apart hij e ej (fp:=[q]) ⟨q,vs,rfl,e1,f2,f3,by rw[b7 (Ne.symm hpq)]; exact f4,f5⟩ hj q (by simp) hc
  ·exact m1.elim
 ·exact m.elim
theorem aKP {i:Nat}{mb:ME}{Γ:En}{Q:Rv→En→Prop}{ds:List D}(h0:Γ[i]?=some (.own ds))(h:mb Γ fun d Γ1=>match Γ1[i]? with|some (.own ds)=>Q (.box (aK6 ds d)) (Γ1.set i .no)|_=>False):aCX i mb Γ Q:=by
 unfold aCX;rw[h0];exact h
end
end L2.VS
namespace PySem
open Sem (wp)
open AutoSeq1 (wpAny_loadPart')
section
variable {prog:Program}{w:World}{A:Around}{E:Value→Shared→Prop}{s:Shared}{d it:Addr}{es:Array DictEntry}{ep:Nat}
end
section
variable {prog:Program}{w:World}{K:Type}[DecidableEq K]{knd:HeapKind prog w K}{A:Around}{E:Value→Shared→Prop}{s:Shared}
end
end PySem
namespace L2
open PySem PySem.Spec PyProof.Rows
section
variable {P:Program}{w:World}{H:Hp}{h:Heap}{p:Addr}{xs:List (List Int×Addr×Addr)}{ep:Nat}
end
section
variable {X:Cx}
variable {o e:Expr}{es:List Expr}{to:TE}{t:TA}{name:Str}{apos cpos:Pos}{id:String}{r:V→List V→Hp→VK→Prop}
end
end L2
namespace L2.VS
open PySem PySem.Spec PyProof.Rows
section
variable {P0:Addr→Hp→Prop}{A:Nat→Bool}
end
section
variable {P0:Addr→Hp→Prop}{ta tb:TE}{ma mb:ME}
end
end L2.VS
namespace L2
open PySem PySem.Spec PyProof.Rows
end L2
namespace L2.VS
open PySem PySem.Spec PyProof.Rows
section
variable {P0:Addr→Hp→Prop}{A:Nat→Bool}
section
variable {F:Fra P0}{Γ:En}{σ:St}{G H:Hp}
theorem R.giveP (r:R F Γ σ G H){v:V}{B:Bx}(h:RvO F G H v (.box B))(ha:Apart F Γ σ G H v (.box B)):∃ G' fp,Same G G'∧R F Γ σ G' H∧B.P v fp G' H∧∀ b∈fp,G' b=H b:=by
 obtain⟨fp,e1,e2⟩:=h;have g:Same G (fun b=>if b∈fp then H b else G b):=fun b o e=>by
  show(if b∈fp then H b else G b)=some o
  rw[if_neg (fun z=>by rw[(e2 b z).2] at e; cases e)];exact e
 refine⟨fun b=>if b∈fp then H b else G b,fp,g,r.keep ⟨fun b o e=>?_,fun b o e=>?_,r.fr.h0,r.fr.pn⟩ g fun q u hq _ eg eh=>⟨?_,eh⟩,B.mono g e1,fun b hb=>if_pos hb⟩
 ·have e:(if b∈fp then H b else G b)=some o:=e
  split at e
  ·exact e
  ·exact r.fr.sub b o e
 ·show(if b∈fp then H b else G b)=_
  rw[if_neg (fun z=>by rw[(e2 b z).1] at e; cases e)];exact r.fr.g0 b o e
 ·obtain⟨i,s,f,a1,a2,a3⟩:=hq
  show(if q∈fp then H q else G q)=none
  rw[if_neg fun z=>ha i s f fp a1 a2 e1 q z a3];exact eg
theorem R.setP (r:R F Γ σ G H){i:Nat}{v:V}{B:Pb}(h:B.P v G):R F (Γ.set i (.pub B)) (σ.set i (some v)) G H:=by
 obtain⟨fps,h1,h2⟩:=r.fps;have lt:∀{m:Nat} {z},(Γ.set i (.pub B))[m]?=some z→m<Γ.length:=fun e=>by
  have:=(List.getElem?_eq_some_iff.mp e).1;simpa using this
 have old:∀{m:Nat} {z},m≠i→(Γ.set i (.pub B))[m]?=some z→Γ[m]?=some z:=fun hm e=>by rw[List.getElem?_set_ne (Ne.symm hm)] at e; exact e
 refine⟨r.fr,by rw[List.length_set,List.length_set]; exact r.len,fun j=>if j=i then[] else fps j,fun j s e=>?_,fun j k s t ej ek hjk b hb hc=>?_⟩
 ·dsimp only
  by_cases hj:j=i
  ·subst hj;have hi:=lt e;rw[List.getElem?_set_self hi] at e;rw[if_pos rfl,List.getElem?_set_self (by rw[← r.len]; exact hi)]
   cases e
   exact⟨rfl,v,rfl,h⟩
  ·rw[if_neg hj,List.getElem?_set_ne (Ne.symm hj)];exact h1 j s (old hj e)
 ·dsimp only at hb hc
  by_cases hj:j=i
  ·rw[if_pos hj] at hb; cases hb
  ·rw[if_neg hj] at hb
   by_cases hk:k=i
   ·rw[if_pos hk] at hc; cases hc
   ·rw[if_neg hk] at hc;exact h2 j k s t (old hj ej) (old hk ek) hjk b hb hc
end
end
end L2.VS
namespace L2
open PySem PySem.Spec PyProof.Rows
section
variable {X:Cx}
def aHI (k:Int):Value→Bool
 | .int a _=>a==k
 | _=>false
theorem aEO:∀{ns:List Int} {its:List Value},Vals (ns.map V.int) its→∀ i,i<ns.length→∃ t,its[i]?=some (.int (ns.getD i 0) t)
 | n::ns,_,.cons r rs,0,_=>by obtain⟨t,rfl⟩:=r; exact⟨t,rfl⟩
 | n::ns,_,.cons r rs,i+1,h=>by
  obtain⟨t,e⟩:=aEO rs i (Nat.lt_of_succ_lt_succ h);exact⟨t,e⟩
def aHA:V→List V→Hp→VK→Prop:=fun x vs H Q=>∃(l:Addr) (ns:List Int) (k:Int) (j:Nat),x=.ref l∧vs=[.int k]∧H l=some (.lst (ns.map V.int))∧j<ns.length∧ns.getD j 0=k∧(∀ i,i<j→ns.getD i 0≠k)∧Q (.int j) H
theorem aG6:MtM X "list.index" aHA:=by
 intro pins s σ H x vs v us Q I rx rv h;obtain⟨l,ns,k,j,rfl,rfl,hH,hj,hit,hno,q⟩:=h
 cases rx
 obtain⟨u,rfl,ru⟩:=rv.one;obtain⟨t,rfl⟩:=ru;obtain⟨z,its,n,r,hl,e⟩:=I.lstM hH;rw[List.length_map] at z hl;have h63:=a1N;have at_:∀ i (h:i<its.toArray.size),∃ t,its.toArray[i]=.int (ns.getD i 0) t:=fun i h=>by
  rw[List.size_toArray] at h;obtain⟨t,e⟩:=aEO r i (by omega);rw[List.getElem?_eq_getElem h] at e;exact⟨t,Option.some.inj e⟩
 have e2:∀ i (h:i<its.toArray.size),aHI k its.toArray[i]=(ns.getD i 0==k):=fun i h=>by
  obtain⟨t,e⟩:=at_ i h
  rw[e];rfl
 refine call_meets F.slot_list_index ⟨_,e,rfl⟩ F.entry_list_index (F.args_list_index_2 _ _) (MeetsSeq.list_index l its.toArray n (.int k t) (aHI k) (fun y hy=>?_) j (by rw[List.size_toArray]; omega) (by omega) ?_ ?_) ⟨e,?_⟩
 ·obtain⟨i,hi,rfl⟩:=Array.mem_iff_getElem.mp hy;obtain⟨t',e'⟩:=at_ i hi
  rw[e'];exact MeetsSeq.EqGives.int _ _ _ _
 ·rw[e2];exact beq_iff_eq.mpr hit
 ·intro m hm hmj;rw[e2];exact beq_eq_false_iff_ne.mpr (hno m hmj)
 ·exact⟨.int j,H,I.tok _,⟨_,rfl⟩,q⟩
end
end L2
namespace L2.VS
open PySem PySem.Spec PyProof.Rows
section
variable {P0:Addr→Hp→Prop}{ta tb:TE}{ma mb:ME}{K:Fg}
def aF9 (ns:List Int):List D:=ns.map .int
theorem aA1 {G:Hp}:∀{ns:List Int} {vs:List V},Dts G vs (aF9 ns)→vs=ns.map V.int:=by
 intro ns vs h
 induction ns generalizing vs with
 | nil=>cases h; rfl
 | cons n ns ih=>
  cases h with
  | cons a b=>
   cases a
   rw[ih b];rfl
def aBD (ma mb:ME):ME:=fun Γ Q=>ma Γ fun x Γ1=>∃ ns:List Int,x=.list (aF9 ns)∧mb Γ1 fun y Γ2=>∃(k:Int) (j:Nat),y=.int k∧j<ns.length∧ns.getD j 0=k∧(∀ i,i<j→ns.getD i 0≠k)∧Q (.int j) Γ2
theorem aFD (ha:VT P0 ta ma)(hb:VT P0 tb mb):VT P0 (tBM K "list" aHA ta (fH tb z7)) (aBD ma mb):=by
 intro F Γ σ G H Q Qm r m k;refine ha F Γ σ G H _ _ r m fun x Γ1 v G1 H1 m1 s1 r1 d1=>?_;obtain⟨ns,rfl,m1⟩:=m1
 cases d1 with
 | @lst p qs _ hp rs=>
  rw[aA1 rs] at hp;refine⟨.inl ⟨rfl,_,SqL.of (r1.fr.sub _ _ hp)⟩,hb F Γ1 σ G1 H1 _ _ r1 m1 fun y Γ2 u G2 H2 m2 s2 r2 d2=>?_⟩;obtain⟨i,j,rfl,hj,h1,h2,m2⟩:=m2;have hp2:=s2 _ _ hp
  cases d2
  exact⟨p,ns,i,j,rfl,rfl,r2.fr.sub _ _ hp2,hj,h1,h2,k _ _ _ _ _ m2 (s1.trans s2) r2 (.int _)⟩
theorem aIF {ma mb:ME}{Γ:En}{Q:D→En→Prop}(h:ma Γ fun x Γ1=>∃ ns:List Int,x=.list (aF9 ns)∧mb Γ1 fun y Γ2=>∃(k:Int) (j:Nat),y=.int k∧j<ns.length∧ns.getD j 0=k∧(∀ i,i<j→ns.getD i 0≠k)∧Q (.int j) Γ2):aBD ma mb Γ Q:=h
end
end L2.VS
namespace LT
abbrev Ln:=Rat×Rat
def pl (l:Ln)(t:Rat):Rat:=l.1+l.2*t
def mt (l k:Ln):Rat:=(k.1-l.1)/(l.2-k.2)
theorem a1D {l k:Ln}(h:l.2≠k.2)(t:Rat):pl l t-pl k t=(l.2-k.2)*(t-mt l k):=by
 unfold pl mt;have e:=Rat.div_mul_cancel (a:=k.1-l.1) (b:=l.2-k.2) (by grind);generalize (k.1-l.1)/(l.2-k.2)=m at *;grind
theorem aEA {l k:Ln}(h:l.2≠k.2):mt k l=mt l k:=by
 unfold mt;have e:=Rat.div_mul_cancel (a:=k.1-l.1) (b:=l.2-k.2) (by grind);have e':=Rat.div_mul_cancel (a:=l.1-k.1) (b:=k.2-l.2) (by grind);generalize (k.1-l.1)/(l.2-k.2)=m at *;generalize (l.1-k.1)/(k.2-l.2)=n at *;have:(l.2-k.2)*(m-n)=0:=by grind
 rcases Rat.mul_eq_zero.mp this with z|z<;>grind
theorem aDA {l k:Ln}(h:l.2≠k.2){t:Rat}:pl l t=pl k t↔t=mt l k:=by
 have e:=a1D h t;constructor
 ·intro z;have:(l.2-k.2)*(t-mt l k)=0:=by grind
  rcases Rat.mul_eq_zero.mp this with z|z<;>grind
 ·intro z;rw[z] at e ⊢;grind
def ahB (l k:Ln)(i j:Int)(t:Rat):Bool:=if pl l t=pl k t then(if l.2=k.2 then decide (i<j) else decide (k.2<l.2)) else decide (pl k t<pl l t)
theorem aKL {l k:Ln}{i j:Int}{t:Rat}(h:l.2≠k.2)(ht:t<mt l k):ahB l k i j t=decide (l.2<k.2):=by
 have e:=a1D h t;have n:pl l t≠pl k t:=fun z=>by have:=(aDA h).mp z; grind
 unfold ahB;rw[if_neg n,decide_eq_decide];have hm:0<mt l k-t:=by grind
 constructor
 ·intro z;apply Classical.byContradiction;intro c;have:=Rat.mul_pos (a:=l.2-k.2) (b:=mt l k-t) (by grind) hm;grind
 ·intro z;have:=Rat.mul_pos (a:=k.2-l.2) (b:=mt l k-t) (by grind) hm;grind
theorem aJS {l k:Ln}{i j:Int}{t:Rat}(h:l.2≠k.2)(ht:mt l k≤t):ahB l k i j t=decide (k.2<l.2):=by
 have e:=a1D h t;unfold ahB
 by_cases hq:pl l t=pl k t
 ·rw[if_pos hq,if_neg h]
 ·have hm:0<t-mt l k:=by
   have:t≠mt l k:=fun z=>hq ((aDA h).mpr z);grind
  rw[if_neg hq,decide_eq_decide];constructor
  ·intro z;apply Classical.byContradiction;intro c;have:=Rat.mul_pos (a:=k.2-l.2) (b:=t-mt l k) (by grind) hm;grind
  ·intro z;have:=Rat.mul_pos (a:=l.2-k.2) (b:=t-mt l k) (by grind) hm;grind
theorem aBK {l k:Ln}{i j:Int}{t:Rat}(h:l.2=k.2):ahB l k i j t=if l.1=k.1 then decide (i<j) else decide (k.1<l.1):=by
 unfold ahB pl;rw[h]
 by_cases c:l.1=k.1
 ·rw[if_pos (by rw[c]),if_pos rfl,if_pos c]
 ·rw[if_neg (by grind),if_neg c,decide_eq_decide];grind
def nxC (l k:Ln)(t:Rat):Option Rat:=if l.2=k.2 then none else if t<mt l k then some (mt l k) else none
theorem aGC {l k:Ln}{i j:Int}{t p:Rat}(h:nxC l k t=none)(hp:t<p):ahB l k i j p=ahB l k i j t:=by
 unfold nxC at h
 by_cases hs:l.2=k.2
 ·rw[aBK hs,aBK hs]
 ·rw[if_neg hs] at h
  by_cases ht:t<mt l k
  ·rw[if_pos ht] at h; cases h
  ·rw[aJS hs (by grind),aJS hs (by grind)]
theorem qN {l k:Ln}{t m:Rat}(h:nxC l k t=some m):l.2≠k.2∧t<m∧m=mt l k:=by
 unfold nxC at h
 by_cases hs:l.2=k.2
 ·rw[if_pos hs] at h; cases h
 ·rw[if_neg hs] at h
  by_cases ht:t<mt l k
  ·rw[if_pos ht] at h; cases h; exact⟨hs,ht,rfl⟩
  ·rw[if_neg ht] at h; cases h
theorem aJA {l k:Ln}{i j:Int}{t m p:Rat}(h:nxC l k t=some m)(hp:p<m):ahB l k i j p=ahB l k i j t:=by
 obtain⟨hs,ht,rfl⟩:=qN h;rw[aKL hs hp,aKL hs ht]
def mtO (l k:Ln):Option Rat:=if l.2=k.2 then none else some (mt l k)
end LT
namespace LT
theorem lY {l k:Ln}{i j:Int}{t:Rat}:ahB l k i j t=true↔pl k t<pl l t∨(pl l t=pl k t∧(k.2<l.2∨(l.2=k.2∧i<j))):=by
 unfold ahB
 by_cases h1:pl l t=pl k t
 ·rw[if_pos h1]
  by_cases h2:l.2=k.2
  ·rw[if_pos h2,decide_eq_true_eq]; grind
  ·rw[if_neg h2,decide_eq_true_eq]; grind
 ·rw[if_neg h1,decide_eq_true_eq]; grind
theorem aDU {l k m:Ln}{i j n:Int}{t:Rat}(h1:ahB l k i j t=true)(h2:ahB k m j n t=true):ahB l m i n t=true:=by
 rw[lY] at *;grind
theorem aBI {l k:Ln}{i j:Int}{t:Rat}(h1:ahB l k i j t=true):ahB k l j i t=false:=by
 cases h:ahB k l j i t with
 | false=>rfl
 | true=>
  rw[lY] at *;grind
theorem aCA {l k:Ln}{i j:Int}{t:Rat}(h:i≠j):ahB l k i j t=true∨ahB k l j i t=true:=by
 rw[lY,lY];grind
def ahN (ls:List Ln)(t:Rat)(i j:Nat):Bool:=match ls[i]?,ls[j]? with
 | some l,some k=>ahB l k i j t
 | _,_=>false
theorem mX {ls:List Ln}{t:Rat}{i j:Nat}{l k:Ln}(h1:ls[i]?=some l)(h2:ls[j]?=some k):ahN ls t i j=ahB l k i j t:=by unfold ahN; rw[h1,h2]
structure Strict (a:Nat→Nat→Bool)(n:Nat):Prop where
 asymm:∀ i j,i<n→j<n→a i j=true→a j i=false
 trans:∀ i j k,i<n→j<n→k<n→a i j=true→a j k=true→a i k=true
 total:∀ i j,i<n→j<n→i≠j→a i j=true∨a j i=true
theorem Strict.irr {a:Nat→Nat→Bool}{n i:Nat}(h:Strict a n)(hi:i<n):a i i=false:=by
 cases e:a i i with
 | false=>rfl
 | true=>rw[h.asymm i i hi hi e] at e; cases e
theorem Strict.flip {a:Nat→Nat→Bool}{n i j:Nat}(h:Strict a n)(hi:i<n)(hj:j<n)(hij:i≠j):a j i = !a i j:=by
 cases e:a i j with
 | true=>rw[h.asymm i j hi hj e]; rfl
 | false=>
  rcases h.total i j hi hj hij with z|z
  ·rw[e] at z; cases z
  ·rw[z]; rfl
theorem dO (ls:List Ln)(t:Rat):Strict (ahN ls t) ls.length:=by
 refine⟨fun i j hi hj h=>?_,fun i j k hi hj hk h1 h2=>?_,fun i j hi hj hij=>?_⟩
 ·rw[mX (List.getElem?_eq_getElem hi) (List.getElem?_eq_getElem hj)] at h;rw[mX (List.getElem?_eq_getElem hj) (List.getElem?_eq_getElem hi)];exact aBI h
 ·rw[mX (List.getElem?_eq_getElem hi) (List.getElem?_eq_getElem hj)] at h1;rw[mX (List.getElem?_eq_getElem hj) (List.getElem?_eq_getElem hk)] at h2;rw[mX (List.getElem?_eq_getElem hi) (List.getElem?_eq_getElem hk)];exact aDU h1 h2
 ·rw[mX (List.getElem?_eq_getElem hi) (List.getElem?_eq_getElem hj),mX (List.getElem?_eq_getElem hj) (List.getElem?_eq_getElem hi)];exact aCA (by omega)
abbrev Srt (a:Nat→Nat→Bool)(xs:List Nat):Prop:=xs.Pairwise fun x y=>a x y=true
theorem a1L {a:Nat→Nat→Bool}{n:Nat}(h:Strict a n):∀{xs ys:List Nat},(∀ x∈xs,x<n)→Srt a xs→Srt a ys→(∀ x,x∈xs↔x∈ys)→xs=ys
 | [],[],_,_,_,_=>rfl
 | [],y::ys,_,_,_,e=>absurd ((e y).mpr List.mem_cons_self) (by simp)
 | x::xs,[],_,_,_,e=>absurd ((e x).mp List.mem_cons_self) (by simp)
 | x::xs,y::ys,hn,h1,h2,e=>by
  have hx:=hn x List.mem_cons_self;have hy:=hn y ((e y).mpr List.mem_cons_self);obtain⟨p1,q1⟩:=List.pairwise_cons.mp h1;obtain⟨p2,q2⟩:=List.pairwise_cons.mp h2;have exy:x=y:=by
   rcases List.mem_cons.mp ((e x).mp List.mem_cons_self) with z|z
   ·exact z
   ·rcases List.mem_cons.mp ((e y).mpr List.mem_cons_self) with z2|z2
    ·exact z2.symm
    ·have:=h.asymm x y hx hy (p1 y z2);rw[p2 x z] at this; cases this
  subst exy;have nx:∀ z,z∈xs→z≠x:=fun z hz c=>by
   have:=p1 z hz;rw[c,h.irr hx] at this; cases this
  have ny:∀ z,z∈ys→z≠x:=fun z hz c=>by
   have:=p2 z hz;rw[c,h.irr hx] at this; cases this
  rw[a1L h (fun z hz=>hn z (List.mem_cons_of_mem _ hz)) q1 q2 fun z=>?_];constructor
  ·intro hz;rcases List.mem_cons.mp ((e z).mp (List.mem_cons_of_mem _ hz)) with c|c
   ·exact absurd c (nx z hz)
   ·exact c
  ·intro hz;rcases List.mem_cons.mp ((e z).mpr (List.mem_cons_of_mem _ hz)) with c|c
   ·exact absurd c (ny z hz)
   ·exact c
def cN (a:Nat→Nat→Bool)(xs:List Nat)(k:Nat):List Nat:=((xs.filter fun o => !a k o)++[k])++xs.filter fun o=>a k o
def a0D (a:Nat→Nat→Bool):Nat→List Nat
 | 0=>[]
 | n+1=>cN a (a0D a n) n
def ord (ls:List Ln)(t:Rat):List Nat:=a0D (ahN ls t) ls.length
theorem a2Y {α:Type}(p:α→Bool):∀ xs:List α,(xs.filter fun o => !p o).length+(xs.filter fun o=>p o).length=xs.length
 | []=>rfl
 | x::xs=>by
  have:=a2Y p xs
  cases h:p x<;>simp[h]<;>omega
theorem a3R (a:Nat→Nat→Bool):∀ n,(a0D a n).length=n
 | 0=>rfl
 | n+1=>by
  have h:=a3R a n;have e:=a2Y (fun o=>a n o) (a0D a n)
  show(cN a (a0D a n) n).length=n+1
  unfold cN;simp only[List.length_append,List.length_singleton];omega
theorem zV (a:Nat→Nat→Bool):∀ n i,i∈a0D a n↔i<n
 | 0,i=>by simp[a0D]
 | n+1,i=>by
  have h:=zV a n i;show i∈cN a (a0D a n) n↔_;unfold cN;simp only[List.mem_append,List.mem_filter,List.mem_singleton,h]
  cases a n i<;>simp<;>omega
theorem yQ {a:Nat→Nat→Bool}{n k:Nat}{xs:List Nat}(h:Strict a n)(hk:k<n)(hx:∀ x∈xs,x<n∧x≠k)(hs:Srt a xs):Srt a (cN a xs k):=by
 unfold cN Srt;have front:∀ x∈xs.filter (fun o => !a k o),a x k=true:=fun x m=>by
  obtain⟨m1,m2⟩:=List.mem_filter.mp m;obtain⟨b1,b2⟩:=hx x m1;rw[h.flip hk b1 (Ne.symm b2)];exact m2
 have back:∀ x∈xs.filter (fun o=>a k o),a k x=true:=fun x m=>(List.mem_filter.mp m).2;have lt1:∀ x∈xs.filter (fun o => !a k o),x<n:=fun x m=>(hx x (List.mem_filter.mp m).1).1;have lt2:∀ x∈xs.filter (fun o=>a k o),x<n:=fun x m=>(hx x (List.mem_filter.mp m).1).1;rw[List.pairwise_append];refine⟨?_,hs.filter _,fun x m y m2=>?_⟩
 ·rw[List.pairwise_append];refine⟨hs.filter _,List.pairwise_singleton _ _,fun x m y m2=>?_⟩;rw[List.mem_singleton.mp m2];exact front x m
 ·rcases List.mem_append.mp m with m|m
  ·exact h.trans x k y (lt1 x m) hk (lt2 y m2) (front x m) (back y m2)
  ·rw[List.mem_singleton.mp m];exact back y m2
theorem a4K {a:Nat→Nat→Bool}{n:Nat}(h:Strict a n):∀ m,m≤n→Srt a (a0D a m)
 | 0,_=>List.Pairwise.nil
 | m+1,hm=>yQ h hm (fun x hx=>by have:=(zV a m x).mp hx; omega) (a4K h m (by omega))
theorem pI (ls:List Ln)(t:Rat):Srt (ahN ls t) (ord ls t):=a4K (dO ls t) _ (Nat.le_refl _)
theorem kW (ls:List Ln)(t:Rat)(i:Nat):i∈ord ls t↔i<ls.length:=zV _ _ _
theorem nA (ls:List Ln)(t:Rat):(ord ls t).length=ls.length:=a3R _ _
theorem aH9 {ls:List Ln}{t:Rat}{xs:List Nat}(h1:Srt (ahN ls t) xs)(h2:∀ i,i∈xs↔i<ls.length):xs=ord ls t:=
 a1L (dO ls t) (fun x hx=>(h2 x).mp hx) h1 (pI ls t) fun x=>by rw[h2,kW]
theorem a3S {a:Nat→Nat→Bool}{n k:Nat}:∀{xs:List Nat},Strict a n→k<n→(∀ x∈xs,x<n∧x≠k)→Srt a xs →
  xs.take (xs.filter fun o => !a k o).length=xs.filter (fun o => !a k o)∧xs.drop (xs.filter fun o => !a k o).length=xs.filter (fun o=>a k o)
 | [],_,_,_,_=>⟨rfl,rfl⟩
 | x::xs,h,hk,hx,hs=>by
  obtain⟨p1,q1⟩:=List.pairwise_cons.mp hs;obtain⟨b1,b2⟩:=hx x List.mem_cons_self;have ih:=a3S (xs:=xs) h hk (fun y hy=>hx y (List.mem_cons_of_mem _ hy)) q1
  cases e:a k x with
  | false=>simp only[List.filter_cons,e,Bool.not_false,if_true,List.length_cons,List.take_succ_cons,List.drop_succ_cons,ih.1,ih.2,Bool.false_eq_true,if_false]; exact⟨trivial,trivial⟩
  | true=>
   have all:∀ y∈xs,a k y=true:=fun y hy=>h.trans k x y hk b1 (hx y (List.mem_cons_of_mem _ hy)).1 e (p1 y hy);have f0:xs.filter (fun o => !a k o)=[]:=by
    rw[List.filter_eq_nil_iff];intro y hy;rw[all y hy]; simp
   have f1:xs.filter (fun o=>a k o)=xs:=List.filter_eq_self.mpr all;simp only[List.filter_cons,e,Bool.not_true,Bool.false_eq_true,if_false,f0,f1,if_true];exact⟨rfl,rfl⟩
end LT
namespace LT
end LT
namespace LT
end LT
namespace LT
def nxN (ls:List Ln)(t:Rat)(i j:Nat):Option Rat:=match ls[i]?,ls[j]? with
 | some l,some k=>nxC l k t
 | _,_=>none
theorem a5E {ls:List Ln}{t:Rat}{i j:Nat}{l k:Ln}(h1:ls[i]?=some l)(h2:ls[j]?=some k):nxN ls t i j=nxC l k t:=by unfold nxN; rw[h1,h2]
def Adj (xs:List Nat)(a b:Nat):Prop:=∃ n:Nat,xs[n]?=some a∧xs[n+1]?=some b
theorem aE5 {a:Nat→Nat→Bool}{xs:List Nat}(h:Srt a xs){i j:Nat}(g:Adj xs i j):a i j=true:=by
 obtain⟨n,e1,e2⟩:=g;obtain⟨h1,rfl⟩:=List.getElem?_eq_some_iff.mp e1;obtain⟨h2,rfl⟩:=List.getElem?_eq_some_iff.mp e2;exact(List.pairwise_iff_getElem.mp h) n (n+1) h1 h2 (by omega)
theorem a1P {a:Nat→Nat→Bool}{n:Nat}(h:Strict a n):∀{xs:List Nat},(∀ x∈xs,x<n)→(∀ i j,Adj xs i j→a i j=true)→Srt a xs
 | [],_,_=>List.Pairwise.nil
 | [x],_,_=>List.pairwise_singleton _ _
 | x::y::xs,hx,g=>by
  have ih:=a1P h (xs:=y::xs) (fun z hz=>hx z (List.mem_cons_of_mem _ hz)) fun i j ⟨m,e1,e2⟩=>g i j ⟨m+1,by simpa using e1,by simpa using e2⟩;have h0:=g x y ⟨0,rfl,rfl⟩;refine List.pairwise_cons.mpr ⟨fun z hz=>?_,ih⟩;rcases List.mem_cons.mp hz with c|c
  ·rw[c]; exact h0
  ·exact h.trans x y z (hx x (by simp)) (hx y (by simp)) (hx z (List.mem_cons_of_mem _ hz)) h0 ((List.pairwise_cons.mp ih).1 z c)
theorem aCG {ls:List Ln}{t v:Rat}{i j:Nat}(htv:t≤v)(h:∀ u,nxN ls t i j=some u→v<u):ahN ls v i j=ahN ls t i j:=by
 cases e1:ls[i]? with
 | none=>unfold ahN; rw[e1]
 | some l=>
  cases e2:ls[j]? with
  | none=>unfold ahN; rw[e1,e2]
  | some k=>
   rw[mX e1 e2,mX e1 e2];rw[a5E e1 e2] at h
   cases hc:nxC l k t with
   | none=>
    by_cases c:t=v
    ·rw[c]
    ·exact aGC hc (by grind)
   | some u=>exact aJA hc (h u hc)
theorem aBP {ls:List Ln}{t v:Rat}(htv:t≤v)(h:∀ a b,Adj (ord ls t) a b→∀ u,nxN ls t a b=some u→v<u):ord ls v=ord ls t:=by
 refine(aH9 (a1P (dO ls v) (fun x hx=>(kW ls t x).mp hx) fun i j g=>?_) (kW ls t)).symm;rw[aCG htv (h i j g)];exact aE5 (pI ls t) g
end LT
namespace LT
end LT
namespace LT
def a5L (a:Nat→Nat→Bool)(rs:List Nat):List Nat:=rs.foldl (cN a) []
theorem ordStep_mem {a:Nat→Nat→Bool}{xs:List Nat}{k x:Nat}:x∈cN a xs k↔x∈xs∨x=k:=by
 unfold cN;simp only[List.mem_append,List.mem_filter,List.mem_singleton]
 cases a k x<;>simp[or_comm]
theorem a6S {a:Nat→Nat→Bool}{xs:List Nat}{k:Nat}:(cN a xs k).length=xs.length+1:=by
 have e:=a2Y (fun o=>a k o) xs;unfold cN;simp only[List.length_append,List.length_singleton];omega
theorem a3V (a:Nat→Nat→Bool)(rs:List Nat)(k:Nat):a5L a (rs++[k])=cN a (a5L a rs) k:=by unfold a5L; rw[List.foldl_append]; rfl
theorem a5T {a:Nat→Nat→Bool}:∀(rs acc:List Nat) (x:Nat),x∈rs.foldl (cN a) acc↔x∈acc∨x∈rs
 | [],acc,x=>by simp
 | r::rs,acc,x=>by
  show x∈rs.foldl (cN a) (cN a acc r)↔_;rw[a5T rs,ordStep_mem,List.mem_cons];grind
theorem ordL_mem {a:Nat→Nat→Bool}{rs:List Nat}{x:Nat}:x∈a5L a rs↔x∈rs:=by unfold a5L; rw[a5T]; simp
theorem a4V {a:Nat→Nat→Bool}:∀(rs acc:List Nat),(rs.foldl (cN a) acc).length=acc.length+rs.length
 | [],acc=>rfl
 | r::rs,acc=>by
  show(rs.foldl (cN a) (cN a acc r)).length=_
  rw[a4V rs,a6S,List.length_cons];omega
theorem a8N {a:Nat→Nat→Bool}{rs:List Nat}:(a5L a rs).length=rs.length:=by unfold a5L; rw[a4V]; simp
theorem a5P {a:Nat→Nat→Bool}{n:Nat}(h:Strict a n):∀(rs acc:List Nat),(∀ x∈rs,x<n)→(∀ x∈acc,x<n)→rs.Nodup→(∀ x∈acc,x∉rs)→Srt a acc→Srt a (rs.foldl (cN a) acc)
 | [],acc,_,_,_,_,hs=>hs
 | r::rs,acc,h1,h2,h3,h4,hs=>by
  obtain⟨n1,n2⟩:=List.nodup_cons.mp h3;have hr:=h1 r List.mem_cons_self;refine a5P h rs (cN a acc r) (fun x hx=>h1 x (List.mem_cons_of_mem _ hx)) (fun x hx=>?_) n2 (fun x hx hm=>?_) (yQ h hr (fun x hx=>⟨h2 x hx,fun e=>h4 x hx (by rw[e]; exact List.mem_cons_self)⟩) hs)
  ·rcases ordStep_mem.mp hx with z|z
   ·exact h2 x z
   ·rw[z]; exact hr
  ·rcases ordStep_mem.mp hx with z|z
   ·exact h4 x z (List.mem_cons_of_mem _ hm)
   ·exact n1 (by rw[← z]; exact hm)
theorem aFA {a:Nat→Nat→Bool}{n:Nat}{rs:List Nat}(h:Strict a n)(h1:∀ x∈rs,x<n)(h2:rs.Nodup):Srt a (a5L a rs):=
 a5P h rs [] h1 (fun x hx=>nomatch hx) h2 (fun x hx=>nomatch hx) List.Pairwise.nil
theorem a0U (a:Nat→Nat→Bool):∀ n,a5L a (List.range n)=a0D a n
 | 0=>rfl
 | n+1=>by rw[List.range_succ,a3V,a0U a n]; rfl
end LT
namespace L2.VS
open PySem PySem.Spec PyProof.Rows
section
variable {P0:Addr→Hp→Prop}{A:Nat→Bool}
end
section
variable {P0:Addr→Hp→Prop}{A:Nat→Bool}
end
end L2.VS
namespace L2
open PySem PySem.Spec PyProof.Rows
@[irreducible] def PSi (X:Cx) (L:List Stmt) (t:TS):Prop:=PSs X L t
@[irreducible] def PSd (X:Cx) (st:Stmt) (t:TS):Prop:=PS X st t
@[irreducible] def PEd (X:Cx) (e:Expr) (t:TE):Prop:=PE X e t
@[irreducible] def PAd (X:Cx) (es:List Expr) (t:TA):Prop:=PA X es t
section
variable {X:Cx}{L rest:List Stmt}{st:Stmt}{t u:TS}{e a b:Expr}{es:List Expr}{te ta tb:TE}{tl:TA}{pos:Pos}
end
end L2
namespace L2.VS
open PySem PySem.Spec PyProof.Rows
section
variable {P0:Addr→Hp→Prop}{S:Type}
structure Fam (S:Type) where
 box:Addr→S→Bx
 pin:∀{p s v fp G H},(box p s).P v fp G H→v=.ref p
def RvP (G H:Hp)(v:V)(fp:List Addr):Rv→Prop
 | .val d=>fp=[]∧Dt G v d
 | .own ds=>∃ p vs,fp=[p]∧v=.ref p∧H p=some (.lst vs)∧Dts G vs ds
 | .box B=>B.P v fp G H
section
variable {G G' H H':Hp}{v:V}{fp fp':List Addr}
theorem RvP.mono (g:Same G G'):∀{rv:Rv},RvP G H v fp rv→RvP G' H v fp rv
 | .val _,h=>⟨h.1,Dt.same g _ _ h.2⟩
 | .own _,h=>let ⟨p,vs,a,b,c,d⟩:=h; ⟨p,vs,a,b,c,Dts.same g _ _ d⟩
 | .box B,h=>B.mono g h
theorem RvP.loc (k:∀ b∈fp,H' b=H b):∀{rv:Rv},RvP G H v fp rv→RvP G H' v fp rv
 | .val _,h=>h
 | .own _,h=>let ⟨p,vs,a,b,c,d⟩:=h; ⟨p,vs,a,b,(k p (by rw[a]; exact List.mem_singleton.mpr rfl)).trans c,d⟩
 | .box B,h=>B.loc k h
theorem RvP.dom:∀{rv:Rv},RvP G H v fp rv→∀ b∈fp,∃ o,H b=some o
 | .val _,h=>fun b hb=>by rw[h.1] at hb; cases hb
 | .own _,h=>fun b hb=>by
  obtain⟨p,vs,a,_,c,_⟩:=h;rw[a] at hb;rw[List.mem_singleton.mp hb];exact⟨_,c⟩
 | .box B,h=>B.dom h
theorem RvP.uniq:∀{rv:Rv},RvP G H v fp rv→RvP G H v fp' rv→fp=fp'
 | .val _,h,g=>h.1.trans g.1.symm
 | .own _,h,g=>by
  obtain⟨p,_,a,b,_⟩:=h;obtain⟨q,_,c,d,_⟩:=g;rw[b] at d
  cases d
  rw[a,c]
 | .box B,h,g=>B.uniq h g
theorem RvP.nt:∀{rv:Rv},RvP G H v fp rv→∀ b∈fp,∀ xs,H b=some (.tup xs)→∃ q∈fp,V.ref q∈xs∧∃ vs,H q=some (.lst vs)
 | .val _,h=>fun b hb=>by rw[h.1] at hb; cases hb
 | .own _,h=>fun b hb xs e=>by
  obtain⟨p,vs,a,_,c,_⟩:=h;rw[a] at hb;rw[List.mem_singleton.mp hb,c] at e
  cases e
 | .box B,h=>B.nt h
end
def bKp (W:Fam S)(rv:Rv)(p:Addr)(s:S):Bx where
 P:=fun v fp G H=>∃ f1 f2,fp=f1++f2∧RvP G H v f1 rv∧(W.box p s).P (.ref p) f2 G H∧∀ b∈f1,b∉f2
 mono:=fun g ⟨f1,f2,e,a,b,c⟩=>⟨f1,f2,e,a.mono g,(W.box p s).mono g b,c⟩
 loc:=fun k ⟨f1,f2,e,a,b,c⟩=>⟨f1,f2,e,a.loc fun x hx=>k x (by rw[e]; exact List.mem_append_left _ hx),(W.box p s).loc (fun x hx=>k x (by rw[e]; exact List.mem_append_right _ hx)) b,c⟩
 dom:=fun⟨f1,f2,e,a,b,c⟩ x hx=>by
  rw[e] at hx;exact(List.mem_append.mp hx).elim (a.dom x) ((W.box p s).dom b x)
 uniq:=fun⟨f1,f2,e,a,b,_⟩ ⟨g1,g2,e',a',b',_⟩=>by rw[e,e',a.uniq a',(W.box p s).uniq b b']
 nt:=fun⟨f1,f2,e,a,b,_⟩ x hx xs z=>by
  rw[e] at hx;rcases List.mem_append.mp hx with h|h
  ·obtain⟨q,h1,h2⟩:=a.nt x h xs z;exact⟨q,by rw[e]; exact List.mem_append_left _ h1,h2⟩
  ·obtain⟨q,h1,h2⟩:=(W.box p s).nt b x h xs z;exact⟨q,by rw[e]; exact List.mem_append_right _ h1,h2⟩
 view:=none
 vok:=fun _ z=>nomatch z
def sV (W:Fam S)(m:MO):MS:=fun Γ Q=>m Γ fun rv Γ1=>∃ p s,Γ1[0]?=some (.box (W.box p s))∧Q (.rt (.box (bKp W rv p s)))
theorem iG {W:Fam S}{A:Nat→Bool}{t:TE}{m:MO}(h:VO P0 t m):VSA P0 A (aN2 t) (sV W m):=by
 intro F Γ σ G H E Qm r hm k;refine h F Γ σ G H _ _ r hm fun rv Γ1 v G1 H1 m1 s1 r1 v1 a1=>?_;obtain⟨p,s,e,q⟩:=m1;obtain⟨fps,h1,h2⟩:=r1.fps;have h0:=h1 0 _ e;obtain⟨w,ew,pw,nw⟩:=id h0;have z:=W.pin pw;subst z;refine k _ q v G1 H1 s1 r1.fr ?_
 cases rv with
 | val d=>exact⟨_,⟨[],fps 0,rfl,⟨rfl,v1⟩,pw,fun b hb=>nomatch hb⟩,nw⟩
 | own ds=>
  obtain⟨u,vs,rfl,e1,e2,e3,e4⟩:=v1;refine⟨_,⟨[u],fps 0,rfl,⟨u,vs,rfl,rfl,e3,e4⟩,pw,fun b hb=>?_⟩,fun b hb=>?_⟩
  ·rw[List.mem_singleton.mp hb];exact a1 0 _ _ e h0 u rfl
  ·rcases List.mem_append.mp hb with hb|hb
   ·rw[List.mem_singleton.mp hb];exact⟨e1,e2⟩
   ·exact nw b hb
 | box B=>
  obtain⟨fp,e1,e2⟩:=v1;refine⟨_,⟨fp,fps 0,rfl,e1,pw,fun b hb=>a1 0 _ _ fp e h0 e1 b hb⟩,fun b hb=>?_⟩;rcases List.mem_append.mp hb with hb|hb
  ·exact e2 b hb
  ·exact nw b hb
abbrev Lm (S:Type):=Addr→S→List Sl→(Rv→S→Prop)→Prop
def aA3 (W:Fam S)(n:Nat)(b:MS):Lm S:=fun p s as Q=>b (.box (W.box p s)::(as++List.replicate n .no)) fun fl=>match fl with
 | .rt rv=>∃ rv0 s',rv=.box (bKp W rv0 p s')∧Q rv0 s'
 | .nx Γ=>∃ s',Γ[0]?=some (.box (W.box p s'))∧Q (.val .none) s'
 | _=>False
def spL (P0:Addr→Hp→Prop)(W:Fam S)(n:Nat)(f:Lm S):Sp:=fun vs H Q _=>∃(F:Fra P0) (p:Addr) (s:S) (fp:List Addr) (ws:List V) (as:List Sl) (Qm:Rv→S→Prop),vs=.ref p::ws∧(∀ b,F.H0 b=if b∈fp then none else H b)∧Rf F F.G0 H ∧
 (W.box p s).P (.ref p) fp F.G0 H∧(∀ b∈fp,F.G0 b=none)∧Paired (uK F F.G0) ws as∧as.length+1=n∧f p s as Qm ∧
 ∀ rv s' r f1 f2 G' H',Qm rv s'→Rf F G' H'→RvP G' H' r f1 rv→(W.box p s').P (.ref p) f2 G' H'→(∀ b∈f1,b∉f2)→(∀ b∈f1++f2,F.H0 b=none∧G' b=none)→Q r H'
theorem aLO {F:Fra P0}{G:Hp}{ws:List V}{as:List Sl}{i k m:Nat}{s:Sl}(pr:Paired (uK F G) ws as)(e:(as++List.replicate k Sl.no)[i]?=some s)(hne:s≠.no) :
  ∃ v,(ws.map some++List.replicate m none)[i]?=some (some v)∧uK F G v s:=by
 induction pr generalizing i with
 | nil=>
  rw[List.nil_append,List.getElem?_replicate] at e
  split at e
  ·cases e; exact absurd rfl hne
  ·cases e
 | cons a b ih=>
  cases i with
  | zero=>cases e; exact⟨_,rfl,a⟩
  | succ i=>exact ih e
theorem aEV {W:Fam S}{n k:Nat}{N:List Str}{t:TS}{b:MS}(h:VS P0 t b)(hN:N.length=n+k){vs:List V}{H:Hp}{Q:VK}{E:XK}(hs:spL P0 W n (aA3 W k b) vs H Q E) :
  t { nx:=fun _ H'=>Q .non H',rt:=Q } (start N vs) H:=by
 obtain⟨F,p,s,fp,ws,as,Qm,rfl,hH,rf,hP,hG,pr,hl,hm,q⟩:=hs;have hlen:ws.length=as.length:=Paired.length pr;have r:R F (.box (W.box p s)::(as++List.replicate k .no)) (start N (.ref p::ws)) F.G0 H:=by
  refine⟨rf,?_,fun i=>if i=0 then fp else[],fun i u e=>?_,fun i j u z _ _ hij b hb hc=>?_⟩
  ·unfold start;simp only[List.length_cons,List.length_append,List.length_replicate,List.length_map];omega
  ·cases i with
   | zero=>
    cases e
    exact⟨.ref p,rfl,hP,fun b hb=>⟨by have hb:b∈fp:=hb; rw[hH,if_pos hb],hG b hb⟩⟩
   | succ i=>
    have e:(as++List.replicate k Sl.no)[i]?=some u:=e;have at_:u≠.no→∃ v,(start N (.ref p::ws))[i+1]?=some (some v)∧uK F F.G0 v u:=fun hne=>by
     obtain⟨v,ev,av⟩:=aLO (m:=N.length-(ws.length+1)) pr e hne;exact⟨v,ev,av⟩
    cases u with
    | no=>rfl
    | val d=>
     obtain⟨v,ev,av⟩:=at_ (by intro z; cases z)
     exact⟨rfl,v,ev,av⟩
    | own ds=>
     obtain⟨v,ev,av⟩:=at_ (by intro z; cases z)
     exact av.elim
    | pen=>
     obtain⟨v,ev,q,rfl,eq⟩:=at_ (by intro z; cases z)
     exact⟨rfl,q,ev,eq⟩
    | con q=>
     obtain⟨v,ev,av⟩:=at_ (by intro z; cases z)
     have av:v=.ref q:=av;rw[av] at ev;exact⟨rfl,ev⟩
    | pub B=>
     obtain⟨v,ev,av⟩:=at_ (by intro z; cases z)
     exact⟨rfl,v,ev,av⟩
    | box B=>
     obtain⟨v,ev,av⟩:=at_ (by intro z; cases z)
     exact av.elim
  ·dsimp only at hb hc
   split at hb
   ·rename_i hi
    split at hc
    ·rename_i hj; exact hij (hi.trans hj.symm)
    ·cases hc
   ·cases hb
 refine h F _ _ _ _ _ _ r hm fun fl hq=>?_
 cases fl with
 | nx Γ=>
  intro σ G' H' _ r' _;obtain⟨s',e,hq⟩:=hq;obtain⟨fps,h1,_⟩:=r'.fps;obtain⟨w,ew,pw,nw⟩:=h1 0 _ e;have z:=W.pin pw;subst z;exact q _ _ _ [] _ _ _ hq r'.fr ⟨rfl,.non⟩ pw (fun b hb=>nomatch hb) nw
 | rt rv=>
  intro v G' H' _ f' v';obtain⟨rv0,s',rfl,hq⟩:=hq;obtain⟨g,⟨f1,f2,rfl,a,b,c⟩,d⟩:=v';exact q _ _ _ _ _ _ _ hq f' a b c d
 | bk Γ=>exact hq.elim
 | ct Γ=>exact hq.elim
theorem aI5 {W:Fam S}{n:Nat}{f:Lm S}{ps:List Str}(h:ps.length=n):∀ vs H Q E,spL P0 W n f vs H Q E→vs.length=ps.length:=by
 rintro vs H Q E ⟨F,p,s,fp,ws,as,Qm,rfl,_,_,_,_,pr,hl,_⟩;rw[List.length_cons,Paired.length pr,hl,h]
theorem _root_.L2.Fun.okL {P:Program}{w:World}{K:Fg}{mg:Mg}{base:Heap}{x qual:Str}{st:Stmt}{f:Addr}{fd:FuncData}{N ps:List Str}{k n j:Nat}{b:MS}{W:Fam S}
  (F:Fun K x qual st f fd) (S0:FnScope N ps (aN st)) (hn:ps.length=n) (hN:N.length=n+j)
  (hb:∀(cdv:Value) (A:Around) (outer:List Env) (s:Shared) (H:Hp) (E:XK),Room k (A.deeper (envOfC qual (aN st) s.heap.objs.size f cdv)) →
   SsX P0 (aFG CX0 P w K mg base N qual (aN st) f cdv A outer s H E).nox (jU st) b):FnOk P w K mg base CX0 (k+1) f fd ps (spL P0 W n (aA3 W j b)):=by
 refine F.ok S0 (aI5 hn) fun cdv A outer s H vs Q E hr hs=>?_;obtain⟨t,h1,h2⟩:=hb cdv A outer s H E hr;exact⟨t,h1,aEV h2 hN hs⟩
def bW (W:Fam S)(n:Nat)(f:Lm S)(i:Nat)(m:MA):MO:=fun Γ Q=>∃ p,(∃ s,Γ[i]?=some (.box (W.box p s)))∧m Γ fun as Γ1=>∃ s1,Γ1[i]?=some (.box (W.box p s1))∧as.length+1=n∧f p s1 as fun rv s'=>Q rv (Γ1.set i (.box (W.box p s')))
def Fra.less (F:Fra P0){G H:Hp}(r:Rf F G H)(fp:List Addr)(hf:∀ b∈fp,F.H0 b=none):Fra P0 where
 H0:=fun b=>if b∈fp then none else H b
 G0:=G
 pen:=F.pen
 stab:=fun p e H1 H2 h=>F.stab p e H1 H2 fun b o z=>by
  obtain⟨o',e'⟩:=r.dom z;exact h b o' (by rw[if_neg (fun hb=>by rw[hf b hb] at z; cases z)]; exact e')
 pin:=F.pin
 pin0:=fun p e=>by
  obtain⟨o,z⟩:=F.pin0 p e;obtain⟨o',e'⟩:=F.pin p e H (r.pn p e);exact⟨o',by rw[if_neg (fun hb=>by rw[hf p hb] at z; cases z)]; exact e'⟩
 pg:=fun p e=>by
  obtain⟨o,e0⟩:=F.pin0 p e;rw[r.g0 p o e0];exact F.pg p e
theorem cA {W:Fam S}{n i:Nat}{f:Lm S}{t:TA}{m:MA}{E:XK}(h:VA P0 t m):VO P0 (aAA (spL P0 W n f) [] E (fH (vX i) t)) (bW W n f i m):=by
 intro F Γ σ G H Q Qm r hm k;obtain⟨p,⟨s,e⟩,hm⟩:=hm;obtain⟨fps0,g1,_⟩:=r.fps;obtain⟨w,ew,pw,_⟩:=g1 i _ e;have z:=W.pin pw;subst z;refine⟨.ref p,ew,h F Γ σ G H _ _ r hm fun as Γ1 rs G1 H1 m1 s1 r1 d1=>?_⟩;obtain⟨s1',e1,hl,hf⟩:=m1;obtain⟨fps,h1,h2⟩:=r1.fps;have hi:=h1 i _ e1;obtain⟨w,ew',pw',nw⟩:=id hi;have z:=W.pin pw';subst z;have hF:∀ b∈fps i,F.H0 b=none:=fun b hb=>(nw b hb).1;have inH:∀ b o,F.H0 b=some o→(if b∈fps i then none else H1 b)≠none:=fun b o z=>by
  obtain⟨o',e'⟩:=r1.fr.dom z;rw[if_neg (fun hb=>by rw[hF b hb] at z; cases z),e'];exact fun y=>nomatch y
 refine⟨F.less r1.fr (fps i) hF,p,s1',fps i,rs,as,fun rv s'=>Qm rv (Γ1.set i (.box (W.box p s'))),by rw[List.append_nil],fun b=>rfl,
  ⟨r1.fr.sub,fun _ _ _=>rfl,fun b o z _=>?_,r1.fr.pn⟩,pw',fun b hb=>(nw b hb).2,Paired.imp' (fun a s h=>by cases s<;>exact h) d1,hl,hf,fun rv s' v f1 f2 G' H' hq f' a b c d=>?_⟩
 ·have z:(if b∈fps i then none else H1 b)=some o:=z
  split at z
  ·cases z
  ·exact z
 ·have h0:∀ b,(F.less r1.fr (fps i) hF).H0 b=if b∈fps i then none else H1 b:=fun _=>rfl
  have nF:∀ b,(F.less r1.fr (fps i) hF).H0 b=none→F.H0 b=none:=fun b z=>by
   cases y:F.H0 b with
   | none=>rfl
   | some o=>exact absurd z (inH b o y)
  have sG:Same G1 G':=fun b o z=>by
   have hH:=r1.fr.sub b o z;have hb:b∉fps i:=fun hb=>by rw[(nw b hb).2] at z; cases z
   have y:=f'.g0 b o (by rw[h0,if_neg hb]; exact hH);exact y.trans z
  have rf:Rf F G' H':=by
   refine⟨f'.sub,fun b o z=>?_,fun b o z hb=>?_,f'.pn⟩
   ·obtain⟨o',e'⟩:=r1.fr.dom z;have hb:b∉fps i:=fun hb=>by rw[hF b hb] at z; cases z
    exact(f'.g0 b o' (by rw[h0,if_neg hb]; exact e')).trans (r1.fr.g0 b o z)
   ·have hb':b∉fps i:=fun hb=>by rw[hF b hb] at z; cases z
    exact f'.h0 b o (by rw[h0,if_neg hb']; exact r1.fr.h0 b o z hb) hb
  have oth:∀(j:Nat) (u:Sl),j≠i→Γ1[j]?=some u→∀ b∈fps j,(F.less r1.fr (fps i) hF).H0 b≠none∧G' b=none∧H' b=H1 b:=fun j u hj ej b hb=>by
   obtain⟨m1,m2,o,m3⟩:=(h1 j u ej).mine hb;have hb':=h2 j i u _ ej e1 hj b hb;have y:(F.less r1.fr (fps i) hF).H0 b=some o:=by rw[h0,if_neg hb']; exact m3
   refine⟨by rw[y]; exact(fun z=>nomatch z),(f'.g0 b o y).trans m2,?_⟩;rw[m3];exact f'.h0 b o y (F.pen_ne m1)
  have back:∀(j:Nat) (u:Sl),j≠i→(Γ1.set i (.box (W.box p s')))[j]?=some u→Γ1[j]?=some u:=fun j u hj ej=>by rw[List.getElem?_set_ne (Ne.symm hj)] at ej; exact ej
  have hil:i<Γ1.length:=(List.getElem?_eq_some_iff.mp e1).1;have new:R F (Γ1.set i (.box (W.box p s'))) σ G' H':=by
   refine⟨rf,by rw[List.length_set]; exact r1.len,fun j=>if j=i then f2 else fps j,fun j u ej=>?_,fun j l u z ej el hjl b hb hc=>?_⟩
   ·dsimp only
    by_cases hj:j=i
    ·subst hj;rw[if_pos rfl];rw[List.getElem?_set_self hil] at ej
     cases ej
     exact⟨.ref p,ew',b,fun x hx=>⟨nF x (d x (List.mem_append_right _ hx)).1,(d x (List.mem_append_right _ hx)).2⟩⟩
    ·rw[if_neg hj];have ej:=back j u hj ej;exact(h1 j u ej).go sG fun x hx=>(oth j u hj ej x hx).2
   ·dsimp only at hb hc
    by_cases hj:j=i
    ·rw[if_pos hj] at hb;have hl':l≠i:=fun y=>hjl (hj.trans y.symm);rw[if_neg hl'] at hc;exact(oth l z hl' (back l z hl' el) b hc).1 (d b (List.mem_append_right _ hb)).1
    ·rw[if_neg hj] at hb
     by_cases hl':l=i
     ·rw[if_pos hl'] at hc;exact(oth j u hj (back j u hj ej) b hb).1 (d b (List.mem_append_right _ hc)).1
     ·rw[if_neg hl'] at hc;exact h2 j l u z (back j u hj ej) (back l z hl' el) hjl b hb hc
  have apart:∀(j:Nat) (u:Sl) (fp:List Addr),(Γ1.set i (.box (W.box p s')))[j]?=some u→SlF F G' H' σ[j]? fp u→∀ x∈f1,x∉fp:=fun j u fp ej hu x hx hxf=>by
   by_cases hj:j=i
   ·subst hj;rw[List.getElem?_set_self hil] at ej
    cases ej
    obtain⟨w,ew2,pw2,_⟩:=hu;rw[ew'] at ew2
    cases ew2
    rw[(W.box p s').uniq pw2 b] at hxf;exact c x hx hxf
   ·have ej:=back j u hj ej;have y:=SlF.det hu ((h1 j u ej).go sG fun x hx=>(oth j u hj ej x hx).2);rw[y] at hxf;exact(oth j u hj ej x hxf).1 (d x (List.mem_append_left _ hx)).1
  refine k rv _ v G' H' hq (s1.trans sG) new ?_ ?_
  ·cases rv with
   | val d'=>exact a.2
   | own ds=>
    obtain⟨u,vs,e2,e3,e4,e5⟩:=a;have hu:=d u (List.mem_append_left _ (by rw[e2]; exact List.mem_singleton.mpr rfl));exact⟨u,vs,e3,nF u hu.1,hu.2,e4,e5⟩
   | box B=>exact⟨f1,a,fun x hx=>⟨nF x (d x (List.mem_append_left _ hx)).1,(d x (List.mem_append_left _ hx)).2⟩⟩
  ·cases rv with
   | val d'=>trivial
   | own ds=>
    intro j u fp ej hu y ey hy;obtain⟨u',vs,e2,e3,e4,e5⟩:=a;rw[e3] at ey
    cases ey
    exact apart j u fp ej hu _ (by rw[e2]; exact List.mem_singleton.mpr rfl) hy
   | box B=>
    intro j u fp g ej hu hg x hx;have y:g=f1:=B.uniq hg a;rw[y] at hx;exact apart j u fp ej hu x hx
end
section
variable {P0:Addr→Hp→Prop}
def aPN (p:Addr)(n:Nat)(H:Hp):Prop:=∃ z c k:Int,H p=some (.lst [.int z,.int c,.int k])∧0≤z∧0≤c∧c<1099511627776∧0≤k∧k≤(n:Int)
def penF:Fam Nat where
  box:=fun p n=>
    { P:=fun v fp _ H=>v=.ref p∧fp=[p]∧aPN p n H
      mono:=fun _ h=>h
      loc:=fun k ⟨a,b,z,c,m,e,r⟩=>⟨a,b,z,c,m,(k p (by rw[b]; exact List.mem_singleton.mpr rfl)).trans e,r⟩
      dom:=fun⟨_,b,z,c,m,e,_⟩ x hx=>by
        rw[b] at hx;rw[List.mem_singleton.mp hx];exact⟨_,e⟩
      uniq:=fun h g=>h.2.1.trans g.2.1.symm
      nt:=fun⟨_,b,z,c,m,e,_⟩ x hx xs y=>by
        rw[b] at hx;rw[List.mem_singleton.mp hx,e] at y
        cases y
      view:=none
      vok:=fun _ z=>nomatch z }
  pin:=fun h=>h.1
def aD5:Sp:=fun vs H Q _=>∃(pen:Addr) (m z c k:Int) (n:Nat),vs=[.ref pen,.int m]∧H pen=some (.lst [.int z,.int c,.int k])∧0≤z∧0≤c∧c<1099511627776∧0≤k∧k≤(n:Int)∧n<1000000000∧0<m∧m<1073741824 ∧
 ∀(r:Int) (H':Hp),0≤r→r<m→aPN pen (n+1) H'→aMM pen H H'→Q (.int r) H'
def gB:Lm Nat:=fun _ n as Q=>match as with
 | [.val (.int m)]=>0<m∧m<1073741824∧n<1000000000∧∀ r:Int,0≤r→r<m→Q (.val (.int r)) (n+1)
 | _=>False
theorem aF8:∀ vs H Q E,spL P0 penF 2 gB vs H Q E→aD5 vs H Q E:=by
 rintro vs H Q E ⟨F,p,n,fp,ws,as,Qm,rfl,hH,rf,hP,hG,pr,hl,hm,q⟩;unfold gB at hm
 split at hm
 ·rename_i m
  cases pr with
  | cons a1 b1=>
   cases b1
   have a1:Dt F.G0 _ (.int m):=a1
   cases a1
   obtain⟨_,rfl,z,c,k,e,hz,hc,hc2,hk,hkn⟩:=hP;refine⟨p,m,z,c,k,n,rfl,e,hz,hc,hc2,hk,hkn,hm.2.2.1,hm.1,hm.2.1,fun r H' r0 r1 hp hx=>?_⟩;have nb:∀ b o,F.H0 b=some o→b≠p∧H b=some o:=fun b o y=>by
    rw[hH] at y
    split at y
    ·cases y
    ·rename_i hb
     exact⟨fun w=>hb (by rw[w]; exact List.mem_singleton.mpr rfl),y⟩
   refine q _ _ _ [] [p] F.G0 H' (hm.2.2.2 r r0 r1) ⟨fun b o y=>hx b o (fun w=>?_) (rf.sub b o y),fun _ _ _=>rfl,fun b o y _=>hx b o (nb b o y).1 (nb b o y).2,F.stab' H H' (fun b o y=>?_) rf.pn⟩ ⟨rfl,.int _⟩ ⟨rfl,rfl,hp⟩ (fun b hb=>nomatch hb) fun b hb=>?_
   ·rw[w,hG p (List.mem_singleton.mpr rfl)] at y; cases y
   ·rw[(nb b o y).2]; exact hx b o (nb b o y).1 (nb b o y).2
   ·have hb:b∈[p]:=hb;refine⟨by rw[hH,if_pos hb],hG b hb⟩
 ·exact hm.elim
theorem fW {p:Addr}{n:Nat}{m:Int}{Q:Rv→Nat→Prop}(h1:0<m)(h2:m<1073741824)(hn:n<1000000000)(h:∀ r:Int,0≤r→r<m→Q (.val (.int r)) (n+1)):gB p n [.val (.int m)] Q:=⟨h1,h2,hn,h⟩
theorem a0I {S:Type}{W:Fam S}{n:Nat}{b:MS}{p:Addr}{s:S}{as:List Sl}{Q:Rv→S→Prop}(h:b (.box (W.box p s)::(as++List.replicate n .no)) fun fl=>match fl with
 | .rt rv=>∃ rv0 s',rv=.box (bKp W rv0 p s')∧Q rv0 s'
 | .nx Γ=>∃ s',Γ[0]?=some (.box (W.box p s'))∧Q (.val .none) s'
 | _=>False):aA3 W n b p s as Q:=h
end
section
abbrev NoP:Addr→Hp→Prop:=fun _ _=>False
def a8V (K:Fg):Sp:=fun vs H Q _=>∃(a:Addr) (ns:List Int) (j:Int),vs=[.ref a,.int j]∧SqL K H a (ns.map V.int)∧0≤j∧j<1000∧∀ p z c,H p=none→0≤z→0≤c→c<1099511627776→Q (.ref p) (upd H p (.lst [.int z,.int c,.int 1]))
theorem law_goC {k:Nat}{t:TS}{b:MS}{H:Hp}{a pen:Addr}{z c:Int}{Q:VK}{nx:St→Hp→Prop}(h:VS NoP t b)(hp:H pen=none)(hz:0≤z)(hc:0≤c)(hc2:c<1099511627776)
    (hb:b (.no::.box (penF.box pen 1)::List.replicate k .no) jR) (q:∀ H',Q (.bl true) H') :
    t { nx:=nx,rt:=Q } (some (.ref a)::some (.ref pen)::List.replicate k none) (upd H pen (.lst [.int z,.int c,.int 1])):=by
  have g:=uE hp (.lst [.int z,.int c,.int 1])
  let F:Fra NoP:=
    { H0:=H
      G0:=fun _=>none
      pen:=none
      stab:=fun p e=>nomatch e
      pin:=fun p e=>nomatch e
      pin0:=fun p e=>nomatch e
      pg:=fun _ _=>rfl }
  have r:R F (.no::.box (penF.box pen 1)::List.replicate k .no) (some (.ref a)::some (.ref pen)::List.replicate k none) F.G0 (upd H pen (.lst [.int z,.int c,.int 1])):=by
    refine⟨⟨fun b o e=>(nomatch e),fun _ _ _=>rfl,fun b o e _=>g b o e,fun p e=>nomatch e⟩,by simp,fun i=>if i=1 then[pen] else[],fun i s e=>?_,fun i j s u _ _ hij b hb hc=>?_⟩
    · match i with
      | 0=>cases e; rfl
      | 1=>
        cases e
        refine⟨.ref pen,rfl,⟨rfl,rfl,z,c,1,bM,hz,hc,hc2,by decide,by decide⟩,fun b hb=>?_⟩;have hb:b∈[pen]:=hb;rw[List.mem_singleton.mp hb];exact⟨hp,rfl⟩
      | i+2=>
        have e':(List.replicate k Sl.no)[i]?=some s:=by simpa using e
        rw[List.getElem?_replicate] at e'
        split at e'
        · cases e'; rfl
        · cases e'
    · dsimp only at hb hc
      split at hb
      · rename_i hi
        split at hc
        · rename_i hj; exact hij (hi.trans hj.symm)
        · cases hc
      · cases hb
  refine h F _ _ F.G0 _ _ jR r hb fun fl e=>?_;unfold jR at e;subst e;intro v G' H' _ _ hr;have hr:Dt G' v (.bool true):=hr
  cases hr
  exact q H'
theorem law_bodyC {K:Fg}{a:Addr}{ns:List Int}{k:Nat}{j:Int}{b:MS}{H:Hp}{Q:VK}{nx:St→Hp→Prop}{X:Cx}{st:Stmt}{rest:List Stmt}{N:List Str}(hj:0≤j∧j<1000)
  (h1:PS X st (aFZ (aAA (a8V K) [] E0 (fH (vX 0) (fH (tC (.int j)) z7))) (a5R 1))) (h2:∃ t,PSs X rest t∧VS NoP t b) (hN:N.length=k+2) (hS:SqL K H a (ns.map V.int))
  (hb:∀ pen,b (.no::.box (penF.box pen 1)::List.replicate k .no) jR) (q:∀ H',Q (.bl true) H'):∃ t,PSs X (st::rest) t∧t { nx:=nx,rt:=Q } (start N [.ref a]) H:=by
 obtain⟨t,h2,h3⟩:=h2;refine⟨_,aD h1 h2,?_⟩;have e:start N [.ref a]=some (.ref a)::none::List.replicate k none:=by
  unfold start;rw[hN];rfl
 rw[e];refine⟨.ref a,rfl,a,ns,j,rfl,hS,hj.1,hj.2,fun p z c hp hz hc hc2=>?_⟩;exact law_goC (t:=t) h3 hp hz hc hc2 (hb p) q
end
section
variable {P0:Addr→Hp→Prop}
section
variable {C:Addr}{x:Str}{i:Nat}
variable {E:XK}
end
end
section
variable {P0:Addr→Hp→Prop}
end
section
variable {P0:Addr→Hp→Prop}{S:Type}
structure PartAt (W:Fam S)(p:Addr)(B:S→Bx)(v:V)(s:S)(fp f0:List Addr)(G H:Hp):Prop where
 sub:∀ b∈f0,b∈fp
 own:(W.box p s).P (.ref p) f0 G H
 back:∀ s' f0' G' H',Same G G'→(W.box p s').P (.ref p) f0' G' H'→(∀ b∈fp,b∉f0→H' b=H b∧b∉f0')→∃ fp',(B s').P v fp' G' H'∧∀ b∈fp',b∈f0'∨(b∈fp∧b∉f0)
def PartOf (W:Fam S)(p:Addr)(B:S→Bx):Prop:=∀{s v fp G H},(B s).P v fp G H→∃ f0,PartAt W p B v s fp f0 G H
theorem PartOf.self {W:Fam S}{p:Addr}:PartOf W p (W.box p):=fun{s v fp G H} h=>by
 have z:=W.pin h;subst z;exact⟨fp,fun _ h=>h,h,fun s' f' G' H' _ h' _=>⟨f',h',fun b hb=>.inl hb⟩⟩
section
variable {W:Fam S}{B:S→Bx}{i:Nat}{p:Addr}{s1 s':S}{F:Fra P0}{Γ1:En}{σ:St}{G1 H1 G' H':Hp}{v:V}{fp f0 f1 f2:List Addr}
theorem R.unlend (r1:R F Γ1 σ G1 H1)(e1:Γ1[i]?=some (.box (B s1)))(hi:SlF F G1 H1 σ[i]? fp (.box (B s1)))(hv:σ[i]?=some (some v))(hp:PartAt W p B v s1 fp f0 G1 H1)(hF:∀ b∈f0,F.H0 b=none)
  (f':Rf (F.less r1.fr f0 hF) G' H') (b2:(W.box p s').P (.ref p) f2 G' H') (d2:∀ b∈f2,(F.less r1.fr f0 hF).H0 b=none∧G' b=none) :
  Same G1 G'∧R F (Γ1.set i (.box (B s'))) σ G' H'∧(∀ b,(F.less r1.fr f0 hF).H0 b=none→F.H0 b=none) ∧
  ∀ f1:List Addr,(∀ b∈f1,(F.less r1.fr f0 hF).H0 b=none)→(∀ b∈f1,b∉f2)→∀(j:Nat) (u:Sl) (fq:List Addr),(Γ1.set i (.box (B s')))[j]?=some u→SlF F G' H' σ[j]? fq u→∀ x∈f1,x∉fq:=by
 obtain⟨fps,h1,h2⟩:=r1.fps;have z:=SlF.det hi (h1 i _ e1);subst z;obtain⟨v',ev',pv',nw⟩:=id hi;rw[hv] at ev'
 cases ev'
 have h0:∀ b,(F.less r1.fr f0 hF).H0 b=if b∈f0 then none else H1 b:=fun _=>rfl
 have inH:∀ b o,F.H0 b=some o→(if b∈f0 then none else H1 b)≠none:=fun b o z=>by
  obtain⟨o',e'⟩:=r1.fr.dom z;rw[if_neg (fun hb=>by rw[hF b hb] at z; cases z),e'];exact fun y=>nomatch y
 have nF:∀ b,(F.less r1.fr f0 hF).H0 b=none→F.H0 b=none:=fun b z=>by
  cases y:F.H0 b with
  | none=>rfl
  | some o=>exact absurd z (inH b o y)
 have nw0:∀ b∈f0,G1 b=none:=fun b hb=>(nw b (hp.sub b hb)).2;have sG:Same G1 G':=fun b o z=>by
  have hH:=r1.fr.sub b o z;have hb:b∉f0:=fun hb=>by rw[nw0 b hb] at z; cases z
  exact(f'.g0 b o (by rw[h0,if_neg hb]; exact hH)).trans z
 have rf:Rf F G' H':=by
  refine⟨f'.sub,fun b o z=>?_,fun b o z hb=>?_,f'.pn⟩
  ·obtain⟨o',e'⟩:=r1.fr.dom z;have hb:b∉f0:=fun hb=>by rw[hF b hb] at z; cases z
   exact(f'.g0 b o' (by rw[h0,if_neg hb]; exact e')).trans (r1.fr.g0 b o z)
  ·have hb':b∉f0:=fun hb=>by rw[hF b hb] at z; cases z
   exact f'.h0 b o (by rw[h0,if_neg hb']; exact r1.fr.h0 b o z hb) hb
 have stay:∀ b,F.H0 b=none→G1 b=none→(∃ o,H1 b=some o)→b∉f0→(F.less r1.fr f0 hF).H0 b≠none∧G' b=none∧H' b=H1 b:=fun b m1 m2 m3 hb=>by
  obtain⟨o,m3⟩:=m3;have y:(F.less r1.fr f0 hF).H0 b=some o:=by rw[h0,if_neg hb]; exact m3
  refine⟨by rw[y]; exact(fun z=>nomatch z),(f'.g0 b o y).trans m2,?_⟩;rw[m3];exact f'.h0 b o y (F.pen_ne m1)
 have oth:∀(j:Nat) (u:Sl),j≠i→Γ1[j]?=some u→∀ b∈fps j,(F.less r1.fr f0 hF).H0 b≠none∧G' b=none∧H' b=H1 b:=fun j u hj ej b hb=>by
  obtain⟨m1,m2,m3⟩:=(h1 j u ej).mine hb;exact stay b m1 m2 m3 fun z=>h2 j i u _ ej e1 hj b hb (hp.sub b z)
 have mine:∀ b∈fps i,b∉f0→(F.less r1.fr f0 hF).H0 b≠none∧G' b=none∧H' b=H1 b:=fun b hb hn=>by
  obtain⟨m1,m2,m3⟩:=(h1 i _ e1).mine hb;exact stay b m1 m2 m3 hn
 obtain⟨fp',pB,hfp⟩:=hp.back s' f2 G' H' sG b2 fun b hb hn=>⟨(mine b hb hn).2.2,fun z=>(mine b hb hn).1 (d2 b z).1⟩;have back:∀(j:Nat) (u:Sl),j≠i→(Γ1.set i (.box (B s')))[j]?=some u→Γ1[j]?=some u:=fun j u hj ej=>by rw[List.getElem?_set_ne (Ne.symm hj)] at ej; exact ej
 have hil:i<Γ1.length:=(List.getElem?_eq_some_iff.mp e1).1;have new:R F (Γ1.set i (.box (B s'))) σ G' H':=by
  refine⟨rf,by rw[List.length_set]; exact r1.len,fun j=>if j=i then fp' else fps j,fun j u ej=>?_,fun j l u z ej el hjl b hb hc=>?_⟩
  ·dsimp only
   by_cases hj:j=i
   ·subst hj;rw[if_pos rfl];rw[List.getElem?_set_self hil] at ej
    cases ej
    refine⟨v,hv,pB,fun x hx=>?_⟩;rcases hfp x hx with hx|⟨hx,hn⟩
    ·exact⟨nF x (d2 x hx).1,(d2 x hx).2⟩
    ·exact⟨(nw x hx).1,(mine x hx hn).2.1⟩
   ·rw[if_neg hj];have ej:=back j u hj ej;exact(h1 j u ej).go sG fun x hx=>(oth j u hj ej x hx).2
  ·dsimp only at hb hc;have cross:∀(l:Nat) (z:Sl),l≠i→Γ1[l]?=some z→∀ b∈fp',b∉fps l:=fun l z hl el b hb hc=>by
    rcases hfp b hb with hb|⟨hb,_⟩
    ·exact(oth l z hl el b hc).1 (d2 b hb).1
    ·exact h2 i l _ z e1 el (Ne.symm hl) b hb hc
   by_cases hj:j=i
   ·rw[if_pos hj] at hb;have hl':l≠i:=fun y=>hjl (hj.trans y.symm);rw[if_neg hl'] at hc;exact cross l z hl' (back l z hl' el) b hb hc
   ·rw[if_neg hj] at hb
    by_cases hl':l=i
    ·rw[if_pos hl'] at hc;exact cross j u hj (back j u hj ej) b hc hb
    ·rw[if_neg hl'] at hc;exact h2 j l u z (back j u hj ej) (back l z hl' el) hjl b hb hc
 refine⟨sG,new,nF,fun f1 hf1 ap j u fq ej hu x hx hxf=>?_⟩
 by_cases hj:j=i
 ·subst hj;rw[List.getElem?_set_self hil] at ej
  cases ej
  obtain⟨w,ew2,pw2,_⟩:=hu;rw[hv] at ew2
  cases ew2
  rw[(B s').uniq pw2 pB] at hxf;rcases hfp x hxf with h|⟨h,hn⟩
  ·exact ap x hx h
  ·exact(mine x h hn).1 (hf1 x hx)
 ·have ej:=back j u hj ej;have y:=SlF.det hu ((h1 j u ej).go sG fun x hx=>(oth j u hj ej x hx).2);rw[y] at hxf;exact(oth j u hj ej x hxf).1 (hf1 x hx)
theorem aBJ {n:Nat}{f:Lm S}{as:List Sl}{rs:List V}{Q:VK}{E:XK}{Qm:Rv→En→Prop}(hB:PartOf W p B)(r1:R F Γ1 σ G1 H1)(e1:Γ1[i]?=some (.box (B s1)))(d1:Paired (uK F G1) rs as)(hl:as.length+1=n)
  (hf:f p s1 as fun rv s'=>Qm rv (Γ1.set i (.box (B s')))) (k:∀ rv Γ' r G' H',Qm rv Γ'→Same G1 G'→R F Γ' σ G' H'→RvO F G' H' r rv→Apart F Γ' σ G' H' r rv→Q r H'):spL P0 W n f (.ref p::(rs++[])) H1 Q E:=by
 obtain⟨fps,h1,h2⟩:=r1.fps;have hi:=h1 i _ e1;obtain⟨v,ew',pw',nw⟩:=id hi;obtain⟨f0,hp⟩:=hB pw';have hF:∀ b∈f0,F.H0 b=none:=fun b hb=>(nw b (hp.sub b hb)).1;refine⟨F.less r1.fr f0 hF,p,s1,f0,rs,as,fun rv s'=>Qm rv (Γ1.set i (.box (B s'))),by rw[List.append_nil],fun b=>rfl,
  ⟨r1.fr.sub,fun _ _ _=>rfl,fun b o z _=>?_,r1.fr.pn⟩,hp.own,fun b hb=>(nw b (hp.sub b hb)).2,Paired.imp' (fun a s h=>by cases s<;>exact h) d1,hl,hf,fun rv s' v1 f1 f2 G' H' hq f' a b c d=>?_⟩
 ·have z:(if b∈f0 then none else H1 b)=some o:=z
  split at z
  ·cases z
  ·exact z
 ·obtain⟨sG,new,nF,apart⟩:=r1.unlend e1 hi ew' hp hF f' b (fun x hx=>d x (List.mem_append_right _ hx));have apart:=apart f1 (fun x hx=>(d x (List.mem_append_left _ hx)).1) c;refine k rv _ v1 G' H' hq sG new ?_ ?_
  ·cases rv with
   | val d'=>exact a.2
   | own ds=>
    obtain⟨u,vs,e2,e3,e4,e5⟩:=a;have hu:=d u (List.mem_append_left _ (by rw[e2]; exact List.mem_singleton.mpr rfl));exact⟨u,vs,e3,nF u hu.1,hu.2,e4,e5⟩
   | box B=>exact⟨f1,a,fun x hx=>⟨nF x (d x (List.mem_append_left _ hx)).1,(d x (List.mem_append_left _ hx)).2⟩⟩
  ·cases rv with
   | val d'=>trivial
   | own ds=>
    intro j u fq ej hu y ey hy;obtain⟨u',vs,e2,e3,e4,e5⟩:=a;rw[e3] at ey
    cases ey
    exact apart j u fq ej hu _ (by rw[e2]; exact List.mem_singleton.mpr rfl) hy
   | box B=>
    intro j u fq g ej hu hg x hx;have y:g=f1:=B.uniq hg a;rw[y] at hx;exact apart j u fq ej hu x hx
end
theorem aGM {ds:List D}{d e:D}(h:ixD (.list ds) d=some e):∃ i j,d=.int i∧ixN ds.length i=some j∧ds[j]?=some e:=by
 unfold ixD at h
 split at h
 ·rename_i z; cases z
 ·rename_i es i z
  cases z
  unfold atI at h
  cases y:ixN ds.length i with
  | none=>rw[y] at h; cases h
  | some j=>rw[y] at h; exact⟨i,j,rfl,y,h⟩
 ·cases h
end
section
section
variable {S:Type}{W:Fam S}{n i:Nat}{f:Lm S}{m:MA}{Γ Γ1:En}{p:Addr}{s:S}{as:List Sl}
def lnK (W:Fam S)(n:Nat)(f:Lm S)(i:Nat)(p:Addr)(Q:Rv→En→Prop)(as:List Sl)(Γ1:En):Prop:=∃ s1,Γ1[i]?=some (.box (W.box p s1))∧as.length+1=n∧f p s1 as fun rv s'=>Q rv (Γ1.set i (.box (W.box p s')))
theorem aLA {Q:Rv→En→Prop}(h0:Γ[i]?=some (.box (W.box p s)))(h:m Γ (lnK W n f i p Q)):bW W n f i m Γ Q:=⟨p,⟨s,h0⟩,h⟩
theorem aO1 {Q:Rv→En→Prop}(h0:Γ1[i]?=some (.box (W.box p s)))(hl:as.length+1=n)(h:f p s as fun rv s'=>Q rv (Γ1.set i (.box (W.box p s')))):lnK W n f i p Q as Γ1:=⟨s,h0,hl,h⟩
def rtK (W:Fam S)(Q:Fl→Prop)(rv:Rv)(Γ1:En):Prop:=∃ p s,Γ1[0]?=some (.box (W.box p s))∧Q (.rt (.box (bKp W rv p s)))
theorem aLE {mo:MO}{Q:Fl→Prop}(h:mo Γ (rtK W Q)):sV W mo Γ Q:=h
theorem aPC {rv:Rv}{Q:Fl→Prop}(h0:Γ1[0]?=some (.box (W.box p s)))(h:Q (.rt (.box (bKp W rv p s)))):rtK W Q rv Γ1:=⟨p,s,h0,h⟩
theorem aLM {rv:Rv}{Q:Rv→S→Prop}(h:Q rv s):∃ rv0 s',Rv.box (bKp W rv p s)=.box (bKp W rv0 p s')∧Q rv0 s':=⟨rv,s,rfl,h⟩
variable {L w0 w1:Addr}{s0 s1:S}{mj:ME}
end
end
section
variable {P0:Addr→Hp→Prop}
def pubS:Sl→Sl
 | .own ds=>.val (.list ds)
 | .box B=>match B.view with
  | some d=>.val d
  | none=>match B.pv with
   | some b=>.pub b
   | none=>.no
 | s=>s
def a7L:List Bool→En→En
 | _,[]=>[]
 | true::bs,s::Γ=>s::a7L bs Γ
 | false::bs,s::Γ=>pubS s::a7L bs Γ
 | [],s::Γ=>pubS s::a7L [] Γ
def a6F:List Bool→En→En→En
 | true::bs,_::Γ,t::Γ1=>t::a6F bs Γ Γ1
 | false::bs,s::Γ,_::Γ1=>s::a6F bs Γ Γ1
 | _,Γ,_=>Γ
def Bx.Cut (B:Bx):Prop:=∀{v fp G G' H},a66 G G'→B.P v fp G H→B.P v fp G' H
def KeptOk:List Bool→En→Prop
 | true::bs,.box B::Γ=>B.Cut∧KeptOk bs Γ
 | false::bs,_::Γ=>KeptOk bs Γ
 | [],_=>True
 | _,_=>False
theorem a1Y:∀{bs:List Bool} {Γ:En} (j:Nat),(a7L bs Γ)[j]?=if bs[j]?=some true then Γ[j]? else(Γ[j]?).map pubS
 | bs,[],j=>by
  have:a7L bs []=[]:=by cases bs<;>rfl
  rw[this]; simp
 | true::bs,s::Γ,0=>rfl
 | false::bs,s::Γ,0=>rfl
 | [],s::Γ,0=>rfl
 | true::bs,s::Γ,j+1=>a1Y (bs:=bs) (Γ:=Γ) j
 | false::bs,s::Γ,j+1=>a1Y (bs:=bs) (Γ:=Γ) j
 | [],s::Γ,j+1=>a1Y (bs:=[]) (Γ:=Γ) j
theorem a7F:∀{bs:List Bool} {Γ Γ1:En} (j:Nat),Γ1.length=Γ.length→(a6F bs Γ Γ1)[j]?=if bs[j]?=some true then Γ1[j]? else Γ[j]?
 | [],Γ,Γ1,j,_=>by
  have:a6F [] Γ Γ1=Γ:=rfl;rw[this]; simp
 | b::bs,[],Γ1,j,h=>by
  have h:Γ1=[]:=List.length_eq_zero_iff.mp h;subst h;have:a6F (b::bs) [] []=[]:=by cases b<;>rfl
  rw[this]; simp
 | true::bs,s::Γ,[],j,h=>absurd h (by simp)
 | false::bs,s::Γ,[],j,h=>absurd h (by simp)
 | true::bs,s::Γ,t::Γ1,0,h=>rfl
 | false::bs,s::Γ,t::Γ1,0,h=>rfl
 | true::bs,s::Γ,t::Γ1,j+1,h=>a7F (bs:=bs) (Γ:=Γ) (Γ1:=Γ1) j (by simpa using h)
 | false::bs,s::Γ,t::Γ1,j+1,h=>a7F (bs:=bs) (Γ:=Γ) (Γ1:=Γ1) j (by simpa using h)
theorem KeptOk.at:∀{bs:List Bool} {Γ:En} {j:Nat},KeptOk bs Γ→bs[j]?=some true→∃ B,Γ[j]?=some (.box B)∧B.Cut
 | [],_,_,_,e=>nomatch e
 | true::bs,[],_,h,_=>h.elim
 | true::bs,.box B::Γ,0,h,_=>⟨B,rfl,h.1⟩
 | true::bs,.box B::Γ,j+1,h,e=>KeptOk.at (bs:=bs) (Γ:=Γ) h.2 e
 | false::bs,s::Γ,0,h,e=>nomatch e
 | false::bs,s::Γ,j+1,h,e=>KeptOk.at (bs:=bs) (Γ:=Γ) h e
 | false::bs,[],_,h,_=>h.elim
section
variable {F:Fra P0}{Γ Γ1:En}{σ:St}{G H G1 H1:Hp}{bs:List Bool}
def OwnM (bs:List Bool)(F:Fra P0)(Γ:En)(σ:St)(G H:Hp)(b:Addr):Prop:=∃(i:Nat) (s:Sl) (fp:List Addr),bs[i]?≠some true∧Γ[i]?=some s∧SlF F G H σ[i]? fp s∧b∈fp
open Classical in
noncomputable def xK (bs:List Bool)(F:Fra P0)(Γ:En)(σ:St)(G H:Hp):Hp:=fun b=>if OwnM bs F Γ σ G H b then H b else G b
noncomputable def oK (bs:List Bool)(F:Fra P0)(Γ:En)(σ:St)(G H G1:Hp):Hp:=fun b=>open Classical in if OwnM bs F Γ σ G H b then none else G1 b
theorem OwnM.all {b:Addr}(h:OwnM bs F Γ σ G H b):OwnA F Γ σ G H b:=let ⟨i,s,fp,_,e⟩:=h; ⟨i,s,fp,e⟩
theorem OwnM.tup {b:Addr}(h:OwnM bs F Γ σ G H b){xs:List V}(e:H b=some (.tup xs)):∃ q vs,V.ref q∈xs∧OwnM bs F Γ σ G H q∧H q=some (.lst vs):=by
 obtain⟨i,s,fp,en,e0,e1,hb⟩:=h
 cases s with
 | no=>rw[show fp=[] from e1] at hb; cases hb
 | val d=>rw[e1.1] at hb; cases hb
 | pen=>rw[e1.1] at hb; cases hb
 | con q=>rw[e1.1] at hb; cases hb
 | pub B=>rw[e1.1] at hb; cases hb
 | own ds=>
  obtain⟨p,vs,f0,_,_,_,f3,_⟩:=e1;rw[f0] at hb;rw[List.mem_singleton.mp hb,f3] at e
  cases e
 | box B=>
  have e1':=e1;obtain⟨v,_,h2,_⟩:=e1;obtain⟨q,q1,q2,vs,q3⟩:=B.nt h2 b hb xs e;exact⟨q,vs,q2,⟨i,_,fp,en,e0,e1',q1⟩,q3⟩
theorem SlF.pubS {s:Sl}{x:Option (Option V)}{fp:List Addr}{G':Hp}(h:SlF F G H x fp s)(g:Same G G')(k:∀ b∈fp,G' b=H b):SlF F G' H x [] (pubS s):=by
 cases s with
 | no=>rfl
 | val d=>obtain⟨_,v,e1,d1⟩:=h; exact⟨rfl,v,e1,Dt.same g _ _ d1⟩
 | own ds=>
  obtain⟨p,vs,e0,e1,e2,e3,e4,e5⟩:=h;refine⟨rfl,_,e1,.lst ?_ (Dts.same g _ _ e5)⟩;rw[k p (by rw[e0]; exact List.mem_singleton.mpr rfl)];exact e4
 | pen=>exact⟨rfl,h.2⟩
 | con q=>exact⟨rfl,h.2⟩
 | pub B=>obtain⟨_,v,e1,e2⟩:=h; exact⟨rfl,v,e1,B.mono g e2⟩
 | box B=>
  obtain⟨v,e1,e2,e3⟩:=h;show SlF F G' H x [] (match B.view with|some d=>Sl.val d|none=>match B.pv with|some b=>Sl.pub b|none=>Sl.no)
  cases hv:B.view with
  | none=>
   cases hw:B.pv with
   | none=>exact rfl
   | some b0=>exact⟨rfl,v,e1,B.pok e2 hw g k⟩
  | some d=>exact⟨rfl,v,e1,B.vok e2 hv g k⟩
theorem R.pubSome (r:R F Γ σ G H):Same G (xK bs F Γ σ G H)∧R F (a7L bs Γ) σ (xK bs F Γ σ G H) H:=by
 have g:Same G (xK bs F Γ σ G H):=fun b o e=>by
  unfold xK
  by_cases h:OwnM bs F Γ σ G H b
  ·have:=h.all.at.2.1;rw[e] at this; cases this
  ·rw[if_neg h]; exact e
 obtain⟨fps,h1,h2⟩:=r.fps;have keep:∀ i s,bs[i]?=some true→Γ[i]?=some s→∀ b∈fps i,xK bs F Γ σ G H b=none:=fun i s hb e b hbf=>by
  unfold xK;rw[if_neg]
  ·exact((h1 i s e).mine hbf).2.1
  ·rintro⟨j,u,fp,hj,ej,hu,hbu⟩
   rw[SlF.det hu (h1 j u ej)] at hbu;exact h2 i j s u e ej (fun z=>hj (by rw[← z]; exact hb)) b hbf hbu
 have get:∀(i:Nat) s,(a7L bs Γ)[i]?=some s→∃ s0,Γ[i]?=some s0∧s=if bs[i]?=some true then s0 else VS.pubS s0:=fun i s e=>by
  rw[a1Y] at e
  by_cases hb:bs[i]?=some true
  ·rw[if_pos hb] at e;exact⟨s,e,by rw[if_pos hb]⟩
  ·rw[if_neg hb] at e
   cases e0:Γ[i]? with
   | none=>rw[e0] at e; cases e
   | some s0=>rw[e0] at e; exact⟨s0,rfl,by rw[if_neg hb]; exact(Option.some.inj e).symm⟩
 refine⟨g,⟨fun b o e=>?_,fun b o e=>?_,r.fr.h0,r.fr.pn⟩,?_,fun i=>if bs[i]?=some true then fps i else[],fun i s e=>?_,fun i j s t ei ej hij b hb hc=>?_⟩
 ·unfold xK at e
  split at e
  ·exact e
  ·exact r.fr.sub b o e
 ·have h:¬OwnM bs F Γ σ G H b:=fun h=>by
   have:=h.all.at.1;rw[e] at this; cases this
  unfold xK;rw[if_neg h];exact r.fr.g0 b o e
 ·rw[← r.len];have:∀(bs:List Bool) (Γ:En),(a7L bs Γ).length=Γ.length:=fun bs Γ=>by
   induction Γ generalizing bs with
   | nil=>cases bs<;>rfl
   | cons s Γ ih=>
    rcases bs with _|⟨b,bs⟩
    ·show(a7L [] Γ).length+1=_; rw[ih]; rfl
    ·cases b
     ·show(a7L bs Γ).length+1=_; rw[ih]; rfl
     ·show(a7L bs Γ).length+1=_; rw[ih]; rfl
  exact this bs Γ
 ·obtain⟨s0,e0,rfl⟩:=get i s e;dsimp only
  by_cases hb:bs[i]?=some true
  ·rw[if_pos hb,if_pos hb];exact(h1 i s0 e0).go g fun b hbf=>⟨keep i s0 hb e0 b hbf,rfl⟩
  ·rw[if_neg hb,if_neg hb];refine(h1 i s0 e0).pubS g fun b hbf=>?_;unfold xK;rw[if_pos ⟨i,s0,fps i,hb,e0,h1 i s0 e0,hbf⟩]
 ·dsimp only at hb hc
  split at hb
  ·split at hc
   ·obtain⟨s0,e0,_⟩:=get i s ei;obtain⟨t0,f0,_⟩:=get j t ej;exact h2 i j s0 t0 e0 f0 hij b hb hc
   ·cases hc
  ·cases hb
structure PkEnd (bs:List Bool)(Γ Γ1:En):Prop where
 len:Γ1.length=Γ.length
 oth:Γ1=a6F bs (a7L [] Γ) Γ1
 cut:KeptOk bs Γ1
theorem R.backSome (r:R F Γ σ G H)(s:Same (xK bs F Γ σ G H) G1)(r1:R F Γ1 σ G1 H1)(e:PkEnd bs Γ Γ1):Same G (oK bs F Γ σ G H G1)∧R F (a6F bs Γ Γ1) σ (oK bs F Γ σ G H G1) H1∧a66 G1 (oK bs F Γ σ G H G1) ∧
  (∀ b,OwnM bs F Γ σ G H b→G1 b=H b∧H1 b=H b):=by
 have s0:=(r.pubSome (bs:=bs)).1;have own:∀ b,OwnM bs F Γ σ G H b→G1 b=H b∧H1 b=H b:=fun b h=>by
  obtain⟨_,_,o,e⟩:=h.all.at;have q:xK bs F Γ σ G H b=H b:=by unfold xK; rw[if_pos h]
  rw[e] at q ⊢;exact⟨s b _ q,r1.fr.sub b _ (s b _ q)⟩
 have g:Same G (oK bs F Γ σ G H G1):=fun b o e=>by
  have h:¬OwnM bs F Γ σ G H b:=fun h=>by
   have:=h.all.at.2.1;rw[e] at this; cases this
  unfold oK;rw[if_neg h];exact s b o (s0 b o e)
 have un:a66 G1 (oK bs F Γ σ G H G1):=fun b xs e=>by
  by_cases h:OwnM bs F Γ σ G H b
  ·have e':H b=some (.tup xs):=by rw[← (own b h).1]; exact e
   obtain⟨q,vs,q1,q2,q3⟩:=h.tup e';exact .inr ⟨q,vs,q1,by rw[(own q q2).1]; exact q3⟩
  ·refine .inl ?_;unfold oK;rw[if_neg h];exact e
 obtain⟨fps,h1,h2⟩:=r.fps;obtain⟨fqs,k1,k2⟩:=r1.fps;have get:∀{i:Nat} {u:Sl},(a6F bs Γ Γ1)[i]?=some u→if bs[i]?=some true then Γ1[i]?=some u else Γ[i]?=some u:=fun{i u} ei=>by
  rw[a7F i e.len] at ei
  by_cases hb:bs[i]?=some true
  ·rw[if_pos hb] at ei ⊢; exact ei
  ·rw[if_neg hb] at ei ⊢; exact ei
 have none1:∀ b,G1 b=none→oK bs F Γ σ G H G1 b=none:=fun b hb=>by
  unfold oK
  split
  ·rfl
  ·exact hb
 have cross:∀{i j:Nat} {u z:Sl},bs[i]?=some true→bs[j]?≠some true→Γ1[i]?=some u→Γ[j]?=some z→∀ b∈fqs i,b∉fps j:=fun{i j u z} hi hj ei ej b hb hc=>by
  have m:=(k1 i u ei).mine hb;have o:=own b ⟨j,z,fps j,hj,ej,h1 j z ej,hc⟩;obtain⟨_,_,o',e'⟩:=(h1 j z ej).mine hc;rw[m.2.1,e'] at o
  cases o.1
 refine⟨g,⟨⟨fun b o e=>?_,fun b o e=>?_,r1.fr.h0,r1.fr.pn⟩,?_,fun i=>if bs[i]?=some true then fqs i else fps i,fun i u ei=>?_,fun i j u z ei ej hij b hb hc=>?_⟩,un,own⟩
 ·unfold oK at e
  split at e
  ·cases e
  ·exact r1.fr.sub b o e
 ·have h:¬OwnM bs F Γ σ G H b:=fun h=>by
   have:=h.all.at.1;rw[e] at this; cases this
  unfold oK;rw[if_neg h];exact r1.fr.g0 b o e
 ·have hl:∀(bs:List Bool) (Γ Γ1:En),Γ1.length=Γ.length→(a6F bs Γ Γ1).length=Γ.length:=fun bs Γ Γ1 h=>by
   induction bs generalizing Γ Γ1 with
   | nil=>rfl
   | cons b bs ih=>
    cases Γ with
    | nil=>cases Γ1 with
     | nil=>cases b<;>rfl
     | cons t Γ1=>cases h
    | cons s Γ=>cases Γ1 with
     | nil=>cases h
     | cons t Γ1=>
      have h:Γ1.length=Γ.length:=by simpa using h
      cases b
      ·show(a6F bs Γ Γ1).length+1=_; rw[ih Γ Γ1 h]; rfl
      ·show(a6F bs Γ Γ1).length+1=_; rw[ih Γ Γ1 h]; rfl
  rw[hl bs Γ Γ1 e.len];exact r.len
 ·have ei:=get ei;dsimp only
  by_cases hb:bs[i]?=some true
  ·rw[if_pos hb] at ei ⊢;obtain⟨B,eB,cB⟩:=e.cut.at hb;rw[ei] at eB
   cases eB
   obtain⟨v,ev,pv,nv⟩:=k1 i _ ei;exact⟨v,ev,cB un pv,fun x hx=>⟨(nv x hx).1,none1 x (nv x hx).2⟩⟩
  ·rw[if_neg hb] at ei ⊢;refine(h1 i u ei).go g fun b hbf=>?_;have ho:OwnM bs F Γ σ G H b:=⟨i,u,fps i,hb,ei,h1 i u ei,hbf⟩;refine⟨?_,(own b ho).2⟩;unfold oK;rw[if_pos ho]
 ·have ei:=get ei;have ej:=get ej;dsimp only at hb hc
  by_cases hi:bs[i]?=some true
  ·rw[if_pos hi] at ei hb
   by_cases hj:bs[j]?=some true
   ·rw[if_pos hj] at ej hc;exact k2 i j u z ei ej hij b hb hc
   ·rw[if_neg hj] at ej hc;exact cross hi hj ei ej b hb hc
  ·rw[if_neg hi] at ei hb
   by_cases hj:bs[j]?=some true
   ·rw[if_pos hj] at ej hc;exact cross hj hi ej ei b hc hb
   ·rw[if_neg hj] at ej hc;exact h2 i j u z ei ej hij b hb hc
end
def a8Z (bs:List Bool)(m:ME):ME:=fun Γ Q=>m (a7L bs Γ) fun d Γ1=>fG d=true∧PkEnd bs Γ Γ1∧Q d (a6F bs Γ Γ1)
theorem a8Y {bs:List Bool}{t:TE}{m:ME}(h:VT P0 t m):VT P0 t (a8Z bs m):=by
 intro F Γ σ G H Q Qm r hm k;obtain⟨s0,r0⟩:=r.pubSome (bs:=bs);refine h F _ σ _ H _ _ r0 hm fun d Γ1 x G1 H1 m1 s1 r1 d1=>?_;obtain⟨hd,he,q⟩:=m1;obtain⟨s2,r2,t2,_⟩:=r.backSome s1 r1 he;exact k _ _ _ _ _ q s2 r2 (Dt.sameU t2 _ _ hd d1)
theorem aJ3 {p:Addr}{n:Nat}:(penF.box p n).Cut:=fun _ h=>h
def pkK (bs:List Bool)(Γ:En)(Q:D→En→Prop)(d:D)(Γ1:En):Prop:=fG d=true∧PkEnd bs Γ Γ1∧Q d (a6F bs Γ Γ1)
section
variable {bs:List Bool}{Γ Γ1:En}
theorem aNZ {m:ME}{Q:D→En→Prop}(h:m (a7L bs Γ) (pkK bs Γ Q)):a8Z bs m Γ Q:=h
theorem aP1 {Q:D→En→Prop}{d:D}(h1:fG d=true)(hl:Γ1.length=Γ.length)(ho:Γ1=a6F bs (a7L [] Γ) Γ1)(hc:KeptOk bs Γ1)(h:Q d (a6F bs Γ Γ1)):pkK bs Γ Q d Γ1:=⟨h1,⟨hl,ho,hc⟩,h⟩
end
end
section
variable {P0:Addr→Hp→Prop}{S:Type}
def lstF:Fam (List D) where
  box:=fun p ds=>
    { P:=fun v fp G H=>v=.ref p∧fp=[p]∧cI ds=true∧∃ vs,H p=some (.lst vs)∧Dts G vs ds
      mono:=fun g ⟨a,b,z,vs,c,d⟩=>⟨a,b,z,vs,c,Dts.same g _ _ d⟩
      loc:=fun k ⟨a,b,z,vs,c,d⟩=>⟨a,b,z,vs,(k p (by rw[b]; exact List.mem_singleton.mpr rfl)).trans c,d⟩
      dom:=fun⟨_,b,_,vs,c,_⟩ x hx=>by
        rw[b] at hx;rw[List.mem_singleton.mp hx];exact⟨_,c⟩
      uniq:=fun h g=>h.2.1.trans g.2.1.symm
      nt:=fun⟨_,b,_,vs,c,_⟩ x hx xs y=>by
        rw[b] at hx;rw[List.mem_singleton.mp hx,c] at y
        cases y
      view:=some (.list ds)
      vok:=fun⟨a,b,_,vs,c,d⟩ z g k=>by
        cases z
        subst a;refine .lst ?_ (Dts.same g _ _ d);rw[k p (by rw[b]; exact List.mem_singleton.mpr rfl)];exact c }
  pin:=fun h=>h.1
theorem aBV {p:Addr}{ds:List D}:(lstF.box p ds).Cut:=fun g ⟨a,b,z,vs,c,d⟩=>⟨a,b,z,vs,c,Dts.sameU g _ _ z d⟩
def a65 (W:Fam S)(j:Nat)(m:MO):MS:=fun Γ Q=>m Γ fun rv Γ1=>∃ p s,Γ1[j]?=some (.box (W.box p s))∧Q (.rt (.box (bKp W rv p s)))
theorem a3I {W:Fam S}{j:Nat}{A:Nat→Bool}{t:TE}{m:MO}(h:VO P0 t m):VSA P0 A (aN2 t) (a65 W j m):=by
 intro F Γ σ G H E Qm r hm k;refine h F Γ σ G H _ _ r hm fun rv Γ1 v G1 H1 m1 s1 r1 v1 a1=>?_;obtain⟨p,s,e,q⟩:=m1;obtain⟨fps,h1,h2⟩:=r1.fps;have h0:=h1 j _ e;obtain⟨w,ew,pw,nw⟩:=id h0;have z:=W.pin pw;subst z;refine k _ q v G1 H1 s1 r1.fr ?_
 cases rv with
 | val d=>exact⟨_,⟨[],fps j,rfl,⟨rfl,v1⟩,pw,fun b hb=>nomatch hb⟩,nw⟩
 | own ds=>
  obtain⟨u,vs,rfl,e1,e2,e3,e4⟩:=v1;refine⟨_,⟨[u],fps j,rfl,⟨u,vs,rfl,rfl,e3,e4⟩,pw,fun b hb=>?_⟩,fun b hb=>?_⟩
  ·rw[List.mem_singleton.mp hb];exact a1 j _ _ e h0 u rfl
  ·rcases List.mem_append.mp hb with hb|hb
   ·rw[List.mem_singleton.mp hb];exact⟨e1,e2⟩
   ·exact nw b hb
 | box B=>
  obtain⟨fp,e1,e2⟩:=v1;refine⟨_,⟨fp,fps j,rfl,e1,pw,fun b hb=>a1 j _ _ fp e h0 e1 b hb⟩,fun b hb=>?_⟩;rcases List.mem_append.mp hb with hb|hb
  ·exact e2 b hb
  ·exact nw b hb
def aIL (W:Fam S)(j n:Nat)(b:MS):Lm S:=fun p s as Q=>b (as.take j++.box (W.box p s)::(as.drop j++List.replicate n .no)) fun fl=>match fl with
 | .rt rv=>∃ rv0 s',rv=.box (bKp W rv0 p s')∧Q rv0 s'
 | .nx Γ=>∃ s',Γ[j]?=some (.box (W.box p s'))∧Q (.val .none) s'
 | _=>False
def aKB (P0:Addr→Hp→Prop)(W:Fam S)(j n:Nat)(f:Lm S):Sp:=fun vs H Q _=>∃(F:Fra P0) (p:Addr) (s:S) (fp:List Addr) (ws:List V) (as:List Sl) (Qm:Rv→S→Prop),vs=ws.take j++.ref p::ws.drop j∧(∀ b,F.H0 b=if b∈fp then none else H b)∧Rf F F.G0 H ∧
 (W.box p s).P (.ref p) fp F.G0 H∧(∀ b∈fp,F.G0 b=none)∧Paired (uK F F.G0) ws as∧as.length+1=n∧f p s as Qm ∧
 ∀ rv s' r f1 f2 G' H',Qm rv s'→Rf F G' H'→RvP G' H' r f1 rv→(W.box p s').P (.ref p) f2 G' H'→(∀ b∈f1,b∉f2)→(∀ b∈f1++f2,F.H0 b=none∧G' b=none)→Q r H'
theorem a0S {α β:Type}{R:α→β→Prop}:∀{xs:List α} {ys:List β} (n:Nat),Paired R xs ys→Paired R (xs.take n) (ys.take n)
 | _,_,0,_=>by rw[List.take_zero,List.take_zero]; exact .nil
 | _,_,n+1,.nil=>.nil
 | _,_,n+1,.cons a b=>.cons a (a0S n b)
theorem a0X {α β:Type}{R:α→β→Prop}:∀{xs:List α} {ys:List β} (n:Nat),Paired R xs ys→Paired R (xs.drop n) (ys.drop n)
 | _,_,0,h=>h
 | _,_,n+1,.nil=>.nil
 | _,_,n+1,.cons _ b=>a0X n b
theorem aDI {F:Fra P0}{G H:Hp}{v:V}:∀{s:Sl},uK F G v s→SlF F G H (some (some v)) [] s
 | .val d,h=>⟨rfl,v,rfl,h⟩
 | .pen,h=>let ⟨p,e,e2⟩:=h; ⟨rfl,p,by rw[e],e2⟩
 | .con p,h=>⟨rfl,by have h:v=.ref p:=h; rw[h]⟩
 | .no,h=>h.elim
 | .own _,h=>h.elim
 | .box _,h=>h.elim
 | .pub _,h=>⟨rfl,v,rfl,h⟩
theorem a8S {F:Fra P0}{G H:Hp}{k m:Nat}:∀{ws:List V} {as:List Sl},Paired (uK F G) ws as→∀(i:Nat) (s:Sl),(as++List.replicate k Sl.no)[i]?=some s→SlF F G H (ws.map some++List.replicate m none)[i]? [] s
 | _,_,.nil,i,s,e=>by
  rw[List.nil_append,List.getElem?_replicate] at e
  split at e
  ·cases e; rfl
  ·cases e
 | _,_,.cons a b,0,s,e=>by cases e; exact aDI a
 | _,_,.cons a b,i+1,s,e=>a8S b i s e
theorem a69 {F:Fra P0}{G H:Hp}:∀{ws:List V} {as:List Sl},Paired (uK F G) ws as→∀(i:Nat) (s:Sl),as[i]?=some s→SlF F G H (ws.map some)[i]? [] s
 | _,_,.cons a b,0,s,e=>by cases e; exact aDI a
 | _,_,.cons a b,i+1,s,e=>a69 b i s e
theorem aAB {W:Fam S}{j n k:Nat}{N:List Str}{t:TS}{b:MS}(h:VS P0 t b)(hN:N.length=n+k)(hj:j<n){vs:List V}{H:Hp}{Q:VK}{E:XK}(hs:aKB P0 W j n (aIL W j k b) vs H Q E) :
  t { nx:=fun _ H'=>Q .non H',rt:=Q } (start N vs) H:=by
 obtain⟨F,p,s,fp,ws,as,Qm,rfl,hH,rf,hP,hG,pr,hl,hm,q⟩:=hs;have hlen:ws.length=as.length:=Paired.length pr;have hjw:(ws.take j).length=j:=by rw[List.length_take]; omega
 have hja:(as.take j).length=j:=by rw[List.length_take]; omega
 have est:start N (ws.take j++.ref p::ws.drop j)=(ws.take j).map some++some (.ref p)::((ws.drop j).map some++List.replicate k none):=by
  unfold start;rw[List.map_append,List.map_cons,List.append_assoc,List.cons_append]
  congr 4
  rw[List.length_append,List.length_cons,hjw,List.length_drop];omega
 rw[est];have r:R F (as.take j++.box (W.box p s)::(as.drop j++List.replicate k .no)) ((ws.take j).map some++some (.ref p)::((ws.drop j).map some++List.replicate k none)) F.G0 H:=by
  refine⟨rf,?_,fun i=>if i=j then fp else[],fun i u e=>?_,fun i l u z _ _ hij b hb hc=>?_⟩
  ·simp only[List.length_cons,List.length_append,List.length_replicate,List.length_map,List.length_take,List.length_drop,hlen]
  ·dsimp only;rcases Nat.lt_trichotomy i j with hi|hi|hi
   ·rw[if_neg (by omega)];rw[List.getElem?_append_left (by omega)] at e;rw[List.getElem?_append_left (by rw[List.length_map]; omega)];exact a69 (a0S j pr) i u e
   ·subst hi;rw[if_pos rfl];rw[List.getElem?_append_right (by omega),hja,Nat.sub_self] at e;rw[List.getElem?_append_right (by rw[List.length_map]; omega),List.length_map,hjw,Nat.sub_self]
    cases e
    exact⟨.ref p,rfl,hP,fun b hb=>⟨by rw[hH,if_pos hb],hG b hb⟩⟩
   ·rw[if_neg (by omega)];rw[List.getElem?_append_right (by omega),hja] at e;rw[List.getElem?_append_right (by rw[List.length_map]; omega),List.length_map,hjw];obtain⟨m,hm⟩:∃ m,i-j=m+1:=⟨i-j-1,by omega⟩;rw[hm] at e ⊢;exact a8S (a0X j pr) m u e
  ·dsimp only at hb hc
   split at hb
   ·rename_i h1
    split at hc
    ·rename_i h2; exact hij (h1.trans h2.symm)
    ·cases hc
   ·cases hb
 refine h F _ _ _ _ _ _ r hm fun fl hq=>?_
 cases fl with
 | nx Γ=>
  intro σ G' H' _ r' _;obtain⟨s',e,hq⟩:=hq;obtain⟨fps,h1,_⟩:=r'.fps;obtain⟨w,ew,pw,nw⟩:=h1 j _ e;have z:=W.pin pw;subst z;exact q _ _ _ [] _ _ _ hq r'.fr ⟨rfl,.non⟩ pw (fun b hb=>nomatch hb) nw
 | rt rv=>
  intro v G' H' _ f' v';obtain⟨rv0,s',rfl,hq⟩:=hq;obtain⟨g,⟨f1,f2,rfl,a,b,c⟩,d⟩:=v';exact q _ _ _ _ _ _ _ hq f' a b c d
 | bk Γ=>exact hq.elim
 | ct Γ=>exact hq.elim
theorem aG2 {W:Fam S}{j n:Nat}{f:Lm S}{ps:List Str}(h:ps.length=n)(hj:j<n):∀ vs H Q E,aKB P0 W j n f vs H Q E→vs.length=ps.length:=by
 rintro vs H Q E ⟨F,p,s,fp,ws,as,Qm,rfl,_,_,_,_,pr,hl,_⟩;rw[List.length_append,List.length_cons,List.length_take,List.length_drop,Paired.length pr,h];omega
theorem _root_.L2.Fun.okLj {P:Program}{w:World}{K:Fg}{mg:Mg}{base:Heap}{x qual:Str}{st:Stmt}{f:Addr}{fd:FuncData}{N ps:List Str}{k n m j:Nat}{b:MS}{W:Fam S}
  (F:Fun K x qual st f fd) (S0:FnScope N ps (aN st)) (hn:ps.length=n) (hj:j<n) (hN:N.length=n+m)
  (hb:∀(cdv:Value) (A:Around) (outer:List Env) (s:Shared) (H:Hp) (E:XK),Room k (A.deeper (envOfC qual (aN st) s.heap.objs.size f cdv)) →
   SsX P0 (aFG CX0 P w K mg base N qual (aN st) f cdv A outer s H E).nox (jU st) b):FnOk P w K mg base CX0 (k+1) f fd ps (aKB P0 W j n (aIL W j m b)):=by
 refine F.ok S0 (aG2 hn hj) fun cdv A outer s H vs Q E hr hs=>?_;obtain⟨t,h1,h2⟩:=hb cdv A outer s H E hr;exact⟨t,h1,aAB h2 hN hj hs⟩
def a3H (i:Nat)(m mj:ME):MS:=fun Γ Q=>m Γ fun d Γ1=>fG d=true∧∃ p,(∃ ds,Γ1[i]?=some (.box (lstF.box p ds)))∧mj Γ1 fun x Γ2=>∃ ds k j,Γ2[i]?=some (.box (lstF.box p ds))∧x=.int k∧ixN ds.length k=some j∧Q (.nx (Γ2.set i (.box (lstF.box p (ds.set j d)))))
theorem a1B:∀{ds:List D} {j:Nat} {d:D},cI ds=true→fG d=true→cI (ds.set j d)=true
 | [],_,_,h,_=>h
 | e::ds,0,d,h,hd=>by
  have h:fG e=true∧cI ds=true:=by simpa [cI] using h
  show(fG d&&cI ds)=true
  rw[hd,h.2]; rfl
 | e::ds,j+1,d,h,hd=>by
  have h:fG e=true∧cI ds=true:=by simpa [cI] using h
  show(fG e&&cI (ds.set j d))=true
  rw[h.1,a1B h.2 hd]; rfl
theorem a4O {A:Nat→Bool}{i:Nat}{t tj:TE}{m mj:ME}(h:VT P0 t m)(hj:VT P0 tj mj):VSA P0 A (aFZ t (aPM (vX i) tj aM3)) (a3H i m mj):=by
 intro F Γ σ G H E Qm r hm k;refine h F Γ σ G H _ _ r hm fun d Γ1 v G1 H1 m1 g1 r1 d1=>?_;obtain⟨nd,p,⟨ds,e⟩,m1⟩:=m1;obtain⟨u,_,eu,⟨rfl,_⟩,_⟩:=r1.sl i _ e;refine⟨.ref p,eu,hj F Γ1 σ G1 H1 _ _ r1 m1 fun x Γ2 u G2 H2 m2 g2 r2 d2=>?_⟩;obtain⟨es,n,j,e2,rfl,hx,q⟩:=m2;obtain⟨u',fp,eu',⟨rfl,rfl,z,vs,c,dd⟩,nf⟩:=r2.sl i _ e2
 cases d2
 refine⟨p,vs,n,j,rfl,rfl,c,by rw[dd.len]; exact hx,?_⟩;have hp:=nf p (List.mem_singleton.mpr rfl);refine k _ q σ G2 _ (g1.trans g2) (r2.writeF e2 (r2.fr.priv hp.1 hp.2) fun fp h=>?_) fun _ _=>rfl;obtain⟨u,eu2,⟨rfl,rfl,_⟩,nf2⟩:=h;refine⟨[p],⟨.ref p,eu',⟨rfl,rfl,a1B z nd,_,bM,Dts.sets (Dt.same g2 _ _ d1) j dd⟩,nf2⟩,fun b hb _=>?_⟩;have hbp:b≠p:=fun y=>hb (by rw[y]; exact List.mem_singleton.mpr rfl);exact⟨b7 hbp,hb⟩
def aQ9 (W:Fam S)(j:Nat)(Q:Fl→Prop)(rv:Rv)(Γ1:En):Prop:=∃ p s,Γ1[j]?=some (.box (W.box p s))∧Q (.rt (.box (bKp W rv p s)))
theorem aJM {W:Fam S}{j:Nat}{mo:MO}{Γ:En}{Q:Fl→Prop}(h:mo Γ (aQ9 W j Q)):a65 W j mo Γ Q:=h
theorem aLX {W:Fam S}{j:Nat}{p:Addr}{s:S}{rv:Rv}{Γ1:En}{Q:Fl→Prop}(h0:Γ1[j]?=some (.box (W.box p s)))(h:Q (.rt (.box (bKp W rv p s)))):aQ9 W j Q rv Γ1:=⟨p,s,h0,h⟩
def sbK (i:Nat)(p:Addr)(d:D)(Q:Fl→Prop)(x:D)(Γ2:En):Prop:=∃ ds k j,Γ2[i]?=some (.box (lstF.box p ds))∧x=.int k∧ixN ds.length k=some j∧Q (.nx (Γ2.set i (.box (lstF.box p (ds.set j d)))))
def sbJ (i:Nat)(mj:ME)(Q:Fl→Prop)(d:D)(Γ1:En):Prop:=fG d=true∧∃ p,(∃ ds,Γ1[i]?=some (.box (lstF.box p ds)))∧mj Γ1 (sbK i p d Q)
theorem aFM {i:Nat}{m mj:ME}{Γ:En}{Q:Fl→Prop}(h:m Γ (sbJ i mj Q)):a3H i m mj Γ Q:=h
theorem aOX {i:Nat}{mj:ME}{Q:Fl→Prop}{d:D}{Γ1:En}{p:Addr}{ds:List D}(h0:Γ1[i]?=some (.box (lstF.box p ds)))(hd:fG d=true)(h:mj Γ1 (sbK i p d Q)):sbJ i mj Q d Γ1:=⟨hd,p,⟨ds,h0⟩,h⟩
theorem aMH {i:Nat}{p:Addr}{Q:Fl→Prop}{d:D}{Γ:En}{ds:List D}{k:Int}{j:Nat}(h0:Γ[i]?=some (.box (lstF.box p ds)))(hj:ixN ds.length k=some j)(h:Q (.nx (Γ.set i (.box (lstF.box p (ds.set j d)))))):sbK i p d Q (.int k) Γ:=⟨ds,k,j,h0,rfl,hj,h⟩
end
section
variable {P0:Addr→Hp→Prop}{S:Type}
structure WS where
 d:Addr
 ll:Addr
 lo:Addr
 ls:List D
 now:D
 os:List D
def aPT (s:WS)(vn:V):List (Str×V):=[("lines", .ref s.ll),("now", vn),("listed", .ref s.lo)]
structure WkAt (C w:Addr)(s:WS)(us:List V)(vn:V)(vs:List V)(H:Hp):Prop where
 i:H w=some (.ins C s.d (aPT s vn))
 d:H s.d=some (.own w)
 l:H s.ll=some (.lst us)
 o:H s.lo=some (.lst vs)
structure WkDt (s:WS)(us:List V)(vn:V)(vs:List V)(G:Hp):Prop where
 l:Dts G us s.ls
 n:Dt G vn s.now
 o:Dts G vs s.os
structure WkNl (s:WS):Prop where
 ne:s.ll≠s.lo
 nl:cI s.ls=true
 nn:fG s.now=true
 no:cI s.os=true
theorem WkAt.at {C w:Addr}{s:WS}{us vs:List V}{vn:V}{H H':Hp}(h:WkAt C w s us vn vs H)(k:∀ b∈[w,s.d,s.ll,s.lo],H' b=H b):WkAt C w s us vn vs H':=
 ⟨(k w (by simp)).trans h.i,(k s.d (by simp)).trans h.d,(k s.ll (by simp)).trans h.l,(k s.lo (by simp)).trans h.o⟩
theorem WkAt.same {C w:Addr}{s:WS}{us vs:List V}{vn:V}{H H':Hp}(h:WkAt C w s us vn vs H)(g:Same H H'):WkAt C w s us vn vs H':=⟨g _ _ h.i,g _ _ h.d,g _ _ h.l,g _ _ h.o⟩
theorem WkDt.same {s:WS}{us vs:List V}{vn:V}{G G':Hp}(h:WkDt s us vn vs G)(g:Same G G'):WkDt s us vn vs G':=⟨Dts.same g _ _ h.l,Dt.same g _ _ h.n,Dts.same g _ _ h.o⟩
theorem WkAt.dom {C w:Addr}{s:WS}{us vs:List V}{vn:V}{H:Hp}(h:WkAt C w s us vn vs H):∀ y∈[w,s.d,s.ll,s.lo],∃ o,H y=some o∧∀ xs,o≠.tup xs:=fun y hy=>by
 simp only[List.mem_cons,List.not_mem_nil,or_false] at hy;rcases hy with rfl|rfl|rfl|rfl
 ·exact⟨_,h.i,fun _ z=>nomatch z⟩
 ·exact⟨_,h.d,fun _ z=>nomatch z⟩
 ·exact⟨_,h.l,fun _ z=>nomatch z⟩
 ·exact⟨_,h.o,fun _ z=>nomatch z⟩
def aAH (C w:Addr)(s:WS):Pb where
 P:=fun v G=>v=.ref w∧∃ us vn vs,WkAt C w s us vn vs G∧WkDt s us vn vs G
 mono:=fun g ⟨a,us,vn,vs,b,c⟩=>⟨a,us,vn,vs,b.same g,c.same g⟩
def bD (C:Addr):Fam WS where
  box:=fun w s=>
    { P:=fun v fp G H=>v=.ref w∧fp=[w,s.d,s.ll,s.lo]∧WkNl s∧∃ us vn vs,WkAt C w s us vn vs H∧WkDt s us vn vs G
      mono:=fun g ⟨a,b,z,us,vn,vs,c,e⟩=>⟨a,b,z,us,vn,vs,c,e.same g⟩
      loc:=fun k ⟨a,b,z,us,vn,vs,c,e⟩=>⟨a,b,z,us,vn,vs,c.at (fun y hy=>k y (by rw[b]; exact hy)),e⟩
      dom:=fun⟨a,b,z,us,vn,vs,c,e⟩ y hy=>by
        rw[b] at hy;obtain⟨o,ho,_⟩:=c.dom y hy;exact⟨o,ho⟩
      uniq:=fun h g=>h.2.1.trans g.2.1.symm
      nt:=fun⟨a,b,z,us,vn,vs,c,e⟩ y hy xs q=>by
        rw[b] at hy;obtain⟨o,ho,hn⟩:=c.dom y hy;rw[ho] at q;exact absurd (Option.some.inj q) (hn xs)
      view:=none
      vok:=fun _ z=>nomatch z
      pv:=some (aAH C w s)
      pok:=fun⟨a,b,z,us,vn,vs,c,e⟩ y g k=>by
        cases y
        exact⟨a,us,vn,vs,c.at (fun y hy=>k y (by rw[b]; exact hy)),e.same g⟩ }
  pin:=fun h=>h.1
def InW (C w:Addr)(s:WS)(sl:Sl):Prop:=sl=.box ((bD C).box w s)∨sl=.pub (aAH C w s)
section
variable {C:Addr}{i:Nat}
theorem R.wk {F:Fra P0}{Γ:En}{σ:St}{G H:Hp}{w:Addr}{s:WS}{sl:Sl}(r:R F Γ σ G H)(e:Γ[i]?=some sl)(h:InW C w s sl):∃ us vn vs,σ[i]?=some (some (.ref w))∧WkAt C w s us vn vs H∧WkDt s us vn vs G:=by
 rcases h with rfl|rfl
 ·obtain⟨v,fp,e1,⟨rfl,_,_,us,vn,vs,b,c⟩,_⟩:=r.sl i _ e;exact⟨us,vn,vs,e1,b,c⟩
 ·obtain⟨v,e1,rfl,us,vn,vs,b,c⟩:=r.sl i _ e;exact⟨us,vn,vs,e1,b.same r.fr.sub,c⟩
def a0Z (C:Addr)(i:Nat):ME:=fun Γ Q=>∃ w s sl,Γ[i]?=some sl∧InW C w s sl∧Q s.now Γ
theorem xW {K:Fg}(cl:Cls K C)(na:NoAttr K C "now"):VT P0 (aHD K (vX i) "now") (a0Z C i):=by
 intro F Γ σ G H Q Qm r hm k;obtain⟨w,s,sl,e,h,q⟩:=hm;obtain⟨us,vn,vs,ew,a,b⟩:=r.wk e h;exact⟨.ref w,ew,w,C,s.d,_,vn,rfl,a.i,cl,na,rfl,k _ _ _ _ _ q (Same.refl _) r b.n⟩
def a3G (C:Addr)(i:Nat):ME:=fun Γ Q=>∃ w s,Γ[i]?=some (.pub (aAH C w s))∧Q (.list s.ls) Γ
theorem aAX {K:Fg}(cl:Cls K C)(na:NoAttr K C "lines"):VT P0 (aHD K (vX i) "lines") (a3G C i):=by
 intro F Γ σ G H Q Qm r hm k;obtain⟨w,s,e,q⟩:=hm;obtain⟨v,e1,rfl,us,vn,vs,b,c⟩:=r.sl i _ e;exact⟨.ref w,e1,w,C,s.d,_,.ref s.ll,rfl,r.fr.sub _ _ b.i,cl,na,rfl,k _ _ _ _ _ q (Same.refl _) r (.lst b.l c.l)⟩
def tV (C:Addr)(i:Nat):ME:=fun Γ Q=>∃ w s,Γ[i]?=some (.pub (aAH C w s))∧Q (.list s.os) Γ
theorem yU {K:Fg}(cl:Cls K C)(na:NoAttr K C "listed"):VT P0 (aHD K (vX i) "listed") (tV C i):=by
 intro F Γ σ G H Q Qm r hm k;obtain⟨w,s,e,q⟩:=hm;obtain⟨v,e1,rfl,us,vn,vs,b,c⟩:=r.sl i _ e;exact⟨.ref w,e1,w,C,s.d,_,.ref s.lo,rfl,r.fr.sub _ _ b.i,cl,na,rfl,k _ _ _ _ _ q (Same.refl _) r (.lst b.o c.o)⟩
def aFB (C:Addr)(i:Nat)(mj:ME):ME:=fun Γ Q=>∃ w s,(∃ sl,Γ[i]?=some sl∧InW C w s sl)∧mj Γ fun d Γ1=>(∃ sl,Γ1[i]?=some sl∧InW C w s sl)∧oQ (ixD (.list s.os) d) fun e=>Q e Γ1
theorem aDR {K:Fg}{tj:TE}{mj:ME}(cl:Cls K C)(na:NoAttr K C "listed")(hj:VT P0 tj mj):VT P0 (tOp (rIx K) (aHD K (vX i) "listed") tj) (aFB C i mj):=by
 intro F Γ σ G H Q Qm r hm k;obtain⟨w,s,⟨sl,e,h⟩,hm⟩:=hm;obtain⟨us,vn,vs,ew,a,b⟩:=r.wk e h;refine⟨.ref w,ew,w,C,s.d,_,.ref s.lo,rfl,a.i,cl,na,rfl,hj F Γ σ G H _ _ r hm fun d Γ1 x G1 H1 m1 g1 r1 d1=>?_⟩;obtain⟨⟨sl1,e1,h1⟩,m1⟩:=m1;obtain⟨us1,vn1,vs1,_,a1,b1⟩:=r1.wk e1 h1;obtain⟨y,hy,q⟩:=aEM m1;obtain⟨n,j,rfl,z1,z2⟩:=aGM hy
 cases d1
 obtain⟨v,hv,dv⟩:=Dts.get b1.o z2;refine .inl ⟨s.lo,vs1,n,v,rfl,rfl,SqL.of a1.o,?_,k _ _ _ _ _ q g1 r1 dv⟩;unfold atI;rw[b1.o.len,z1];exact hv
def a3F (C:Addr)(i:Nat)(m:ME):MS:=fun Γ Q=>m Γ fun d Γ1=>fG d=true∧∃ w s,Γ1[i]?=some (.box ((bD C).box w s))∧Q (.nx (Γ1.set i (.box ((bD C).box w { s with now:=d }))))
theorem a5A {A:Nat→Bool}{K:Fg}{t:TE}{m:ME}(cl:Cls K C)(na:NoAttr K C "now")(h:VT P0 t m):VSA P0 A (aQ7 K (vX i) t "now") (a3F C i m):=by
 intro F Γ σ G H E Qm r hm k;refine h F Γ σ G H _ _ r hm fun d Γ1 y G1 H1 m1 g1 r1 d1=>?_;obtain⟨nd,w,s,e,q⟩:=m1;obtain⟨v,fp,ev,⟨rfl,rfl,z,us,vn,vs,a,b⟩,nf⟩:=r1.sl i _ e;refine⟨.ref w,ev,w,C,s.d,_,rfl,a.i,cl,na,(by show 3<1000; decide),?_⟩;have hw:=nf w (by simp);refine k _ q σ G1 _ g1 (r1.writeF e (r1.fr.priv hw.1 hw.2) fun fp h=>?_) fun _ _=>rfl;obtain⟨u,eu2,⟨rfl,rfl,_⟩,nf2⟩:=h;have ed:s.d≠w:=aAK a.d a.i (by intro z; cases z);have el:s.ll≠w:=aAK a.l a.i (by intro z; cases z);have eo:s.lo≠w:=aAK a.o a.i (by intro z; cases z);refine⟨[w,s.d,s.ll,s.lo],⟨.ref w,ev,⟨rfl,rfl,⟨z.ne,z.nl,nd,z.no⟩,us,y,vs,⟨?_,?_,?_,?_⟩,⟨b.l,d1,b.o⟩⟩,nf2⟩,fun b hb _=>?_⟩
 ·rw[bM]; rfl
 ·rw[b7 ed]; exact a.d
 ·rw[b7 el]; exact a.l
 ·rw[b7 eo]; exact a.o
 ·exact⟨b7 fun y=>hb (by rw[y]; simp),hb⟩
def Fra.lessP (F:Fra P0){G H:Hp}(r:Rf F G H)(fp:List Addr)(hf:∀ b∈fp,F.H0 b=none)(X:Addr)(hX:F.H0 X=none):Fra P0 where
 H0:=fun b=>if b∈fp then none else H b
 G0:=fun b=>if b=X then H b else G b
 pen:=F.pen
 stab:=(F.less r fp hf).stab
 pin:=F.pin
 pin0:=(F.less r fp hf).pin0
 pg:=fun p e=>by
  obtain⟨o,z⟩:=F.pin0 p e;rw[if_neg (fun y=>by rw[y,hX] at z; cases z)];exact(F.less r fp hf).pg p e
theorem PartOf.listed {w:Addr}{s:WS}:PartOf lstF s.lo (fun os=>(bD C).box w { s with os:=os }):=fun{os v fp G H} h=>by
 obtain⟨rfl,rfl,z,us,vn,vs,a,b⟩:=h;have nw:w≠s.lo:=aAK a.i a.o (by intro z; cases z);have nd:s.d≠s.lo:=aAK a.d a.o (by intro z; cases z);have in1:w∉[s.lo]:=fun y=>nw (List.mem_singleton.mp y);have in2:s.d∉[s.lo]:=fun y=>nd (List.mem_singleton.mp y);have in3:s.ll∉[s.lo]:=fun y=>z.ne (List.mem_singleton.mp y);refine⟨[s.lo],fun b hb=>by rw[List.mem_singleton.mp hb]; simp,⟨rfl,rfl,z.no,vs,a.o,b.o⟩,fun os' f' G' H' g h' k=>?_⟩;obtain⟨_,rfl,zo,vs',c',d'⟩:=h';refine⟨[w,s.d,s.ll,s.lo],⟨rfl,rfl,⟨z.ne,z.nl,z.nn,zo⟩,us,vn,vs',⟨(k w (by simp) in1).1.trans a.i,(k s.d (by simp) in2).1.trans a.d,(k s.ll (by simp) in3).1.trans a.l,c'⟩,⟨Dts.same g _ _ b.l,Dt.same g _ _ b.n,d'⟩⟩,fun y hy=>?_⟩
 by_cases hyo:y∈[s.lo]
 ·exact .inl hyo
 ·exact .inr ⟨hy,hyo⟩
def aHP (C:Addr)(f:Lm (List D))(i j:Nat):ME:=fun Γ Q=>∃ w s lim,Γ[i]?=some (.box ((bD C).box w s))∧Γ[j]?=some (.val lim)∧f s.lo s.os [.val (.list s.ls),.val s.now,.val lim] fun rv os'=>∃ d,rv=.val d∧fG d=true∧Q d (Γ.set i (.box ((bD C).box w { s with os:=os' })))
theorem aG1 {K:Fg}{f:Lm (List D)}{j:Nat}{E:XK}(cl:Cls K C)(n1:NoAttr K C "lines")(n2:NoAttr K C "listed")(n3:NoAttr K C "now") :
  VT P0 (aAA (aKB P0 lstF 1 4 f) [] E (fH (aHD K (vX i) "lines") (fH (aHD K (vX i) "listed") (fH (aHD K (vX i) "now") (fH (vX j) z7))))) (aHP C f i j):=by
 intro F Γ σ G H Q Qm r hm k;obtain⟨w,s,lim,e,ej,hf⟩:=hm;obtain⟨fps,h1,h2⟩:=r.fps;have hi:=h1 i _ e;obtain⟨v,ev,pv,nf⟩:=id hi;obtain⟨rfl,hfp,z,us,vn,vs,a,b⟩:=id pv;obtain⟨vl,evl,dvl⟩:=r.sl j _ ej;refine⟨.ref w,ev,w,C,s.d,_,.ref s.ll,rfl,a.i,cl,n1,rfl,.ref w,ev,w,C,s.d,_,.ref s.lo,rfl,a.i,cl,n2,rfl,.ref w,ev,w,C,s.d,_,vn,rfl,a.i,cl,n3,rfl,vl,evl,?_⟩;have ml:=nf s.ll (by rw[hfp]; simp);have mo:=nf s.lo (by rw[hfp]; simp);have hF:∀ b∈[s.lo],F.H0 b=none:=fun b hb=>by rw[List.mem_singleton.mp hb]; exact mo.1
 have gX:Same G (F.lessP r.fr [s.lo] hF s.ll ml.1).G0:=fun b o y=>by
  show(if b=s.ll then H b else G b)=some o
  rw[if_neg (fun w=>by rw[w,ml.2] at y; cases y)];exact y
 have gll:(F.lessP r.fr [s.lo] hF s.ll ml.1).G0 s.ll=some (.lst us):=by
  show(if s.ll=s.ll then H s.ll else G s.ll)=_
  rw[if_pos rfl]; exact a.l
 obtain⟨f0,hp⟩:=PartOf.listed (C:=C) (w:=w) (s:=s) pv;have hf0:f0=[s.lo]:=hp.own.2.1;subst hf0;refine⟨F.lessP r.fr [s.lo] hF s.ll ml.1,s.lo,s.os,[s.lo],[.ref s.ll,vn,vl],[.val (.list s.ls),.val s.now,.val lim],_,rfl,fun b=>rfl,⟨fun b o y=>?_,fun _ _ _=>rfl,fun b o y _=>?_,r.fr.pn⟩,?_,fun b hb=>?_,?_,rfl,hf,fun rv os' r1 f1 f2 G' H' hq f' ra bo c d=>?_⟩
 ·have y:(if b=s.ll then H b else G b)=some o:=y
  split at y
  ·exact y
  ·exact r.fr.sub b o y
 ·have y:(if b∈[s.lo] then none else H b)=some o:=y
  split at y
  ·cases y
  ·exact y
 ·exact⟨rfl,rfl,z.no,vs,a.o,Dts.same gX _ _ b.o⟩
 ·rw[List.mem_singleton.mp hb]
  show(if s.lo=s.ll then H s.lo else G s.lo)=none
  rw[if_neg (Ne.symm z.ne)];exact mo.2
 ·exact .cons (Dt.lst gll (Dts.same gX _ _ b.l)) (.cons (Dt.same gX _ _ b.n) (.cons (Dt.same gX _ _ dvl) .nil))
 ·obtain⟨dd,rfl,nd,q⟩:=hq;have old:∀ b o,H b=some o→b≠s.lo→G' b=(if b=s.ll then H b else G b):=fun b o y hb=>f'.g0 b o (by show(if b∈[s.lo] then none else H b)=some o; rw[if_neg (fun w=>hb (List.mem_singleton.mp w))]; exact y);have gll':G' s.ll=some (.lst us):=by rw[old _ _ a.l z.ne,if_pos rfl]; exact a.l
  let Gc:Hp:=fun b=>if b=s.ll then none else G' b
  have un:a66 G' Gc:=fun b xs y=>by
   refine .inl ?_
   show(if b=s.ll then none else G' b)=_
   rw[if_neg (fun w=>by rw[w,gll'] at y; cases y)];exact y
  have rf:Rf (F.less r.fr [s.lo] hF) Gc H':=by
   refine⟨fun b o y=>?_,fun b o y=>?_,f'.h0,f'.pn⟩
   ·have y:(if b=s.ll then none else G' b)=some o:=y
    split at y
    ·cases y
    ·exact f'.sub b o y
   ·have y':(if b∈[s.lo] then none else H b)=some o:=y;have hb:b≠s.lo:=fun w=>by rw[w,if_pos (List.mem_singleton.mpr rfl)] at y'; cases y'
    have hH:H b=some o:=by rw[if_neg (fun w=>hb (List.mem_singleton.mp w))] at y'; exact y'
    show(if b=s.ll then none else G' b)=G b
    by_cases hl:b=s.ll
    ·rw[if_pos hl,hl]; exact ml.2.symm
    ·rw[if_neg hl,old b o hH hb,if_neg hl]
  have d2:∀ b∈f2,(F.less r.fr [s.lo] hF).H0 b=none∧Gc b=none:=fun b hb=>by
   have y:=d b (List.mem_append_right _ hb);refine⟨y.1,?_⟩
   show(if b=s.ll then none else G' b)=none
   split
   ·rfl
   ·exact y.2
  obtain⟨sG,new,_,_⟩:=r.unlend (B:=fun os=>(bD C).box w { s with os:=os }) (s1:=s.os) e hi ev hp hF rf (aBV un bo) d2;exact k _ _ _ _ _ q sG new (Dt.sameU un _ _ nd ra.2)
theorem cP {W:Fam S}{n:Nat}{m:Str}{f:Lm S}{t:TA}{ma:MA}{E:XK}(hW:∀{p s v fp G H},(W.box p s).P v fp G H→∃ dx fs,H p=some (.ins C dx fs)∧fs.lookup m=none)(h:VA P0 t ma):VO P0 (aJH C m (spL P0 W n f) [] E (vX i) t) (bW W n f i ma):=by
 intro F Γ σ G H Q Qm r hm k;obtain⟨p,⟨s,e⟩,hm⟩:=hm;obtain⟨v,fp,ev,pv,_⟩:=r.sl i _ e;have z:=W.pin pv;subst z;obtain⟨dx,fs,hp,hl⟩:=hW pv;refine⟨.ref p,ev,p,dx,fs,rfl,hp,hl,h F Γ σ G H _ _ r hm fun as Γ1 rs G1 H1 m1 g1 r1 d1=>?_⟩;obtain⟨s1,e1,hn,hf⟩:=m1;exact aBJ (Qm:=Qm) PartOf.self r1 e1 d1 hn hf fun rv Γ' r' G' H' q g'=>k rv Γ' r' G' H' q (g1.trans g')
theorem iR {m:Str}(hm:∀ s vn,(aPT s vn).lookup m=none){p:Addr}{s:WS}{v:V}{fp:List Addr}{G H:Hp}(h:((bD C).box p s).P v fp G H):∃ dx fs,H p=some (.ins C dx fs)∧fs.lookup m=none:=by
 obtain⟨_,_,_,us,vn,vs,a,_⟩:=h;exact⟨_,_,a.i,hm s vn⟩
def xO (P0:Addr→Hp→Prop)(C:Addr)(f:Fm):Sp:=fun vs H Q _=>∃(F:Fra P0) (w d:Addr) (l t:V) (ls:List D) (tm:D) (os:List D),vs=[.ref w,l,t]∧(∀ b,F.H0 b=if b=w∨b=d then none else H b)∧Rf F F.G0 H∧F.G0 w=none∧F.G0 d=none∧d≠w ∧
 H w=some (.ins C d [])∧H d=some (.own w)∧Dt F.G0 l (.list ls)∧Dt F.G0 t tm∧ls.length≤1000∧cI ls=true∧fG tm=true∧cI os=true∧f [.val (.list ls),.val tm] (fun rv=>rv=.own os) ∧
 ∀ ll lo f2 G' H',Rf F G' H'→((bD C).box w ⟨d,ll,lo,ls,tm,os⟩).P (.ref w) f2 G' H'→(∀ b∈f2,F.H0 b=none∧G' b=none)→Q .non H'
def a5I (C:Addr)(f:Fm)(ml mt:ME):MO:=fun Γ Q=>ml Γ fun l Γ1=>mt Γ1 fun t Γ2=>∃ ls os,l=.list ls∧ls.length≤1000∧cI ls=true∧fG t=true∧cI os=true∧f [.val (.list ls),.val t] (fun rv=>rv=.own os)∧∀ w d ll lo,Q (.box ((bD C).box w ⟨d,ll,lo,ls,t,os⟩)) Γ2
theorem a1U {f:Fm}{tl tt:TE}{ml mt:ME}{E:XK}(hl:VT P0 tl ml)(ht:VT P0 tt mt):VO P0 (aL8 C (xO P0 C f) [] E (fH tl (fH tt z7))) (a5I C f ml mt):=by
 intro F Γ σ G H Q Qm r hm k;refine hl F Γ σ G H _ _ r hm fun l Γ1 vl G1 H1 m1 g1 r1 d1=>?_;refine ht F Γ1 σ G1 H1 _ _ r1 m1 fun t Γ2 vt G2 H2 m2 g2 r2 d2=>?_;obtain⟨ls,os,rfl,hn,z1,z2,z3,hf,q⟩:=m2;intro w d hw hd hdw;have g3:Same H2 (upd (upd H2 d (.own w)) w (.ins C d [])):=fun b o e=>by
  rw[b7 (bG e hw),b7 (bG e hd)];exact e
 refine⟨F.sub r2.fr,w,d,vl,vt,ls,t,os,rfl,fun b=>?_,⟨fun b o e=>g3 b o (r2.fr.sub b o e),fun _ _ _=>rfl,fun b o e _=>g3 b o e,?_⟩,r2.fr.gfresh hw,r2.fr.gfresh hd,hdw,bM,by rw[b7 hdw]; exact bM,Dt.same g2 _ _ d1,d2,hn,z1,z2,z3,hf,fun ll lo f2 G' H' f' b' n'=>⟨rfl,?_⟩⟩
 ·show H2 b=_
  by_cases h1:b=w
  ·rw[if_pos (.inl h1),h1]; exact hw
  ·by_cases h2:b=d
   ·rw[if_pos (.inr h2),h2]; exact hd
   ·rw[if_neg (fun z=>z.elim h1 h2),b7 h1,b7 h2]
 ·exact(F.sub r2.fr).stab' H2 _ (fun b o e=>by rw[g3 b o e,show H2 b=some o from e]) r2.fr.pn
 ·obtain⟨r3,g4⟩:=r2.after f';refine k _ _ _ _ _ (q w d ll lo) ((g1.trans g2).trans g4) r3 ⟨f2,b',fun b hb=>⟨r2.fr.fresh (n' b hb).1,(n' b hb).2⟩⟩ ?_;refine Apart.newB r2 (fun fp hp b hb=>?_) g4 (fun b o e1 e2 e3=>⟨(f'.g0 b o e3).trans e2,f'.h0 b o e3 (F.pen_ne e1)⟩);have y:fp=f2:=Bx.uniq _ hp b';rw[y] at hb;exact(n' b hb).1
end
end
end L2.VS
namespace L2
open PySem PySem.Spec PyProof.Rows
variable {X:Cx}
def gSl (to:TE)(tl th:TO):TG:=fun v σ H Q=>to σ H fun o H1=>tl σ H1 fun a H2=>th σ H2 fun c H3=>∃ l b xs ys,∃ m n:Nat,o=.ref l∧v=.ref b∧a=some (m:Int)∧c=some (n:Int)∧H3 l=some (.lst xs)∧H3 b=some (.lst ys)∧l≠b∧m≤n∧n≤xs.length∧xs.length+ys.length≤sizeLine∧Q σ (upd H3 l (.lst (xs.take m++ys++xs.drop n)))
theorem aFY {o:Expr}{lo hi:Option Expr}{p2 pos:Pos}{to:TE}{tl th:TO}(ho:PE X o to)(hl:PO X lo tl)(hu:PO X hi th)
  (ha:∀ v,assign (.Subscript o (.Slice lo hi none p2) pos) X.env v=(do
   let ov←holding [v] (eval o X.env)
   let iv←holding [v,ov] (eval (.Slice lo hi none p2) X.env)
   standAt pos
   holding [v,ov,iv] (setItem ov iv v)
   release [iv,v,ov] []):=by intro _; rfl):PG X (.Subscript o (.Slice lo hi none p2) pos) (gSl to tl th):=by
 intro pins s σ H v u Q I r h;rw[ha];refine wpAny_bind (wpAny_holding (thn (ho pins s σ H _ I h) fun ov s1 ⟨x,H1,I1,r1,q1⟩=>?_));refine wpAny_bind (wpAny_holding ?_);refine wpAny_Slice (thn (hl pins s1 σ H1 _ I1 q1) fun vl s2 ⟨a,H2,I2,pl,q2⟩=>thn (hu pins s2 σ H2 _ I2 q2) fun vu s3 ⟨c,H3,I3,pu,q3⟩=>?_);rw[evalPart_none];refine wpAny_pure ?_;obtain⟨l,b,xs,ys,m,n,rfl,rfl,rfl,rfl,hl1,hb,hne,hmn,hn,hz,q⟩:=q3;have I4:Inv X pins σ H3 { s3 with heap:=s3.heap.push { cls:=.type "slice", data:=.fields #[vl,vu,.none] } }:=I3.kept (t':=s3.toks) fun b ob q=>Heap.get?_push_of_some _ q
 cases r1
 obtain rfl:u=Value.ref b:=r;obtain⟨z,its,k,ri,hli,e⟩:=I4.lstM hl1;obtain⟨z2,its2,k2,ri2,hli2,e2⟩:=I4.lstM hb;refine wpAny_bind (wpAny_standAt (wpAny_bind (wpAny_holding ?_)));have sz1:its.length=xs.length:=ri.length.symm;have sz2:its2.length=ys.length:=ri2.length.symm;refine a3J (a:=m) (c:=n) e e2 hne (Heap.IsSliceOf.new ..) pl pu hmn (by rw[List.size_toArray]; omega) (by rw[List.size_toArray,List.size_toArray]; omega) (wpAny_release ⟨σ,_,I4.lset (its':=its.take m++its2++its.drop n) (t':=s3.toks) hl1 e ?_ (Vals.append (Vals.append (ri.take _) ri2) (ri.drop _)) ?_,q⟩)
 ·exact aDM its its2 m n
 ·rw[List.length_append,List.length_append,List.length_take,List.length_drop];omega
end L2
namespace L2.VS
open PySem PySem.Spec PyProof.Rows
section
variable {P0:Addr→Hp→Prop}
theorem _root_.L2.Dts.splice {G:Hp}{vs ws:List V}{ds es:List D}(h:Dts G vs ds)(g:Dts G ws es)(m n:Nat):Dts G (vs.take m++ws++vs.drop n) (ds.take m++es++ds.drop n):=((h.tak m).app g).app (h.drp n)
def aD7 (i:Nat)(m:ME)(mp mq:MP):MS:=fun Γ Q=>m Γ fun d Γ1=>∃ es,d=.list es∧(∃ ds,Γ1[i]?=some (.own ds))∧mp Γ1 fun a Γ2=>mq Γ2 fun c Γ3=>∃ ds,∃ k n:Nat,Γ3[i]?=some (.own ds)∧a=some (k:Int)∧c=some (n:Int)∧k≤n∧n≤ds.length∧ds.length+es.length≤1000∧Q (.nx (Γ3.set i (.own (ds.take k++es++ds.drop n))))
theorem aFT {A:Nat→Bool}{i:Nat}{t:TE}{tp tq:TO}{m:ME}{mp mq:MP}(h:VT P0 t m)(hp:VP P0 tp mp)(hq:VP P0 tq mq):VSA P0 A (aFZ t (gSl (vX i) tp tq)) (aD7 i m mp mq):=by
 intro F Γ σ G H E Qm r hm k;refine h F Γ σ G H _ _ r hm fun d Γ1 v G1 H1 m1 g1 r1 d1=>?_;obtain⟨es,rfl,⟨ds,e⟩,m1⟩:=m1;obtain⟨p,vs,ep,_⟩:=r1.sl i _ e;refine⟨.ref p,ep,hp F Γ1 σ G1 H1 _ _ r1 m1 fun a Γ2 G2 H2 m2 g2 r2=>?_⟩;refine hq F Γ2 σ G2 H2 _ _ r2 m2 fun c Γ3 G3 H3 m3 g3 r3=>?_;obtain⟨ds',kk,n,e3,rfl,rfl,hkn,hn,hl,q⟩:=m3;obtain⟨p',us,ep',_,hg,hp',hus⟩:=r3.sl i _ e3;rw[ep] at ep'
 cases ep'
 cases d1 with
 | @lst b ws _ hb rs=>
  have g:=g2.trans g3;have hb3:=g _ _ hb;refine⟨p,b,us,ws,kk,n,rfl,rfl,rfl,rfl,hp',r3.fr.sub _ _ hb3,(fun z=>by rw[z,hb3] at hg; cases hg),hkn,by rw[hus.len]; exact hn,?_,?_⟩
  ·rw[hus.len,rs.len]; exact iM hl
  ·exact k _ q σ G3 _ (g1.trans g) (r3.write e3 ep (hus.splice (Dts.same g _ _ rs) kk n)) fun _ _=>rfl
def slK (i:Nat)(es:List D)(Q:Fl→Prop)(a:Option Int)(c:Option Int)(Γ3:En):Prop:=∃ ds,∃ k n:Nat,Γ3[i]?=some (.own ds)∧a=some (k:Int)∧c=some (n:Int)∧k≤n∧n≤ds.length∧ds.length+es.length≤1000∧Q (.nx (Γ3.set i (.own (ds.take k++es++ds.drop n))))
theorem aP0 {i:Nat}{es ds:List D}{Q:Fl→Prop}{k n:Nat}{Γ3:En}(h0:Γ3[i]?=some (.own ds))(h1:k≤n)(h2:n≤ds.length)(h3:ds.length+es.length≤1000)(h:Q (.nx (Γ3.set i (.own (ds.take k++es++ds.drop n))))):slK i es Q (some (k:Int)) (some (n:Int)) Γ3:=⟨ds,k,n,h0,rfl,rfl,h1,h2,h3,h⟩
def slJ (i:Nat)(mp mq:MP)(Q:Fl→Prop)(d:D)(Γ1:En):Prop:=∃ es,d=.list es∧(∃ ds,Γ1[i]?=some (.own ds))∧mp Γ1 fun a Γ2=>mq Γ2 (slK i es Q a)
theorem aP2 {i:Nat}{mp mq:MP}{Q:Fl→Prop}{es ds:List D}{Γ1:En}(h0:Γ1[i]?=some (.own ds))(h:mp Γ1 fun a Γ2=>mq Γ2 (slK i es Q a)):slJ i mp mq Q (.list es) Γ1:=⟨es,rfl,⟨ds,h0⟩,h⟩
theorem aJT {i:Nat}{m:ME}{mp mq:MP}{Γ:En}{Q:Fl→Prop}(h:m Γ (slJ i mp mq Q)):aD7 i m mp mq Γ Q:=h
end
section
variable {P0:Addr→Hp→Prop}{A:Nat→Bool}
end
section
theorem aL4 {Γ:En}:KeptOk [] Γ:=by cases Γ<;>exact trivial
theorem aC0 {B:Bx}{bs:List Bool}{Γ:En}(c:B.Cut)(h:KeptOk bs Γ):KeptOk (true::bs) (.box B::Γ):=⟨c,h⟩
theorem a2S {C:Addr}{i:Nat}{Γ:En}{Q:D→En→Prop}{w:Addr}{s:WS}{sl:Sl}(h0:Γ[i]?=some sl)(hs:InW C w s sl)(h:Q s.now Γ):a0Z C i Γ Q:=⟨w,s,sl,h0,hs,h⟩
theorem aEB {C:Addr}{i:Nat}{Γ:En}{Q:D→En→Prop}{w:Addr}{s:WS}(h0:Γ[i]?=some (.pub (aAH C w s)))(h:Q (.list s.ls) Γ):a3G C i Γ Q:=⟨w,s,h0,h⟩
theorem a1Q {C:Addr}{i:Nat}{Γ:En}{Q:D→En→Prop}{w:Addr}{s:WS}(h0:Γ[i]?=some (.pub (aAH C w s)))(h:Q (.list s.os) Γ):tV C i Γ Q:=⟨w,s,h0,h⟩
def wxK (C:Addr)(i:Nat)(w:Addr)(s:WS)(Q:D→En→Prop)(d:D)(Γ1:En):Prop:=(∃ sl,Γ1[i]?=some sl∧InW C w s sl)∧oQ (ixD (.list s.os) d) fun e=>Q e Γ1
theorem aHH {C:Addr}{i:Nat}{mj:ME}{Γ:En}{Q:D→En→Prop}{w:Addr}{s:WS}{sl:Sl}(h0:Γ[i]?=some sl)(hs:InW C w s sl)(h:mj Γ (wxK C i w s Q)):aFB C i mj Γ Q:=⟨w,s,⟨sl,h0,hs⟩,h⟩
theorem aLI {C:Addr}{i:Nat}{w:Addr}{s:WS}{Q:D→En→Prop}{d:D}{Γ1:En}{sl:Sl}(h0:Γ1[i]?=some sl)(hs:InW C w s sl)(h:oQ (ixD (.list s.os) d) fun e=>Q e Γ1):wxK C i w s Q d Γ1:=⟨⟨sl,h0,hs⟩,h⟩
def snK (C:Addr)(i:Nat)(Q:Fl→Prop)(d:D)(Γ1:En):Prop:=fG d=true∧∃ w s,Γ1[i]?=some (.box ((bD C).box w s))∧Q (.nx (Γ1.set i (.box ((bD C).box w { s with now:=d }))))
theorem a8D {C:Addr}{i:Nat}{m:ME}{Γ:En}{Q:Fl→Prop}(h:m Γ (snK C i Q)):a3F C i m Γ Q:=h
theorem aL2 {C:Addr}{i:Nat}{Q:Fl→Prop}{d:D}{Γ1:En}{w:Addr}{s:WS}(hd:fG d=true)(h0:Γ1[i]?=some (.box ((bD C).box w s)))(h:Q (.nx (Γ1.set i (.box ((bD C).box w { s with now:=d }))))):snK C i Q d Γ1:=⟨hd,w,s,h0,h⟩
def nwK (C:Addr)(f:Fm)(Q:Rv→En→Prop)(l t:D)(Γ2:En):Prop:=∃ ls os,l=.list ls∧ls.length≤1000∧cI ls=true∧fG t=true∧cI os=true∧f [.val (.list ls),.val t] (fun rv=>rv=.own os)∧∀ w d ll lo,Q (.box ((bD C).box w ⟨d,ll,lo,ls,t,os⟩)) Γ2
theorem a6K {C:Addr}{f:Fm}{ml mt:ME}{Γ:En}{Q:Rv→En→Prop}(h:ml Γ fun l Γ1=>mt Γ1 (nwK C f Q l)):a5I C f ml mt Γ Q:=h
end
end L2.VS
namespace L2
open PySem PySem.Spec PyProof.Rows
section
variable {prog:Program}{w:World}{A:Around}{E:Value→Shared→Prop}{s:Shared}
end
variable {X:Cx}{pos:Pos}
end L2
namespace L2.VS
open PySem PySem.Spec PyProof.Rows
section
variable {P0:Addr→Hp→Prop}{A:Nat→Bool}
end
section
variable {P0:Addr→Hp→Prop}{A:Nat→Bool}
end
section
variable {P0:Addr→Hp→Prop}{A:Nat→Bool}
theorem hu1 {a:Nat}(h:a+64<cLine):a+1<cLine:=Nat.lt_of_le_of_lt (Nat.add_le_add_left (by decide) _) h
end
section
variable {P0:Addr→Hp→Prop}{A:Nat→Bool}
section
variable {G G' H H':Hp}{vs vs':List V}{fs fs':List (List Addr)}{Bs Bs':List Bx}
end
def aI1 (i:Nat)(mo:MO):MS:=fun Γ Q=>mo Γ fun rv Γ1=>∃ B b,rv=.box B∧B.pv=some b∧Q (.nx (Γ1.set i (.pub b)))
theorem aIZ {i:Nat}{t:TE}{m:MO}(h:VO P0 t m)(hA:A i=true:=by rfl):VSA P0 A (aFZ t (a5R i)) (aI1 i m):=by
 intro F Γ σ G H E Qm r hm k;refine h F Γ σ G H _ _ r hm fun rv Γ1 x G1 H1 m1 s1 r1 d1 a1=>?_;obtain⟨B,b,rfl,hb,m1⟩:=m1;obtain⟨G2,fp,s2,r2,hP,hg⟩:=R.giveP r1 d1 a1;exact k _ m1 _ _ _ (s1.trans s2) (R.setP r2 (B.pok hP hb (Same.refl _) hg)) (vJ hA)
end
section
variable {P0:Addr→Hp→Prop}{A:Nat→Bool}
def aPb (i:Nat)(mr:MA):MA:=fun Γ Q=>∃ B,Γ[i]?=some (.pub B)∧mr Γ fun xs Γ2=>Q (.pub B::xs) Γ2
theorem aOL {i:Nat}{tr:TA}{mr:MA}(hr:VA P0 tr mr):VA P0 (fH (vX i) tr) (aPb i mr):=by
 intro F Γ σ G H Q Qm r hm k;obtain⟨B,e,hm⟩:=hm;obtain⟨v,ev,pv⟩:=r.sl i _ e;exact⟨v,ev,hr F Γ σ G H _ _ r hm fun as Γ1 rs G1 H1 m1 g1 r1 d1=>k _ _ _ _ _ m1 g1 r1 (.cons (B.mono g1 pv) d1)⟩
theorem aNP {i:Nat}{mr:MA}{Γ:En}{Q:List Sl→En→Prop}{B:Pb}(h0:Γ[i]?=some (.pub B))(h:mr Γ fun xs Γ2=>Q (.pub B::xs) Γ2):aPb i mr Γ Q:=⟨B,h0,h⟩
end
end L2.VS
namespace L2
open PySem PySem.Spec PyProof.Rows
section
variable {prog:Program}{w:World}{K:Type}[DecidableEq K]{knd:HeapKind prog w K}
theorem aA9 (d:Addr)(hd:(d==sysModules)=false) :
  MeetsIn prog w (Builtin.«dict.__len__» ⟨[.ref d],[]⟩) (fun _ R s=>∃ xs,s.heap.DictOfH knd d xs∧R (.ok (.ret (.int xs.length s.toks))) { s with toks:=s.toks+1 }):=
 .of_wp fun A R s ⟨xs,hm,h⟩=>by
  obtain⟨o,es,ep,ho,hc,hdat,hk,hp,hn⟩:=hm;show wpAny _ _ (dictSize d >>= _) _ _ s;unfold dictSize;refine wpAny_bind (wpAny_bind (wpAny_dictEntries ho hdat (wpAny_pure ?_)));show wpAny _ _ (Builtin.Dict.pendingCount d >>= _) _ _ s;refine wpAny_bind (wpAny_pendingCount_other hd ?_);refine wpAny_ret_mkInt ?_;rw[Nat.add_zero,size_of_entries hk]; exact h
theorem aDZ {A:Around}{E:Value→Shared→Prop}{s:Shared}{d:Addr}{xs:List (K×Addr×Value)}{Q:Value→Shared→Prop}(hd:(d==sysModules)=false)(hm:s.heap.DictOfH knd d xs)(hfit:(xs.length:Int)<2^63)
  (h:Q (.int xs.length (s.toks+1)) { s with toks:=s.toks+1+1 }):wpAny (model prog w) A (call (.builtin "len") [.ref d]) Q E s:=by
 refine Calls.call_function_entry kind_len plain_len entry_len (args_len1 _) ?_;unfold Builtin.«len»;refine wpAny_bind (m:=oneArg "len" _) (wpAny_pure ?_);refine wpAny_bind (m:=callSpecial? (.ref d) (Str.ofString "__len__")) (wpAny_callSpecial?_slot (name:=Str.ofString "__len__") hm.typeIs PySem.F.slot_dict_len
  (call_meetsIn PySem.F.slot_dict_len hm.typeIs PySem.F.entry_dict_len (PySem.F.args_dict_len_1 _) (aA9 (knd:=knd) d hd) ⟨xs,hm,?_⟩))
 show wpAny _ _ _ _ _ { s with toks:=s.toks+1 };refine wpAny_bind (wpAny_holding (wpAny_pure ?_));refine wpAny_bind (wpAny_letGo ?_);show wpAny _ _ (if ((xs.length:Nat):Int)<0 then _ else _) _ _ _;rw[if_neg (by omega)];show wpAny _ _ (if ((xs.length:Nat):Int)≥2^63 then _ else _) _ _ _;rw[if_neg (by omega)];exact wpAny_bind (wpAny_mkInt (wpAny_pure ⟨_,rfl,h⟩))
end
def aMS:List V→Hp→VK→Prop:=fun xs H Q=>∃(p:Addr) (kvs:List (List Key×V)),xs=[.ref p]∧H p=some (.dT kvs)∧Q (.int kvs.length) H
theorem a4S {X:Cx}:a0M X (.builtin "len") aMS:=by
 intro pins s σ H xs us Q I r h;obtain⟨p,kvs,rfl,hp,q⟩:=h;obtain⟨u,rfl,rx⟩:=vals1 r
 cases rx
 obtain⟨z,hd,xs,rel,dd⟩:=aKX I.hok hp;have e:kvs.length=xs.length:=Paired.length rel;refine aDZ hd dd (by rw[← e]; rw[sizeLine_eq] at z; omega) ?_;rw[← e];exact⟨.int kvs.length,H,I.tok _,⟨_,rfl⟩,q⟩
end L2
namespace L2.VS
open PySem PySem.Spec PyProof.Rows
section
variable {P0:Addr→Hp→Prop}{A:Nat→Bool}
def kP (k:Int×Int):List Key:=[Sum.inl k.1,Sum.inl k.2]
def dP2 (k:Int×Int):D:=.tuple [.int k.1,.int k.2]
theorem aHU {a b:Int×Int}(h:kP a=kP b):a=b:=by
 unfold kP at h;simp only[List.cons.injEq,and_true] at h;obtain⟨h1,h2⟩:=h;exact Prod.ext (Sum.inl.inj h1) (Sum.inl.inj h2)
abbrev Pds:=List ((Int×Int)×D)
inductive PkRel (G:Hp):List (List Key×V)→Pds→Prop
 | nil:PkRel G [] []
 | cons {n:Int×Int} {v:V} {d:D} {kvs:List (List Key×V)} {kds:Pds} (h:Dt G v d) (r:PkRel G kvs kds):PkRel G ((kP n,v)::kvs) ((n,d)::kds)
theorem PkRel.same {G G':Hp}(g:Same G G'){kvs:List (List Key×V)}{kds:Pds}(h:PkRel G kvs kds):PkRel G' kvs kds:=by
 induction h with
 | nil=>exact .nil
 | cons h _ ih=>exact .cons (Dt.same g _ _ h) ih
theorem PkRel.len {G:Hp}{kvs:List (List Key×V)}{kds:Pds}(h:PkRel G kvs kds):kvs.length=kds.length:=by
 induction h with
 | nil=>rfl
 | cons _ _ ih=>rw[List.length_cons,List.length_cons,ih]
def a0H:Pds→Int×Int→Option D
 | [],_=>none
 | (n,d)::r,k=>if n=k then some d else a0H r k
def a8M:Pds→Int×Int→D→Pds
 | [],_,_=>[]
 | (n,d)::r,k,e=>(if n=k then(n,e) else(n,d))::a8M r k e
def a5J (kds:Pds)(k:Int×Int)(d:D):Pds:=if (a0H kds k).isSome then a8M kds k d else kds++[(k,d)]
theorem PkRel.val {G:Hp}{kvs:List (List Key×V)}{kds:Pds}(h:PkRel G kvs kds)(k:Int×Int):(a7Q kvs (kP k)=none∧a0H kds k=none)∨∃ v d,a7Q kvs (kP k)=some v∧a0H kds k=some d∧Dt G v d:=by
 induction h with
 | nil=>exact .inl ⟨rfl,rfl⟩
 | @cons n v d kvs kds h r ih=>
  by_cases e:n=k
  ·refine .inr ⟨v,d,xV (by rw[e]),?_,h⟩;unfold a0H; rw[if_pos e]
  ·rw[xU (fun z=>e (aHU z))];unfold a0H; rw[if_neg e]; exact ih
theorem PkRel.some {G:Hp}{kvs:List (List Key×V)}{kds:Pds}(h:PkRel G kvs kds){k:Int×Int}{d:D}(e:a0H kds k=some d):∃ v,a7Q kvs (kP k)=some v∧Dt G v d:=by
 rcases h.val k with⟨_,z⟩|⟨v,d',a,b,c⟩
 ·rw[e] at z; cases z
 ·rw[e] at b; cases b; exact⟨v,a,c⟩
theorem PkRel.isSome {G:Hp}{kvs:List (List Key×V)}{kds:Pds}(h:PkRel G kvs kds)(k:Int×Int):(a7Q kvs (kP k)).isSome=(a0H kds k).isSome:=by
 rcases h.val k with⟨a,z⟩|⟨v,d',a,b,c⟩
 ·rw[a,z]; rfl
 ·rw[a,b]; rfl
theorem PkRel.repl {G:Hp}{kvs:List (List Key×V)}{kds:Pds}(h:PkRel G kvs kds)(k:Int×Int){v:V}{d:D}(dv:Dt G v d):PkRel G (kvs.map fun kv=>if kv.1=kP k then(kv.1,v) else kv) (a8M kds k d):=by
 induction h with
 | nil=>exact .nil
 | @cons n u e kvs kds h r ih=>
  unfold a8M;rw[List.map_cons]
  by_cases z:n=k
  ·rw[if_pos z,if_pos (congrArg kP z)]; exact .cons dv ih
  ·rw[if_neg z,if_neg (fun y=>z (aHU y))]; exact .cons h ih
theorem PkRel.snoc {G:Hp}{kvs:List (List Key×V)}{kds:Pds}(h:PkRel G kvs kds)(k:Int×Int){v:V}{d:D}(dv:Dt G v d):PkRel G (kvs++[(kP k,v)]) (kds++[(k,d)]):=by
 induction h with
 | nil=>exact .cons dv .nil
 | cons h _ ih=>exact .cons h ih
theorem PkRel.put {G:Hp}{kvs:List (List Key×V)}{kds:Pds}(h:PkRel G kvs kds)(k:Int×Int){v:V}{d:D}(dv:Dt G v d):PkRel G (putK kvs (kP k) v) (a5J kds k d):=by
 unfold putK a5J;rw[a2A,h.isSome k]
 by_cases z:(a0H kds k).isSome=true
 ·rw[if_pos z,if_pos z]; exact h.repl k dv
 ·rw[if_neg z,if_neg z]; exact h.snoc k dv
theorem xN {F:Fra P0}{Γ:En}{σ:St}{G H:Hp}(r:R F Γ σ G H){v:V}{k:Int×Int}(h:Dt G v (dP2 k)):∃ b,v=.ref b∧H b=some (.tup ((kP k).map kV)):=by
 unfold dP2 at h
 cases h with
 | @tup p xs _ hp rs=>
  cases rs with
  | cons h1 h2=>
   cases h2 with
   | cons h3 h4=>
    cases h4
    cases h1
    cases h3
    exact⟨p,rfl,r.fr.sub _ _ hp⟩
def pDt (kds:Pds):Pb where
 P:=fun v G=>∃ p kvs,v=.ref p∧G p=some (.dT kvs)∧PkRel G kvs kds
 mono:=fun g ⟨p,kvs,a,b,c⟩=>⟨p,kvs,a,g _ _ b,c.same g⟩
def bDt (kds:Pds):Bx where
 P v fp G H:=∃ p kvs,v=.ref p∧fp=[p]∧H p=some (.dT kvs)∧PkRel G kvs kds
 mono g h:=by
  obtain⟨p,kvs,h1,h2,h3,h4⟩:=h;exact⟨p,kvs,h1,h2,h3,h4.same g⟩
 loc k h:=by
  obtain⟨p,kvs,h1,h2,h3,h4⟩:=h;subst h2;exact⟨p,kvs,h1,rfl,(k p List.mem_cons_self).trans h3,h4⟩
 dom h b hb:=by
  obtain⟨p,kvs,h1,h2,h3,h4⟩:=h;subst h2;rw[List.mem_singleton.mp hb]; exact⟨_,h3⟩
 uniq h g:=by
  obtain⟨p,kvs,h1,h2,h3,h4⟩:=h;obtain⟨p',kvs',g1,g2,g3,g4⟩:=g;rw[h1] at g1; cases g1;rw[h2,g2]
 nt h b hb ys e:=by
  obtain⟨p,kvs,h1,h2,h3,h4⟩:=h;subst h2;rw[List.mem_singleton.mp hb,h3] at e; cases e
 view:=none
 vok h e g k:=by cases e
 pv:=some (pDt kds)
 pok h e g k:=by
  obtain⟨p,kvs,rfl,rfl,h3,h4⟩:=h
  cases e
  exact⟨p,kvs,rfl,(k p List.mem_cons_self).trans h3,h4.same g⟩
def a8X:MO:=fun Γ Q=>Q (.box (bDt [])) Γ
theorem a8A:VO P0 aHQ a8X:=by
 intro F Γ σ G H Q Qm r m k p hp;have hP:(bDt []).P (.ref p) [p] G (upd H p (.dT [])):=⟨p,[],rfl,rfl,bM,.nil⟩;refine k _ _ _ _ _ m (Same.refl _) (r.newP hp) ⟨[p],hP,fun b hb=>?_⟩ (Apart.newB r (fun fp h b hb=>?_) (Same.refl _) fun b o _ g e=>⟨g,by rw[b7 (bG e hp)]; exact e⟩)
 ·rw[List.mem_singleton.mp hb]; exact⟨r.fr.fresh hp,r.fr.gfresh hp⟩
 ·rw[(bDt []).uniq h hP] at hb;rw[List.mem_singleton.mp hb]; exact hp
def aF7 (Γ:En)(i:Nat)(kds:Pds):Prop:=Γ[i]?=some (.box (bDt kds))∨Γ[i]?=some (.pub (pDt kds))
theorem R.dt {F:Fra P0}{Γ:En}{σ:St}{G H:Hp}(r:R F Γ σ G H){i:Nat}{kds:Pds}(e:aF7 Γ i kds):∃ p kvs,σ[i]?=some (some (.ref p))∧H p=some (.dT kvs)∧PkRel G kvs kds:=by
 rcases e with e|e
 ·obtain⟨v,fp,e1,⟨p,kvs,rfl,rfl,h3,h4⟩,e3⟩:=r.sl i _ e;exact⟨p,kvs,e1,h3,h4⟩
 ·obtain⟨v,e1,p,kvs,rfl,h3,h4⟩:=r.sl i _ e;exact⟨p,kvs,e1,r.fr.sub _ _ h3,h4⟩
def aB6 (i:Nat)(mj:ME):ME:=fun Γ Q=>(∃ kds,aF7 Γ i kds)∧mj Γ fun x Γ1=>∃ kds k d,aF7 Γ1 i kds∧x=dP2 k∧a0H kds k=some d∧Q d Γ1
theorem aF1 {i:Nat}{tj:TE}{mj:ME}(hj:VT P0 tj mj):VT P0 (aL6 (vX i) tj) (aB6 i mj):=by
 intro F Γ σ G H Q Qm r hm k;obtain⟨⟨kds,e⟩,hm⟩:=hm;obtain⟨p,kvs,ep,_⟩:=r.dt e;refine⟨.ref p,ep,hj F Γ σ G H _ _ r hm fun x Γ1 y G1 H1 m1 g1 r1 d1=>?_⟩;obtain⟨kds1,n,d,e1,rfl,hd,q⟩:=m1;obtain⟨p',kvs1,ep',hp,rel⟩:=r1.dt e1;rw[ep] at ep'
 cases ep'
 obtain⟨b,rfl,hb⟩:=xN r1 d1;obtain⟨v,hv,dv⟩:=rel.some hd;refine⟨p,v,rfl,?_,k _ _ _ _ _ q g1 r1 dv⟩;have z:=DGet.t hp hb;rw[hv] at z;exact z
def aB8 (neg:Bool)(i:Nat)(mj:ME):ME:=fun Γ Q=>mj Γ fun x Γ1=>∃ kds k,aF7 Γ1 i kds∧x=dP2 k∧Q (.bool (if neg=true then !(a0H kds k).isSome else(a0H kds k).isSome)) Γ1
theorem aHY {i:Nat}{tj:TE}{mj:ME}(hj:VT P0 tj mj):VT P0 (aQ2 tj (vX i)) (aB8 false i mj):=by
 intro F Γ σ G H Q Qm r hm k;refine hj F Γ σ G H _ _ r hm fun x Γ1 y G1 H1 m1 g1 r1 d1=>?_;obtain⟨kds,n,e1,rfl,q⟩:=m1;obtain⟨p,kvs,ep,hp,rel⟩:=r1.dt e1;obtain⟨b,rfl,hb⟩:=xN r1 d1;refine⟨.ref p,ep,p,_,rfl,DGet.t hp hb,?_⟩;rw[rel.isSome n];exact k _ _ _ _ _ q g1 r1 (.bl _)
theorem aAC {i:Nat}{tj:TE}{mj:ME}(hj:VT P0 tj mj):VT P0 (aDY tj (vX i)) (aB8 true i mj):=by
 intro F Γ σ G H Q Qm r hm k;refine hj F Γ σ G H _ _ r hm fun x Γ1 y G1 H1 m1 g1 r1 d1=>?_;obtain⟨kds,n,e1,rfl,q⟩:=m1;obtain⟨p,kvs,ep,hp,rel⟩:=r1.dt e1;obtain⟨b,rfl,hb⟩:=xN r1 d1;refine⟨.ref p,ep,p,_,rfl,DGet.t hp hb,?_⟩;rw[rel.isSome n];exact k _ _ _ _ _ q g1 r1 (.bl _)
def a90 (i:Nat):ME:=fun Γ Q=>∃ kds,aF7 Γ i kds∧Q (.int (kds.length:Int)) Γ
theorem a8F {i:Nat}:VT P0 (tCB aMS (fH (vX i) z7)) (a90 i):=by
 intro F Γ σ G H Q Qm r hm k;obtain⟨kds,e,q⟩:=hm;obtain⟨p,kvs,ep,hp,rel⟩:=r.dt e;refine⟨.ref p,ep,p,kvs,rfl,hp,?_⟩;rw[rel.len];exact k _ _ _ _ _ q (Same.refl _) r (.int _)
theorem R.dtW {F:Fra P0}{Γ:En}{σ:St}{G H:Hp}(r:R F Γ σ G H){i:Nat}{p:Addr}{kds kds':Pds}{kvs':List (List Key×V)}(e:Γ[i]?=some (.box (bDt kds)))(ep:σ[i]?=some (some (.ref p)))(rel:PkRel G kvs' kds'):R F (Γ.set i (.box (bDt kds'))) σ G (upd H p (.dT kvs')):=by
 obtain⟨v,fp,e1,⟨p',kvs,rfl,rfl,hp,_⟩,e3⟩:=r.sl i _ e;rw[ep] at e1; cases e1;obtain⟨p1,p2⟩:=e3 p List.mem_cons_self;refine r.writeF e (r.fr.priv p1 p2) fun fp hf=>?_;obtain⟨v,w1,⟨p',kvs1,rfl,rfl,_,_⟩,w3⟩:=hf;rw[ep] at w1; cases w1;refine⟨[p],⟨.ref p,ep,⟨p,kvs',rfl,rfl,bM,rel⟩,w3⟩,fun z hz _=>⟨b7 fun y=>hz (by rw[y]; exact List.mem_cons_self),hz⟩⟩
def a8O (i:Nat)(m mj:ME):MS:=fun Γ Q=>m Γ fun d Γ1=>(∃ kds,Γ1[i]?=some (.box (bDt kds)))∧mj Γ1 fun x Γ2=>∃ kds k,Γ2[i]?=some (.box (bDt kds))∧x=dP2 k∧kds.length<1000∧Q (.nx (Γ2.set i (.box (bDt (a5J kds k d)))))
theorem a8J {i:Nat}{t tj:TE}{m mj:ME}(h:VT P0 t m)(hj:VT P0 tj mj):VSA P0 A (aMA (vX i) tj t) (a8O i m mj):=by
 intro F Γ σ G H E Qm r hm k;refine h F Γ σ G H _ _ r hm fun d Γ1 v G1 H1 m1 g1 r1 d1=>?_;obtain⟨⟨kds,e⟩,m1⟩:=m1;obtain⟨p,_,ep,_⟩:=r1.dt (.inl e);refine⟨.ref p,ep,hj F Γ1 σ G1 H1 _ _ r1 m1 fun x Γ2 u G2 H2 m2 g2 r2 d2=>?_⟩;obtain⟨kds2,n,e2,rfl,hl,q⟩:=m2;obtain⟨p',kvs,ep',hp,rel⟩:=r2.dt (.inl e2);rw[ep] at ep'; cases ep';obtain⟨b,rfl,hb⟩:=xN r2 d2;refine⟨p,_,rfl,DPut.t hp hb (by rw[rel.len]; exact Nat.lt_of_lt_of_le hl (by decide)),?_⟩;exact k _ q σ G2 _ (g1.trans g2) (r2.dtW e2 ep (rel.put n (Dt.same g2 _ _ d1))) fun _ _=>rfl
section
variable {Γ Γ1:En}{i:Nat}{kds:Pds}{Q:D→En→Prop}
theorem aE3 {Q:Rv→En→Prop}(h:Q (.box (bDt [])) Γ):a8X Γ Q:=h
theorem aJV {mj:ME}(h0:aF7 Γ i kds)(h:mj Γ fun x Γ1=>∃ kds k d,aF7 Γ1 i kds∧x=dP2 k∧a0H kds k=some d∧Q d Γ1):aB6 i mj Γ Q:=⟨⟨kds,h0⟩,h⟩
theorem aH8 {neg:Bool}{mj:ME}(h:mj Γ fun x Γ1=>∃ kds k,aF7 Γ1 i kds∧x=dP2 k∧Q (.bool (if neg=true then !(a0H kds k).isSome else(a0H kds k).isSome)) Γ1):aB8 neg i mj Γ Q:=h
theorem aBT (h0:aF7 Γ i kds)(h:Q (.int (kds.length:Int)) Γ):a90 i Γ Q:=⟨kds,h0,h⟩
theorem aD4 {m mj:ME}{Q:Fl→Prop}(h:m Γ fun d Γ1=>(∃ kds,Γ1[i]?=some (.box (bDt kds)))∧mj Γ1 fun x Γ2=>∃ kds k,Γ2[i]?=some (.box (bDt kds))∧x=dP2 k∧kds.length<1000∧Q (.nx (Γ2.set i (.box (bDt (a5J kds k d)))))):a8O i m mj Γ Q:=h
end
end
end L2.VS
namespace My
open PySem PySem.Spec PyProof.Rows L2 L2.VS LT
def top (i:Nat):Stmt:=PySem.Challenge.pw_leadtimes_k28_whole_each_exchanged_once.main.body.getD i (.Pass ⟨0,0,0,0⟩)
set_option hygiene false in
local macro_rules | `(tactic| walk_at $s:str)=>do
 let cs:=s.getString.toList
 if cs.head? != some '!' then Lean.Macro.throwUnsupported
 let a := "i_c aMQ aQX aPA aLN aOR aOF aMB aPL aPK aL1 aNM aNV aGF aR3 i_I aR0 aPE aQY aLM aQT xX a1K aO5 aQR aND aR2 aLE aNN aP4 aNI aOZ aKY aO2 aNK aHZ aFN aOB aLV aKN i_U aOT aGO aNG aMR aOU aJE aJX aJM aM6 aOE aQL aNZ aPF aFM aQZ aOG aOH aOA aOK aBU aD9 aNC a8D aJZ aP9 aOS aLH aJT aNF aMD".splitOn " "
 let x := "&(<QğaV/ı.tsĲE{M6ŉ4ŋŌoCōJĉ~PYĮŏduvwxz}ĂĄćĊČčĔĕęĚěģĤĥĦĨĩĬĭįĵĶĺĻļĽľĿŀŁłŅņ".toList
 let b := "aOD aLA aPC aEZ aMK aQS aLX isT aFC aP5 aLQ aP2 aQU".splitOn " "
 let y := "$īŎĖėĘĜĴķĸĹŃń".toList
 let z := "qąąpo5nĲ#m=Ők9~jQ#iRđf0he=ābaĉ`QĮ;*-^ŏ.]MHXQıW$$UĞNTă(SĒ#O<<ĞĈ@L9.KrZĒ6cG/$ĈMlF_-DŎċ>ĆĝBō.AĠ(ăst81#:.ŌR,7ĝ&Zh&#ċ#ŋą/&Ćr(3=#l=Ŋ_I*H$)+ŉ/@=ň5E#0sVIĠ*9Q{Zğİryī1ĲŇ)$#ya#Ġat%Q?-2#?ıV2ğg=<c*($c$&".toList
 let mut l:=cs.tail
 for k in [0:z.length/3] do l:=l.flatMap fun c=>if c=z[3*k]! then [z[3*k+1]!,z[3*k+2]!] else [c]
 let mut r : Array (Lean.TSyntax `tactic):=#[]
 for c in l do
  let i:=x.idxOf c
  let j:=y.idxOf c
  let t←if i<x.length then `(tactic| with_reducible apply $(Lean.mkIdent (a[i]!).toName)) else if j<y.length then `(tactic| with_reducible refine $(Lean.mkIdent (b[j]!).toName) (by with_unfolding_all rfl) ?_) else match c with
   | '#'=>`(tactic| (dsimp only[Rv.d,Rv.sl,nbQ,Bool.not_true,Bool.not_false,isN,wQ]))
   | 'g'=>`(tactic| (with_reducible refine And.intro rfl ?_))
   | ','=>`(tactic| (refine⟨_,rfl,?_⟩))
   | 'İ'=>`(tactic| (with_reducible refine aO1 (by with_unfolding_all rfl) rfl ?_))
   | 'Ň'=>`(tactic| (with_reducible refine And.intro (Nat.le_of_ble_eq_true (by with_unfolding_all rfl)) ?_))
   | '7'=>`(tactic| (refine⟨_,_,rfl,rfl,?_⟩))
   | 'ň'=>`(tactic| (with_reducible apply cO (aJ4 _)))
   | 'N'=>`(tactic| (with_reducible refine And.intro (aN5 (by assumption) (by assumption)) ?_))
   | 'Ŋ'=>`(tactic| (with_reducible apply cO (aIT _)))
   | 'ā'=>`(tactic| (with_reducible apply cO (aG7 _)))
   | 'đ'=>`(tactic| (refine And.intro (aN5 (by assumption) (by assumption)) ?_))
   | '['=>`(tactic| (with_reducible (refine And.intro (good_int _) (And.intro (good_int _) ?_); rw[aJR])))
   | 'Ő'=>`(tactic| (with_reducible apply cO (aGP _)))
   | '|'=>`(tactic| (refine And.intro (show(0:Int)<_ by decide) ?_))
   | 'Ā'=>`(tactic| (with_reducible (refine And.intro (qG _) (And.intro (qG _) ?_); rw[aID])))
   | 'Ď'=>`(tactic| (refine And.intro (by assumption) ?_))
   | 'ď'=>`(tactic| (refine⟨_,_,_,_,rfl,rfl,SqL.of (by assumption),rfl,?_⟩))
   | 'Đ'=>`(tactic| (refine⟨_,_,_,_,rfl,rfl,SqL.of bM,rfl,?_⟩))
   | 'ē'=>`(tactic| (refine⟨_,_,rfl,.inl (by assumption),?_⟩))
   | 'ġ'=>`(tactic| (refine And.intro (aET rfl) ?_))
   | 'Ģ'=>`(tactic| (refine⟨_,_,_,_,rfl,rfl,(by assumption),rfl,?_⟩))
   | 'ħ' => `(tactic| (with_reducible refine aP1 (by with_unfolding_all rfl) (by with_unfolding_all rfl) (by with_unfolding_all rfl) (by walk_at "kp") ?_))
   | 'Ī'=>`(tactic| (with_reducible refine aOX (by with_unfolding_all rfl) (by with_unfolding_all rfl) ?_))
   | 'ĳ'=>`(tactic| (refine And.intro ⟨by decide,by decide⟩ ?_))
   | _=>Lean.Macro.throwUnsupported
  r:=r.push t
 `(tactic| ($[$r:tactic];*))
set_option hygiene false in
local macro_rules|`(tactic| walk_at "v1")=>`(tactic| first
 | (with_reducible first
  | apply aPA|apply aPL|apply aOF|apply aNM|apply aR3|apply aPK
  | refine aOD (by with_unfolding_all rfl) ?_
  | apply i_c|apply aOR|apply aL1|apply aMQ
  | refine i_apen (by with_unfolding_all rfl) ?_
  | apply aLN|apply aNV|apply aMB|apply aPE|apply aND|apply aQX|apply aR0|apply i_I|apply i_U|apply aQR|apply aQT
  | apply aO5|apply aR2|apply aNI|apply aMR|apply aP9|apply aM6|apply aO2|apply aKY|apply aOU|apply aNN|apply aOB|apply aOG|apply aOA
  | apply aP4|apply aNK|apply aNF|apply aKN|apply aMD|apply aQY
  | refine aQS (by with_unfolding_all rfl) ?_
  | apply aFN|apply aJE|apply aOS|apply aOK|apply aGF|apply aLH|apply aHZ|apply aJX|apply aGO|apply aOE|apply aNC|apply aOT|apply aOH|apply aQL
  | refine aEZ (by with_unfolding_all rfl) ?_
  | refine i_clear (by with_unfolding_all rfl) ?_
  | refine aLQ (by with_unfolding_all rfl) ?_
  | refine i_pubS0 (by with_unfolding_all rfl) ?_
  | refine aMK (by with_unfolding_all rfl) ?_
  | refine i_moveV (by with_unfolding_all rfl) ?_
  | apply cO (aIT _)|apply cO (aJ4 _)|apply cO (aGP _)|apply cO (aG7 _)
  | apply a1K|apply xX
  | refine isT (by with_unfolding_all rfl) ?_
  | refine isF (by with_unfolding_all rfl) ?_
  | refine aQU (by with_unfolding_all rfl) ?_
  | refine isNF (by with_unfolding_all rfl) ?_
  | apply aOZ|apply aNG
  | refine And.intro rfl ?_
  | refine And.intro (Nat.le_of_ble_eq_true (by with_unfolding_all rfl)) ?_
  | refine And.intro (aN5 (by assumption) (by assumption)) ?_
  | (refine And.intro (good_int _) (And.intro (good_int _) ?_); rw[aJR])
  | (refine And.intro (qG _) (And.intro (qG _) ?_); rw[aID])
  | (refine And.intro (good_line _) (And.intro (good_line _) ?_); rw[eqv_line])
  | (refine And.intro (good_bool _) (And.intro (good_bool _) ?_); rw[eqv_bool]))
 | dsimp only[Rv.d,Rv.sl,nbQ,Bool.not_true,Bool.not_false,isN,wQ])
set_option hygiene false in
local macro_rules|`(tactic| walk_at "w1")=>`(tactic| first
 | walk_at "v1"
 | with_reducible apply aLV
 | with_reducible refine aFC (by with_unfolding_all rfl) ?_
 | with_reducible apply aQZ
 | with_reducible apply aJZ
 | with_reducible refine aP5 (by with_unfolding_all rfl) ?_
 | with_reducible apply aBU
 | with_reducible apply aD9
 | with_reducible apply aPF
 | with_reducible refine i_ixC (by with_unfolding_all rfl) ?_)
set_option hygiene false in
local macro_rules|`(tactic| walk_at "l1")=>`(tactic| first
 | walk_at "w1"
 | with_reducible refine aLA (by with_unfolding_all rfl) ?_
 | with_reducible refine aO1 (by with_unfolding_all rfl) rfl ?_
 | with_reducible apply aLE
 | with_reducible refine aPC (by with_unfolding_all rfl) ?_
 | with_reducible apply aLM
 | with_reducible apply i_compLn)
set_option hygiene false in
local macro_rules|`(tactic| walk_at "kp")=>`(tactic| repeat (with_unfolding_all first
 | exact aL4
 | apply kept_f
 | refine aC0 aJ3 ?_
 | refine aC0 cut_walk ?_
 | refine aC0 aBV ?_))
set_option hygiene false in
local macro_rules|`(tactic| walk_at "m1")=>`(tactic| first
 | walk_at "l1"
 | with_reducible apply aNZ
 | with_reducible refine aP1 (by with_unfolding_all rfl) (by with_unfolding_all rfl) (by with_unfolding_all rfl) (by walk_at "kp") ?_
 | with_reducible apply aJM
 | with_reducible refine aLX (by with_unfolding_all rfl) ?_
 | with_reducible apply aFM
 | with_reducible refine aOX (by with_unfolding_all rfl) (by with_unfolding_all rfl) ?_
 | with_reducible apply aJT
 | with_reducible refine aP2 (by with_unfolding_all rfl) ?_)
set_option hygiene false in
local macro_rules|`(tactic| walk_at "ms")=>`(tactic| repeat (walk_at "m1"))
def v8:MS:=
 (gZ (cH (aBA (aMT "int" (aM 0)) (aF4 (aMT "bool" (aM 0))))))
def jK:Fm:=mFn 0 v8
def iQ:MS:=
 (gZ (cH (aM 2)))
def iT:MS:=
 (cC (dW 4 (cH (aNS (aM 2) (aM 3))))
  (cC (dW 2 (cH (aM 3)))
  (dW 3 (cH (aM 4)))))
def gW:MS:=
 (cC (dW 2 (cH (aH2 (aM 0))))
  (cC (dW 3 (cH (aH2 (aM 1))))
  (cC (uQ (dM (mNe (aM 3) (mC (.int 0))))
  iT)
  iQ)))
def eN:Fm:=mFn 3 gW
def rF:MS:=
 (gZ (cH (wU (bN (a7Z (aM 0) (aM 2)) (bN (a7Z (aM 1) (aM 2)) kJ)))))
def rC:MS:=
 (cC (dW 2 (cH (cD (bO 2 eN (bC (aM 0) (bC (aM 1) cG))))))
  (cC (mIf (dM (mLt (aM 1) (mC (.int 0))))
  (dW 2 (cH (aK8 (aM 2))))
  mNx)
  rF))
def rT:MS:=
 (cC (mIf (mOr (aB5 (dM (cD (bO 1 jK (bC (aM 0) cG))))) (mOr (aB5 (dM (cD (bO 1 jK (bC (aM 1) cG))))) (dM (mEq (aM 1) (mC (.int 0))))))
  aDV
  mNx)
  rC)
def fZ:Fm:=mFn 1 rT
def a3O:MS:=
 (gZ (bO 2 fZ (bC (a7X (xJ (mIx (aM 0) (mC (.int 0))) (mIx (aM 1) (mC (.int 1)))) (xJ (mIx (aM 1) (mC (.int 0))) (mIx (aM 0) (mC (.int 1))))) (bC (xJ (mIx (aM 0) (mC (.int 1))) (mIx (aM 1) (mC (.int 1)))) cG))))
def xY:Fm:=mFn 0 a3O
def kZ:MS:=
 (gZ (bO 2 fZ (bC (aGY (xJ (mIx (aM 0) (mC (.int 0))) (mIx (aM 1) (mC (.int 1)))) (xJ (mIx (aM 1) (mC (.int 0))) (mIx (aM 0) (mC (.int 1))))) (bC (xJ (mIx (aM 0) (mC (.int 1))) (mIx (aM 1) (mC (.int 1)))) cG))))
def eZ:Fm:=mFn 0 kZ
def pK:MS:=
 (gZ (bO 2 fZ (bC (xJ (mIx (aM 0) (mC (.int 0))) (mIx (aM 1) (mC (.int 0)))) (bC (xJ (mIx (aM 0) (mC (.int 1))) (mIx (aM 1) (mC (.int 1)))) cG))))
def lD:Fm:=mFn 0 pK
def o6:MS:=
 (gZ (bO 2 fZ (bC (xJ (mIx (aM 0) (mC (.int 0))) (mIx (aM 1) (mC (.int 1)))) (bC (xJ (mIx (aM 0) (mC (.int 1))) (mIx (aM 1) (mC (.int 0)))) cG))))
def jG:Fm:=mFn 0 o6
def yW:MS:=
 (gZ (cH (mLt (xJ (mIx (aM 0) (mC (.int 0))) (mIx (aM 1) (mC (.int 1)))) (xJ (mIx (aM 1) (mC (.int 0))) (mIx (aM 0) (mC (.int 1)))))))
def eU:Fm:=mFn 0 yW
def vI:MS:=
 (gZ (bO 2 xY (bC (mIx (aM 0) (mC (.int 0))) (bC (cD (bO 2 lD (bC (mIx (aM 0) (mC (.int 1))) (bC (aM 1) cG)))) cG))))
def qP:Fm:=mFn 0 vI
def wJ:MS:=
 (cC (dW 2 (cH (cD (bO 2 eZ (bC (mIx (aM 1) (mC (.int 0))) (bC (mIx (aM 0) (mC (.int 0))) cG))))))
  (cC (dW 3 (cH (cD (bO 2 eZ (bC (mIx (aM 0) (mC (.int 1))) (bC (mIx (aM 1) (mC (.int 1))) cG))))))
  (gZ (cH (wU (bN (mC (.str "at")) (bN (cD (bO 2 jG (bC (aM 2) (bC (aM 3) cG)))) kJ)))))))
def z6:MS:=
 (cC (mIf (dM (mEq (mIx (aM 0) (mC (.int 1))) (mIx (aM 1) (mC (.int 1)))))
  (gZ (aOC (dM (mEq (mIx (aM 0) (mC (.int 0))) (mIx (aM 1) (mC (.int 0))))) (cH (wU (bN (mC (.str "always")) kJ))) (cH (wU (bN (mC (.str "never")) kJ)))))
  mNx)
  wJ)
def tZ:Fm:=mFn 2 z6
def vB:MS:=
 (gZ (cH (wU (bN (cD (bO 2 qP (bC (mIx (aM 0) (aM 1)) (bC (aM 2) cG)))) (bN (mIx (mIx (aM 0) (aM 1)) (mC (.int 1))) (bN (aM 1) kJ))))))
def jL:Fm:=mFn 0 vB
def mL:MS:=
 (gZ (cH (mLt (mIx (aM 0) (mC (.int 2))) (mIx (aM 1) (mC (.int 2))))))
def mK:MS:=
 (cC (mIf (dM (mNe (mIx (aM 0) (mC (.int 1))) (mIx (aM 1) (mC (.int 1)))))
  (gZ (bO 2 eU (bC (mIx (aM 1) (mC (.int 1))) (bC (mIx (aM 0) (mC (.int 1))) cG))))
  mNx)
  mL)
def lX:MS:=
 (cC (mIf (dM (mNe (mIx (aM 0) (mC (.int 0))) (mIx (aM 1) (mC (.int 0)))))
  (gZ (bO 2 eU (bC (mIx (aM 1) (mC (.int 0))) (bC (mIx (aM 0) (mC (.int 0))) cG))))
  mNx)
  mK)
def fP:Fm:=mFn 0 lX
def vY:MS:=
 (gZ (bO 2 fP (bC (cD (bO 3 jL (bC (aM 0) (bC (aM 1) (bC (aM 3) cG))))) (bC (cD (bO 3 jL (bC (aM 0) (bC (aM 2) (bC (aM 3) cG))))) cG))))
def mW:Fm:=mFn 0 vY
def oJ:MS:=
 (gZ (cH (mC .none)))
def nP:MS:=
 (cC (dW 4 (cH (cD (bO 2 tZ (bC (mIx (aM 0) (aM 1)) (bC (mIx (aM 0) (aM 2)) cG))))))
  (cC (mIf (a6C (dM (mEq (mIx (aM 4) (mC (.int 0))) (mC (.str "at")))) (dM (cD (bO 2 eU (bC (aM 3) (bC (mIx (aM 4) (mC (.int 1))) cG))))))
  (gZ (cH (mIx (aM 4) (mC (.int 1)))))
  mNx)
  oJ))
def gO:Fm:=mFn 1 nP
def rY:MS:=
 (gZ (cH (aBA (cD (bO 1 jK (bC (aM 1) cG))) (aEC (fun i j=>decide (i≤j)) (fun i j=>decide (i<j)) (mC (.int 0)) (aM 1) (a6Z (aM 0))))))
def jW:Fm:=mFn 0 rY
def oU:MS:=
 (aCP 3 (gZ (a4R 1 [] (aGH (aM 3)) (gN 0) vA (mIx (aM 0) (mC (.int 2))))))
def j4:MS:=
 (a03 3 (aM 6) (aM 5))
def oH:MS:=
 (aKV 6 aQN (mC (.int 1)))
def oW:MS:=
 (cC (dW 5 (cH (cD (bO 3 jL (bC (aM 0) (bC (aM 4) (bC (aM 2) cG)))))))
  (cC (dW 6 (cH (mC (.int 0))))
  (cC (uQ (tE (a6C (dM (mLt (aM 6) (a6Z (aM 3)))) (dM (cD (bO 2 fP (bC (mIx (aM 3) (aM 6)) (bC (aM 5) cG)))))))
  oH)
  j4)))
def nJ:MS:=
 (cC (dW 3 (a6B kJ))
  (cC (aB4 (aGH (aM 1)) (gN 4)
  oW)
  oU))
def jF:Fm:=mFn 4 nJ
def v5:MS:=
 (gZ (bO 3 jF (bC (aM 0) (bC (cD (a1X (a6Z (aM 0)))) (bC (aM 1) cG)))))
def cM:Fm:=mFn 0 v5
def pR:MS:=
 (gZ (a2F (aM 0) (cD (aN3 (aM 0) (pSo (mC (.int 1))) pNo))))
def iW:Fm:=mFn 0 pR
def oM:MS:=
 (cC (dW 5 (cH (cD (bO 4 gO (bC (aM 0) (bC (aM 1) (bC (aM 2) (bC (aM 3) cG))))))))
  (gZ (cH (aPI (aF3 (aM 5)) (aBA (a0A (aM 4)) (aF4 (cD (bO 2 eU (bC (aM 5) (bC (aM 4) cG))))))))))
def oF:MS:=
 (cC (mIf (aB5 (dM (cD (bO 4 mW (bC (aM 0) (bC (aM 1) (bC (aM 2) (bC (aM 3) cG))))))))
  (gZ (cH (mC (.bool false))))
  mNx)
  oM)
def jJ:Fm:=mFn 1 oF
def nO:MS:=
 (gZ (bO 5 jJ (bC (aM 0) (bC (aM 3) (bC (aM 4) (bC (aM 1) (bC (aM 5) cG)))))))
def tM:MS:=
 (cC (mIf (a6C (dM (a0A (aM 5))) (aB5 (dM (cD (bO 2 eU (bC (aM 1) (bC (aM 5) cG)))))))
  (gZ (cH (mC (.bool false))))
  mNx)
  nO)
def vH:MS:=
 (cC (dW 3 (cH (mIx (aM 2) (mC (.int 0)))))
  (cC (dW 4 (cH (mIx (aM 2) (mC (.int 1)))))
  (cC (dW 5 (cH (mIx (aM 2) (mC (.int 2)))))
  (cC (mIf (mOr (aB5 (dM (cD (bO 2 jW (bC (aM 0) (bC (aM 3) cG)))))) (mOr (aB5 (dM (cD (bO 2 jW (bC (aM 0) (bC (aM 4) cG)))))) (dM (mEq (aM 3) (aM 4)))))
  (gZ (cH (mC (.bool false))))
  mNx)
  tM))))
def qL:Fm:=mFn 3 vH
def wF:MS:=
 (gZ (bO 4 gO (bC (aM 0) (bC (aM 1) (bC (aM 2) (bC (aM 3) cG))))))
def zP:MS:=
 (cC (mIf (dM (cD (bO 4 mW (bC (aM 0) (bC (aM 2) (bC (aM 1) (bC (aM 3) cG)))))))
  (gZ (cH (aM 3)))
  mNx)
  wF)
def u5:Fm:=mFn 0 zP
def m7:MS:=
 (gZ (a4R 1 [0,2] (aGH (cD (bO 1 iW (bC (aM 1) cG)))) (gN 0) vA (wU (bN (mIx (aM 0) (mC (.int 0))) (bN (mIx (aM 0) (mC (.int 1))) (bN (cD (bO 4 u5 (bC (aM 1) (bC (mIx (aM 0) (mC (.int 0))) (bC (mIx (aM 0) (mC (.int 1))) (bC (aM 2) cG)))))) kJ))))))
def dU:Fm:=mFn 1 m7
def t6:MS:=
 (gZ (bO 3 dU (bC (aM 0) (bC (cD (bO 2 cM (bC (aM 0) (bC (aM 1) cG)))) (bC (aM 1) cG)))))
def jT:Fm:=mFn 0 t6
def gY:MS:=
 (gZ (cH (aM 1)))
def gU:MS:=
 (mIf (a6C (dM (a0A (mIx (aM 3) (mC (.int 2))))) (mOr (dM (aF3 (aM 1))) (dM (cD (bO 2 eU (bC (mIx (aM 3) (mC (.int 2))) (bC (mIx (mIx (aM 0) (aM 1)) (mC (.int 2))) cG)))))))
  (dW 1 (cH (aM 2)))
  mNx)
def gQ:MS:=
 (cC (dW 1 (cH (mC .none)))
  (cC (aB4 (aOQ (aM 0)) (gT 2 (zG (gN 2) (zG (gN 3) aG9)))
  gU)
  gY))
def cZ:Fm:=mFn 3 gQ
def a1O:MS:=
 (cC (dW 7 (cH (cD (bO 1 cZ (bC (aM 2) cG)))))
  (gZ (aCX 4 (aO7 (dM (aF3 (aM 7))) (mC .none) (mIx (mIx (aM 2) (aM 7)) (mC (.int 2)))))))
def a1C:MS:=
 (cC (dW 4 (bO 2 cM (bC (aM 0) (bC (aM 1) cG))))
  (cC (dW 5 (cH (cD (a4R 1 [] (aGH (aM 2)) (gN 0) vA (wU (bN (mIx (aM 0) (mC (.int 0))) (bN (mIx (aM 0) (mC (.int 1))) kJ)))))))
  (cC (mIf (tE (aB5 (dM (aOM (cD (a4R 1 [5] (aGH (cD (bO 1 iW (bC (aM 4) cG)))) (gN 0) vA (mIn false (aM 0) (aM 1))))))))
  (gZ (cH (mC .none)))
  mNx)
  a1O)))
def a7G:MS:=
 (cC (mIf (aB5 (dM (aOM (cD (a4R 1 [0,1] (aGH (aM 2)) (gN 0) vA (cD (bO 3 qL (bC (aM 1) (bC (aM 2) (bC (aM 0) cG))))))))))
  (gZ (cH (mC .none)))
  mNx)
  a1C)
def a3K:Fm:=mFn 5 a7G
def lW:MS:=
 (cC (a3H 1 (mIx (mIx (aM 4) (aM 5)) (mC (.int 1))) (aM 5))
  (cC (a3H 1 (mIx (mIx (aM 4) (aM 5)) (mC (.int 0))) (a7X (aM 5) (mC (.int 1))))
  (a65 lstF 1 (cH (wU (bN (aM 5) (bN (aM 6) kJ)))))))
def rN:MS:=
 (cC (dW 6 (cH (mIx (mIx (aM 4) (aM 5)) (mC (.int 2)))))
  (cC (mIf (a6C (dM (a0A (aM 3))) (dM (cD (bO 2 eU (bC (aM 3) (bC (aM 6) cG))))))
  (a65 lstF 1 (cH (mC .none)))
  mNx)
  lW))
def nC:MS:=
 (cC (dW 4 (cH (cD (a5X (bO 3 dU (bC (aM 0) (bC (aM 1) (bC (aM 2) cG))))))))
  (cC (dW 5 (cH (cD (bO 1 cZ (bC (aM 4) cG)))))
  (cC (mIf (dM (aF3 (aM 5)))
  (a65 lstF 1 (cH (mC .none)))
  mNx)
  rN)))
def nM:Lm (List D):=aIL lstF 1 3 nC
def a2M (c:Addr):MS:=
 (sV (bD c) (cH (a0Z c 0)))
def qK (c:Addr):Lm WS:=aA3 (bD c) 0 (a2M c)
def zM (c:Addr):MS:=
 (sV (bD c) (a5X (sW (tV c 0))))
def fD (c:Addr):Lm WS:=aA3 (bD c) 0 (zM c)
def vD (c:Addr):MS:=
 (sV (bD c) (a5X (bO 3 dU (bC (a3G c 0) (bC (tV c 0) (bC (a0Z c 0) cG))))))
def q8 (c:Addr):Lm WS:=aA3 (bD c) 0 (vD c)
def rE (c:Addr):MS:=
 (cC (dW 3 (cH (mIx (aM 2) (mC (.int 0)))))
  (cC (a3F c 0 (mIx (aM 2) (mC (.int 1))))
  (sV (bD c) (cH (wU (bN (a0Z c 0) (bN (aFB c 0 (a7X (aM 3) (mC (.int 1)))) (bN (aFB c 0 (aM 3)) kJ))))))))
def sX (c:Addr):MS:=
 (cC (dW 2 (cH (aHP c nM 0 1)))
  (cC (mIf (dM (aF3 (aM 2)))
  (sV (bD c) (cH (mC .none)))
  mNx)
  (rE c)))
def eX (c:Addr):Lm WS:=aA3 (bD c) 2 (sX c)
def a1T (c:Addr):MS:=
 (sV (bD c) (bW (bD c) 2 (eX c) 0 (bC (mC .none) cG)))
def qY (c:Addr):Lm WS:=aA3 (bD c) 0 (a1T c)
def tG (c:Addr):MS:=
 (cC (a3F c 0 (aM 1))
  (sV (bD c) (a4J 2)))
def zY (c:Addr):MS:=
 (cC (rP 2 (aM 3))
  (dW 3 (cH (cD (bW (bD c) 2 (eX c) 0 (bC (aM 1) cG))))))
def a4T (c:Addr):MS:=
 (cC (dW 2 (a6B kJ))
  (cC (dW 3 (cH (cD (bW (bD c) 2 (eX c) 0 (bC (aM 1) cG)))))
  (cC (uQ (dM (a0A (aM 3)))
  (zY c))
  (tG c))))
def aDN (c:Addr):MS:=
 (cC (mIf (dM (cD (bO 2 eU (bC (aM 1) (bC (a0Z c 0) cG)))))
  aDV
  mNx)
  (a4T c))
def zW (c:Addr):Lm WS:=aA3 (bD c) 2 (aDN c)
def p6:MS:=
 (gZ (cH (wU (bN (a7Z (aM 0) (aM 2)) (bN (a7Z (aM 1) (aM 2)) kJ)))))
def pP:MS:=
 (cC (mIf (dM (mLt (aM 1) (mC (.int 0))))
  (dW 2 (cH (aGY (mC (.int 0)) (aM 2))))
  mNx)
  p6)
def pX:MS:=
 (aPH 2 3 (bN (aM 3) (bN (aNS (aM 2) (aM 3)) kJ)))
def oZ:MS:=
 (cC (dW 2 (cH (aH2 (aM 0))))
  (cC (dW 3 (cH (aH2 (aM 1))))
  (cC (uQ (dM (mGt (aM 3) (mC (.int 0))))
  pX)
  pP)))
def cQ:Fm:=mFn 2 oZ
def v7:MS:=
 (gZ (bO 2 cQ (bC (a7X (xJ (mIx (aM 0) (mC (.int 0))) (mIx (aM 1) (mC (.int 1)))) (xJ (xJ (aM 2) (mIx (aM 1) (mC (.int 0)))) (mIx (aM 0) (mC (.int 1))))) (bC (xJ (mIx (aM 0) (mC (.int 1))) (mIx (aM 1) (mC (.int 1)))) cG))))
def jM:Fm:=mFn 0 v7
def sS:MS:=
 (gZ (bO 2 cQ (bC (xJ (mIx (aM 0) (mC (.int 0))) (mIx (aM 1) (mC (.int 0)))) (bC (xJ (mIx (aM 0) (mC (.int 1))) (mIx (aM 1) (mC (.int 1)))) cG))))
def nZ:Fm:=mFn 0 sS
def vL:MS:=
 (gZ (cH (mLt (xJ (mIx (aM 0) (mC (.int 0))) (mIx (aM 1) (mC (.int 1)))) (xJ (mIx (aM 1) (mC (.int 0))) (mIx (aM 0) (mC (.int 1)))))))
def gC:Fm:=mFn 0 vL
def wK:MS:=
 (sV penF (cH (mIx (cD (a6B (bN (aM 2) (bN (aGY (mC (.int 0)) (aM 2)) kJ)))) (cD (bW penF 2 gB 0 (bC (mC (.int 2)) cG))))))
def wG:MS:=
 (dW 2 (cH (a7X (xJ (aM 2) (mC (.int 1000000))) (cD (bW penF 2 gB 0 (bC (mC (.int 1000000)) cG))))))
def yL:MS:=
 (cC (dW 2 (cH (mC (.int 0))))
  (cC (aB4 (a4Z (bN (aM 1) kJ)) (gN 3)
  wG)
  wK))
def uN:Lm Nat:=aA3 penF 2 yL
def pW:MS:=
 (sV penF (bO 2 cQ (bC (cD (bW penF 2 uN 0 (bC (mC (.int 3)) cG))) (bC (a7X (mC (.int 1)) (cD (bW penF 2 gB 0 (bC (mC (.int 999999)) cG)))) cG))))
def pO:MS:=
 (cC (mIf (dM (mEq (aM 1) (mC (.int 1))))
  (sV penF (bO 2 cQ (bC (aGY (cD (bW penF 2 gB 0 (bC (mC (.int 41)) cG))) (mC (.int 20))) (bC (a7X (mC (.int 1)) (cD (bW penF 2 gB 0 (bC (mC (.int 6)) cG)))) cG))))
  mNx)
  pW)
def pL:MS:=
 (cC (mIf (dM (mEq (aM 1) (mC (.int 0))))
  (sV penF (cH (wU (bN (aGY (cD (bW penF 2 gB 0 (bC (mC (.int 7)) cG))) (mC (.int 3))) (bN (mC (.int 1)) kJ)))))
  mNx)
  pO)
def dD:Lm Nat:=aA3 penF 0 pL
def rO:MS:=
 (sV penF (a4J 5))
def lV:MS:=
 (rP 5 (aM 7))
def lU:MS:=
 (cC (mIf (a6C (dM (mIn false (aM 8) (wU (bN (mC (.int 2)) (bN (mC (.int 3)) (bN (mC (.int 4)) kJ)))))) (dM (mLt (aM 1) (mC (.int 2)))))
  (dW 7 (cH (wU (bN (cD (bO 3 jM (bC (aM 2) (bC (cD (bO 2 nZ (bC (mIx (aM 7) (mC (.int 1))) (bC (aM 3) cG)))) (bC (aK8 (mC (.int 1))) cG))))) (bN (mIx (aM 7) (mC (.int 1))) kJ)))))
  mNx)
  lV)
def lR:MS:=
 (cC (mIf (tE (a6C (dM (mEq (aM 8) (mC (.int 1)))) (dM (mNe (aM 5) (cD (a6B kJ))))))
  (dW 7 (cH (a8Z [true] (wU (bN (mIx (aM 7) (mC (.int 0))) (bN (mIx (mIx (aM 5) (cD (bW penF 2 gB 0 (bC (a6Z (aM 5)) cG)))) (mC (.int 1))) kJ))))))
  mNx)
  lU)
def rJ:MS:=
 (cC (dW 7 (cH (wU (bN (cD (bW penF 2 dD 0 (bC (aM 1) cG))) (bN (cD (bW penF 2 dD 0 (bC (aM 1) cG))) kJ)))))
  (cC (dW 8 (cH (cD (bW penF 2 gB 0 (bC (mC (.int 8)) cG)))))
  (cC (mIf (tE (a6C (dM (mEq (aM 8) (mC (.int 0)))) (dM (mNe (aM 5) (cD (a6B kJ))))))
  (dW 7 (cH (a8Z [true] (mIx (aM 5) (cD (bW penF 2 gB 0 (bC (a6Z (aM 5)) cG)))))))
  mNx)
  lR)))
def lZ:MS:=
 (cC (dW 5 (a6B kJ))
  (cC (aB4 (a4Z (bN (aM 4) kJ)) (gN 6)
  rJ)
  rO))
def rZ:MS:=
 (cC (dW 1 (cH (mIx (cD (a6B (bN (mC (.int 0)) (bN (mC (.int 1)) (bN (mC (.int 0)) (bN (mC (.int 2)) (bN (mC (.int 0)) (bN (mC (.int 1)) kJ)))))))) (cD (bW penF 2 gB 0 (bC (mC (.int 6)) cG))))))
  (cC (dW 2 (cH (cD (bW penF 2 dD 0 (bC (mC (.int 0)) cG)))))
  (cC (dW 3 (cH (cD (bW penF 2 dD 0 (bC (mC (.int 0)) cG)))))
  (cC (dW 4 (cH (cD (bW penF 2 gB 0 (bC (mC (.int 7)) cG)))))
  (cC (mIf (a6C (dM (mEq (cD (bW penF 2 gB 0 (bC (mC (.int 8)) cG))) (mC (.int 7)))) (dM (mLt (aM 1) (mC (.int 2)))))
  (dW 4 (cH (mC (.int 10))))
  mNx)
  lZ)))))
def nR:Lm Nat:=aA3 penF 8 rZ
def a00:MS:=
 (cC (dW 2 (cH (cD (bO 3 jM (bC (mIx (aM 1) (mC (.int 0))) (bC (mIx (aM 0) (mC (.int 0))) (bC (aK8 (mC (.int 1))) cG)))))))
  (cC (dW 3 (cH (cD (bO 3 jM (bC (mIx (aM 0) (mC (.int 1))) (bC (mIx (aM 1) (mC (.int 1))) (bC (aK8 (mC (.int 1))) cG)))))))
  (gZ (bO 2 cQ (bC (xJ (mIx (aM 2) (mC (.int 0))) (mIx (aM 3) (mC (.int 1)))) (bC (xJ (mIx (aM 2) (mC (.int 1))) (mIx (aM 3) (mC (.int 0)))) cG))))))
def uT:Fm:=mFn 2 a00
def wI:MS:=
 (gZ (a4J 2))
def wL:MS:=
 (mIf (dM (cD (bO 2 gC (bC (mIx (mIx (aM 0) (aM 3)) (mC (.int 1))) (bC (mIx (mIx (aM 0) (aM 4)) (mC (.int 1))) cG)))))
  (cC (dW 5 (cH (cD (bO 2 uT (bC (mIx (aM 0) (aM 3)) (bC (mIx (aM 0) (aM 4)) cG))))))
  (mIf (dM (cD (bO 2 gC (bC (aM 1) (bC (aM 5) cG)))))
  (a8O 2 (aM 5) (wU (bN (aM 3) (bN (aM 4) kJ))))
  mNx))
  mNx)
def wO:MS:=
 (aB4 (a4Z (bN (a6Z (aM 0)) kJ)) (gN 4)
  wL)
def zF:MS:=
 (cC (dW 2 a8X)
  (cC (aB4 (a4Z (bN (a6Z (aM 0)) kJ)) (gN 3)
  wO)
  wI))
def tO:Fm:=mFn 4 zF
def jV:MS:=
 (gZ (cH (mEq (a90 3) (a90 2))))
def lA:MS:=
 (aD7 4 (cD (a6B (bN (aM 8) (bN (aM 7) kJ)))) (pSo (aM 9)) (pSo (a7X (aM 9) (mC (.int 2)))))
def kY:MS:=
 (cC (a8O 3 (mC (.bool true)) (wU (bN (aM 7) (bN (aM 8) kJ))))
  (cC (dW 9 (cH (aJO (aBD (aM 4) (aM 7)))))
  (cC (mIf (tE (dM (mNe (cD (aN3 (aM 4) (pSo (a7X (aM 9) (mC (.int 1)))) (pSo (a7X (aM 9) (mC (.int 2)))))) (cD (a6B (bN (aM 8) kJ))))))
  (gZ (cH (mC (.bool false))))
  mNx)
  lA)))
def g8:MS:=
 (cC (aNT (mIx (aM 1) (aM 5)) (gT 3 (zG (gN 6) (zG (gN 7) (zG (gN 8) aG9)))))
  (cC (mIf (mOr (dM (aB8 false 3 (wU (bN (aM 7) (bN (aM 8) kJ))))) (mOr (dM (aB8 true 2 (wU (bN (aM 7) (bN (aM 8) kJ))))) (dM (mNe (aB6 2 (wU (bN (aM 7) (bN (aM 8) kJ)))) (aM 6)))))
  (gZ (cH (mC (.bool false))))
  mNx)
  kY))
def jQ:MS:=
 (cC (mIf (mOr (aB5 (dM (aMT "tuple" (mIx (aM 1) (aM 5))))) (mOr (dM (mNe (a6Z (mIx (aM 1) (aM 5))) (mC (.int 3)))) (a6C (dM (mGt (aM 5) (mC (.int 0)))) (dM (cD (bO 2 gC (bC (mIx (mIx (aM 1) (aM 5)) (mC (.int 0))) (bC (mIx (mIx (aM 1) (aGY (aM 5) (mC (.int 1)))) (mC (.int 0))) cG))))))))
  (gZ (cH (mC (.bool false))))
  mNx)
  g8)
def j5:MS:=
 (cC (dW 3 a8X)
  (cC (dW 4 (sW (aM 0)))
  (cC (aB4 (a4Z (bN (a6Z (aM 1)) kJ)) (gN 5)
  jQ)
  jV)))
def fV:Fm:=mFn 7 j5
def cW (c:Addr):MS:=
 (sV (bD c) (a4J 1))
def fJ (c:Addr):MS:=
 (cC (rP 1 (aM 2))
  (dW 2 (cH (cD (bW (bD c) 1 (qY c) 0 cG)))))
def kE (c:Addr):MS:=
 (cC (dW 1 (a6B kJ))
  (cC (dW 2 (cH (cD (bW (bD c) 1 (qY c) 0 cG))))
  (cC (uQ (tE (a6C (dM (a0A (aM 2))) (dM (mLt (a6Z (aM 1)) (mC (.int 50))))))
  (fJ c))
  (cW c))))
def f9 (c:Addr):Lm WS:=aA3 (bD c) 2 (kE c)
def oG:MS:=
 (gZ (cH (aM 0)))
def oV:MS:=
 (cC (dW 3 (cH (cD (bO 2 cQ (bC (a7X (a7Z (xJ (mIx (aM 0) (mC (.int 0))) (aM 2)) (mIx (aM 0) (mC (.int 1)))) (mC (.int 1))) (bC (aM 2) cG))))))
  (mIf (a6C (dM (cD (bO 2 gC (bC (aM 3) (bC (aM 1) cG))))) (dM (mLt (aH2 (mIx (aM 3) (mC (.int 0)))) (mC (.int 1000000000000000000)))))
  (gZ (cH (aM 3)))
  mNx))
def oE:MS:=
 (cC (aB4 (aP3 (wU (bN (mC (.int 1)) (bN (mC (.int 2)) (bN (mC (.int 7)) (bN (mC (.int 60)) (bN (mC (.int 997)) (bN (mC (.int 99991)) (bN (mC (.int 999983)) kJ))))))))) (gN 2)
  oV)
  oG)
def j8:Fm:=mFn 2 oE
def jE (c:Addr):MS:=
 (gZ (cH (mC .none)))
def eE (c:Addr):MS:=
 (dW 4 (cH (cD (aN8 (aM 4) (aM 9)))))
def cL (c:Addr):MS:=
 (cC (dW 9 (cH (cD (bW (bD c) 2 (zW c) 3 (bC (mIx (aM 7) (mC (.int 1))) cG)))))
  (cC (mIf (dM (mEq (aM 9) (cD (a6B kJ))))
  (gZ (cH (mC .none)))
  mNx)
  (eE c)))
def cJ (c:Addr):MS:=
 (cC (dW 8 (cH (cD (bO 2 j8 (bC (aM 6) (bC (mIx (aM 7) (mC (.int 1))) cG))))))
  (cC (mIf (mOr (dM (mNe (cD (bO 2 cM (bC (aM 0) (bC (aM 8) cG)))) (mIx (aM 7) (mC (.int 0))))) (dM (mNe (cD (bW (bD c) 2 (zW c) 3 (bC (aM 8) cG))) (cD (a6B kJ)))))
  (gZ (cH (mC .none)))
  mNx)
  (cL c)))
def eG (c:Addr):MS:=
 (cC (mIf (dM (aF3 (mIx (aM 7) (mC (.int 1)))))
  (gZ (cH (aM 4)))
  mNx)
  (cJ c))
def eF (c:Addr):MS:=
 (cC (mIf (mOr (dM (aF3 (aM 7))) (dM (mNe (mIx (aM 7) (mC (.int 0))) (cD (bW (bD c) 1 (fD c) 3 cG)))))
  (gZ (cH (mC .none)))
  mNx)
  (eG c))
def dX (c:Addr):MS:=
 (cC (dW 6 (cH (cD (bW (bD c) 1 (qK c) 3 cG))))
  (cC (dW 7 (cH (cD (bO 3 a3K (bC (aM 0) (bC (aM 6) (bC (cD (bO 2 jT (bC (aM 0) (bC (aM 6) cG)))) cG)))))))
  (cC (mIf (mOr (dM (mNe (cD (bW (bD c) 1 (q8 c) 3 cG)) (cD (bO 2 jT (bC (aM 0) (bC (aM 6) cG)))))) (dM (mNe (cD (bW (bD c) 1 (fD c) 3 cG)) (cD (bO 2 cM (bC (aM 0) (bC (aM 6) cG)))))))
  (gZ (cH (mC .none)))
  mNx)
  (eF c))))
def dF (c:Addr):MS:=
 (cC (dW 3 (a5I c cM (aM 0) (aM 1)))
  (cC (dW 4 (cH (cD (a6B kJ))))
  (cC (aB4 (a4Z (bN (a7X (aM 2) (mC (.int 1))) kJ)) (gN 5)
  (dX c))
  (jE c))))
def c7 (c:Addr):Fm:=mFn 7 (dF c)
def a1E (c:Addr):MS:=
 (gZ (cH (mEq (cD (bO 3 (c7 c) (bC (cD (sW (aM 2))) (bC (aM 3) (bC (a6Z (aM 7)) cG))))) (aM 7))))
def vC (c:Addr):MS:=
 (cC (dW 12 (a5I c cM (cD (sW (aM 2))) (aM 3)))
  (cC (mIf (mOr (dM (mNe (cD (bW (bD c) 2 (zW c) 12 (bC (aM 11) cG))) (aM 7))) (mOr (dM (mNe (cD (bW (bD c) 1 (fD c) 12 cG)) (cD (bW (bD c) 1 (fD c) 5 cG)))) (dM (mNe (cD (bW (bD c) 1 (qK c) 12 cG)) (aM 11)))))
  (gZ (cH (mC (.bool false))))
  mNx)
  (a1E c)))
def qJ (c:Addr):MS:=
 (cC (dW 11 (cH (mIx (mIx (cD (aN8 (cD (a6B (bN (wU (bN (aM 3) (bN (mC (.int 0)) (bN (mC (.int 0)) kJ)))) kJ))) (aM 7))) (aK8 (mC (.int 1)))) (mC (.int 0)))))
  (cC (mIf (a6C (dM (mEq (cD (bW penF 2 gB 1 (bC (mC (.int 2)) cG))) (mC (.int 0)))) (dM (mLt (aH2 (mIx (aM 11) (mC (.int 0)))) (mC (.int 1000000000000000)))))
  (dW 11 (cH (wU (bN (a7X (a7X (a7Z (mIx (aM 11) (mC (.int 0))) (mIx (aM 11) (mC (.int 1)))) (mC (.int 1))) (cD (bW penF 2 gB 1 (bC (mC (.int 3)) cG)))) (bN (mC (.int 1)) kJ)))))
  mNx)
  (vC c)))
def a1R (c:Addr):MS:=
 (mIf (dM (cD (bO 2 gC (bC (mIx (aM 8) (aGY (aM 10) (mC (.int 1)))) (bC (mIx (aM 8) (aM 10)) cG)))))
  (gZ (cH (mC (.bool false))))
  mNx)
def v6 (c:Addr):MS:=
 (cC (dW 8 (cH (cD (a4R 1 [2] (aGH (cD (bW (bD c) 1 (fD c) 5 cG))) (gN 0) vA (mIx (mIx (aM 1) (aM 0)) (mC (.int 1)))))))
  (cC (aB4 (aK1 (bN (mC (.int 1)) (bN (a6Z (aM 8)) kJ))) (gN 10)
  (a1R c))
  (qJ c)))
def zK (c:Addr):MS:=
 (cC (dW 2 (cH (cD (bW penF 1 nR 1 cG))))
  (cC (dW 3 (cH (cD (bW penF 2 dD 1 (bC (cD (bW penF 2 gB 1 (bC (mC (.int 2)) cG))) cG)))))
  (cC (aI1 4 (bO 2 tO (bC (aM 2) (bC (aM 3) cG))))
  (cC (dW 5 (a5I c cM (cD (sW (aM 2))) (aM 3)))
  (cC (dW 6 (cH (cD (bW (bD c) 1 (fD c) 5 cG))))
  (cC (dW 7 (cH (cD (bW (bD c) 1 (f9 c) 5 cG))))
  (cC (mIf (aB5 (dM (cD (bO 3 fV (bC (aM 6) (bC (aM 7) (aPb 4 cG)))))))
  (gZ (cH (mC (.bool false))))
  mNx)
  (v6 c))))))))
section
variable (P0:Addr→Hp→Prop)(P:Program)(w:World)(K:Fg)(mg:Mg)(base:Heap)
abbrev gM:Prop:=Cal P w K mg base 1 "greatest_divisor" ["one", "other"] (spM P0 2 eN)
abbrev mF:Prop:=Cal P w K mg base 1 "is_whole" ["thing"] (spM P0 1 jK)
abbrev dN:Prop:=Cal P w K mg base 2 "number_of" ["top", "bottom"] (spM P0 2 fZ)
abbrev a2T:Prop:=Cal P w K mg base 3 "sum_of" ["a", "b"] (spM P0 2 xY)
abbrev oX:Prop:=Cal P w K mg base 3 "product_of" ["a", "b"] (spM P0 2 lD)
abbrev nW:Prop:=Cal P w K mg base 3 "quotient_of" ["a", "b"] (spM P0 2 jG)
abbrev jZ:Prop:=Cal P w K mg base 3 "difference_of" ["a", "b"] (spM P0 2 eZ)
abbrev vQ:Prop:=Cal P w K mg base 4 "place_at" ["line", "time"] (spM P0 2 qP)
abbrev cR:Prop:=Cal P w K mg base 1 "is_less" ["a", "b"] (spM P0 2 eU)
abbrev fL:Prop:=Cal P w K mg base 2 "stands_ahead" ["one", "other"] (spM P0 2 fP)
abbrev mJ:Prop:=Cal P w K mg base 5 "standing" ["lines", "runner", "time"] (spM P0 3 jL)
abbrev zJ:Prop:=Cal P w K mg base 4 "meeting" ["one", "other"] (spM P0 2 tZ)
abbrev o9:Prop:=Cal P w K mg base 6 "order_among" ["lines", "runners", "time"] (spM P0 3 jF)
abbrev gR:Prop:=Cal P w K mg base 5 "next_change" ["lines", "one", "other", "time"] (spM P0 4 gO)
abbrev m8:Prop:=Cal P w K mg base 6 "is_ahead" ["lines", "one", "other", "time"] (spM P0 4 mW)
abbrev o7:Prop:=Cal P w K mg base 7 "stays_ahead" ["lines", "one", "other", "time", "till"] (spM P0 5 jJ)
abbrev rR:Prop:=Cal P w K mg base 2 "is_runner" ["lines", "thing"] (spM P0 2 jW)
abbrev iY:Prop:=Cal P w K mg base 1 "neighbours" ["order"] (spM P0 1 iW)
abbrev a04:Prop:=Cal P w K mg base 7 "till_of" ["lines", "one", "other", "time"] (spM P0 4 u5)
abbrev dR:Prop:=Cal P w K mg base 8 "papers_among" ["lines", "order", "time"] (spM P0 3 dU)
abbrev iC:Prop:=Cal P w K mg base 7 "order_at" ["lines", "time"] (spM P0 2 cM)
abbrev fC:Prop:=Cal P w K mg base 2 "first_to_fail" ["papers"] (spM P0 1 cZ)
abbrev vK:Prop:=Cal P w K mg base 8 "is_right" ["lines", "time", "paper"] (spM P0 3 qL)
abbrev zL:Prop:=Cal P w K mg base 9 "fail_next" ["lines", "order", "time", "limit"] (aKB P0 lstF 1 4 nM)
abbrev bZ:Prop:=Cal P w K mg base 1 "_law_lowest" ["_law_top", "_law_bottom"] (spM P0 2 cQ)
abbrev fB:Prop:=Cal P w K mg base 1 "_law_take" ["_law_pen_here", "_law_many"] (spL P0 penF 2 gB)
abbrev w5:Prop:=Cal P w K mg base 2 "_law_far" ["_law_pen_here", "_law_parts"] (spL P0 penF 2 uN)
abbrev jO:Prop:=Cal P w K mg base 2 "_law_plus" ["_law_a", "_law_b", "_law_sign"] (spM P0 3 jM)
abbrev pG:Prop:=Cal P w K mg base 2 "_law_times" ["_law_a", "_law_b"] (spM P0 2 nZ)
abbrev j9:Prop:=Cal P w K mg base 3 "_law_number" ["_law_pen_here", "_law_kind"] (spL P0 penF 2 dD)
abbrev eV:Prop:=Cal P w K mg base 1 "_law_less" ["_law_a", "_law_b"] (spM P0 2 gC)
abbrev vO:Prop:=Cal P w K mg base 3 "_law_met" ["_law_one", "_law_other"] (spM P0 2 uT)
abbrev rK:Prop:=Cal P w K mg base 2 "_law_between" ["_law_low", "_law_high"] (spM P0 2 j8)
abbrev yO:Prop:=Cal P w K mg base 9 "papers_at" ["lines", "time"] (spM P0 2 jT)
abbrev aE1:Prop:=Cal P w K mg base 9 "shown" ["lines", "time", "papers"] (spM P0 3 a3K)
abbrev mO (c:Addr):Prop:=Cal P w K mg base 12 "_law_from_till_to_till" ["_law_lines_here", "_law_time", "_law_most"] (spM P0 3 (c7 c))
abbrev m9:Prop:=Cal P w K mg base 2 "_law_told_right" ["_law_order", "_law_told", "_law_due_here"] (spM P0 3 fV)
abbrev wW (c:Addr):Prop:=Cal P w K mg base 12 "_law_all_steps" ["_law_walk"] (spL P0 (bD c) 1 (f9 c))
abbrev wD:Prop:=Cal P w K mg base 4 "_law_lines" ["_law_pen_here"] (spL P0 penF 1 nR)
abbrev a0V:Prop:=Cal P w K mg base 4 "_law_due" ["_law_lines_here", "_law_time"] (spM P0 2 tO)
end
theorem scM {N ps:List Str}{sc:Scope}(a:sc.kind=.function:=by rfl)(b:sc.isCoroutine=false:=by rfl)(c:sc.isGenerator=false:=by rfl)(d:N.Nodup:=by decide +kernel)(e:N.take ps.length=ps:=by rfl)(f:∀ x∈ps,sc.names.lookup x=some .local∨sc.names.lookup x=some .cell:=by decide +kernel)(g:∀ y∈sc.names,y.2≠.free:=by decide +kernel):FnScope N ps sc:=⟨a,b,c,d,e,f,g⟩
set_option hygiene false in
local macro_rules|`(tactic| walk_at "lc")=>`(tactic| first|exact Or.inl rfl|exact Or.inr rfl)
section
variable {P0:Addr→Hp→Prop}{P:Program}{w:World}{K:Fg}{mg:Mg}{base:Heap}{f:Addr}{fd:FuncData}
abbrev qT:Stmt:=top 5
theorem a6L:FnScope ["thing"] ["thing"] (aN qT):=scM
theorem a7A  (F:Fun K "is_whole" "is_whole" qT f fd)(B:Bl K mg)(Kt:Kit K) :
  FnOk P w K mg base CX0 1 f fd ["thing"] (spM P0 1 jK):=
 F.okV a6L rfl rfl fun cdv A outer s H E hr=>
 have hu:=hr.units
 ⟨_,(aK (aZ (aDL (bQ a2V rfl B.isinstance_ boot_isinstance (aA (pv 0) (aA (a6D (v:=.ty "int") rfl B.int_ boot_int rfl) aF))) (a8R (aGU (bQ a2V rfl B.isinstance_ boot_isinstance (aA (pv 0) (aA (a6D (v:=.ty "bool") rfl B.bool_ boot_bool rfl) aF)))))))),
  ((bK (aR (aDO (aBR Kt (by decide) aB) (aGZ (aBR Kt (by decide) aB))))):VS P0 _ v8)⟩
abbrev dY:Stmt:=top 6
theorem sc_greatest_divisor:FnScope ["one", "other", "divisor", "rest", "left_over"] ["one", "other"] (aN dY):=scM
theorem sU  (F:Fun K "greatest_divisor" "greatest_divisor" dY f fd)(B:Bl K mg)(Kt:Kit K) :
  FnOk P w K mg base CX0 1 f fd ["one", "other"] (spM P0 2 eN):=
 F.okV sc_greatest_divisor rfl rfl fun cdv A outer s H E hr=>
 have hu:=hr.units
 ⟨_,(aD (aY (i:=2) sc_greatest_divisor.nd rfl (by walk_at "lc") (bQ qF rfl B.abs_ boot_abs (aA (pv 0) aF)))
   (aD (aY (i:=3) sc_greatest_divisor.nd rfl (by walk_at "lc") (bQ qF rfl B.abs_ boot_abs (aA (pv 1) aF)))
   (aD (uJ PassesOwn.never (bA (j6 hu) (pv 3) aC (bF _)) (aD (aY (i:=4) sc_greatest_divisor.nd rfl (by walk_at "lc") (bJ p8 (pv 2) (pv 3)))
   (aD (aY (i:=2) sc_greatest_divisor.nd rfl (by walk_at "lc") (pv 3))
   (aK (aY (i:=3) sc_greatest_divisor.nd rfl (by walk_at "lc") (pv 4))))))
   (aK (aZ (pv 2)))))),
  ((aO (b8 (aR (a0T aB)))
   (aO (b8 (aR (a0T aB)))
   (aO (uP (bB (rB aB aG)) (aO (b8 (aR (aH5 aB aB)))
   (aO (b8 (aR aB))
   (b8 (aR aB)))))
   (bK (aR aB))))):VS P0 _ gW)⟩
abbrev mZ:Stmt:=top 7
theorem sc_number_of:FnScope ["top", "bottom", "divisor"] ["top", "bottom"] (aN mZ):=scM
theorem a4H  (F:Fun K "number_of" "number_of" mZ f fd)(B:Bl K mg)(Kt:Kit K)
  (c_greatest_divisor:gM P0 P w K mg base)
  (c_is_whole:mF P0 P w K mg base) :
  FnOk P w K mg base CX0 2 f fd ["top", "bottom"] (spM P0 2 fZ):=
 F.okV sc_number_of rfl rfl fun cdv A outer s H E hr=>
 have hu:=hr.units
 ⟨_,(aD (cT (PW.pt (uM (rH (fK (aJ c_is_whole hr rfl (aA (pv 0) aF)))) (uM (rH (fK (aJ c_is_whole hr rfl (aA (pv 1) aF)))) (tQ (bA (lE hu) (pv 1) aC (bF _)))))) (aK a9I) bL)
   (aD (aY (i:=2) sc_number_of.nd rfl (by walk_at "lc") (aJ c_greatest_divisor hr rfl (aA (pv 0) (aA (pv 1) aF))))
   (aD (cT (bA vN (pv 1) aC (bF _)) (aK (aY (i:=2) sc_number_of.nd rfl (by walk_at "lc") (aC7 a4U (pv 2)))) bL)
   (aK (aZ (dZ (aA (bJ qQ (pv 0) (pv 2)) (aA (bJ qQ (pv 1) (pv 2)) aF)))))))),
  ((aO (dG (lC (lO (jY (aP (aW (aH aB aQ))))) (lC (lO (jY (aP (aW (aH aB aQ))))) (bB (uW aB aG)))) a99 dH)
   (aO (b8 (aR (aP (aW (aH aB (aH aB aQ))))))
   (aO (dG (bB (yC aB aG)) (b8 (aR (a5Y aB))) dH)
   (bK (aR (eY (aU (v4 aB aB) (aU (v4 aB aB) bV)))))))):VS P0 _ rT)⟩
abbrev xR:Stmt:=top 8
theorem aE7:FnScope ["a", "b"] ["a", "b"] (aN xR):=scM
theorem aCV  (F:Fun K "sum_of" "sum_of" xR f fd)(B:Bl K mg)(Kt:Kit K)
  (c_number_of:dN P0 P w K mg base) :
  FnOk P w K mg base CX0 3 f fd ["a", "b"] (spM P0 2 xY):=
 F.okV aE7 rfl rfl fun cdv A outer s H E hr=>
 have hu:=hr.units
 ⟨_,(aK (aZ (aJ c_number_of hr rfl (aA (bJ eQ (bJ bT (aV aL (pv 0) aC (fun _ _=>rfl)) (aV aL (pv 1) aC (fun _ _=>rfl))) (bJ bT (aV aL (pv 1) aC (fun _ _=>rfl)) (aV aL (pv 0) aC (fun _ _=>rfl)))) (aA (bJ bT (aV aL (pv 0) aC (fun _ _=>rfl)) (aV aL (pv 1) aC (fun _ _=>rfl))) aF))))),
  ((bK (aW (aH (lL (eO (aX aB aG) (aX aB aG)) (eO (aX aB aG) (aX aB aG))) (aH (eO (aX aB aG) (aX aB aG)) aQ)))):VS P0 _ a3O)⟩
abbrev gD:Stmt:=top 9
theorem wY:FnScope ["a", "b"] ["a", "b"] (aN gD):=scM
theorem wR  (F:Fun K "difference_of" "difference_of" gD f fd)(B:Bl K mg)(Kt:Kit K)
  (c_number_of:dN P0 P w K mg base) :
  FnOk P w K mg base CX0 3 f fd ["a", "b"] (spM P0 2 eZ):=
 F.okV wY rfl rfl fun cdv A outer s H E hr=>
 have hu:=hr.units
 ⟨_,(aK (aZ (aJ c_number_of hr rfl (aA (bJ wC (bJ bT (aV aL (pv 0) aC (fun _ _=>rfl)) (aV aL (pv 1) aC (fun _ _=>rfl))) (bJ bT (aV aL (pv 1) aC (fun _ _=>rfl)) (aV aL (pv 0) aC (fun _ _=>rfl)))) (aA (bJ bT (aV aL (pv 0) aC (fun _ _=>rfl)) (aV aL (pv 1) aC (fun _ _=>rfl))) aF))))),
  ((bK (aW (aH (yF (eO (aX aB aG) (aX aB aG)) (eO (aX aB aG) (aX aB aG))) (aH (eO (aX aB aG) (aX aB aG)) aQ)))):VS P0 _ kZ)⟩
abbrev lH:Stmt:=top 10
theorem a2E:FnScope ["a", "b"] ["a", "b"] (aN lH):=scM
theorem a3Q  (F:Fun K "product_of" "product_of" lH f fd)(B:Bl K mg)(Kt:Kit K)
  (c_number_of:dN P0 P w K mg base) :
  FnOk P w K mg base CX0 3 f fd ["a", "b"] (spM P0 2 lD):=
 F.okV a2E rfl rfl fun cdv A outer s H E hr=>
 have hu:=hr.units
 ⟨_,(aK (aZ (aJ c_number_of hr rfl (aA (bJ bT (aV aL (pv 0) aC (fun _ _=>rfl)) (aV aL (pv 1) aC (fun _ _=>rfl))) (aA (bJ bT (aV aL (pv 0) aC (fun _ _=>rfl)) (aV aL (pv 1) aC (fun _ _=>rfl))) aF))))),
  ((bK (aW (aH (eO (aX aB aG) (aX aB aG)) (aH (eO (aX aB aG) (aX aB aG)) aQ)))):VS P0 _ pK)⟩
abbrev jD:Stmt:=top 11
theorem a0L:FnScope ["a", "b"] ["a", "b"] (aN jD):=scM
theorem a07  (F:Fun K "quotient_of" "quotient_of" jD f fd)(B:Bl K mg)(Kt:Kit K)
  (c_number_of:dN P0 P w K mg base) :
  FnOk P w K mg base CX0 3 f fd ["a", "b"] (spM P0 2 jG):=
 F.okV a0L rfl rfl fun cdv A outer s H E hr=>
 have hu:=hr.units
 ⟨_,(aK (aZ (aJ c_number_of hr rfl (aA (bJ bT (aV aL (pv 0) aC (fun _ _=>rfl)) (aV aL (pv 1) aC (fun _ _=>rfl))) (aA (bJ bT (aV aL (pv 0) aC (fun _ _=>rfl)) (aV aL (pv 1) aC (fun _ _=>rfl))) aF))))),
  ((bK (aW (aH (eO (aX aB aG) (aX aB aG)) (aH (eO (aX aB aG) (aX aB aG)) aQ)))):VS P0 _ o6)⟩
abbrev uX:Stmt:=top 12
theorem a9W:FnScope ["a", "b"] ["a", "b"] (aN uX):=scM
theorem aAU  (F:Fun K "is_less" "is_less" uX f fd)(B:Bl K mg)(Kt:Kit K) :
  FnOk P w K mg base CX0 1 f fd ["a", "b"] (spM P0 2 eU):=
 F.okV a9W rfl rfl fun cdv A outer s H E hr=>
 have hu:=hr.units
 ⟨_,(aK (aZ (pA vN (bJ bT (aV aL (pv 0) aC (fun _ _=>rfl)) (aV aL (pv 1) aC (fun _ _=>rfl))) (bJ bT (aV aL (pv 1) aC (fun _ _=>rfl)) (aV aL (pv 0) aC (fun _ _=>rfl))) (bF _)))),
  ((bK (aR (yC (eO (aX aB aG) (aX aB aG)) (eO (aX aB aG) (aX aB aG))))):VS P0 _ yW)⟩
abbrev qZ:Stmt:=top 14
theorem a6T:FnScope ["line", "time"] ["line", "time"] (aN qZ):=scM
theorem a6W  (F:Fun K "place_at" "place_at" qZ f fd)(B:Bl K mg)(Kt:Kit K)
  (c_sum_of:a2T P0 P w K mg base)
  (c_product_of:oX P0 P w K mg base) :
  FnOk P w K mg base CX0 4 f fd ["line", "time"] (spM P0 2 qP):=
 F.okV a6T rfl rfl fun cdv A outer s H E hr=>
 have hu:=hr.units
 ⟨_,(aK (aZ (aJ c_sum_of hr rfl (aA (aV aL (pv 0) aC (fun _ _=>rfl)) (aA (aJ c_product_of hr rfl (aA (aV aL (pv 0) aC (fun _ _=>rfl)) (aA (pv 1) aF))) aF))))),
  ((bK (aW (aH (aX aB aG) (aH (aP (aW (aH (aX aB aG) (aH aB aQ)))) aQ)))):VS P0 _ vI)⟩
abbrev tR:Stmt:=top 15
theorem sc_meeting:FnScope ["one", "other", "gap", "closing"] ["one", "other"] (aN tR):=scM
theorem a9P  (F:Fun K "meeting" "meeting" tR f fd)(B:Bl K mg)(Kt:Kit K)
  (c_quotient_of:nW P0 P w K mg base)
  (c_difference_of:jZ P0 P w K mg base) :
  FnOk P w K mg base CX0 4 f fd ["one", "other"] (spM P0 2 tZ):=
 F.okV sc_meeting rfl rfl fun cdv A outer s H E hr=>
 have hu:=hr.units
 ⟨_,(aD (cT (bA (lE hu) (aV aL (pv 0) aC (fun _ _=>rfl)) (aV aL (pv 1) aC (fun _ _=>rfl)) (bF _)) (aK (aZ (a9M (bA (lE hu) (aV aL (pv 0) aC (fun _ _=>rfl)) (aV aL (pv 1) aC (fun _ _=>rfl)) (bF _)) (dZ (aA a9D aF)) (dZ (aA a9D aF))))) bL)
   (aD (aY (i:=2) sc_meeting.nd rfl (by walk_at "lc") (aJ c_difference_of hr rfl (aA (aV aL (pv 1) aC (fun _ _=>rfl)) (aA (aV aL (pv 0) aC (fun _ _=>rfl)) aF))))
   (aD (aY (i:=3) sc_meeting.nd rfl (by walk_at "lc") (aJ c_difference_of hr rfl (aA (aV aL (pv 0) aC (fun _ _=>rfl)) (aA (aV aL (pv 1) aC (fun _ _=>rfl)) aF))))
   (aK (aZ (dZ (aA a9D (aA (aJ c_quotient_of hr rfl (aA (pv 2) (aA (pv 3) aF))) aF)))))))),
  ((aO (dG (bB (uW (aX aB aG) (aX aB aG))) (bK (aKU (bB (uW (aX aB aG) (aX aB aG))) (aR (eY (aU a8U bV))) (aR (eY (aU a8U bV))))) dH)
   (aO (b8 (aR (aP (aW (aH (aX aB aG) (aH (aX aB aG) aQ))))))
   (aO (b8 (aR (aP (aW (aH (aX aB aG) (aH (aX aB aG) aQ))))))
   (bK (aR (eY (aU a8U (aU (aP (aW (aH aB (aH aB aQ)))) bV)))))))):VS P0 _ z6)⟩
abbrev pY:Stmt:=top 17
theorem a71:FnScope ["lines", "runner", "time"] ["lines", "runner", "time"] (aN pY):=scM
theorem a6X  (F:Fun K "standing" "standing" pY f fd)(B:Bl K mg)(Kt:Kit K)
  (c_place_at:vQ P0 P w K mg base) :
  FnOk P w K mg base CX0 5 f fd ["lines", "runner", "time"] (spM P0 3 jL):=
 F.okV a71 rfl rfl fun cdv A outer s H E hr=>
 have hu:=hr.units
 ⟨_,(aK (aZ (dZ (aA (aJ c_place_at hr rfl (aA (aV aL (pv 0) (pv 1) (fun _ _=>rfl)) (aA (pv 2) aF))) (aA (aV aL (aV aL (pv 0) (pv 1) (fun _ _=>rfl)) aC (fun _ _=>rfl)) (aA (pv 1) aF)))))),
  ((bK (aR (eY (aU (aP (aW (aH (aX aB aB) (aH aB aQ)))) (aU (aX (aX aB aB) aG) (aU aB bV)))))):VS P0 _ vB)⟩
abbrev iK:Stmt:=top 18
theorem zT:FnScope ["one", "other"] ["one", "other"] (aN iK):=scM
theorem zX  (F:Fun K "stands_ahead" "stands_ahead" iK f fd)(B:Bl K mg)(Kt:Kit K)
  (c_is_less:cR P0 P w K mg base) :
  FnOk P w K mg base CX0 2 f fd ["one", "other"] (spM P0 2 fP):=
 F.okV zT rfl rfl fun cdv A outer s H E hr=>
 have hu:=hr.units
 ⟨_,(aD (cT (bA (j6 hu) (aV aL (pv 0) aC (fun _ _=>rfl)) (aV aL (pv 1) aC (fun _ _=>rfl)) (bF _)) (aK (aZ (aJ c_is_less hr rfl (aA (aV aL (pv 1) aC (fun _ _=>rfl)) (aA (aV aL (pv 0) aC (fun _ _=>rfl)) aF))))) bL)
   (aD (cT (bA (j6 hu) (aV aL (pv 0) aC (fun _ _=>rfl)) (aV aL (pv 1) aC (fun _ _=>rfl)) (bF _)) (aK (aZ (aJ c_is_less hr rfl (aA (aV aL (pv 1) aC (fun _ _=>rfl)) (aA (aV aL (pv 0) aC (fun _ _=>rfl)) aF))))) bL)
   (aK (aZ (pA vN (aV aL (pv 0) aC (fun _ _=>rfl)) (aV aL (pv 1) aC (fun _ _=>rfl)) (bF _)))))),
  ((aO (dG (bB (rB (aX aB aG) (aX aB aG))) (bK (aW (aH (aX aB aG) (aH (aX aB aG) aQ)))) dH)
   (aO (dG (bB (rB (aX aB aG) (aX aB aG))) (bK (aW (aH (aX aB aG) (aH (aX aB aG) aQ)))) dH)
   (bK (aR (yC (aX aB aG) (aX aB aG)))))):VS P0 _ lX)⟩
abbrev qM:Stmt:=top 19
theorem a84:FnScope ["lines", "one", "other", "time"] ["lines", "one", "other", "time"] (aN qM):=scM
theorem a79  (F:Fun K "is_ahead" "is_ahead" qM f fd)(B:Bl K mg)(Kt:Kit K)
  (c_stands_ahead:fL P0 P w K mg base)
  (c_standing:mJ P0 P w K mg base) :
  FnOk P w K mg base CX0 6 f fd ["lines", "one", "other", "time"] (spM P0 4 mW):=
 F.okV a84 rfl rfl fun cdv A outer s H E hr=>
 have hu:=hr.units
 ⟨_,(aK (aZ (aJ c_stands_ahead hr rfl (aA (aJ c_standing hr rfl (aA (pv 0) (aA (pv 1) (aA (pv 3) aF)))) (aA (aJ c_standing hr rfl (aA (pv 0) (aA (pv 2) (aA (pv 3) aF)))) aF))))),
  ((bK (aW (aH (aP (aW (aH aB (aH aB (aH aB aQ))))) (aH (aP (aW (aH aB (aH aB (aH aB aQ))))) aQ)))):VS P0 _ vY)⟩
abbrev jA:Stmt:=top 20
theorem sc_next_change:FnScope ["lines", "one", "other", "time", "met"] ["lines", "one", "other", "time"] (aN jA):=scM
theorem a0P  (F:Fun K "next_change" "next_change" jA f fd)(B:Bl K mg)(Kt:Kit K)
  (c_is_less:cR P0 P w K mg base)
  (c_meeting:zJ P0 P w K mg base) :
  FnOk P w K mg base CX0 5 f fd ["lines", "one", "other", "time"] (spM P0 4 gO):=
 F.okV sc_next_change rfl rfl fun cdv A outer s H E hr=>
 have hu:=hr.units
 ⟨_,(aD (aY (i:=4) sc_next_change.nd rfl (by walk_at "lc") (aJ c_meeting hr rfl (aA (aV aL (pv 0) (pv 1) (fun _ _=>rfl)) (aA (aV aL (pv 0) (pv 2) (fun _ _=>rfl)) aF))))
   (aD (cT (PW.pt (mQ (bA (lE hu) (aV aL (pv 4) aC (fun _ _=>rfl)) a9D (bF _)) (iD (fK (aJ c_is_less hr rfl (aA (pv 3) (aA (aV aL (pv 4) aC (fun _ _=>rfl)) aF))))))) (aK (aZ (aV aL (pv 4) aC (fun _ _=>rfl)))) bL)
   (aK (aZ dB)))),
  ((aO (b8 (aR (aP (aW (aH (aX aB aB) (aH (aX aB aB) aQ))))))
   (aO (dG (iH (bB (uW (aX aB aG) a8U)) (jY (aP (aW (aH aB (aH (aX aB aG) aQ)))))) (bK (aR (aX aB aG))) dH)
   (bK (aR lG)))):VS P0 _ nP)⟩
abbrev o4:Stmt:=top 16
theorem a67:FnScope ["lines", "thing"] ["lines", "thing"] (aN o4):=scM
theorem a5K  (F:Fun K "is_runner" "is_runner" o4 f fd)(B:Bl K mg)(Kt:Kit K)
  (c_is_whole:mF P0 P w K mg base) :
  FnOk P w K mg base CX0 2 f fd ["lines", "thing"] (spM P0 2 jW):=
 F.okV a67 rfl rfl fun cdv A outer s H E hr=>
 have hu:=hr.units
 ⟨_,(aK (aZ (aDL (aJ c_is_whole hr rfl (aA (pv 1) aF)) (a8R (aFX aON vN aC (pv 1) (bQ bR rfl B.len_ boot_len (aA (pv 0) aF))))))),
  ((bK (aR (aDO (aP (aW (aH aB aQ))) (aGT aG aB (oN aB))))):VS P0 _ rY)⟩
abbrev gP:Stmt:=top 22
theorem sc_order_among:FnScope ["lines", "runners", "time", "order", "runner", "stand", "at"] ["lines", "runners", "time"] (aN gP):=scM
theorem a08  (F:Fun K "order_among" "order_among" gP f fd)(B:Bl K mg)(Kt:Kit K)
  (c_stands_ahead:fL P0 P w K mg base)
  (c_standing:mJ P0 P w K mg base) :
  FnOk P w K mg base CX0 6 f fd ["lines", "runners", "time"] (spM P0 3 jF):=
 F.okV sc_order_among rfl rfl fun cdv A outer s H E hr=>
 have hu:=hr.units
 ⟨_,(aD (aY (i:=3) sc_order_among.nd rfl (by walk_at "lc") (j7 aF))
   (aD (rM PassesOwn.never rfl (sH (pv 1)) (cX (i:=4) sc_order_among.nd rfl (by walk_at "lc")) (aD (aY (i:=5) sc_order_among.nd rfl (by walk_at "lc") (aJ c_standing hr rfl (aA (pv 0) (aA (pv 4) (aA (pv 2) aF)))))
   (aD (aY (i:=6) sc_order_among.nd rfl (by walk_at "lc") aC)
   (aD (uJ PassesOwn.never (PW.pt (mQ (bA vN (pv 6) (bQ bR rfl B.len_ boot_len (aA (pv 3) aF)) (bF _)) (iD (fK (aJ c_stands_ahead hr rfl (aA (aV aL (pv 3) (pv 6) (fun _ _=>rfl)) (aA (pv 5) aF))))))) (aK (aKK (i:=6) sc_order_among.nd rfl (by walk_at "lc") aC aLY)))
   (aK (a2X (aEI PySem.F.plainAttrs_list PySem.F.slot_list_insert PySem.F.type_list_insert aEN (pv 3) (aA (pv 6) (aA (pv 5) aF)))))))))
   (aK (aZ (tY (N:=["stand"]) (nt:=1) (fv:=[]) rfl (a0W (osc:=aN gP) (ON:=["lines", "runners", "time", "order", "runner", "stand", "at"]) (by decide +kernel)) (sH (pv 3)) (fun _ _ _ _=>(cX (i:=0) (show(["stand"]:List Str).Nodup by decide +kernel) rfl (by walk_at "lc"))) (fun _ _ _ _=>v9) (fun _ _ _ _=>(aV aL (pv 0) aC (fun _ _=>rfl)))))))),
  ((aO (b8 (lJ bV))
   (aO (rG (s8 aB) dC (aO (b8 (aR (aP (aW (aH aB (aH aB (aH aB aQ)))))))
   (aO (b8 (aR aG))
   (aO (uP (qD (iH (bB (yC aB (oN aB))) (jY (aP (aW (aH (aX aB aB) (aH aB aQ))))))) (aM8 aG))
   (aDT aB aB)))))
   (aME (bK (vU (s8 aB) dC qR (aX aB aG)))))):VS P0 _ nJ)⟩
abbrev qI:Stmt:=top 23
theorem a72:FnScope ["lines", "time"] ["lines", "time"] (aN qI):=scM
theorem a6N  (F:Fun K "order_at" "order_at" qI f fd)(B:Bl K mg)(Kt:Kit K)
  (c_order_among:o9 P0 P w K mg base) :
  FnOk P w K mg base CX0 7 f fd ["lines", "time"] (spM P0 2 cM):=
 F.okV a72 rfl rfl fun cdv A outer s H E hr=>
 have hu:=hr.units
 ⟨_,(aK (aZ (aJ c_order_among hr rfl (aA (pv 0) (aA (iU (a2N rfl) rfl B.list_ boot_list (aA (iU a4C rfl B.range_ boot_range (aA (bQ bR rfl B.len_ boot_len (aA (pv 0) aF)) aF)) aF)) (aA (pv 1) aF)))))),
  ((bK (aW (aH aB (aH (aP (aAS (oN aB))) (aH aB aQ))))):VS P0 _ v5)⟩
abbrev lM:Stmt:=top 24
theorem a3P:FnScope ["order"] ["order"] (aN lM):=scM
theorem a2K  (F:Fun K "neighbours" "neighbours" lM f fd)(B:Bl K mg)(Kt:Kit K) :
  FnOk P w K mg base CX0 1 f fd ["order"] (spM P0 1 iW):=
 F.okV a3P rfl rfl fun cdv A outer s H E hr=>
 have hu:=hr.units
 ⟨_,(aK (aZ (aAJ rfl rfl B.list_ rfl B.zip_ (aA (pv 0) (aA (a8C aCJ (pv 0) (yP aC) aK4) aF))))),
  ((bK (a9S aB (aP (aH7 aB (aBZ aG) aO6)))):VS P0 _ pR)⟩
abbrev jC:Stmt:=top 26
theorem sc_stays_ahead:FnScope ["lines", "one", "other", "time", "till", "change"] ["lines", "one", "other", "time", "till"] (aN jC):=scM
theorem a0N  (F:Fun K "stays_ahead" "stays_ahead" jC f fd)(B:Bl K mg)(Kt:Kit K)
  (c_is_less:cR P0 P w K mg base)
  (c_next_change:gR P0 P w K mg base)
  (c_is_ahead:m8 P0 P w K mg base) :
  FnOk P w K mg base CX0 7 f fd ["lines", "one", "other", "time", "till"] (spM P0 5 jJ):=
 F.okV sc_stays_ahead rfl rfl fun cdv A outer s H E hr=>
 have hu:=hr.units
 ⟨_,(aD (cT (rH (fK (aJ c_is_ahead hr rfl (aA (pv 0) (aA (pv 1) (aA (pv 2) (aA (pv 3) aF))))))) (aK (aZ a0C)) bL)
   (aD (aY (i:=5) sc_stays_ahead.nd rfl (by walk_at "lc") (aJ c_next_change hr rfl (aA (pv 0) (aA (pv 1) (aA (pv 2) (aA (pv 3) aF))))))
   (aK (aZ (aNQ (pA z8 (pv 5) dB (bF _)) (a8R (aDL (pA vZ (pv 4) dB (bF _)) (a8R (aGU (aJ c_is_less hr rfl (aA (pv 5) (aA (pv 4) aF)))))))))))),
  ((aO (dG (lO (jY (aP (aW (aH aB (aH aB (aH aB (aH aB aQ)))))))) (bK (aR a0J)) dH)
   (aO (b8 (aR (aP (aW (aH aB (aH aB (aH aB (aH aB aQ))))))))
   (bK (aR (aPD (zR aB) (aDO (vW aB) (aGZ (aP (aW (aH aB (aH aB aQ))))))))))):VS P0 _ oF)⟩
abbrev qO:Stmt:=top 27
theorem sc_is_right:FnScope ["lines", "time", "paper", "one", "other", "till"] ["lines", "time", "paper"] (aN qO):=scM
theorem a7D  (F:Fun K "is_right" "is_right" qO f fd)(B:Bl K mg)(Kt:Kit K)
  (c_stays_ahead:o7 P0 P w K mg base)
  (c_is_less:cR P0 P w K mg base)
  (c_is_runner:rR P0 P w K mg base) :
  FnOk P w K mg base CX0 8 f fd ["lines", "time", "paper"] (spM P0 3 qL):=
 F.okV sc_is_right rfl rfl fun cdv A outer s H E hr=>
 have hu:=hr.units
 ⟨_,(aD (aY (i:=3) sc_is_right.nd rfl (by walk_at "lc") (aV aL (pv 2) aC (fun _ _=>rfl)))
   (aD (aY (i:=4) sc_is_right.nd rfl (by walk_at "lc") (aV aL (pv 2) aC (fun _ _=>rfl)))
   (aD (aY (i:=5) sc_is_right.nd rfl (by walk_at "lc") (aV aL (pv 2) aC (fun _ _=>rfl)))
   (aD (cT (PW.pt (uM (rH (fK (aJ c_is_runner hr rfl (aA (pv 0) (aA (pv 3) aF))))) (uM (rH (fK (aJ c_is_runner hr rfl (aA (pv 0) (aA (pv 4) aF))))) (tQ (bA (lE hu) (pv 3) (pv 4) (bF _)))))) (aK (aZ a0C)) bL)
   (aD (cT (PW.pt (mQ (bA vZ (pv 5) dB (bF _)) (iD (rH (fK (aJ c_is_less hr rfl (aA (pv 1) (aA (pv 5) aF)))))))) (aK (aZ a0C)) bL)
   (aK (aZ (aJ c_stays_ahead hr rfl (aA (pv 0) (aA (pv 3) (aA (pv 4) (aA (pv 1) (aA (pv 5) aF))))))))))))),
  ((aO (b8 (aR (aX aB aG)))
   (aO (b8 (aR (aX aB aG)))
   (aO (b8 (aR (aX aB aG)))
   (aO (dG (lC (lO (jY (aP (aW (aH aB (aH aB aQ)))))) (lC (lO (jY (aP (aW (aH aB (aH aB aQ)))))) (bB (uW aB aB)))) (bK (aR a0J)) dH)
   (aO (dG (iH (bB (vW aB)) (lO (jY (aP (aW (aH aB (aH aB aQ))))))) (bK (aR a0J)) dH)
   (bK (aW (aH aB (aH aB (aH aB (aH aB (aH aB aQ)))))))))))):VS P0 _ vH)⟩
abbrev tX:Stmt:=top 28
theorem aAG:FnScope ["lines", "one", "other", "time"] ["lines", "one", "other", "time"] (aN tX):=scM
theorem aA8  (F:Fun K "till_of" "till_of" tX f fd)(B:Bl K mg)(Kt:Kit K)
  (c_next_change:gR P0 P w K mg base)
  (c_is_ahead:m8 P0 P w K mg base) :
  FnOk P w K mg base CX0 7 f fd ["lines", "one", "other", "time"] (spM P0 4 u5):=
 F.okV aAG rfl rfl fun cdv A outer s H E hr=>
 have hu:=hr.units
 ⟨_,(aD (cT (fK (aJ c_is_ahead hr rfl (aA (pv 0) (aA (pv 2) (aA (pv 1) (aA (pv 3) aF)))))) (aK (aZ (pv 3))) bL)
   (aK (aZ (aJ c_next_change hr rfl (aA (pv 0) (aA (pv 1) (aA (pv 2) (aA (pv 3) aF)))))))),
  ((aO (dG (jY (aP (aW (aH aB (aH aB (aH aB (aH aB aQ))))))) (bK (aR aB)) dH)
   (bK (aW (aH aB (aH aB (aH aB (aH aB aQ))))))):VS P0 _ zP)⟩
abbrev fO:Stmt:=top 29
theorem yJ:FnScope ["lines", "order", "time", "pair"] ["lines", "order", "time"] (aN fO):=scM
theorem zZ  (F:Fun K "papers_among" "papers_among" fO f fd)(B:Bl K mg)(Kt:Kit K)
  (c_neighbours:iY P0 P w K mg base)
  (c_till_of:a04 P0 P w K mg base) :
  FnOk P w K mg base CX0 8 f fd ["lines", "order", "time"] (spM P0 3 dU):=
 F.okV yJ rfl rfl fun cdv A outer s H E hr=>
 have hu:=hr.units
 ⟨_,(aK (aZ (tY (N:=["pair", "lines", "time"]) (nt:=1) (fv:=[0,2]) rfl (a0W (osc:=aN fO) (ON:=["lines", "order", "time", "pair"]) (by decide +kernel)) (sH (aJ c_neighbours hr rfl (aA (pv 1) aF))) (fun _ _ _ _=>(cX (i:=0) (show(["pair", "lines", "time"]:List Str).Nodup by decide +kernel) rfl (by walk_at "lc"))) (fun _ _ _ _=>v9) (fun _ _ _ _=>(dZ (aA (aV aL (pv 0) aC (fun _ _=>rfl)) (aA (aV aL (pv 0) aC (fun _ _=>rfl)) (aA (aJ c_till_of hr rfl (aA (pv 1) (aA (aV aL (pv 0) aC (fun _ _=>rfl)) (aA (aV aL (pv 0) aC (fun _ _=>rfl)) (aA (pv 2) aF))))) aF)))))))),
  ((bK (vU (s8 (aP (aW (aH aB aQ)))) dC qR (eY (aU (aX aB aG) (aU (aX aB aG) (aU (aP (aW (aH aB (aH (aX aB aG) (aH (aX aB aG) (aH aB aQ)))))) bV)))))):VS P0 _ m7)⟩
abbrev o8:Stmt:=top 30
theorem a5Z:FnScope ["lines", "time"] ["lines", "time"] (aN o8):=scM
theorem a4X  (F:Fun K "papers_at" "papers_at" o8 f fd)(B:Bl K mg)(Kt:Kit K)
  (c_papers_among:dR P0 P w K mg base)
  (c_order_at:iC P0 P w K mg base) :
  FnOk P w K mg base CX0 9 f fd ["lines", "time"] (spM P0 2 jT):=
 F.okV a5Z rfl rfl fun cdv A outer s H E hr=>
 have hu:=hr.units
 ⟨_,(aK (aZ (aJ c_papers_among hr rfl (aA (pv 0) (aA (aJ c_order_at hr rfl (aA (pv 0) (aA (pv 1) aF))) (aA (pv 1) aF)))))),
  ((bK (aW (aH aB (aH (aP (aW (aH aB (aH aB aQ)))) (aH aB aQ))))):VS P0 _ t6)⟩
abbrev gH:Stmt:=top 31
theorem sc_first_to_fail:FnScope ["papers", "told", "at", "paper"] ["papers"] (aN gH):=scM
theorem wX  (F:Fun K "first_to_fail" "first_to_fail" gH f fd)(B:Bl K mg)(Kt:Kit K)
  (c_is_less:cR P0 P w K mg base) :
  FnOk P w K mg base CX0 2 f fd ["papers"] (spM P0 1 cZ):=
 F.okV sc_first_to_fail rfl rfl fun cdv A outer s H E hr=>
 have hu:=hr.units
 ⟨_,(aD (aY (i:=1) sc_first_to_fail.nd rfl (by walk_at "lc") dB)
   (aD (rM PassesOwn.never rfl (aII rfl B.enumerate_ (aA (pv 0) aF)) (aH1 rfl (tU (cX (i:=2) sc_first_to_fail.nd rfl (by walk_at "lc")) (tU (cX (i:=3) sc_first_to_fail.nd rfl (by walk_at "lc")) aEQ))) (aK (cT (PW.pt (mQ (bA vZ (aV aL (pv 3) aC (fun _ _=>rfl)) dB (bF _)) (iD (PW.pt (uM (bA z8 (pv 1) dB (bF _)) (tQ (fK (aJ c_is_less hr rfl (aA (aV aL (pv 3) aC (fun _ _=>rfl)) (aA (aV aL (aV aL (pv 0) (pv 1) (fun _ _=>rfl)) aC (fun _ _=>rfl)) aF)))))))))) (aK (aY (i:=1) sc_first_to_fail.nd rfl (by walk_at "lc") (pv 2))) bL)))
   (aK (aZ (pv 1))))),
  ((aO (b8 (aR lG))
   (aO (rG (aJU aB) (aGX (tK dC (tK dC aD2))) (dG (iH (bB (vW (aX aB aG))) (lC (bB (zR aB)) (jY (aP (aW (aH (aX aB aG) (aH (aX (aX aB aB) aG) aQ))))))) (b8 (aR aB)) dH))
   (bK (aR aB)))):VS P0 _ gQ)⟩
abbrev sI:Stmt:=top 32
theorem sc_shown:FnScope ["lines", "time", "papers", "paper", "order", "pairs", "pair", "at"] ["lines", "time", "papers"] (aN sI):=scM
theorem aF5  (F:Fun K "shown" "shown" sI f fd)(B:Bl K mg)(Kt:Kit K)
  (c_first_to_fail:fC P0 P w K mg base)
  (c_neighbours:iY P0 P w K mg base)
  (c_order_at:iC P0 P w K mg base)
  (c_is_right:vK P0 P w K mg base) :
  FnOk P w K mg base CX0 9 f fd ["lines", "time", "papers"] (spM P0 3 a3K):=
 F.okV sc_shown rfl rfl fun cdv A outer s H E hr=>
 have hu:=hr.units
 ⟨_,(aD (cT (rH (fK (bQ (a5U rfl) rfl B.all_ boot_all (aA (tY (N:=["paper", "lines", "time"]) (nt:=1) (fv:=[0,1]) rfl (a0W (osc:=aN sI) (ON:=["lines", "time", "papers", "paper", "order", "pairs", "pair", "at"]) (by decide +kernel)) (sH (pv 2)) (fun _ _ _ _=>(cX (i:=0) (show(["paper", "lines", "time"]:List Str).Nodup by decide +kernel) rfl (by walk_at "lc"))) (fun _ _ _ _=>v9) (fun _ _ _ _=>(aJ c_is_right hr rfl (aA (pv 1) (aA (pv 2) (aA (pv 0) aF)))))) aF)))) (aK (aZ dB)) bL)
   (aD (aY (i:=4) sc_shown.nd rfl (by walk_at "lc") (aJ c_order_at hr rfl (aA (pv 0) (aA (pv 1) aF))))
   (aD (aY (i:=5) sc_shown.nd rfl (by walk_at "lc") (tY (N:=["paper"]) (nt:=1) (fv:=[]) rfl (a0W (osc:=aN sI) (ON:=["lines", "time", "papers", "paper", "order", "pairs", "pair", "at"]) (by decide +kernel)) (sH (pv 2)) (fun _ _ _ _=>(cX (i:=0) (show(["paper"]:List Str).Nodup by decide +kernel) rfl (by walk_at "lc"))) (fun _ _ _ _=>v9) (fun _ _ _ _=>(dZ (aA (aV aL (pv 0) aC (fun _ _=>rfl)) (aA (aV aL (pv 0) aC (fun _ _=>rfl)) aF))))))
   (aD (cT (rH (fK (bQ (a5U rfl) rfl B.all_ boot_all (aA (tY (N:=["pair", "pairs"]) (nt:=1) (fv:=[5]) rfl (a0W (osc:=aN sI) (ON:=["lines", "time", "papers", "paper", "order", "pairs", "pair", "at"]) (by decide +kernel)) (sH (aJ c_neighbours hr rfl (aA (pv 4) aF))) (fun _ _ _ _=>(cX (i:=0) (show(["pair", "pairs"]:List Str).Nodup by decide +kernel) rfl (by walk_at "lc"))) (fun _ _ _ _=>v9) (fun _ _ _ _=>(pA (aHC hu) (pv 0) (pv 1) (by with_unfolding_all rfl)))) aF)))) (aK (aZ dB)) bL)
   (aD (aY (i:=7) sc_shown.nd rfl (by walk_at "lc") (aJ c_first_to_fail hr rfl (aA (pv 2) aF)))
   (aK (aZ (dZ (aA (pv 4) (aA (a9M (bA z8 (pv 7) dB (bF _)) dB (aV aL (aV aL (pv 2) (pv 7) (fun _ _=>rfl)) aC (fun _ _=>rfl))) aF)))))))))),
  ((aO (dG (lO (jY (aHK (aP (vU (s8 aB) dC qR (aP (aW (aH aB (aH aB (aH aB aQ)))))))))) (bK (aR lG)) dH)
   (aO (b8 (aW (aH aB (aH aB aQ))))
   (aO (b8 (aR (aP (vU (s8 aB) dC qR (eY (aU (aX aB aG) (aU (aX aB aG) bV)))))))
   (aO (dG (qD (lO (jY (aHK (aP (vU (s8 (aP (aW (aH aB aQ)))) dC qR (aM5 aB aB))))))) (bK (aR lG)) dH)
   (aO (b8 (aR (aP (aW (aH aB aQ)))))
   (bK (aIA (aLF (bB (zR aB)) lG (aX (aX aB aB) aG))))))))):VS P0 _ a7G)⟩
abbrev oA:Stmt:=top 34
theorem sc_fail_next:FnScope ["lines", "order", "time", "limit", "papers", "at", "till"] ["lines", "order", "time", "limit"] (aN oA):=scM
theorem a3U  (F:Fun K "fail_next" "fail_next" oA f fd)(B:Bl K mg)(Kt:Kit K)
  (c_papers_among:dR P0 P w K mg base)
  (c_is_less:cR P0 P w K mg base)
  (c_first_to_fail:fC P0 P w K mg base) :
  FnOk P w K mg base CX0 9 f fd ["lines", "order", "time", "limit"] (aKB P0 lstF 1 4 nM):=
 F.okLj sc_fail_next rfl (by decide) rfl fun cdv A outer s H E hr=>
 have hu:=hr.units
 ⟨_,(aD (aY (i:=4) sc_fail_next.nd rfl (by walk_at "lc") (aJ c_papers_among hr rfl (aA (pv 0) (aA (pv 1) (aA (pv 2) aF)))))
   (aD (aY (i:=5) sc_fail_next.nd rfl (by walk_at "lc") (aJ c_first_to_fail hr rfl (aA (pv 4) aF)))
   (aD (cT (bA z8 (pv 5) dB (bF _)) (aK (aZ dB)) bL)
   (aD (aY (i:=6) sc_fail_next.nd rfl (by walk_at "lc") (aV aL (aV aL (pv 4) (pv 5) (fun _ _=>rfl)) aC (fun _ _=>rfl)))
   (aD (cT (PW.pt (mQ (bA vZ (pv 3) dB (bF _)) (iD (fK (aJ c_is_less hr rfl (aA (pv 3) (aA (pv 6) aF))))))) (aK (aZ dB)) bL)
   (aD (a1A (aV aL (aV aL (pv 4) (pv 5) (fun _ _=>rfl)) aC (fun _ _=>rfl)) (a8L (pv 1) (pv 5) set_list))
   (aD (a1A (aV aL (aV aL (pv 4) (pv 5) (fun _ _=>rfl)) aC (fun _ _=>rfl)) (a8L (pv 1) (bJ eQ (pv 5) aC) set_list))
   (aK (aZ (dZ (aA (pv 5) (aA (pv 6) aF)))))))))))),
  ((aO (b8 (aR (aP (a74 (aW (aH aB (aH aB (aH aB aQ))))))))
   (aO (b8 (aR (aP (aW (aH aB aQ)))))
   (aO (dG (bB (zR aB)) (a3I (aR lG)) dH)
   (aO (b8 (aR (aX (aX aB aB) aG)))
   (aO (dG (iH (bB (vW aB)) (jY (aP (aW (aH aB (aH aB aQ)))))) (a3I (aR lG)) dH)
   (aO (a4O (aX (aX aB aB) aG) aB)
   (aO (a4O (aX (aX aB aB) aG) (lL aB aG))
   (a3I (aR (eY (aU aB (aU aB bV)))))))))))):VS P0 _ nC)⟩
theorem kO {H:Hp}{a b:Addr}{o:HO}(h:H a=some o)(g:H b=none):b≠a:=fun z=>by rw[z,h] at g; cases g
abbrev a2P:Stmt:=inClass (top 35) 0
theorem aCU:FnScope ["self", "lines", "time"] ["self", "lines", "time"] (aN a2P):=scM
theorem a1I  {c:Addr}(cl:Cls K c)(n_lines:NoAttr K c "lines")(n_now:NoAttr K c "now")(n_listed:NoAttr K c "listed")(F:Fun K "__init__" "Walk.__init__" a2P f fd)(B:Bl K mg)
  (c_order_at:iC P0 P w K mg base) :
  FnOk P w K mg base CX0 8 f fd ["self", "lines", "time"] (xO P0 c cM):=by
 refine F.ok aCU (fun vs H Q E h=>?_) (fun cdv A outer s H vs Q E hr h=>?_)
 ·obtain⟨F0,w,d,l,t,ls,tm,os,rfl,_⟩:=h;rfl
 have hu:=hr.units;obtain⟨F0,w,d,l,t,ls,tm,os,rfl,hH,rf,gw,gd,hdw,hw,hd,dl,dt,hl,z1,z2,z3,hf,q⟩:=h;refine⟨_,(aD (a3Y (pv 0) (iU gA rfl B.list_ boot_list (aA (pv 1) aF)) rfl) (aD (a3Y (pv 0) (pv 2) rfl) (aK (a3Y (pv 0) (aJ c_order_at hr rfl (aA (pv 1) (aA (pv 2) aF))) rfl)))),?_⟩
 cases dl with
 | @lst pl us _ hpl rs=>
 have hplH:=rf.sub _ _ hpl;have Fw:F0.H0 w=none:=by rw[hH,if_pos (.inl rfl)]
 have Fd:F0.H0 d=none:=by rw[hH,if_pos (.inr rfl)]
 refine⟨_,rfl,_,us,rfl,.inl (SqL.of hplH),fun ll hll=>?_⟩;have lw:ll≠w:=kO hw hll;have ld:ll≠d:=kO hd hll;refine⟨_,rfl,w,c,d,[],rfl,by rw[b7 (Ne.symm lw)]; exact hw,cl,n_lines,by decide,?_⟩;refine⟨_,rfl,_,rfl,w,c,d,_,rfl,bM,cl,n_now,(by show 1<1000; decide),?_⟩;generalize hH3:upd (upd (upd H ll (.lst us)) w (.ins c d (a2W "lines" (.ref ll) []))) w (.ins c d (a2W "now" t (a2W "lines" (.ref ll) [])))=H3;have h3w:H3 w=some (.ins c d [("lines", .ref ll),("now", t)]):=by rw[← hH3]; exact bM
 have h3o:∀ b,b≠w→b≠ll→H3 b=H b:=fun b h1 h2=>by rw[← hH3,b7 h1,b7 h1,b7 h2]
 have h3l:H3 ll=some (.lst us):=by rw[← hH3,b7 lw,b7 lw]; exact bM
 have h3s:∀ b o,H b=some o→b≠w→H3 b=some o:=fun b o e h1=>by rw[h3o b h1 (bG e hll)]; exact e
 have f0:∀ b o,F0.H0 b=some o→b≠w∧H b=some o:=fun b o e=>by
  rw[hH] at e
  split at e
  ·cases e
  ·rename_i hn
   exact⟨fun z=>hn (.inl z),e⟩
 have rf3:Rf F0 F0.G0 H3:=by
  refine⟨fun b o e=>h3s b o (rf.sub b o e) (fun z=>by rw[z,gw] at e; cases e),fun _ _ _=>rfl,fun b o e _=>h3s b o (f0 b o e).2 (f0 b o e).1,F0.stab' H H3 (fun b o e=>?_) rf.pn⟩;rw[h3s b o (f0 b o e).2 (f0 b o e).1,(f0 b o e).2]
 refine⟨_,rfl,_,rfl,F0.sub rf3,[.val (.list ls),.val tm],fun rv=>rv=.own os,rfl,F0.subRf rf3,.cons (show Dt F0.G0 (.ref pl) (.list ls) from .lst hpl rs) (.cons dt .nil),rfl,hf,fun rv r G' H' hq f' hr'=>?_⟩;subst hq;obtain⟨lo,vs,rfl,e1,e2,e3,e4⟩:=hr';have e1:H3 lo=none:=e1;obtain⟨fb,gb⟩:=rf3.back f';have keep:∀ b o,H3 b=some o→F0.H0 b=none→H' b=some o∧G' b=F0.G0 b:=fun b o e hn=>⟨f'.h0 b o e (F0.pen_ne hn),f'.g0 b o e⟩;have kw:=keep w _ h3w Fw;have hd3:H3 d=some (.own w):=h3s d _ hd hdw;have kd:=keep d _ hd3 Fd;have Fl:F0.H0 ll=none:=rf.fresh hll;have kl:=keep ll _ h3l Fl;have ow:lo≠w:=kO h3w e1;have od:lo≠d:=kO hd3 e1;have ol:lo≠ll:=kO h3l e1;refine⟨_,rfl,w,c,d,_,rfl,kw.1,cl,n_listed,(by show 2<1000; decide),?_⟩;refine q ll lo [w,d,ll,lo] G' _ (fb.priv Fw (kw.2.trans gw)) ⟨rfl,rfl,⟨Ne.symm ol,z1,z2,z3⟩,us,t,vs,⟨bM,?_,?_,?_⟩,⟨Dts.same gb _ _ rs,Dt.same gb _ _ dt,e4⟩⟩ fun b hb=>?_
 ·show upd H' w _ d=_;rw[b7 hdw]; exact kd.1
 ·show upd H' w _ ll=_;rw[b7 lw]; exact kl.1
 ·show upd H' w _ lo=_;rw[b7 ow]; exact e3
 ·simp only[List.mem_cons,List.not_mem_nil,or_false] at hb;rcases hb with rfl|rfl|rfl|rfl
  ·exact⟨Fw,kw.2.trans gw⟩
  ·exact⟨Fd,kd.2.trans gd⟩
  ·exact⟨Fl,kl.2.trans (rf.gfresh hll)⟩
  ·exact⟨rf3.fresh e1,e2⟩
abbrev a3D:Stmt:=inClass (top 35) 1
theorem aCZ:FnScope ["self"] ["self"] (aN a3D):=scM
theorem aC5  {c:Addr}(cl:Cls K c)(n_lines:NoAttr K c "lines")(n_now:NoAttr K c "now")(n_listed:NoAttr K c "listed")(F:Fun K "time" "Walk.time" a3D f fd)(B:Bl K mg)(Kt:Kit K) :
  FnOk P w K mg base CX0 1 f fd ["self"] (spL P0 (bD c) 1 (qK c)):=
 F.okL aCZ rfl rfl fun cdv A outer s H E hr=>
 have hu:=hr.units
 ⟨_,(aK (aZ (oO (pv 0) rfl))),
  ((iG (aR (xW cl n_now))):VS P0 _ (a2M c))⟩
abbrev zA:Stmt:=inClass (top 35) 2
theorem aAP:FnScope ["self"] ["self"] (aN zA):=scM
theorem a9Y  {c:Addr}(cl:Cls K c)(n_lines:NoAttr K c "lines")(n_now:NoAttr K c "now")(n_listed:NoAttr K c "listed")(F:Fun K "order" "Walk.order" zA f fd)(B:Bl K mg)(Kt:Kit K) :
  FnOk P w K mg base CX0 1 f fd ["self"] (spL P0 (bD c) 1 (fD c)):=
 F.okL aAP rfl rfl fun cdv A outer s H E hr=>
 have hu:=hr.units
 ⟨_,(aK (aZ (iU gA rfl B.list_ boot_list (aA (oO (pv 0) rfl) aF)))),
  ((iG (a74 (pF (yU cl n_listed)))):VS P0 _ (zM c))⟩
abbrev vP:Stmt:=inClass (top 35) 3
theorem a7Y:FnScope ["self"] ["self"] (aN vP):=scM
theorem a7P  {c:Addr}(cl:Cls K c)(n_lines:NoAttr K c "lines")(n_now:NoAttr K c "now")(n_listed:NoAttr K c "listed")(F:Fun K "papers" "Walk.papers" vP f fd)(B:Bl K mg)(Kt:Kit K)
  (c_papers_among:dR P0 P w K mg base) :
  FnOk P w K mg base CX0 9 f fd ["self"] (spL P0 (bD c) 1 (q8 c)):=
 F.okL a7Y rfl rfl fun cdv A outer s H E hr=>
 have hu:=hr.units
 ⟨_,(aK (aZ (aJ c_papers_among hr rfl (aA (oO (pv 0) rfl) (aA (oO (pv 0) rfl) (aA (oO (pv 0) rfl) aF)))))),
  ((iG (a74 (aW (aH (aAX cl n_lines) (aH (yU cl n_listed) (aH (xW cl n_now) aQ)))))):VS P0 _ (vD c))⟩
abbrev sZ:Stmt:=inClass (top 35) 4
theorem sc_w_step_by:FnScope ["self", "limit", "failed", "at"] ["self", "limit"] (aN sZ):=scM
theorem a5C  {c:Addr}(cl:Cls K c)(n_lines:NoAttr K c "lines")(n_now:NoAttr K c "now")(n_listed:NoAttr K c "listed")(F:Fun K "step_by" "Walk.step_by" sZ f fd)(B:Bl K mg)(Kt:Kit K)
  (c_fail_next:zL P0 P w K mg base) :
  FnOk P w K mg base CX0 10 f fd ["self", "limit"] (spL P0 (bD c) 2 (eX c)):=
 F.okL sc_w_step_by rfl rfl fun cdv A outer s H E hr=>
 have hu:=hr.units
 ⟨_,(aD (aY (i:=2) sc_w_step_by.nd rfl (by walk_at "lc") (aJ c_fail_next hr rfl (aA (oO (pv 0) rfl) (aA (oO (pv 0) rfl) (aA (oO (pv 0) rfl) (aA (pv 1) aF))))))
   (aD (cT (bA z8 (pv 2) dB (bF _)) (aK (aZ dB)) bL)
   (aD (aY (i:=3) sc_w_step_by.nd rfl (by walk_at "lc") (aV aL (pv 2) aC (fun _ _=>rfl)))
   (aD (a3Y (pv 0) (aV aL (pv 2) aC (fun _ _=>rfl)) rfl)
   (aK (aZ (dZ (aA (oO (pv 0) rfl) (aA (aV aL (oO (pv 0) rfl) (bJ eQ (pv 3) aC) (fun _ _=>rfl)) (aA (aV aL (oO (pv 0) rfl) (pv 3) (fun _ _=>rfl)) aF)))))))))),
  ((aO (b8 (aR (aG1 cl n_lines n_listed n_now)))
   (aO (dG (bB (zR aB)) (iG (aR lG)) dH)
   (aO (b8 (aR (aX aB aG)))
   (aO (a5A cl n_now (aX aB aG))
   (iG (aR (eY (aU (xW cl n_now) (aU (aDR cl n_listed (lL aB aG)) (aU (aDR cl n_listed aB) bV)))))))))):VS P0 _ (sX c))⟩
abbrev a2H:Stmt:=inClass (top 35) 5
theorem aDX:FnScope ["self"] ["self"] (aN a2H):=scM
theorem aB7  {c:Addr}(cl:Cls K c)(n_lines:NoAttr K c "lines")(n_now:NoAttr K c "now")(n_listed:NoAttr K c "listed"){f_step_by:Addr}{fd_step_by:FuncData}(M_step_by:Meth K c "step_by" f_step_by)(F_step_by:FnOk P w K mg base CX0 10 f_step_by fd_step_by ["self", "limit"] (spL P0 (bD c) 2 (eX c)))(b_step_by:Binds K fd_step_by ["self", "limit"] [])(F:Fun K "step" "Walk.step" a2H f fd)(B:Bl K mg)(Kt:Kit K) :
  FnOk P w K mg base CX0 11 f fd ["self"] (spL P0 (bD c) 1 (qY c)):=
 F.okL aDX rfl rfl fun cdv A outer s H E hr=>
 have hu:=hr.units
 ⟨_,(aK (aZ (uZ (pv 0) cl M_step_by F_step_by (hr.mono (by decide)) b_step_by .nil lN (aA dB aF)))),
  ((iG (cP (iR (fun _ _=>rfl)) (aH lG aQ))):VS P0 _ (a1T c))⟩
abbrev aCT:Stmt:=inClass (top 35) 6
theorem sc_w_go:FnScope ["self", "time", "told", "step"] ["self", "time"] (aN aCT):=scM
theorem aIH  {c:Addr}(cl:Cls K c)(n_lines:NoAttr K c "lines")(n_now:NoAttr K c "now")(n_listed:NoAttr K c "listed"){f_step_by:Addr}{fd_step_by:FuncData}(M_step_by:Meth K c "step_by" f_step_by)(F_step_by:FnOk P w K mg base CX0 10 f_step_by fd_step_by ["self", "limit"] (spL P0 (bD c) 2 (eX c)))(b_step_by:Binds K fd_step_by ["self", "limit"] [])(F:Fun K "go" "Walk.go" aCT f fd)(B:Bl K mg)(Kt:Kit K)
  (c_is_less:cR P0 P w K mg base) :
  FnOk P w K mg base CX0 11 f fd ["self", "time"] (spL P0 (bD c) 2 (zW c)):=
 F.okL sc_w_go rfl rfl fun cdv A outer s H E hr=>
 have hu:=hr.units
 ⟨_,(aD (cT (fK (aJ c_is_less hr rfl (aA (pv 1) (aA (oO (pv 0) rfl) aF)))) (aK a9I) bL)
   (aD (aY (i:=2) sc_w_go.nd rfl (by walk_at "lc") (j7 aF))
   (aD (aY (i:=3) sc_w_go.nd rfl (by walk_at "lc") (uZ (pv 0) cl M_step_by F_step_by (hr.mono (by decide)) b_step_by .nil lN (aA (pv 1) aF)))
   (aD (uJ PassesOwn.never (bA vZ (pv 3) dB (bF _)) (aD (a2X (aEI PySem.F.plainAttrs_list PySem.F.slot_list_append PySem.F.type_list_append yG (pv 2) (aA (pv 3) aF)))
   (aK (aY (i:=3) sc_w_go.nd rfl (by walk_at "lc") (uZ (pv 0) cl M_step_by F_step_by (hr.mono (by decide)) b_step_by .nil lN (aA (pv 1) aF))))))
   (aD (a3Y (pv 0) (pv 1) rfl)
   (aK (aZ (pv 2)))))))),
  ((aO (dG (jY (aP (aW (aH aB (aH (xW cl n_now) aQ))))) a99 dH)
   (aO (b8 (lJ bV))
   (aO (b8 (aR (aP (cP (iR (fun _ _=>rfl)) (aH aB aQ)))))
   (aO (uP (bB (vW aB)) (aO (zU aB)
   (b8 (aR (aP (cP (iR (fun _ _=>rfl)) (aH aB aQ)))))))
   (aO (a5A cl n_now aB)
   (iG a2O)))))):VS P0 _ (aDN c))⟩
local macro_rules|`(tactic| walk_at "rd1")=>`(tactic| first
 | refine⟨_,rfl,?_⟩
 | refine⟨_,_,rfl,rfl,?_⟩
 | refine And.intro rfl ?_
 | refine And.intro (aET rfl) ?_
 | refine⟨_,_,_,_,rfl,rfl,SqT.of (by assumption),rfl,?_⟩
 | refine⟨_,_,_,_,rfl,rfl,SqL.of (by assumption),rfl,?_⟩
 | refine⟨_,_,_,_,rfl,rfl,SqL.of bM,rfl,?_⟩
 | refine⟨_,_,_,_,rfl,rfl,(by assumption),rfl,?_⟩
 | refine⟨_,_,_,_,rfl,rfl,bM,rfl,?_⟩
 | refine⟨_,_,by assumption,by assumption,qG _,qG _,?_⟩
 | refine⟨_,_,by assumption,by assumption,good_line _,good_line _,?_⟩
 | refine And.intro (aN5 (by assumption) (by assumption)) ?_
 | refine And.intro (.inl (by decide)) ?_
 | refine And.intro (CMul_mod (by decide) (by decide)) ?_
 | refine And.intro (.inr (by decide)) ?_
 | refine⟨_,_,rfl,.inl (by assumption),?_⟩
 | refine⟨_,_,rfl,.inr (SqT.of (by assumption)),?_⟩
 | refine And.intro (by assumption) ?_
 | refine And.intro ⟨by decide,by decide⟩ ?_
 | refine And.intro ⟨by decide,by decide,by decide⟩ ?_
 | refine And.intro (show(0:Int)<_ by decide) ?_
 | refine And.intro (by decide) ?_
 | refine⟨_,_,rfl,?_⟩)
local macro_rules|`(tactic| walk_at "rd")=>`(tactic| repeat walk_at "rd1")
abbrev u9:Stmt:=top 37
theorem sc_law_pen:FnScope ["_law_script", "_law_k", "_law_cell"] ["_law_script", "_law_k"] (aN u9):=scM
theorem aAE  (F:Fun K "_law_pen" "_law_pen" u9 f fd)(B:Bl K mg) :
  FnOk P w K mg base CX0 1 f fd ["_law_script", "_law_k"] (a8V K):=by
 refine F.ok sc_law_pen (fun vs H Q E h=>?_) (fun cdv A outer s H vs Q E hr h=>?_)
 ·obtain⟨a,ns,j,rfl,hS,j0,j1,q⟩:=h;rfl
 have hu:=hr.units;obtain⟨a,ns,j,rfl,hS,j0,j1,q⟩:=h;refine⟨_,(aD (aY (i:=2) sc_law_pen.nd rfl (Or.inl rfl) (bJ eQ (bJ eQ (bJ bT (bJ bT aC (pv 1)) (pv 1)) (bJ bT aC (pv 1))) aC))
   (aD (cT (bA vN (pv 1) (bQ bR rfl B.len_ boot_len (aA (pv 0) aF)) (bF _)) (aK (aY (i:=2) sc_law_pen.nd rfl (Or.inl rfl) (aV ix_list (pv 0) (pv 1) (fun _ _=>rfl)))) (aK (cT (bA aFW (bQ bR rfl B.len_ boot_len (aA (pv 0) aF)) aC (bF _)) (aK (aY (i:=2) sc_law_pen.nd rfl (Or.inl rfl) (bJ eQ (bJ p8 (aV ix_list (pv 0) (bJ p8 (bJ bT (pv 1) aC) (bQ bR rfl B.len_ boot_len (aA (pv 0) aF))) (fun _ _=>rfl)) (sO (v:=100000000000000000) (by decide) ⟨by decide,by decide,by decide⟩)) (bJ bT aC (pv 1))))) bL)))
   (aD (cT (bA aPB (pv 2) (sO (v:=1000000000000000000) (by decide) ⟨by decide,by decide,by decide⟩) (bF _)) (aK (aZ (j7 (aA (bJ wC (pv 2) (sO (v:=1000000000000000000) (by decide) ⟨by decide,by decide,by decide⟩)) (aA (bJ eQ (bJ p8 (pv 2) aC) (pv 1)) (aA aC aF)))))) bL)
   (aK (aZ (j7 (aA aC (aA (bJ eQ (bJ p8 (pv 2) aC) (bJ bT aC (pv 1))) (aA aC aF))))))))),?_⟩
 have hl:(ns.map V.int).length=ns.length:=List.length_map _;have bs:∀ x:Int,0≤x→x<2147483648→LT.Bt 31 x:=fun x h1 h2=>by
  show x.natAbs<2^31;omega
 have a1:=bs j (by omega) (by omega);have a2:=bs 104729 (by decide) (by decide);have a3:=bs 7 (by decide) (by decide);have a4:=bs 65537 (by decide) (by decide);have a5:=bs 40503 (by decide) (by decide);have a6:=a2.mul a1;have fin:∀ cell x:Int,0≤x→x<100000000→0≤cell%2147483629+x∧cell%2147483629+x<1099511627776:=fun cell x h1 h2=>by
  have h3:=Int.emod_nonneg cell (b:=2147483629) (by decide);have h4:=Int.emod_lt_of_pos cell (b:=2147483629) (by decide);omega
 walk_at "!iii77,,ē7,";refine fX (fun e=>?a) (fun e=>?b)
 case' a=>
  have e':j<(ns.length:Int):=by rw[hl] at e; exact e
  obtain⟨i,rfl⟩:∃ i:Nat,j=(i:Int):=⟨j.toNat,by omega⟩;have hi:i<ns.length:=by omega
  have hv:atI (ns.map V.int) (i:Int)=some (.int ns[i]):=by
   refine a6I ?_;rw[List.getElem?_map,List.getElem?_eq_getElem hi];rfl
  walk_at "!,,";refine⟨_,_,_,_,rfl,rfl,hS,hv,?_⟩
 case' b=>
  walk_at "!,ē7,";refine fX (fun e2=>?b1) (fun e2=>?b2)
  case' b1=>
   have e3:0<(ns.length:Int):=by rw[hl] at e2; exact e2
   have h1:=Int.emod_nonneg (j*7) (b:=(ns.length:Int)) (by omega);have h2:=Int.emod_lt_of_pos (j*7) e3;obtain⟨i,hi0⟩:∃ i:Nat,j*7%(ns.length:Int)=(i:Int):=⟨(j*7%(ns.length:Int)).toNat,by omega⟩;have hi:i<ns.length:=by omega
   have hv:atI (ns.map V.int) (j*7%((ns.map V.int).length:Int))=some (.int ns[i]):=by
    rw[hl,hi0];refine a6I ?_;rw[List.getElem?_map,List.getElem?_eq_getElem hi];rfl
   have hpos:0<((ns.map V.int).length:Int):=by rw[hl]; exact e3
   walk_at "!,i,ē7Ď";refine⟨_,_,_,_,rfl,rfl,hS,hv,?_⟩
 all_goals
  (first|walk_at "!7|i7R,"|walk_at "!R,");refine fX (fun e9=>?_) (fun e9=>?_)
  ·walk_at "!RR|Rġ";intro p hp;exact q _ _ _ hp (by omega) (fin _ _ (by omega) (by omega)).1 (fin _ _ (by omega) (by omega)).2
  ·walk_at "!R|i7ġ";intro p hp;exact q _ _ _ hp (by decide) (fin _ _ (by omega) (by omega)).1 (fin _ _ (by omega) (by omega)).2
local macro_rules|`(tactic| walk_at "rd1")=>`(tactic| first
 | refine⟨_,rfl,?_⟩
 | refine⟨_,_,rfl,rfl,?_⟩
 | refine And.intro rfl ?_
 | refine And.intro (aET rfl) ?_
 | refine⟨_,_,_,_,rfl,rfl,SqT.of (by assumption),rfl,?_⟩
 | refine⟨_,_,_,_,rfl,rfl,SqL.of (by assumption),rfl,?_⟩
 | refine⟨_,_,_,_,rfl,rfl,SqL.of bM,rfl,?_⟩
 | refine⟨_,_,_,_,rfl,rfl,(by assumption),rfl,?_⟩
 | refine⟨_,_,_,_,rfl,rfl,bM,rfl,?_⟩
 | refine⟨_,_,by assumption,by assumption,qG _,qG _,?_⟩
 | refine⟨_,_,by assumption,by assumption,good_line _,good_line _,?_⟩
 | refine And.intro (aN5 (by assumption) (by assumption)) ?_
 | refine And.intro (.inl (by decide)) ?_
 | refine And.intro (CMul_mod (by decide) (by decide)) ?_
 | refine And.intro (.inr (by decide)) ?_
 | refine⟨_,_,rfl,.inl (by assumption),?_⟩
 | refine⟨_,_,rfl,.inr (SqT.of (by assumption)),?_⟩
 | refine And.intro (by assumption) ?_
 | refine And.intro ⟨by decide,by decide⟩ ?_
 | refine And.intro ⟨by decide,by decide,by decide⟩ ?_
 | refine And.intro (show(0:Int)<_ by decide) ?_
 | refine And.intro (by decide) ?_
 | refine⟨_,_,rfl,?_⟩)
local macro_rules|`(tactic| walk_at "rd")=>`(tactic| repeat walk_at "rd1")
abbrev mR:Stmt:=top 38
theorem sc_law_take:FnScope ["_law_pen_here", "_law_many", "_law_digit", "_law_number_here"] ["_law_pen_here", "_law_many"] (aN mR):=scM
theorem a7N  (F:Fun K "_law_take" "_law_take" mR f fd)(B:Bl K mg) :
  FnOk P w K mg base CX0 1 f fd ["_law_pen_here", "_law_many"] aD5:=by
 refine F.ok sc_law_take (fun vs H Q E h=>?_) (fun cdv A outer s H vs Q E hr h=>?_)
 ·obtain⟨pen,m,z,c,k,n,rfl,hp,hz,hc,hc2,hk,hkn,hn,hm,hm2,q⟩:=h;rfl
 have hu:=hr.units;obtain⟨pen,m,z,c,k,n,rfl,hp,hz,hc,hc2,hk,hkn,hn,hm,hm2,q⟩:=h;refine⟨_,(aD (cT (bA aFW (aV ix_list (pv 0) aC (fun _ _=>rfl)) aC (bF _)) (aD (aY (i:=2) sc_law_take.nd rfl (Or.inl rfl) (bJ p8 (aV ix_list (pv 0) aC (fun _ _=>rfl)) (pv 1)))
   (aD (a1A (bJ aCW (aV ix_list (pv 0) aC (fun _ _=>rfl)) (pv 1)) (a8L (pv 0) aC set_list))
   (aK (aZ (pv 2))))) bL)
   (aD (a1A (bJ eQ (aV ix_list (pv 0) aC (fun _ _=>rfl)) aC) (a8L (pv 0) aC set_list))
   (aD (aY (i:=3) sc_law_take.nd rfl (Or.inl rfl) (bJ p8 (bJ bT (bJ p8 (bJ eQ (aV ix_list (pv 0) aC (fun _ _=>rfl)) (bJ bT (bJ bT (aV ix_list (pv 0) aC (fun _ _=>rfl)) (aV ix_list (pv 0) aC (fun _ _=>rfl))) aC)) aC) aC) aC))
   (aD (aY (i:=3) sc_law_take.nd rfl (Or.inl rfl) (bJ p8 (bJ eQ (bJ eQ (bJ bT (pv 3) (pv 3)) (bJ bT aC (pv 3))) (aV ix_list (pv 0) aC (fun _ _=>rfl))) aC))
   (aK (aZ (bJ p8 (bJ aCW (pv 3) aC) (pv 1)))))))),?_⟩
 have hcd:aPR z m:=⟨hm,hm2⟩;walk_at "!,ď7,";refine fX (fun e=>?_) (fun e=>?_)
 ·walk_at "!,ďRĎ,ďRĎ,Ģ,";exact q _ _ (Int.emod_nonneg _ (by omega)) (Int.emod_lt_of_pos _ hm) ⟨z/m,c,k,bM,Int.ediv_nonneg hz (by omega),hc,hc2,hk,by omega⟩ (a4P _)
 ·have bm:∀ x y:Int,0<y→y<2147483648→LT.Bt 31 (x%y):=fun x y h1 h2=>by
   have:=Int.emod_nonneg x (b:=y) (by omega);have:=Int.emod_lt_of_pos x h1
   show(x%y).natAbs<2^31
   omega
  have bs:∀ x:Int,0≤x→x<2147483648→LT.Bt 31 x:=fun x h1 h2=>by
   show x.natAbs<2^31;omega
  have a1:=bs (k+1) (by omega) (by omega);have a2:=bs 7919 (by decide) (by decide);have a3:=bs 48271 (by decide) (by decide);have a4:=bs 69621 (by decide) (by decide);have a5:=a1.mul a1;have a6:=bm (c+(k+1)*(k+1)*7919) 2147483629 (by decide) (by decide);have a7:=bm ((c+(k+1)*(k+1)*7919)%2147483629*48271) 2147483587 (by decide) (by decide);walk_at "!,ď7,Ģ,Đ,Đ,Đ7đ7đ77|7đ7|,ii7,Đ77|RĳRĎ";exact q _ _ (Int.emod_nonneg _ (by omega)) (Int.emod_lt_of_pos _ hm) ⟨z,c,k+1,bM,hz,hc,hc2,by omega,by omega⟩ (a4P _)
theorem a4I  (F:Fun K "_law_take" "_law_take" mR f fd)(B:Bl K mg) :
  FnOk P w K mg base CX0 1 f fd ["_law_pen_here", "_law_many"] (spL P0 penF 2 gB):=(a7N F B).imp aF8
abbrev lK:Stmt:=top 39
theorem sc_law_lowest:FnScope ["_law_top", "_law_bottom", "_law_one", "_law_other"] ["_law_top", "_law_bottom"] (aN lK):=scM
theorem a2I  (F:Fun K "_law_lowest" "_law_lowest" lK f fd)(B:Bl K mg)(Kt:Kit K) :
  FnOk P w K mg base CX0 1 f fd ["_law_top", "_law_bottom"] (spM P0 2 cQ):=
 F.okV sc_law_lowest rfl rfl fun cdv A outer s H E hr=>
 have hu:=hr.units
 ⟨_,(aD (aY (i:=2) sc_law_lowest.nd rfl (by walk_at "lc") (bQ qF rfl B.abs_ boot_abs (aA (pv 0) aF)))
   (aD (aY (i:=3) sc_law_lowest.nd rfl (by walk_at "lc") (bQ qF rfl B.abs_ boot_abs (aA (pv 1) aF)))
   (aD (uJ PassesOwn.never (bA aFW (pv 3) aC (bF _)) (aK (aLU (i:=2) (j:=3) rfl sc_law_lowest.nd rfl rfl (by decide) rfl rfl (aA (pv 3) (aA (bJ p8 (pv 2) (pv 3)) aF)) rfl)))
   (aD (cT (bA vN (pv 1) aC (bF _)) (aK (aY (i:=2) sc_law_lowest.nd rfl (by walk_at "lc") (bJ wC aC (pv 2)))) bL)
   (aK (aZ (dZ (aA (bJ qQ (pv 0) (pv 2)) (aA (bJ qQ (pv 1) (pv 2)) aF))))))))),
  ((aO (b8 (aR (a0T aB)))
   (aO (b8 (aR (a0T aB)))
   (aO (uP (bB (aLZ aB aG)) (aM0 (aU aB (aU (aH5 aB aB) bV))))
   (aO (dG (bB (yC aB aG)) (b8 (aR (yF aG aB))) dH)
   (bK (aR (eY (aU (v4 aB aB) (aU (v4 aB aB) bV))))))))):VS P0 _ oZ)⟩
abbrev q9:Stmt:=top 40
theorem a78:FnScope ["_law_a", "_law_b", "_law_sign"] ["_law_a", "_law_b", "_law_sign"] (aN q9):=scM
theorem a81  (F:Fun K "_law_plus" "_law_plus" q9 f fd)(B:Bl K mg)(Kt:Kit K)
  (c_law_lowest:bZ P0 P w K mg base) :
  FnOk P w K mg base CX0 2 f fd ["_law_a", "_law_b", "_law_sign"] (spM P0 3 jM):=
 F.okV a78 rfl rfl fun cdv A outer s H E hr=>
 have hu:=hr.units
 ⟨_,(aK (aZ (aJ c_law_lowest hr rfl (aA (bJ eQ (bJ bT (aV aL (pv 0) aC (fun _ _=>rfl)) (aV aL (pv 1) aC (fun _ _=>rfl))) (bJ bT (bJ bT (pv 2) (aV aL (pv 1) aC (fun _ _=>rfl))) (aV aL (pv 0) aC (fun _ _=>rfl)))) (aA (bJ bT (aV aL (pv 0) aC (fun _ _=>rfl)) (aV aL (pv 1) aC (fun _ _=>rfl))) aF))))),
  ((bK (aW (aH (lL (eO (aX aB aG) (aX aB aG)) (eO (eO aB (aX aB aG)) (aX aB aG))) (aH (eO (aX aB aG) (aX aB aG)) aQ)))):VS P0 _ v7)⟩
abbrev nG:Stmt:=top 41
theorem a3T:FnScope ["_law_a", "_law_b"] ["_law_a", "_law_b"] (aN nG):=scM
theorem a5H  (F:Fun K "_law_times" "_law_times" nG f fd)(B:Bl K mg)(Kt:Kit K)
  (c_law_lowest:bZ P0 P w K mg base) :
  FnOk P w K mg base CX0 2 f fd ["_law_a", "_law_b"] (spM P0 2 nZ):=
 F.okV a3T rfl rfl fun cdv A outer s H E hr=>
 have hu:=hr.units
 ⟨_,(aK (aZ (aJ c_law_lowest hr rfl (aA (bJ bT (aV aL (pv 0) aC (fun _ _=>rfl)) (aV aL (pv 1) aC (fun _ _=>rfl))) (aA (bJ bT (aV aL (pv 0) aC (fun _ _=>rfl)) (aV aL (pv 1) aC (fun _ _=>rfl))) aF))))),
  ((bK (aW (aH (eO (aX aB aG) (aX aB aG)) (aH (eO (aX aB aG) (aX aB aG)) aQ)))):VS P0 _ sS)⟩
abbrev qX:Stmt:=top 42
theorem a76:FnScope ["_law_a", "_law_b"] ["_law_a", "_law_b"] (aN qX):=scM
theorem a7C  (F:Fun K "_law_less" "_law_less" qX f fd)(B:Bl K mg)(Kt:Kit K) :
  FnOk P w K mg base CX0 1 f fd ["_law_a", "_law_b"] (spM P0 2 gC):=
 F.okV a76 rfl rfl fun cdv A outer s H E hr=>
 have hu:=hr.units
 ⟨_,(aK (aZ (pA vN (bJ bT (aV aL (pv 0) aC (fun _ _=>rfl)) (aV aL (pv 1) aC (fun _ _=>rfl))) (bJ bT (aV aL (pv 1) aC (fun _ _=>rfl)) (aV aL (pv 0) aC (fun _ _=>rfl))) (bF _)))),
  ((bK (aR (yC (eO (aX aB aG) (aX aB aG)) (eO (aX aB aG) (aX aB aG))))):VS P0 _ vL)⟩
abbrev t7:Stmt:=top 43
theorem sc_law_far:FnScope ["_law_pen_here", "_law_parts", "_law_number_here", "_law_k"] ["_law_pen_here", "_law_parts"] (aN t7):=scM
theorem aAO  (F:Fun K "_law_far" "_law_far" t7 f fd)(B:Bl K mg)(Kt:Kit K)
  (c_law_take:fB P0 P w K mg base) :
  FnOk P w K mg base CX0 2 f fd ["_law_pen_here", "_law_parts"] (spL P0 penF 2 uN):=
 F.okL sc_law_far rfl rfl fun cdv A outer s H E hr=>
 have hu:=hr.units
 ⟨_,(aD (aY (i:=2) sc_law_far.nd rfl (by walk_at "lc") aC)
   (aD (rM PassesOwn.never rfl (mV rfl B.range_ (aA (pv 1) aF)) (cX (i:=3) sc_law_far.nd rfl (by walk_at "lc")) (aK (aY (i:=2) sc_law_far.nd rfl (by walk_at "lc") (bJ eQ (bJ bT (pv 2) (sO (v:=1000000) (by decide) ⟨by decide,by decide,by decide⟩)) (aJ c_law_take hr rfl (aA (pv 0) (aA (sO (v:=1000000) (by decide) ⟨by decide,by decide,by decide⟩) aF)))))))
   (aK (aZ (aV aL (j7 (aA (pv 2) (aA (bJ wC aC (pv 2)) aF))) (aJ c_law_take hr rfl (aA (pv 0) (aA aC aF))) (fun _ _=>rfl)))))),
  ((aO (b8 (aR aG))
   (aO (rG (vR (aU aB bV)) dC (b8 (aR (lL (eO aB aG) (aP (cA (aH aG aQ)))))))
   (iG (aR (aX (aP (lJ (aU aB (aU (yF aG aB) bV)))) (aP (cA (aH aG aQ)))))))):VS P0 _ yL)⟩
abbrev lF:Stmt:=top 44
theorem a2Q:FnScope ["_law_pen_here", "_law_kind"] ["_law_pen_here", "_law_kind"] (aN lF):=scM
theorem a1Z  (F:Fun K "_law_number" "_law_number" lF f fd)(B:Bl K mg)(Kt:Kit K)
  (c_law_lowest:bZ P0 P w K mg base)
  (c_law_take:fB P0 P w K mg base)
  (c_law_far:w5 P0 P w K mg base) :
  FnOk P w K mg base CX0 3 f fd ["_law_pen_here", "_law_kind"] (spL P0 penF 2 dD):=
 F.okL a2Q rfl rfl fun cdv A outer s H E hr=>
 have hu:=hr.units
 ⟨_,(aD (cT (bA (lE hu) (pv 1) aC (bF _)) (aK (aZ (dZ (aA (bJ wC (aJ c_law_take hr rfl (aA (pv 0) (aA aC aF))) aC) (aA aC aF))))) bL)
   (aD (cT (bA (lE hu) (pv 1) aC (bF _)) (aK (aZ (aJ c_law_lowest hr rfl (aA (bJ wC (aJ c_law_take hr rfl (aA (pv 0) (aA aC aF))) aC) (aA (bJ eQ aC (aJ c_law_take hr rfl (aA (pv 0) (aA aC aF)))) aF))))) bL)
   (aK (aZ (aJ c_law_lowest hr rfl (aA (aJ c_law_far hr rfl (aA (pv 0) (aA aC aF))) (aA (bJ eQ aC (aJ c_law_take hr rfl (aA (pv 0) (aA aC aF)))) aF))))))),
  ((aO (dG (bB (uW aB aG)) (iG (aR (eY (aU (yF (aP (cA (aH aG aQ))) aG) (aU aG bV))))) dH)
   (aO (dG (bB (uW aB aG)) (iG (aW (aH (yF (aP (cA (aH aG aQ))) aG) (aH (lL aG (aP (cA (aH aG aQ)))) aQ)))) dH)
   (iG (aW (aH (aP (cA (aH aG aQ))) (aH (lL aG (aP (cA (aH aG aQ)))) aQ)))))):VS P0 _ pL)⟩
abbrev nQ:Stmt:=top 45
theorem sc_law_lines:FnScope ["_law_pen_here", "_law_kind", "_law_place", "_law_time", "_law_many", "_law_lines_here", "_law_k", "_law_line", "_law_way"] ["_law_pen_here"] (aN nQ):=scM
theorem a5O  (F:Fun K "_law_lines" "_law_lines" nQ f fd)(B:Bl K mg)(Kt:Kit K)
  (c_law_plus:jO P0 P w K mg base)
  (c_law_times:pG P0 P w K mg base)
  (c_law_take:fB P0 P w K mg base)
  (c_law_number:j9 P0 P w K mg base) :
  FnOk P w K mg base CX0 4 f fd ["_law_pen_here"] (spL P0 penF 1 nR):=
 F.okL sc_law_lines rfl rfl fun cdv A outer s H E hr=>
 have hu:=hr.units
 ⟨_,(aD (aY (i:=1) sc_law_lines.nd rfl (by walk_at "lc") (aV aL (j7 (aA aC (aA aC (aA aC (aA aC (aA aC (aA aC aF))))))) (aJ c_law_take hr rfl (aA (pv 0) (aA aC aF))) (fun _ _=>rfl)))
   (aD (aY (i:=2) sc_law_lines.nd rfl (by walk_at "lc") (aJ c_law_number hr rfl (aA (pv 0) (aA aC aF))))
   (aD (aY (i:=3) sc_law_lines.nd rfl (by walk_at "lc") (aJ c_law_number hr rfl (aA (pv 0) (aA aC aF))))
   (aD (aY (i:=4) sc_law_lines.nd rfl (by walk_at "lc") (aJ c_law_take hr rfl (aA (pv 0) (aA aC aF))))
   (aD (cT (PW.pt (mQ (bA (lE hu) (aJ c_law_take hr rfl (aA (pv 0) (aA aC aF))) aC (bF _)) (iD (bA vN (pv 1) aC (bF _))))) (aK (aY (i:=4) sc_law_lines.nd rfl (by walk_at "lc") aC)) bL)
   (aD (aY (i:=5) sc_law_lines.nd rfl (by walk_at "lc") (j7 aF))
   (aD (rM PassesOwn.never rfl (mV rfl B.range_ (aA (pv 4) aF)) (cX (i:=6) sc_law_lines.nd rfl (by walk_at "lc")) (aD (aY (i:=7) sc_law_lines.nd rfl (by walk_at "lc") (dZ (aA (aJ c_law_number hr rfl (aA (pv 0) (aA (pv 1) aF))) (aA (aJ c_law_number hr rfl (aA (pv 0) (aA (pv 1) aF))) aF))))
   (aD (aY (i:=8) sc_law_lines.nd rfl (by walk_at "lc") (aJ c_law_take hr rfl (aA (pv 0) (aA aC aF))))
   (aD (cT (PW.pt (mQ (bA (lE hu) (pv 8) aC (bF _)) (iD (bA (j6 hu) (pv 5) (j7 aF) (bF _))))) (aK (aY (i:=7) sc_law_lines.nd rfl (by walk_at "lc") (aV aL (pv 5) (aJ c_law_take hr rfl (aA (pv 0) (aA (bQ bR rfl B.len_ boot_len (aA (pv 5) aF)) aF))) (fun _ _=>rfl)))) bL)
   (aD (cT (PW.pt (mQ (bA (lE hu) (pv 8) aC (bF _)) (iD (bA (j6 hu) (pv 5) (j7 aF) (bF _))))) (aK (aY (i:=7) sc_law_lines.nd rfl (by walk_at "lc") (dZ (aA (aV aL (pv 7) aC (fun _ _=>rfl)) (aA (aV aL (aV aL (pv 5) (aJ c_law_take hr rfl (aA (pv 0) (aA (bQ bR rfl B.len_ boot_len (aA (pv 5) aF)) aF))) (fun _ _=>rfl)) aC (fun _ _=>rfl)) aF))))) bL)
   (aD (cT (PW.pt (mQ (bA (aHC hu) (pv 8) (dZ (aA aC (aA aC (aA aC aF)))) (by with_unfolding_all rfl)) (iD (bA vN (pv 1) aC (bF _))))) (aK (aY (i:=7) sc_law_lines.nd rfl (by walk_at "lc") (dZ (aA (aJ c_law_plus hr rfl (aA (pv 2) (aA (aJ c_law_times hr rfl (aA (aV aL (pv 7) aC (fun _ _=>rfl)) (aA (pv 3) aF))) (aA (aC7 a4U aC) aF)))) (aA (aV aL (pv 7) aC (fun _ _=>rfl)) aF))))) bL)
   (aK (a2X (aEI PySem.F.plainAttrs_list PySem.F.slot_list_append PySem.F.type_list_append yG (pv 5) (aA (pv 7) aF))))))))))
   (aK (aZ (pv 5)))))))))),
  ((aO (b8 (aR (aX (aP (lJ (aU aG (aU aG (aU aG (aU aG (aU aG (aU aG bV)))))))) (aP (cA (aH aG aQ))))))
   (aO (b8 (aR (aP (cA (aH aG aQ)))))
   (aO (b8 (aR (aP (cA (aH aG aQ)))))
   (aO (b8 (aR (aP (cA (aH aG aQ)))))
   (aO (dG (iH (bB (uW (aP (cA (aH aG aQ))) aG)) (bB (yC aB aG))) (b8 (aR aG)) dH)
   (aO (b8 (lJ bV))
   (aO (rG (vR (aU aB bV)) dC (aO (b8 (aR (eY (aU (aP (cA (aH aB aQ))) (aU (aP (cA (aH aB aQ))) bV)))))
   (aO (b8 (aR (aP (cA (aH aG aQ)))))
   (aO (dG (qD (iH (bB (uW aB aG)) (bB (rB aB (aP (lJ bV)))))) (b8 (aR (a8Y (bs:=[true]) (aX aB (aP (cA (aH (oN aB) aQ))))))) dH)
   (aO (dG (qD (iH (bB (uW aB aG)) (bB (rB aB (aP (lJ bV)))))) (b8 (aR (a8Y (bs:=[true]) (eY (aU (aX aB aG) (aU (aX (aX aB (aP (cA (aH (oN aB) aQ)))) aG) bV)))))) dH)
   (aO (dG (iH (bB (aM5 aB (eY (aU aG (aU aG (aU aG bV)))))) (bB (yC aB aG))) (b8 (aR (eY (aU (aP (aW (aH aB (aH (aP (aW (aH (aX aB aG) (aH aB aQ)))) (aH (a5Y aG) aQ))))) (aU (aX aB aG) bV))))) dH)
   (zU aB)))))))
   (iG a2O)))))))):VS P0 _ rZ)⟩
abbrev tH:Stmt:=top 46
theorem sc_law_met:FnScope ["_law_one", "_law_other", "_law_apart", "_law_steep"] ["_law_one", "_law_other"] (aN tH):=scM
theorem a9U  (F:Fun K "_law_met" "_law_met" tH f fd)(B:Bl K mg)(Kt:Kit K)
  (c_law_lowest:bZ P0 P w K mg base)
  (c_law_plus:jO P0 P w K mg base) :
  FnOk P w K mg base CX0 3 f fd ["_law_one", "_law_other"] (spM P0 2 uT):=
 F.okV sc_law_met rfl rfl fun cdv A outer s H E hr=>
 have hu:=hr.units
 ⟨_,(aD (aY (i:=2) sc_law_met.nd rfl (by walk_at "lc") (aJ c_law_plus hr rfl (aA (aV aL (pv 1) aC (fun _ _=>rfl)) (aA (aV aL (pv 0) aC (fun _ _=>rfl)) (aA (aC7 a4U aC) aF)))))
   (aD (aY (i:=3) sc_law_met.nd rfl (by walk_at "lc") (aJ c_law_plus hr rfl (aA (aV aL (pv 0) aC (fun _ _=>rfl)) (aA (aV aL (pv 1) aC (fun _ _=>rfl)) (aA (aC7 a4U aC) aF)))))
   (aK (aZ (aJ c_law_lowest hr rfl (aA (bJ bT (aV aL (pv 2) aC (fun _ _=>rfl)) (aV aL (pv 3) aC (fun _ _=>rfl))) (aA (bJ bT (aV aL (pv 2) aC (fun _ _=>rfl)) (aV aL (pv 3) aC (fun _ _=>rfl))) aF))))))),
  ((aO (b8 (aR (aP (aW (aH (aX aB aG) (aH (aX aB aG) (aH (a5Y aG) aQ)))))))
   (aO (b8 (aR (aP (aW (aH (aX aB aG) (aH (aX aB aG) (aH (a5Y aG) aQ)))))))
   (bK (aW (aH (eO (aX aB aG) (aX aB aG)) (aH (eO (aX aB aG) (aX aB aG)) aQ)))))):VS P0 _ a00)⟩
abbrev u6:Stmt:=top 47
theorem sc_law_due:FnScope ["_law_lines_here", "_law_time", "_law_found", "_law_one", "_law_other", "_law_met_here"] ["_law_lines_here", "_law_time"] (aN u6):=scM
theorem aAN  (F:Fun K "_law_due" "_law_due" u6 f fd)(B:Bl K mg)(Kt:Kit K)
  (c_law_less:eV P0 P w K mg base)
  (c_law_met:vO P0 P w K mg base) :
  FnOk P w K mg base CX0 4 f fd ["_law_lines_here", "_law_time"] (spM P0 2 tO):=
 F.okV sc_law_due rfl rfl fun cdv A outer s H E hr=>
 have hu:=hr.units
 ⟨_,(aD (aY (i:=2) sc_law_due.nd rfl (by walk_at "lc") a8H)
   (aD (rM PassesOwn.never rfl (mV rfl B.range_ (aA (bQ bR rfl B.len_ boot_len (aA (pv 0) aF)) aF)) (cX (i:=3) sc_law_due.nd rfl (by walk_at "lc")) (aK (rM PassesOwn.never rfl (mV rfl B.range_ (aA (bQ bR rfl B.len_ boot_len (aA (pv 0) aF)) aF)) (cX (i:=4) sc_law_due.nd rfl (by walk_at "lc")) (aK (cT (fK (aJ c_law_less hr rfl (aA (aV aL (aV aL (pv 0) (pv 3) (fun _ _=>rfl)) aC (fun _ _=>rfl)) (aA (aV aL (aV aL (pv 0) (pv 4) (fun _ _=>rfl)) aC (fun _ _=>rfl)) aF)))) (aD (aY (i:=5) sc_law_due.nd rfl (by walk_at "lc") (aJ c_law_met hr rfl (aA (aV aL (pv 0) (pv 3) (fun _ _=>rfl)) (aA (aV aL (pv 0) (pv 4) (fun _ _=>rfl)) aF))))
   (aK (cT (fK (aJ c_law_less hr rfl (aA (pv 1) (aA (pv 5) aF)))) (aK (aDD (hu1 hu) (pv 2) (dZ (aA (pv 3) (aA (pv 4) aF))) (pv 5) rfl)) bL))) bL)))))
   (aK (aZ (pv 2))))),
  ((aO (b8 a8A)
   (aO (rG (vR (aU (oN aB) bV)) dC (rG (vR (aU (oN aB) bV)) dC (dG (jY (aP (aW (aH (aX (aX aB aB) aG) (aH (aX (aX aB aB) aG) aQ))))) (aO (b8 (aR (aP (aW (aH (aX aB aB) (aH (aX aB aB) aQ))))))
   (dG (jY (aP (aW (aH aB (aH aB aQ))))) (a8J aB (eY (aU aB (aU aB bV)))) dH)) dH)))
   (bK a2O))):VS P0 _ zF)⟩
abbrev fU:Stmt:=top 48
theorem sc_law_told_right:FnScope ["_law_order", "_law_told", "_law_due_here", "_law_seen", "_law_now", "_law_k", "_law_time", "_law_one", "_law_other", "_law_at"] ["_law_order", "_law_told", "_law_due_here"] (aN fU):=scM
theorem wA  (F:Fun K "_law_told_right" "_law_told_right" fU f fd)(B:Bl K mg)(Kt:Kit K)
  (c_law_less:eV P0 P w K mg base) :
  FnOk P w K mg base CX0 2 f fd ["_law_order", "_law_told", "_law_due_here"] (spM P0 3 fV):=
 F.okV sc_law_told_right rfl rfl fun cdv A outer s H E hr=>
 have hu:=hr.units
 ⟨_,(aD (aY (i:=3) sc_law_told_right.nd rfl (by walk_at "lc") a8H)
   (aD (aY (i:=4) sc_law_told_right.nd rfl (by walk_at "lc") (iU gA rfl B.list_ boot_list (aA (pv 0) aF)))
   (aD (rM PassesOwn.never rfl (mV rfl B.range_ (aA (bQ bR rfl B.len_ boot_len (aA (pv 1) aF)) aF)) (cX (i:=5) sc_law_told_right.nd rfl (by walk_at "lc")) (aD (cT (PW.pt (uM (rH (fK (bQ a2V rfl B.isinstance_ boot_isinstance (aA (aV aL (pv 1) (pv 5) (fun _ _=>rfl)) (aA (a6D (v:=.ty "tuple") rfl B.tuple_ boot_tuple rfl) aF))))) (uM (bA (j6 hu) (bQ bR rfl B.len_ boot_len (aA (aV aL (pv 1) (pv 5) (fun _ _=>rfl)) aF)) aC (bF _)) (tQ (PW.pt (mQ (bA aFW (pv 5) aC (bF _)) (iD (fK (aJ c_law_less hr rfl (aA (aV aL (aV aL (pv 1) (pv 5) (fun _ _=>rfl)) aC (fun _ _=>rfl)) (aA (aV aL (aV aL (pv 1) (bJ wC (pv 5) aC) (fun _ _=>rfl)) aC (fun _ _=>rfl)) aF))))))))))) (aK (aZ a0C)) bL)
   (aD (a1A (aV aL (pv 1) (pv 5) (fun _ _=>rfl)) (aH1 rfl (tU (cX (i:=6) sc_law_told_right.nd rfl (by walk_at "lc")) (tU (cX (i:=7) sc_law_told_right.nd rfl (by walk_at "lc")) (tU (cX (i:=8) sc_law_told_right.nd rfl (by walk_at "lc")) aEQ)))))
   (aD (cT (PW.pt (uM (aH3 (aLW (hu1 hu) (dZ (aA (pv 7) (aA (pv 8) aF))) (pv 3))) (uM (aH3 (aCI (hu1 hu) (dZ (aA (pv 7) (aA (pv 8) aF))) (pv 2))) (tQ (bA (j6 hu) (aJY (hu1 hu) (pv 2) (dZ (aA (pv 7) (aA (pv 8) aF))) (fun _ _=>rfl)) (pv 6) (bF _)))))) (aK (aZ a0C)) bL)
   (aD (aDD (hu1 hu) (pv 3) (dZ (aA (pv 7) (aA (pv 8) aF))) a0C rfl)
   (aD (aY (i:=9) sc_law_told_right.nd rfl (by walk_at "lc") (aEI PySem.F.plainAttrs_list PySem.F.slot_list_index PySem.F.type_list_index aG6 (pv 4) (aA (pv 7) aF)))
   (aD (cT (bA (j6 hu) (a8C aCJ (pv 4) (yP (bJ eQ (pv 9) aC)) (yP (bJ eQ (pv 9) aC))) (j7 (aA (pv 8) aF)) (bF _)) (aK (aZ a0C)) bL)
   (aK (a1A (j7 (aA (pv 8) (aA (pv 7) aF))) (aFY (pv 4) (yP (pv 9)) (yP (bJ eQ (pv 9) aC))))))))))))
   (aK (aZ (pA (lE hu) (bQ a4S rfl B.len_ boot_len (aA (pv 3) aF)) (bQ a4S rfl B.len_ boot_len (aA (pv 2) aF)) (bF _))))))),
  ((aO (b8 a8A)
   (aO (b8 (pF aB))
   (aO (rG (vR (aU (oN aB) bV)) dC (aO (dG (lC (lO (jY (aBR Kt (by decide) (aX aB aB)))) (lC (bB (rB (oN (aX aB aB)) aG)) (iH (bB (aLZ aB aG)) (jY (aP (aW (aH (aX (aX aB aB) aG) (aH (aX (aX aB (yF aB aG)) aG) aQ)))))))) (bK (aR a0J)) dH)
   (aO (aL3 (aX aB aB) (aGX (tK dC (tK dC (tK dC aD2)))))
   (aO (dG (lC (jY (aHY (eY (aU aB (aU aB bV))))) (lC (jY (aAC (eY (aU aB (aU aB bV))))) (bB (rB (aF1 (eY (aU aB (aU aB bV)))) aB)))) (bK (aR a0J)) dH)
   (aO (a8J a0J (eY (aU aB (aU aB bV))))
   (aO (b8 (aR (aI9 (aFD aB aB))))
   (aO (dG (qD (bB (rB (aP (aH7 aB (aBZ (lL aB aG)) (aBZ (lL aB aG)))) (aP (lJ (aU aB bV)))))) (bK (aR a0J)) dH)
   (aFT (aP (lJ (aU aB (aU aB bV)))) (aBZ aB) (aBZ (lL aB aG))))))))))
   (bK (aR (uW a8F a8F)))))):VS P0 _ j5)⟩
abbrev jX:Stmt:=top 49
theorem sc_law_all_steps:FnScope ["_law_walk", "_law_told", "_law_found"] ["_law_walk"] (aN jX):=scM
theorem xH  {c:Addr}(cl:Cls K c){f_step:Addr}{fd_step:FuncData}(M_step:Meth K c "step" f_step)(F_step:FnOk P w K mg base CX0 11 f_step fd_step ["self"] (spL P0 (bD c) 1 (qY c)))(b_step:Binds K fd_step ["self"] [])(F:Fun K "_law_all_steps" "_law_all_steps" jX f fd)(B:Bl K mg)(Kt:Kit K) :
  FnOk P w K mg base CX0 12 f fd ["_law_walk"] (spL P0 (bD c) 1 (f9 c)):=
 F.okL sc_law_all_steps rfl rfl fun cdv A outer s H E hr=>
 have hu:=hr.units
 ⟨_,(aD (aY (i:=1) sc_law_all_steps.nd rfl (by walk_at "lc") (j7 aF))
   (aD (aY (i:=2) sc_law_all_steps.nd rfl (by walk_at "lc") (gK (pv 0) cl M_step F_step (hr.mono (by decide)) b_step .nil lN))
   (aD (uJ PassesOwn.never (PW.pt (mQ (bA vZ (pv 2) dB (bF _)) (iD (bA vN (bQ bR rfl B.len_ boot_len (aA (pv 1) aF)) aC (bF _))))) (aD (a2X (aEI PySem.F.plainAttrs_list PySem.F.slot_list_append PySem.F.type_list_append yG (pv 1) (aA (pv 2) aF)))
   (aK (aY (i:=2) sc_law_all_steps.nd rfl (by walk_at "lc") (gK (pv 0) cl M_step F_step (hr.mono (by decide)) b_step .nil lN)))))
   (aK (aZ (pv 1)))))),
  ((aO (b8 (lJ bV))
   (aO (b8 (aR (aP (cP (iR (fun _ _=>rfl)) aQ))))
   (aO (uP (qD (iH (bB (vW aB)) (bB (yC (oN aB) aG)))) (aO (zU aB)
   (b8 (aR (aP (cP (iR (fun _ _=>rfl)) aQ))))))
   (iG a2O)))):VS P0 _ (kE c))⟩
abbrev jB:Stmt:=top 50
theorem sc_law_between:FnScope ["_law_low", "_law_high", "_law_parts", "_law_found"] ["_law_low", "_law_high"] (aN jB):=scM
theorem a0B  (F:Fun K "_law_between" "_law_between" jB f fd)(B:Bl K mg)(Kt:Kit K)
  (c_law_less:eV P0 P w K mg base)
  (c_law_lowest:bZ P0 P w K mg base) :
  FnOk P w K mg base CX0 2 f fd ["_law_low", "_law_high"] (spM P0 2 j8):=
 F.okV sc_law_between rfl rfl fun cdv A outer s H E hr=>
 have hu:=hr.units
 ⟨_,(aD (rM PassesOwn.never rfl (aLB (dZ (aA aC (aA aC (aA aC (aA aC (aA aC (aA aC (aA aC aF))))))))) (cX (i:=2) sc_law_between.nd rfl (by walk_at "lc")) (aD (aY (i:=3) sc_law_between.nd rfl (by walk_at "lc") (aJ c_law_lowest hr rfl (aA (bJ eQ (bJ qQ (bJ bT (aV aL (pv 0) aC (fun _ _=>rfl)) (pv 2)) (aV aL (pv 0) aC (fun _ _=>rfl))) aC) (aA (pv 2) aF))))
   (aK (cT (PW.pt (mQ (fK (aJ c_law_less hr rfl (aA (pv 3) (aA (pv 1) aF)))) (iD (bA vN (bQ qF rfl B.abs_ boot_abs (aA (aV aL (pv 3) aC (fun _ _=>rfl)) aF)) (sO (v:=1000000000000000000) (by decide) ⟨by decide,by decide,by decide⟩) (bF _))))) (aK (aZ (pv 3))) bL))))
   (aK (aZ (pv 0)))),
  ((aO (rG (aN0 (eY (aU aG (aU aG (aU aG (aU aG (aU aG (aU aG (aU aG bV))))))))) dC (aO (b8 (aR (aP (aW (aH (lL (v4 (eO (aX aB aG) aB) (aX aB aG)) aG) (aH aB aQ))))))
   (dG (iH (jY (aP (aW (aH aB (aH aB aQ))))) (bB (yC (a0T (aX aB aG)) aG))) (bK (aR aB)) dH)))
   (bK (aR aB))):VS P0 _ oE)⟩
abbrev dJ:Stmt:=top 51
theorem sc_law_from_till_to_till:FnScope ["_law_lines_here", "_law_time", "_law_most", "_law_walk", "_law_told", "_law_turn", "_law_now", "_law_found", "_law_there", "_law_more"] ["_law_lines_here", "_law_time", "_law_most"] (aN dJ):=scM
theorem mD  {c fI:Addr}{fdI:FuncData}(hmW:mg "Walk" = some (.ref c))(M:Mk K c fI)(FI:FnOk P w K mg base CX0 8 fI fdI ["self", "lines", "time"] (xO P0 c cM))(bI:Binds K fdI ["self", "lines", "time"] [])(cl:Cls K c){f_time:Addr}{fd_time:FuncData}(M_time:Meth K c "time" f_time)(F_time:FnOk P w K mg base CX0 1 f_time fd_time ["self"] (spL P0 (bD c) 1 (qK c)))(b_time:Binds K fd_time ["self"] []){f_order:Addr}{fd_order:FuncData}(M_order:Meth K c "order" f_order)(F_order:FnOk P w K mg base CX0 1 f_order fd_order ["self"] (spL P0 (bD c) 1 (fD c)))(b_order:Binds K fd_order ["self"] []){f_papers:Addr}{fd_papers:FuncData}(M_papers:Meth K c "papers" f_papers)(F_papers:FnOk P w K mg base CX0 9 f_papers fd_papers ["self"] (spL P0 (bD c) 1 (q8 c)))(b_papers:Binds K fd_papers ["self"] []){f_go:Addr}{fd_go:FuncData}(M_go:Meth K c "go" f_go)(F_go:FnOk P w K mg base CX0 11 f_go fd_go ["self", "time"] (spL P0 (bD c) 2 (zW c)))(b_go:Binds K fd_go ["self", "time"] [])(F:Fun K "_law_from_till_to_till" "_law_from_till_to_till" dJ f fd)(B:Bl K mg)(Kt:Kit K)
  (c_order_at:iC P0 P w K mg base)
  (c_law_between:rK P0 P w K mg base)
  (c_papers_at:yO P0 P w K mg base)
  (c_shown:aE1 P0 P w K mg base) :
  FnOk P w K mg base CX0 12 f fd ["_law_lines_here", "_law_time", "_law_most"] (spM P0 3 (c7 c)):=
 F.okV sc_law_from_till_to_till rfl rfl fun cdv A outer s H E hr=>
 have hu:=hr.units
 ⟨_,(aD (aY (i:=3) sc_law_from_till_to_till.nd rfl (by walk_at "lc") (a7S M FI (hr.mono (by decide)) rfl hmW bI .nil lN (aA (pv 0) (aA (pv 1) aF))))
   (aD (aY (i:=4) sc_law_from_till_to_till.nd rfl (by walk_at "lc") (j7 aF))
   (aD (rM PassesOwn.never rfl (mV rfl B.range_ (aA (bJ eQ (pv 2) aC) aF)) (cX (i:=5) sc_law_from_till_to_till.nd rfl (by walk_at "lc")) (aD (aY (i:=6) sc_law_from_till_to_till.nd rfl (by walk_at "lc") (gK (pv 3) cl M_time F_time (hr.mono (by decide)) b_time .nil lN))
   (aD (aY (i:=7) sc_law_from_till_to_till.nd rfl (by walk_at "lc") (aJ c_shown hr rfl (aA (pv 0) (aA (pv 6) (aA (aJ c_papers_at hr rfl (aA (pv 0) (aA (pv 6) aF))) aF)))))
   (aD (cT (PW.pt (uM (bA (j6 hu) (gK (pv 3) cl M_papers F_papers (hr.mono (by decide)) b_papers .nil lN) (aJ c_papers_at hr rfl (aA (pv 0) (aA (pv 6) aF))) (bF _)) (tQ (bA (j6 hu) (gK (pv 3) cl M_order F_order (hr.mono (by decide)) b_order .nil lN) (aJ c_order_at hr rfl (aA (pv 0) (aA (pv 6) aF))) (bF _))))) (aK (aZ dB)) bL)
   (aD (cT (PW.pt (uM (bA z8 (pv 7) dB (bF _)) (tQ (bA (j6 hu) (aV aL (pv 7) aC (fun _ _=>rfl)) (gK (pv 3) cl M_order F_order (hr.mono (by decide)) b_order .nil lN) (bF _))))) (aK (aZ dB)) bL)
   (aD (cT (bA z8 (aV aL (pv 7) aC (fun _ _=>rfl)) dB (bF _)) (aK (aZ (pv 4))) bL)
   (aD (aY (i:=8) sc_law_from_till_to_till.nd rfl (by walk_at "lc") (aJ c_law_between hr rfl (aA (pv 6) (aA (aV aL (pv 7) aC (fun _ _=>rfl)) aF))))
   (aD (cT (PW.pt (uM (bA (j6 hu) (aJ c_order_at hr rfl (aA (pv 0) (aA (pv 8) aF))) (aV aL (pv 7) aC (fun _ _=>rfl)) (bF _)) (tQ (bA (j6 hu) (uZ (pv 3) cl M_go F_go (hr.mono (by decide)) b_go .nil lN (aA (pv 8) aF)) (j7 aF) (bF _))))) (aK (aZ dB)) bL)
   (aD (aY (i:=9) sc_law_from_till_to_till.nd rfl (by walk_at "lc") (uZ (pv 3) cl M_go F_go (hr.mono (by decide)) b_go .nil lN (aA (aV aL (pv 7) aC (fun _ _=>rfl)) aF)))
   (aD (cT (bA (lE hu) (pv 9) (j7 aF) (bF _)) (aK (aZ dB)) bL)
   (aK (aY (i:=4) sc_law_from_till_to_till.nd rfl (by walk_at "lc") (bJ aHS (pv 4) (pv 9))))))))))))))
   (aK (aZ dB))))),
  ((aO (b8 (a1U aB aB))
   (aO (b8 (aR (aP (lJ bV))))
   (aO (rG (vR (aU (lL aB aG) bV)) dC (aO (b8 (aR (aP (cP (iR (fun _ _=>rfl)) aQ))))
   (aO (b8 (aR (aP (aW (aH aB (aH aB (aH (aP (aW (aH aB (aH aB aQ)))) aQ)))))))
   (aO (dG (lC (bB (rB (aP (cP (iR (fun _ _=>rfl)) aQ)) (aP (aW (aH aB (aH aB aQ)))))) (bB (rB (aP (cP (iR (fun _ _=>rfl)) aQ)) (aP (aW (aH aB (aH aB aQ))))))) (bK (aR lG)) dH)
   (aO (dG (lC (bB (zR aB)) (bB (rB (aX aB aG) (aP (cP (iR (fun _ _=>rfl)) aQ))))) (bK (aR lG)) dH)
   (aO (dG (bB (zR (aX aB aG))) (bK (aR aB)) dH)
   (aO (b8 (aR (aP (aW (aH aB (aH (aX aB aG) aQ))))))
   (aO (dG (lC (bB (rB (aP (aW (aH aB (aH aB aQ)))) (aX aB aG))) (bB (rB (aP (cP (iR (fun _ _=>rfl)) (aH aB aQ))) (aP (lJ bV))))) (bK (aR lG)) dH)
   (aO (b8 (aR (aP (cP (iR (fun _ _=>rfl)) (aH (aX aB aG) aQ)))))
   (aO (dG (bB (uW aB (aP (lJ bV)))) (bK (aR lG)) dH)
   (b8 (aR (aP (aHF aB aB))))))))))))))
   (bK (aR lG))))):VS P0 _ (dF c))⟩
abbrev aF2:Stmt:=top 52
theorem sc_law:FnScope ["_law_script", "_law_pen_here", "_law_lines_here", "_law_time", "_law_due_here", "_law_walk", "_law_order", "_law_told", "_law_slopes", "_law_runner", "_law_k", "_law_far_here", "_law_other"] ["_law_script"] (aN aF2):=scM
theorem aMF  (F:Fun K "law" "law" aF2 f fd)(B:Bl K mg)(Kt:Kit K){c fI:Addr}{fdI:FuncData}(hmW:mg "Walk" = some (.ref c))(M:Mk K c fI)(FI:FnOk P w K mg base CX0 8 fI fdI ["self", "lines", "time"] (xO NoP c cM))(bI:Binds K fdI ["self", "lines", "time"] [])(cl:Cls K c){f_time:Addr}{fd_time:FuncData}(M_time:Meth K c "time" f_time)(F_time:FnOk P w K mg base CX0 1 f_time fd_time ["self"] (spL NoP (bD c) 1 (qK c)))(b_time:Binds K fd_time ["self"] []){f_order:Addr}{fd_order:FuncData}(M_order:Meth K c "order" f_order)(F_order:FnOk P w K mg base CX0 1 f_order fd_order ["self"] (spL NoP (bD c) 1 (fD c)))(b_order:Binds K fd_order ["self"] []){f_go:Addr}{fd_go:FuncData}(M_go:Meth K c "go" f_go)(F_go:FnOk P w K mg base CX0 11 f_go fd_go ["self", "time"] (spL NoP (bD c) 2 (zW c)))(b_go:Binds K fd_go ["self", "time"] [])
  (c_law_pen:Cal P w K mg base 1 "_law_pen" ["_law_script", "_law_k"] (a8V K))
  (c_law_from_till_to_till:mO NoP P w K mg base c)
  (c_law_take:fB NoP P w K mg base)
  (c_law_less:eV NoP P w K mg base)
  (c_law_told_right:m9 NoP P w K mg base)
  (c_law_all_steps:wW NoP P w K mg base c)
  (c_law_number:j9 NoP P w K mg base)
  (c_law_lines:wD NoP P w K mg base)
  (c_law_due:a0V NoP P w K mg base)
  (hL:∀ pen,(zK c) (.no::.box (penF.box pen 1)::List.replicate 11 .no) jR) :
  FnOk P w K mg base CX0 13 f fd ["_law_script"] (aGS K):=by
 refine F.ok sc_law (fun vs H Q E h=>?_) (fun cdv A outer s H vs Q E hr h=>?_)
 ·obtain⟨a,ns,rfl,hS,h63,q⟩:=h;rfl
 have hu:=hr.units;obtain⟨a,ns,rfl,hS,h63,q⟩:=h;exact law_bodyC (k:=11) ⟨by decide,by decide⟩ (aY (i:=1) sc_law.nd rfl (by walk_at "lc") (aJ c_law_pen hr rfl (aA (pv 0) (aA aC aF)))) ⟨_,(aD (aY (i:=2) sc_law.nd rfl (by walk_at "lc") (aJ c_law_lines hr rfl (aA (pv 1) aF)))
   (aD (aY (i:=3) sc_law.nd rfl (by walk_at "lc") (aJ c_law_number hr rfl (aA (pv 1) (aA (aJ c_law_take hr rfl (aA (pv 1) (aA aC aF))) aF))))
   (aD (aY (i:=4) sc_law.nd rfl (by walk_at "lc") (aJ c_law_due hr rfl (aA (pv 2) (aA (pv 3) aF))))
   (aD (aY (i:=5) sc_law.nd rfl (by walk_at "lc") (a7S M FI (hr.mono (by decide)) rfl hmW bI .nil lN (aA (iU gA rfl B.list_ boot_list (aA (pv 2) aF)) (aA (pv 3) aF))))
   (aD (aY (i:=6) sc_law.nd rfl (by walk_at "lc") (gK (pv 5) cl M_order F_order (hr.mono (by decide)) b_order .nil lN))
   (aD (aY (i:=7) sc_law.nd rfl (by walk_at "lc") (aJ c_law_all_steps hr rfl (aA (pv 5) aF)))
   (aD (cT (rH (fK (aJ c_law_told_right hr rfl (aA (pv 6) (aA (pv 7) (aA (pv 4) aF)))))) (aK (aZ a0C)) bL)
   (aD (aIM (N:=["_law_runner", "_law_lines_here"]) (nt:=1) (fv:=[2]) (i:=8) sc_law.nd rfl rfl rfl (a0W (osc:=aN aF2) (ON:=["_law_script", "_law_pen_here", "_law_lines_here", "_law_time", "_law_due_here", "_law_walk", "_law_order", "_law_told", "_law_slopes", "_law_runner", "_law_k", "_law_far_here", "_law_other"]) (by decide +kernel)) (sH (gK (pv 5) cl M_order F_order (hr.mono (by decide)) b_order .nil lN)) (fun _ _ _ _=>(cX (i:=0) (show(["_law_runner", "_law_lines_here"]:List Str).Nodup by decide +kernel) rfl (by walk_at "lc"))) (fun _ _ _ _=>v9) (fun _ _ _ _=>(aV aL (aV aL (pv 1) (pv 0) (fun _ _=>rfl)) aC (fun _ _=>rfl))))
   (aD (rM PassesOwn.never rfl (aCN rfl B.range_ (aA aC (aA (bQ bR rfl B.len_ boot_len (aA (pv 8) aF)) aF))) (cX (i:=10) sc_law.nd rfl (by walk_at "lc")) (aK (cT (fK (aJ c_law_less hr rfl (aA (aV aL (pv 8) (bJ wC (pv 10) aC) (fun _ _=>rfl)) (aA (aV aL (pv 8) (pv 10) (fun _ _=>rfl)) aF)))) (aK (aZ a0C)) bL)))
   (aD (aY (i:=11) sc_law.nd rfl (by walk_at "lc") (aV aL (aV aL (bJ aHS (j7 (aA (dZ (aA (pv 3) (aA aC (aA aC aF)))) aF)) (pv 7)) (aC7 a4U aC) (fun _ _=>rfl)) aC (fun _ _=>rfl)))
   (aD (cT (PW.pt (mQ (bA (lE hu) (aJ c_law_take hr rfl (aA (pv 1) (aA aC aF))) aC (bF _)) (iD (bA vN (bQ qF rfl B.abs_ boot_abs (aA (aV aL (pv 11) aC (fun _ _=>rfl)) aF)) (sO (v:=1000000000000000) (by decide) ⟨by decide,by decide,by decide⟩) (bF _))))) (aK (aY (i:=11) sc_law.nd rfl (by walk_at "lc") (dZ (aA (bJ eQ (bJ eQ (bJ qQ (aV aL (pv 11) aC (fun _ _=>rfl)) (aV aL (pv 11) aC (fun _ _=>rfl))) aC) (aJ c_law_take hr rfl (aA (pv 1) (aA aC aF)))) (aA aC aF))))) bL)
   (aD (aY (i:=12) sc_law.nd rfl (by walk_at "lc") (a7S M FI (hr.mono (by decide)) rfl hmW bI .nil lN (aA (iU gA rfl B.list_ boot_list (aA (pv 2) aF)) (aA (pv 3) aF))))
   (aD (cT (PW.pt (uM (bA (j6 hu) (uZ (pv 12) cl M_go F_go (hr.mono (by decide)) b_go .nil lN (aA (pv 11) aF)) (pv 7) (bF _)) (uM (bA (j6 hu) (gK (pv 12) cl M_order F_order (hr.mono (by decide)) b_order .nil lN) (gK (pv 5) cl M_order F_order (hr.mono (by decide)) b_order .nil lN) (bF _)) (tQ (bA (j6 hu) (gK (pv 12) cl M_time F_time (hr.mono (by decide)) b_time .nil lN) (pv 11) (bF _)))))) (aK (aZ a0C)) bL)
   (aK (aZ (pA (lE hu) (aJ c_law_from_till_to_till hr rfl (aA (iU gA rfl B.list_ boot_list (aA (pv 2) aF)) (aA (pv 3) (aA (bQ bR rfl B.len_ boot_len (aA (pv 7) aF)) aF)))) (pv 7) (bF _))))))))))))))))),
  ((aO (b8 (aR (aP (cA aQ))))
   (aO (b8 (aR (aP (cA (aH (aP (cA (aH aG aQ))) aQ)))))
   (aO (aIZ (aW (aH aB (aH aB aQ))))
   (aO (b8 (a1U (aP (pF aB)) aB))
   (aO (b8 (aR (aP (cP (iR (fun _ _=>rfl)) aQ))))
   (aO (b8 (aR (aP (cA aQ))))
   (aO (dG (lO (jY (aP (aW (aH aB (aH aB (aOL aQ))))))) (bK (aR a0J)) dH)
   (aO (b8 (aR (aP (vU (s8 (aP (cP (iR (fun _ _=>rfl)) aQ))) dC qR (aX (aX aB aB) aG)))))
   (aO (rG (aJ6 (aU aG (aU (oN aB) bV))) dC (dG (jY (aP (aW (aH (aX aB (yF aB aG)) (aH (aX aB aB) aQ))))) (bK (aR a0J)) dH))
   (aO (b8 (aR (aX (aX (aP (aHF (aP (lJ (aU (eY (aU aB (aU aG (aU aG bV)))) bV))) aB)) (a5Y aG)) aG)))
   (aO (dG (iH (bB (uW (aP (cA (aH aG aQ))) aG)) (bB (yC (a0T (aX aB aG)) aG))) (b8 (aR (eY (aU (lL (lL (v4 (aX aB aG) (aX aB aG)) aG) (aP (cA (aH aG aQ)))) (aU aG bV))))) dH)
   (aO (b8 (a1U (aP (pF aB)) aB))
   (aO (dG (lC (bB (rB (aP (cP (iR (fun _ _=>rfl)) (aH aB aQ))) aB)) (lC (bB (rB (aP (cP (iR (fun _ _=>rfl)) aQ)) (aP (cP (iR (fun _ _=>rfl)) aQ)))) (bB (rB (aP (cP (iR (fun _ _=>rfl)) aQ)) aB)))) (bK (aR a0J)) dH)
   (bK (aR (uW (aP (aW (aH (aP (pF aB)) (aH aB (aH (oN aB) aQ))))) aB)))))))))))))))):VS NoP _ (zK c))⟩ rfl hS hL q
end
section
variable {Q:Rv→Prop}
theorem a6J {i:Int}(q:Q (.val (.bool true))):jK [.val (.int i)] Q:=by
 refine pU ?_;unfold v8;walk_at "!0Ĕĕ$Ĵģĕ)";exact q
theorem aO9 {a b:Int}(q:Q (.val (.int (Int.gcd a b:Nat)))):eN [.val (.int a),.val (.int b)] Q:=by
 refine pU ?_;unfold gW iQ iT;walk_at "!%}$%}$j";refine pH (fun n Γ=>∃ d r x,Γ=[.val (.int a),.val (.int b),.val (.int d),.val (.int r),x]∧0≤d∧0≤r∧Int.gcd d r=Int.gcd a b∧n=r.toNat) _ ⟨_,_,.no,rfl,a96 a,a96 b,aDE a b,rfl⟩ ?_;rintro m Γ ⟨d,r,x,rfl,hd,hr,hg,rfl⟩;walk_at "!:c[#";refine a3B (fun c=>?_) (fun c=>?_)
 ·have hp:0<r:=by omega
  walk_at "!%]";refine⟨hp,?_⟩;walk_at "!%$?)";have h1:=Int.emod_nonneg d (b:=r) (by omega);have h2:=Int.emod_lt_of_pos d hp;exact⟨_,by omega,_,_,_,rfl,hr,h1,(a94 hd hp).trans hg,rfl⟩
 ·subst c;have e:=aCH hd;rw[hg] at e;walk_at "!0)";rw[e] at q;exact q
theorem nH {t b:Int}(h0:b≠0)(hb:Bt 9000 b)(q:Q (.val (bU (Rat.divInt t b)))):fZ [.val (.int t),.val (.int b)] Q:=by
 have g0:=aHJ (t:=t) h0;have g1:=aHR (t:=t) hb h0;refine pU ?_;unfold rT rC rF;walk_at "!k^I-";refine a6J ?_;walk_at "!d~^I-";refine a6J ?_;walk_at "!d.Jc[#";refine aLP h0 ?_;walk_at "!E%F";refine aO9 ?_;walk_at "!LS";refine fX (fun c=>?_) (fun c=>?_)
 ·have n:=a8I (t:=t) c;walk_at "!?ć$0+]";refine⟨⟨by omega,g1.neg⟩,?_⟩;walk_at "!/]";refine⟨⟨by omega,g1.neg⟩,?_⟩;walk_at "!1";rw[n.1,n.2];exact q
 ·have n:=qW (t:=t) (b:=b) (by omega);walk_at "!E0+]";refine⟨⟨g0,g1⟩,?_⟩;walk_at "!/]";refine⟨⟨g0,g1⟩,?_⟩;walk_at "!1";rw[n.1,n.2];exact q
theorem aFH {a b:Rat}(ha:Sz 4000 a)(hb:Sz 4000 b)(q:Q (.val (bU (a+b)))):xY [.val (bU a),.val (bU b)] Q:=by
 obtain⟨a0,a1⟩:=id ha;obtain⟨b0,b1⟩:=id hb;refine pU ?_;unfold a3O;walk_at "!T6UU(M@@N-";refine nH (Int.mul_ne_zero (cY a) (cY b)) ((a1.mul b1).mono (by decide)) ?_;rw[aER];exact q
theorem pM {a b:Rat}(ha:Sz 4000 a)(hb:Sz 4000 b)(q:Q (.val (bU (a-b)))):eZ [.val (bU a),.val (bU b)] Q:=by
 obtain⟨a0,a1⟩:=id ha;obtain⟨b0,b1⟩:=id hb;refine pU ?_;unfold kZ;walk_at "!T6UU(M@@N-";refine nH (Int.mul_ne_zero (cY a) (cY b)) ((a1.mul b1).mono (by decide)) ?_;rw[aHG];exact q
theorem a5D {a b:Rat}(ha:Sz 4000 a)(hb:Sz 4000 b)(q:Q (.val (bU (a*b)))):lD [.val (bU a),.val (bU b)] Q:=by
 obtain⟨a0,a1⟩:=id ha;obtain⟨b0,b1⟩:=id hb;refine pU ?_;unfold pK;walk_at "!TĈlN(M@@N-";refine nH (Int.mul_ne_zero (cY a) (cY b)) ((a1.mul b1).mono (by decide)) ?_;rw[aCB];exact q
theorem a3N {a b:Rat}(ha:Sz 4000 a)(hb:Sz 4000 b)(h0:b≠0)(q:Q (.val (bU (a/b)))):jG [.val (bU a),.val (bU b)] Q:=by
 obtain⟨a0,a1⟩:=id ha;obtain⟨b0,b1⟩:=id hb;refine pU ?_;unfold o6;walk_at "!TU(M@lN-";refine nH (Int.mul_ne_zero (cY a) (a8T h0)) ((a1.mul b0).mono (by decide)) ?_;rw[aE2 a h0];exact q
theorem gG {a b:Rat}(ha:Sz 9000 a)(hb:Sz 9000 b)(q:Q (.val (.bool (decide (a<b))))):eU [.val (bU a),.val (bU b)] Q:=by
 obtain⟨a0,a1⟩:=id ha;obtain⟨b0,b1⟩:=id hb;refine pU ?_;unfold yW;walk_at "!06UU#";rw[aKT];exact q
theorem aA2 {l:Rat×Rat}{t:Rat}(h1:Sz 900 l.1)(h2:Sz 900 l.2)(h3:Sz 2900 t)(q:Q (.val (bU (l.1+l.2*t)))):qP [.val (o5 l),.val (bU t)] Q:=by
 refine pU ?_;unfold vI;walk_at "!Tm(Ae;";refine a5D (h2.mono (by decide)) (h3.mono (by decide)) ?_;walk_at "!-";exact aFH (h1.mono (by decide)) ((h2.mul h3).mono (by decide)) q
def aJN (l k:Rat×Rat):D:=if l.2=k.2 then(if l.1=k.1 then .tuple [.str "always"] else .tuple [.str "never"]) else .tuple [.str "at", bU ((k.1-l.1)/(l.2-k.2))]
theorem aCK {l k:Rat×Rat}(h1:Sz 900 l.1)(h2:Sz 900 l.2)(h3:Sz 900 k.1)(h4:Sz 900 k.2)(q:Q (.val (aJN l k))):tZ [.val (o5 l),.val (o5 k)] Q:=by
 unfold aJN at q;refine pU ?_;unfold z6 wJ;walk_at "!LJeeĀ#";refine fX (fun c=>?_) (fun c=>?_)
 ·rw[if_pos c] at q;walk_at "!sĵ.JmmĀ#";refine fX (fun c2=>?_) (fun c2=>?_)
  ·rw[if_pos c2] at q;walk_at "!V+&1";exact q
  ·rw[if_neg c2] at q;walk_at "!V+&1";exact q
 ·rw[if_neg c] at q;walk_at "!E%Am(m-";refine pM (h3.mono (by decide)) (h1.mono (by decide)) ?_;walk_at "!%Ae(e-";refine pM (h2.mono (by decide)) (h4.mono (by decide)) ?_;walk_at "!0+&/F";refine a3N ((h3.sub h1).mono (by decide)) ((h2.sub h4).mono (by decide)) (by grind) ?_;walk_at "!8";exact q
theorem qC {t b:Int}(h0:b≠0)(hb:Bt 9000 b)(q:Q (.val (bU (Rat.divInt t b)))):cQ [.val (.int t),.val (.int b)] Q:=by
 have g0:=aHJ (t:=t) h0;have g1:=aHR (t:=t) hb h0;refine pU ?_;unfold oZ pP pX p6;walk_at "!%}$%}$j";refine pH (fun n Γ=>∃ d r,Γ=[.val (.int t),.val (.int b),.val (.int d),.val (.int r)]∧0≤d∧0≤r∧Int.gcd d r=Int.gcd t b∧n=r.toNat) _ ⟨_,_,rfl,a96 t,a96 b,aDE t b,rfl⟩ ?_;rintro m Γ ⟨d,r,rfl,hd,hr,hg,rfl⟩;walk_at "!.S";refine fX (fun c=>?_) (fun c=>?_)
 ·walk_at "!ĶG/]";refine⟨c,?_⟩;walk_at "!n";have h1:=Int.emod_nonneg d (b:=r) (by omega);have h2:=Int.emod_lt_of_pos d c;exact⟨_,by omega,_,_,rfl,hr,h1,(a94 hd c).trans hg,rfl⟩
 ·have c':r=0:=by omega
  subst c';have e:=aCH hd;rw[hg] at e;subst e;walk_at "!LS";refine fX (fun c=>?_) (fun c=>?_)
  ·have n:=a8I (t:=t) c;walk_at "!?6&$0+]";rw[Int.zero_sub];refine⟨⟨by omega,g1.neg⟩,?_⟩;walk_at "!/]";refine⟨⟨by omega,g1.neg⟩,?_⟩;walk_at "!1";rw[n.1,n.2];exact q
  ·have n:=qW (t:=t) (b:=b) (by omega);walk_at "!E0+]";refine⟨⟨g0,g1⟩,?_⟩;walk_at "!/]";refine⟨⟨g0,g1⟩,?_⟩;walk_at "!1";rw[n.1,n.2];exact q
theorem aCF {a b:Rat}{s:Int}(hs:s=1∨s = -1)(ha:Sz 4000 a)(hb:Sz 4000 b)(q:Q (.val (bU (pm s a b)))):jM [.val (bU a),.val (bU b),.val (.int s)] Q:=by
 obtain⟨a0,a1⟩:=id ha;obtain⟨b0,b1⟩:=id hb;have hs1:=aJ9 hs;have hs2:=hs1.mul b0;refine pU ?_;unfold v7;walk_at "!T6UMM$lN@N(M@@N-";refine qC (Int.mul_ne_zero (cY a) (cY b)) ((a1.mul b1).mono (by decide)) ?_;rw[aOP];exact q
theorem aIG {a b:Rat}(ha:Sz 4000 a)(hb:Sz 4000 b)(q:Q (.val (bU (a*b)))):nZ [.val (bU a),.val (bU b)] Q:=by
 obtain⟨a0,a1⟩:=id ha;obtain⟨b0,b1⟩:=id hb;refine pU ?_;unfold sS;walk_at "!TĈlN(M@@N-";refine qC (Int.mul_ne_zero (cY a) (cY b)) ((a1.mul b1).mono (by decide)) ?_;rw[aCB];exact q
theorem a5B {a b:Rat}(ha:Sz 9000 a)(hb:Sz 9000 b)(q:Q (.val (.bool (decide (a<b))))):gC [.val (bU a),.val (bU b)] Q:=by
 obtain⟨a0,a1⟩:=id ha;obtain⟨b0,b1⟩:=id hb;refine pU ?_;unfold vL;walk_at "!06UU#";rw[aKT];exact q
end
theorem a9H (i:Int):PyData.tuple [.int i,.int 1]=bU (i:Rat):=by
 unfold bU;rw[Rat.num_intCast,Rat.den_intCast];rfl
theorem aKM {k:Nat}{i:Int}(h1 : -2147483648<i)(h2:i<2147483648)(hk:31≤k:=by decide):Bt k i:=by
 refine Bt.mono (k:=31) ?_ hk;show i.natAbs<2^31;have:(2:Nat)^31=2147483648:=by decide
 omega
theorem aFE {k:Nat}{i:Int}(h1 : -2147483648<i)(h2:i<2147483648)(hk:31≤k:=by decide):Sz k (i:Rat):=aHB (aKM h1 h2 hk) (by omega)
def LinesOk (k:Nat)(ls:List (Rat×Rat)):Prop:=∀ l∈ls,Sz k l.1∧Sz k l.2
def bH (ls:List (Rat×Rat)):List D:=ls.map o5
theorem LinesOk.get {k:Nat}{ls:List (Rat×Rat)}(h:LinesOk k ls){i:Nat}{l:Rat×Rat}(e:ls[i]?=some l):Sz k l.1∧Sz k l.2:=h l (List.mem_of_getElem? e)
theorem mH {ds:List D}{i:Nat}{d:D}(h:ds[i]?=some d):ixD (.list ds) (.int (i:Int))=some d:=a6I h
theorem aGL {ls:List (Rat×Rat)}{i:Nat}(h:i<ls.length):ixD (.list (bH ls)) (.int (i:Int))=some (o5 ls[i]):=mH (by unfold bH; rw[List.getElem?_map,List.getElem?_eq_getElem h]; rfl)
theorem a7M (ls:List (Rat×Rat))(l:Rat×Rat):bH ls++[o5 l]=bH (ls++[l]):=by simp[bH]
theorem jN (ls:List (Rat×Rat)):(bH ls).length=ls.length:=by simp[bH]
section
variable {Q:Rv→Prop}
end
section
variable {Q:Rv→Prop}
end
section
variable {Q:Rv→Prop}{ls:List (Rat×Rat)}{i j:Nat}{l k:Rat×Rat}{t:Rat}
theorem nU {ls:List (Rat×Rat)}{i:Nat}{l:Rat×Rat}(h:ls[i]?=some l):ixD (.list (bH ls)) (.int (i:Int))=some (o5 l):=mH (by unfold bH; rw[List.getElem?_map,h]; rfl)
def xF:Option Rat→D
 | none=>.none
 | some q=>bU q
theorem aMP (o:Option Rat):Gd 1 (xF o):=by
 cases o with
 | none=>exact gd_none.mono
 | some q=>exact a8K q
theorem xQ {l:Rat×Rat}{t:Rat}(h1:Sz 900 l.1)(h2:Sz 900 l.2)(h3:Sz 2900 t):Sz 9000 (pl l t):=(h1.add (h2.mul h3)).mono (by decide)
def oR (l:Rat×Rat)(t:Rat)(i:Nat):D:=.tuple [bU (pl l t),bU l.2,.int (i:Int)]
theorem a8G (l:Rat×Rat)(t:Rat)(i:Nat):ixD (oR l t i) (.int 0)=some (bU (pl l t)):=rfl
theorem a91 (l:Rat×Rat)(t:Rat)(i:Nat):ixD (oR l t i) (.int 1)=some (bU l.2):=rfl
theorem aCE (l:Rat×Rat)(t:Rat)(i:Nat):ixD (oR l t i) (.int 2)=some (.int (i:Int)):=rfl
theorem uY (hi:ls[i]?=some l)(h1:Sz 900 l.1)(h2:Sz 900 l.2)(ht:Sz 2900 t)(q:Q (.val (oR l t i))) :
  jL [.val (.list (bH ls)),.val (.int (i:Int)),.val (bU t)] Q:=by
 refine pU ?_;unfold vB;walk_at "!0+A<H";refine cO (nU hi) ?_;walk_at "!*2";refine aA2 h1 h2 ht ?_;walk_at "!/OH";refine cO (nU hi) ?_;walk_at "!&āG1";exact q
theorem rD (h1:Sz 9000 (pl l t))(h2:Sz 9000 l.2)(h3:Sz 9000 (pl k t))(h4:Sz 9000 k.2)(q:Q (.val (.bool (ahB l k i j t)))) :
  fP [.val (oR l t i),.val (oR k t j)] Q:=by
 unfold ahB at q;refine pU ?_;unfold lX mK mL;walk_at "!9:3";refine cO (a8G _ _ _) ?_;walk_at "!=";refine cO (a8G _ _ _) ?_;walk_at "!Ā";refine a3B (fun c=>?_) (fun c=>?_)
 ·rw[if_neg c] at q;walk_at "!T3";refine cO (a8G _ _ _) ?_;walk_at "!(=";refine cO (a8G _ _ _) ?_;walk_at "!2";exact gG h3 h1 q
 ·rw[if_pos c] at q;walk_at "!E9:3";refine cO (a91 _ _ _) ?_;walk_at "!=";refine cO (a91 _ _ _) ?_;walk_at "!Ā";refine a3B (fun c=>?_) (fun c=>?_)
  ·rw[if_neg c] at q;walk_at "!T3";refine cO (a91 _ _ _) ?_;walk_at "!(=";refine cO (a91 _ _ _) ?_;walk_at "!2";exact gG h4 h2 q
  ·rw[if_pos c] at q;walk_at "!E063";refine cO (aCE _ _ _) ?_;walk_at "!=";refine cO (aCE _ _ _) ?_;walk_at "!#";exact q
theorem a1J (hi:ls[i]?=some l)(hj:ls[j]?=some k)(h1:Sz 900 l.1)(h2:Sz 900 l.2)(h3:Sz 900 k.1)(h4:Sz 900 k.2)(ht:Sz 2900 t)(q:Q (.val (.bool (ahB l k i j t)))) :
  mW [.val (.list (bH ls)),.val (.int (i:Int)),.val (.int (j:Int)),.val (bU t)] Q:=by
 refine pU ?_;unfold vY;walk_at "!T_;";refine uY hi h1 h2 ht ?_;walk_at "!(_;";refine uY hj h3 h4 ht ?_;walk_at "!-";exact rD (xQ h1 h2 ht) (h2.mono (by decide)) (xQ h3 h4 ht) (h4.mono (by decide)) q
theorem tW (hi:ls[i]?=some l)(hj:ls[j]?=some k)(h1:Sz 900 l.1)(h2:Sz 900 l.2)(h3:Sz 900 k.1)(h4:Sz 900 k.2)(ht:Sz 2900 t)(q:Q (.val (xF (nxC l k t)))) :
  gO [.val (.list (bH ls)),.val (.int (i:Int)),.val (.int (j:Int)),.val (bU t)] Q:=by
 unfold nxC at q;refine pU ?_;unfold nP oJ;walk_at "!%A<H";refine cO (nU hi) ?_;walk_at "!(<W";refine cO (nU hj) ?_;walk_at "!2";refine aCK h1 h2 h3 h4 ?_;walk_at "!9BJ3";unfold aJN
 by_cases hs:l.2=k.2
 ·rw[if_pos hs] at q ⊢;obtain⟨s,hs1,hs2⟩:∃ s:Str,(if l.1=k.1 then PyData.tuple [.str "always"] else .tuple [.str "never"])=.tuple [.str s]∧(s = "always" ∨ s = "never"):=by
   by_cases c:l.1=k.1
   ·rw[if_pos c]; exact⟨_,rfl,.inl rfl⟩
   ·rw[if_neg c]; exact⟨_,rfl,.inr rfl⟩
  rw[hs1];refine cO (d:=.str s) rfl ?_;walk_at "!&";have hz:PyData.eqv (.str s) (.str "at")=false:=by rcases hs2 with rfl|rfl<;>decide
  refine⟨by rcases hs2 with rfl|rfl<;>exact good_str _,good_str _,?_⟩;rw[hz];walk_at "!ooEf";exact q
 ·rw[if_neg hs] at q ⊢;have zm:Sz 3700 (mt l k):=((h3.sub h1).div (h2.sub h4) (by grind)).mono (by decide);refine cO (d:=.str "at") rfl ?_;walk_at "!&";refine⟨good_str _,good_str _,?_⟩;rw[xM (good_str "at")];walk_at "!C.I(3";refine cO (d:=bU (mt l k)) rfl ?_;walk_at "!2";refine gG (ht.mono (by decide)) (zm.mono (by decide)) ?_;walk_at "!#";refine fX (fun c=>?_) (fun c=>?_)
  ·rw[if_pos c] at q;walk_at "!03";refine cO (d:=bU (mt l k)) rfl ?_;skip;exact q
  ·rw[if_neg c] at q;walk_at "!Ef";exact q
end
def cF (xs:List Nat):List D:=xs.map fun i:Nat=>PyData.int (i:Int)
theorem iZ (xs:List Nat):(cF xs).length=xs.length:=by simp[cF]
theorem zB (xs:List Nat):Good (.list (cF xs)):=(uH (n:=0) fun d h=>by
 obtain⟨t,_,rfl⟩:=List.mem_map.mp h;exact oY _).good
theorem uL (ls:List Ln):aJ5 (.list (bH ls))=some (.int (ls.length:Int)):=by show some (PyData.int ((bH ls).length:Int))=_; rw[jN]
def aN4 (ts:List Rat)(o:Option Rat):List Rat:=match o with
 | none=>ts
 | some t=>if t∈ts then ts else zN ts ((ts.filter fun u=>decide (u<t)).length:Int) t
def aBX (ls:List Ln)(i:Nat):Nat→List Rat→List Rat
 | 0,ts=>ts
 | j+1,ts=>aN4 (aBX ls i j ts) (match ls[i]?,ls[j]? with|some l,some k=>mtO l k|_,_=>none)
def aAI (ls:List Ln):Nat→List Rat
 | 0=>[]
 | i+1=>aBX ls i i (aAI ls i)
def mts (ls:List Ln):List Rat:=aAI ls ls.length
theorem aG0 {α β:Type}(f:α→β)(xs:List α)(i:Int)(x:α):(zN xs i x).map f=zN (xs.map f) i (f x):=by
 unfold zN;rw[List.map_append,List.map_cons,List.map_take,List.map_drop,List.length_map]
theorem aJC {α:Type}{xs:List α}{n:Nat}{x:α}(h:n≤xs.length):zN xs (n:Int) x=xs.take n++x::xs.drop n:=by
 unfold zN aBG;rw[if_neg (by omega)];simp[Nat.min_eq_left h]
theorem aF6 {α:Type}{xs:List α}{i:Int}{x y:α}:y∈zN xs i x↔y=x∨y∈xs:=by
 unfold zN;generalize aBG xs.length i=k;have e:y∈xs↔y∈xs.take k∨y∈xs.drop k:=by
  rw[← List.mem_append,List.take_append_drop]
 rw[List.mem_append,List.mem_cons,e];constructor
 ·rintro(h|h|h)
  ·exact .inr (.inl h)
  ·exact .inl h
  ·exact .inr (.inr h)
 ·rintro(h|h|h)
  ·exact .inr (.inl h)
  ·exact .inl h
  ·exact .inr (.inr h)
theorem aGA {ts:List Rat}{o:Option Rat}{t:Rat}:t∈aN4 ts o↔t∈ts∨o=some t:=by
 unfold aN4
 split
 ·simp
 ·rename_i u
  split
  ·rename_i h
   constructor
   ·exact .inl
   ·rintro(z|z)
    ·exact z
    ·cases z; exact h
  ·rw[aF6];constructor
   ·rintro(z|z)
    ·exact .inr (by rw[z])
    ·exact .inl z
   ·rintro(z|z)
    ·exact .inr z
    ·cases z; exact .inl rfl
theorem aD8 {ls:List Ln}{i j:Nat}{ts:List Rat}{t:Rat}:t∈aBX ls i j ts↔t∈ts∨∃ j',j'<j∧∃ l k,ls[i]?=some l∧ls[j']?=some k∧mtO l k=some t:=by
 induction j with
 | zero=>simp[aBX]
 | succ j ih=>
  show t∈aN4 _ _↔_;rw[aGA,ih];constructor
  ·rintro((h|⟨j',h1,h2⟩)|h)
   ·exact .inl h
   ·exact .inr ⟨j',by omega,h2⟩
   ·split at h
    ·rename_i l k e1 e2
     exact .inr ⟨j,by omega,l,k,e1,e2,h⟩
    ·cases h
  ·rintro(h|⟨j',h1,l,k,e1,e2,h⟩)
   ·exact .inl (.inl h)
   ·by_cases hj:j'=j
    ·subst hj
     right
     rw[e1,e2];exact h
    ·exact .inl (.inr ⟨j',by omega,l,k,e1,e2,h⟩)
theorem mem_mtsTo {ls:List Ln}{n:Nat}{t:Rat}:t∈aAI ls n↔∃ i j l k,i<n∧j<i∧ls[i]?=some l∧ls[j]?=some k∧mtO l k=some t:=by
 induction n with
 | zero=>simp[aAI]
 | succ n ih=>
  show t∈aBX ls n n (aAI ls n)↔_;rw[aD8,ih];constructor
  ·rintro(⟨i,j,l,k,h1,h2⟩|⟨j,h1,l,k,h2⟩)
   ·exact⟨i,j,l,k,by omega,h2⟩
   ·exact⟨n,j,l,k,by omega,h1,h2⟩
  ·rintro⟨i,j,l,k,h1,h2,h3⟩
   by_cases hi:i=n
   ·subst hi; exact .inr ⟨j,h2,l,k,h3⟩
   ·exact .inl ⟨i,j,l,k,by omega,h2,h3⟩
theorem aI6 {l k:Ln}{t:Rat}(h1:Sz 200 l.1)(h2:Sz 200 l.2)(h3:Sz 200 k.1)(h4:Sz 200 k.2)(h:mtO l k=some t):Sz 802 t:=by
 unfold mtO at h
 split at h
 ·cases h
 ·cases h
  exact((h3.sub h1).div (h2.sub h4) (by grind)).mono (by decide)
theorem aKZ {ls:List Ln}(hz:LinesOk 200 ls){n:Nat}{t:Rat}(h:t∈aAI ls n):Sz 802 t:=by
 obtain⟨i,j,l,k,_,_,e1,e2,h⟩:=mem_mtsTo.mp h;obtain⟨a,b⟩:=hz.get e1;obtain⟨c,d⟩:=hz.get e2;exact aI6 a b c d h
section
variable {Q:Rv→Prop}
end
section
variable {Q:Rv→Prop}{ls:List Ln}
end
section
variable {Q:Rv→Prop}{ls:List Ln}
def aKC (ls:List Ln)(t:Rat)(i:Nat):D:=match ls[i]? with
 | some l=>oR l t i
 | none=>.none
theorem a85 {t:Rat}{i:Nat}{l:Ln}(h:ls[i]?=some l):aKC ls t i=oR l t i:=by unfold aKC; rw[h]
def aB2 (ls:List Ln)(t:Rat)(xs:List Nat):List D:=xs.map (aKC ls t)
theorem a2C (t:Rat)(xs:List Nat):(aB2 ls t xs).length=xs.length:=by unfold aB2; rw[List.length_map]
theorem aGN {xs:List Nat}{n:Nat}{d:D}(h:(cF xs)[n]?=some d):∃ o,xs[n]?=some o∧d=.int (o:Int):=by
 unfold cF at h;rw[List.getElem?_map] at h
 cases e:xs[n]? with
 | none=>rw[e] at h; cases h
 | some o=>rw[e] at h; cases h; exact⟨o,rfl,rfl⟩
theorem a1W {rs:List Nat}{t:Rat}(hz:LinesOk 200 ls)(hl:rs.length≤30)(hr:∀ x∈rs,x<ls.length)(hn:rs.Nodup)(ht:Sz 2900 t)(q:Q (.own (cF (a5L (ahN ls t) rs)))) :
  jF [.val (.list (bH ls)),.val (.list (cF rs)),.val (bU t)] Q:=by
 refine pU ?_;unfold nJ;walk_at "!Xĉ1`w)";refine yV (fun n Γ=>∃ a b c,Γ=[.val (.list (bH ls)),.val (.list (cF rs)),.val (bU t),.own (aB2 ls t (a5L (ahN ls t) (rs.take n))),a,b,c]) ⟨_,_,_,rfl⟩ ?_ ?_
 ·rintro n d Γ K hd ⟨a,b,c,rfl⟩ hk;obtain⟨o,ho,rfl⟩:=aGN hd;have ho':o∈rs:=List.mem_of_getElem? ho;have hlt:=hr o ho';have e1:ls[o]?=some ls[o]:=List.getElem?_eq_getElem hlt;obtain⟨z1,z2⟩:=hz.get e1;have tk:rs.take (n+1)=rs.take n++[o]:=by rw[List.take_succ,ho]; rfl
  have hk3:=hk.nx;rw[tk,a3V] at hk3;have hno:o∉rs.take n:=by
   have:=hn.sublist (List.take_sublist (n+1) rs);rw[tk] at this;have:=(List.nodup_append.mp this).2.2;exact fun hm=>this o hm o (List.mem_singleton.mpr rfl) rfl
  have hsrt:=aFA (dO ls t) (rs:=rs.take n) (fun x hx=>hr x (List.mem_of_mem_take hx)) (hn.sublist (List.take_sublist n rs));have hxn:∀ x∈a5L (ahN ls t) (rs.take n),x<ls.length∧x≠o:=fun x hx=>by
   have hx:=ordL_mem.mp hx;exact⟨hr x (List.mem_of_mem_take hx),fun e=>hno (by rw[← e]; exact hx)⟩
  have hlen:(a5L (ahN ls t) (rs.take n)).length≤30:=by
   rw[a8N,List.length_take];omega
  generalize hxs:a5L (ahN ls t) (rs.take n)=xs at *;have ft:=a3S (dO ls t) hlt hxn hsrt;have fl:(xs.filter fun x => !ahN ls t o x).length≤xs.length:=List.length_filter_le _ _;generalize hF:(xs.filter fun x => !ahN ls t o x).length=m at *;unfold oW;walk_at "!4%_;";refine uY e1 (z1.mono (by decide)) (z2.mono (by decide)) ht ?_;walk_at "!%&j";refine pH (fun w Γ=>∃ k:Nat,w=m-k∧k≤m∧Γ=[.val (.list (bH ls)),.val (.list (cF rs)),.val (bU t),.own (aB2 ls t xs),.val (.int (o:Int)),.val (oR ls[o] t o),.val (.int (k:Int))]) m ⟨0,by omega,by omega,rfl⟩ ?_;rintro w Γ ⟨k,rfl,hkm,rfl⟩;have stop:k=m→j4 [.val (.list (bH ls)),.val (.list (cF rs)),.val (bU t),.own (aB2 ls t xs),.val (.int (o:Int)),.val (oR ls[o] t o),.val (.int (k:Int))] K:=by
   intro ek;unfold j4;walk_at "!ķW";refine aM7 (ds:=aB2 ls t xs) rfl (by omega) (by omega) (by rw[a2C]; omega) ?_;have ei:zN (aB2 ls t xs) (k:Int) (oR ls[o] t o)=aB2 ls t (cN (ahN ls t) xs o):=by
    rw[← a85 e1,ek];unfold aB2;rw[← aG0 (aKC ls t),aJC fl,ft.1,ft.2];unfold cN;simp
   rw[ei];exact hk3 _ ⟨_,_,_,rfl⟩
  walk_at "!xB6$Y)";refine cO (d:=.int (xs.length:Int)) (by show some (PyData.int ((aB2 ls t xs).length:Int))=_; rw[a2C]) ?_;walk_at "!#";refine fX (fun c=>?_) (fun c=>?_)
  ·have hkx:k<xs.length:=by omega
   have m1:=(hxn xs[k] (List.getElem_mem _)).1;have e2:ls[xs[k]]?=some ls[xs[k]]:=List.getElem?_eq_getElem m1;obtain⟨z3,z4⟩:=hz.get e2;have ix:ixD (.list (aB2 ls t xs)) (.int (k:Int))=some (oR ls[xs[k]] t xs[k]):=mH (by
    unfold aB2;rw[List.getElem?_map,List.getElem?_eq_getElem hkx];show some (aKC ls t xs[k])=_;rw[a85 e2])
   walk_at "!.A<H";refine cO ix ?_;walk_at "!*2";refine rD (xQ (z3.mono (by decide)) (z4.mono (by decide)) ht) (z4.mono (by decide)) (xQ (z1.mono (by decide)) (z2.mono (by decide)) ht) (z2.mono (by decide)) ?_;rw[← mX e2 e1]
   by_cases hkm2:k<m
   ·have hin:xs[k]∈xs.filter fun x => !ahN ls t o x:=by
     rw[← ft.1];exact List.mem_take_iff_getElem.mpr ⟨k,by omega,rfl⟩
    have ha:ahN ls t xs[k] o=true:=by
     rw[(dO ls t).flip hlt m1 (Ne.symm (hxn xs[k] (List.getElem_mem _)).2)];exact(List.mem_filter.mp hin).2
    rw[ha];walk_at "!gC";unfold oH;walk_at "!ĸh";exact⟨m-(k+1),by omega,k+1,rfl,by omega,by rw[Int.natCast_add]; rfl⟩
   ·have ek:k=m:=by omega
    subst ek;have hin:xs[k]∈xs.filter fun x=>ahN ls t o x:=by
     rw[← ft.2];exact List.mem_drop_iff_getElem.mpr ⟨0,by omega,by simp⟩
    have ha:ahN ls t xs[k] o=false:=by
     rw[(dO ls t).flip hlt m1 (Ne.symm (hxn xs[k] (List.getElem_mem _)).2),(List.mem_filter.mp hin).2];rfl
    rw[ha];walk_at "!go";exact stop rfl
  ·walk_at "!go";exact stop (by omega)
 ·rintro Γ ⟨a,b,c,rfl⟩;rw[iZ,List.take_length];have hm:∀ x∈a5L (ahN ls t) rs,x<ls.length:=fun x hx=>hr x (ordL_mem.mp hx);have hlen:(a5L (ahN ls t) rs).length≤30:=by rw[a8N]; exact hl
  generalize a5L (ahN ls t) rs=xs at *;unfold oU;walk_at "!Ĺs#Ăw)";refine⟨by rw[a2C]; omega,?_⟩;refine pQ (α:=Nat) (fun _=>true) (fun o=>.int (o:Int)) (aKC ls t) xs [] _ (fun o ho _ k k0 h1 h0=>?_) ?_
  ·have hlt:=hm o ho;have e2:ls[o]?=some ls[o]:=List.getElem?_eq_getElem hlt;rw[a85 e2];walk_at "!4";unfold vA;walk_at "!C=";refine cO (aCE _ _ _) ?_;skip;exact h1 rfl
  ·have ef:List.filter (fun _=>true) xs=xs:=List.filter_eq_self.mpr fun _ _=>rfl;rw[ef,List.nil_append];skip;exact q
theorem iI {t:Rat}(hz:LinesOk 200 ls)(hl:ls.length≤30)(ht:Sz 2900 t)(q:Q (.own (cF (ord ls t)))):cM [.val (.list (bH ls)),.val (bU t)] Q:=by
 refine pU ?_;unfold v5;walk_at "!ă*(yĺY)";refine cO (uL ls) ?_;walk_at "!#";refine⟨⟨by omega,by omega⟩,?_⟩;have e:iB 0 (ls.length:Int).toNat=cF (List.range ls.length):=by
  unfold iB cF;rw[Int.toNat_natCast];exact List.map_congr_left fun k _=>by rw[Int.zero_add]
 rw[e];walk_at "!*2";refine a1W hz (by rw[List.length_range]; exact hl) (fun x hx=>List.mem_range.mp hx) List.nodup_range ht ?_;rw[a0U];exact q
end
def a8W (ls:List Ln)(t:Rat)(i j:Nat):D:=.tuple [.int (i:Int),.int (j:Int),xF (nxN ls t i j)]
theorem aGK (ls:List Ln)(t:Rat)(i j:Nat):Gd 2 (a8W ls t i j):=a5N (n:=1) fun d h=>by
 rcases List.mem_cons.mp h with rfl|h
 ·exact(oY _).mono
 ·rcases List.mem_cons.mp h with rfl|h
  ·exact(oY _).mono
  ·rw[List.mem_singleton.mp h]; exact aMP _
def aBS (ls:List Ln)(t:Rat)(xs:List Nat)(n:Nat):List D:=(List.range n).map fun a=>a8W ls t (xs.getD a 0) (xs.getD (a+1) 0)
theorem aGG (ls:List Ln)(t:Rat)(xs:List Nat)(n:Nat):Good (.list (aBS ls t xs n)):=(uH (n:=2) fun d h=>by
 obtain⟨a,_,rfl⟩:=List.mem_map.mp h;exact aGK _ _ _ _).good
def aLK (ls:List Ln)(t:Rat):List D:=aBS ls t (ord ls t) ((ord ls t).length-1)
section
variable {Q:Rv→Prop}{ls:List Ln}
end
theorem aK0 (xs:List D):L2.VS.cutD xs (some 1) none=xs.drop 1:=by
 cases xs with
 | nil=>rfl
 | cons x xs=>
  have e1:HT.sIx (x::xs).length 0 (some 1)=1:=by
   unfold HT.sIx;simp
  have e2:HT.sIx (x::xs).length (x::xs).length none=(x::xs).length:=rfl;unfold L2.VS.cutD;rw[e1,e2];simp
def wH (xs:List Nat):List (Nat×Nat):=xs.zip (xs.drop 1)
def aA6 (p:Nat×Nat):D:=.tuple [.int (p.1:Int),.int (p.2:Int)]
theorem a9B (p:Nat×Nat):ixD (aA6 p) (.int 0)=some (.int (p.1:Int)):=rfl
theorem a8Q (p:Nat×Nat):ixD (aA6 p) (.int 1)=some (.int (p.2:Int)):=rfl
theorem qU (xs:List Nat):(wH xs).length=xs.length-1:=by unfold wH; rw[List.length_zip,List.length_drop]; omega
theorem rA {xs:List Nat}{n:Nat}(h:n+1<xs.length):(wH xs)[n]?=some (xs[n],xs[n+1]):=by
 unfold wH;rw[List.getElem?_zip_eq_some];exact⟨List.getElem?_eq_getElem (by omega),by rw[List.getElem?_drop,Nat.add_comm]; exact List.getElem?_eq_getElem h⟩
theorem uD {xs:List Nat}{p:Nat×Nat}(h:p∈wH xs):∃ n,∃ h:n+1<xs.length,p=(xs[n],xs[n+1]):=by
 obtain⟨n,hn⟩:=List.mem_iff_getElem?.mp h;have hl:=(List.getElem?_eq_some_iff.mp hn).1;rw[qU] at hl;refine⟨n,by omega,?_⟩;rw[rA (by omega)] at hn;exact(Option.some.inj hn).symm
theorem a88 {α:Type}(f:Nat→Nat→α)(xs:List Nat):(wH xs).map (fun p=>f p.1 p.2)=(List.range (xs.length-1)).map fun a=>f (xs.getD a 0) (xs.getD (a+1) 0):=by
 refine List.ext_getElem? fun n=>?_;rw[List.getElem?_map,List.getElem?_map]
 by_cases h:n+1<xs.length
 ·rw[rA h,List.getElem?_range (by omega)];simp[List.getD_eq_getElem?_getD,List.getElem?_eq_getElem (show n<xs.length by omega),List.getElem?_eq_getElem h]
 ·rw[List.getElem?_eq_none (by rw[qU]; omega),List.getElem?_eq_none (by rw[List.length_range]; omega)];rfl
def iJ (ls:List Ln)(t:Rat)(i j:Nat):Option Rat:=if ahN ls t j i=true then some t else nxN ls t i j
def yR (ls:List Ln)(t:Rat)(i j:Nat):D:=.tuple [.int (i:Int),.int (j:Int),xF (iJ ls t i j)]
section
variable {Q:Rv→Prop}{ls:List Ln}
theorem wN {xs:List Nat}(q:Q (.own ((wH xs).map aA6))):iW [.val (.list (cF xs))] Q:=by
 refine pU ?_;unfold pR;walk_at "!s#Ļ$aĤ$Ċ&ļ#";rw[aK0];have e:aK5 (cF xs) ((cF xs).drop 1)=(wH xs).map aA6:=by
  unfold aK5 cF wH;rw[← List.map_drop,List.zip_map,List.map_map];exact List.map_congr_left fun p _=>rfl
 rw[e];exact q
theorem aEU {i j:Nat}{l k:Ln}{t:Rat}(hi:ls[i]?=some l)(hj:ls[j]?=some k)(h1:Sz 900 l.1)(h2:Sz 900 l.2)(h3:Sz 900 k.1)(h4:Sz 900 k.2)(ht:Sz 2900 t)(q:Q (.val (xF (iJ ls t i j)))) :
  u5 [.val (.list (bH ls)),.val (.int (i:Int)),.val (.int (j:Int)),.val (bU t)] Q:=by
 unfold iJ at q;refine pU ?_;unfold zP;walk_at "!L_*;";refine a1J hj hi h3 h4 h1 h2 ht ?_;rw[← mX hj hi]
 cases ha:ahN ls t j i with
 | true=>
  rw[if_pos ha] at q;walk_at "!C0)";exact q
 | false=>
  rw[if_neg (by rw[ha]; decide)] at q;walk_at "!p";unfold wF;walk_at "!ă***;";refine tW hi hj h1 h2 h3 h4 ht ?_;rw[← a5E hi hj];exact q
theorem lQ {xs:List Nat}{t:Rat}(hz:LinesOk 200 ls)(hl:xs.length≤30)(hm:∀ x∈xs,x<ls.length)(ht:Sz 2900 t)(q:Q (.own ((wH xs).map fun p=>yR ls t p.1 p.2))) :
  dU [.val (.list (bH ls)),.val (.list (cF xs)),.val (bU t)] Q:=by
 refine pU ?_;unfold m7;walk_at "!s#ĂwI-";refine wN ?_;walk_at "!#";refine⟨by rw[List.length_map,qU]; omega,?_⟩;refine pQ (α:=Nat×Nat) (fun _=>true) (fun p=>yR ls t p.1 p.2) aA6 (wH xs) [] _ (fun p hp _ k k0 h1 h0=>?_) ?_
 ·obtain⟨n,hn,rfl⟩:=uD hp;have l1:xs[n]<ls.length:=hm _ (List.getElem_mem _);have l2:xs[n+1]<ls.length:=hm _ (List.getElem_mem _);have e1:ls[xs[n]]?=some ls[xs[n]]:=List.getElem?_eq_getElem l1;have e2:ls[xs[n+1]]?=some ls[xs[n+1]]:=List.getElem?_eq_getElem l2;obtain⟨z1,z2⟩:=hz.get e1;obtain⟨z3,z4⟩:=hz.get e2;walk_at "!4";unfold vA;walk_at "!C+=";refine cO (a9B _) ?_;walk_at "!/3";refine cO (a8Q _) ?_;walk_at "!/I(3";refine cO (a9B _) ?_;walk_at "!(3";refine cO (a8Q _) ?_;walk_at "!;";refine aEU e1 e2 (z1.mono (by decide)) (z2.mono (by decide)) (z3.mono (by decide)) (z4.mono (by decide)) ht ?_;walk_at "!8";exact h1 rfl
 ·have ef:List.filter (fun _=>true) (wH xs)=wH xs:=List.filter_eq_self.mpr fun _ _=>rfl;rw[ef,List.nil_append];skip;exact q
theorem a5F {xs:List Nat}{t:Rat}(hm:∀ x∈xs,x<ls.length)(hs:Srt (ahN ls t) xs):((wH xs).map fun p=>yR ls t p.1 p.2)=aBS ls t xs (xs.length-1):=by
 unfold aBS;rw[← a88];refine List.map_congr_left fun p hp=>?_;obtain⟨n,hn,rfl⟩:=uD hp;unfold yR a8W iJ;have h:ahN ls t xs[n] xs[n+1]=true:=List.pairwise_iff_getElem.mp hs n (n+1) (by omega) hn (by omega);rw[if_neg (by rw[(dO ls t).asymm _ _ (hm _ (List.getElem_mem _)) (hm _ (List.getElem_mem _)) h]; decide)]
theorem yH {t:Rat}(hz:LinesOk 200 ls)(hl:ls.length≤30)(ht:Sz 2900 t)(q:Q (.own (aLK ls t))):jT [.val (.list (bH ls)),.val (bU t)] Q:=by
 have hm:∀ x∈ord ls t,x<ls.length:=fun x hx=>(kW ls t x).mp hx;refine pU ?_;unfold t6;walk_at "!ă*(F";refine iI hz hl ht ?_;walk_at "!;";refine lQ hz (by rw[nA]; exact hl) hm ht ?_;rw[a5F hm (pI ls t)];exact q
end
def ln (ls:List Ln)(i:Nat):Ln:=ls.getD i (0,0)
theorem nY {ls:List Ln}{i:Nat}(h:i<ls.length):ls[i]?=some (ln ls i):=by
 unfold ln;rw[List.getD_eq_getElem?_getD,List.getElem?_eq_getElem h];rfl
theorem zO {ls:List Ln}{t:Rat}{i j:Nat}(hi:i<ls.length)(hj:j<ls.length):ahN ls t i j=ahB (ln ls i) (ln ls j) i j t:=mX (nY hi) (nY hj)
theorem a05 {ls:List Ln}{t:Rat}{i j:Nat}(hi:i<ls.length)(hj:j<ls.length):nxN ls t i j=nxC (ln ls i) (ln ls j) t:=a5E (nY hi) (nY hj)
theorem a80 {a b:Rat}(ha:0≤a)(hb:0≤b):0≤a*b:=Rat.mul_nonneg ha hb
theorem aIN {a b:Rat}(ha:a≤0)(hb:b≤0):0≤a*b:=by
 have:=a80 (a := -a) (b := -b) (by grind) (by grind);grind
theorem a6E {a b:Rat}(h:0≤a*b)(hb:b<0):a≤0:=by
 rcases Rat.le_total (a:=a) (b:=0) with z|z
 ·exact z
 ·have h1:=a80 (a:=a) (b := -b) z (by grind);have h2:a*b=0:=by grind
  have h3:a=0∨b=0:=Rat.mul_eq_zero.mp h2;rcases h3 with h3|h3
  ·rw[h3]; exact Rat.le_refl
  ·rw[h3] at hb; exact absurd hb (by grind)
theorem aIS {a b:Rat}(h:0≤a*b)(hb:0<b):0≤a:=by
 have:=a6E (a := -a) (b := -b) (by grind) (by grind);grind
def Wb (ls:List Ln)(t:Rat)(i j:Nat):Prop:=pl (ln ls j) t≤pl (ln ls i) t∧(ln ls i=ln ls j→i<j)
theorem Wb.on {ls:List Ln}{t u:Rat}{a b:Nat}(ha:a<ls.length)(hb:b<ls.length)(h:Wb ls t a b)(htu:t≤u)(hu:∀ v,iJ ls t a b=some v→u≤v):Wb ls u a b:=by
 refine⟨?_,h.2⟩;have h1:=h.1;unfold iJ at hu
 by_cases c:ahN ls t b a=true
 ·rw[if_pos c] at hu;have:u=t:=Rat.le_antisymm (hu t rfl) htu;rw[this]; exact h1
 ·rw[if_neg c,a05 ha hb] at hu;rw[zO hb ha] at c;generalize ln ls a=l at *;generalize ln ls b=k at *;unfold nxC at hu
  by_cases e:l.2=k.2
  ·unfold pl at *;rw[e] at h1 ⊢;grind
  ·rw[if_neg e] at hu;have s1:=a1D e t;have s2:=a1D e u
   by_cases m:t<mt l k
   ·rw[if_pos m] at hu;have hm:=hu _ rfl;have h2:0≤(l.2-k.2)*(t-mt l k):=by rw[← s1]; grind
    have h3:=a6E h2 (by grind);have h4:=aIN h3 (show u-mt l k≤0 by grind);rw[← s2] at h4;grind
   ·have h2:0≤(l.2-k.2)*(t-mt l k):=by rw[← s1]; grind
    have h5:0≤l.2-k.2:=by
     by_cases z:mt l k<t
     ·exact aIS h2 (by grind)
     ·have z:mt k l≤t:=by rw[aEA e]; grind
      rw[aJS (fun y=>e y.symm) z] at c;have:¬l.2<k.2:=fun y=>c (decide_eq_true y);grind
    have h4:=a80 h5 (show 0≤u-mt l k by grind);rw[← s2] at h4;grind
theorem Wb.meet {ls:List Ln}{t u:Rat}{a b:Nat}(ha:a<ls.length)(hb:b<ls.length)(h:Wb ls t a b)(hu:iJ ls t a b=some u):t≤u∧(ln ls a).2<(ln ls b).2∧pl (ln ls a) u=pl (ln ls b) u:=by
 obtain⟨h1,h2⟩:=h;unfold iJ at hu
 by_cases c:ahN ls t b a=true
 ·rw[if_pos c] at hu
  cases hu
  rw[zO hb ha,lY] at c;rcases c with c|⟨c1,c2|⟨c2,c3⟩⟩
  ·grind
  ·exact⟨Rat.le_refl,c2,c1.symm⟩
  ·exfalso;have:ln ls a=ln ls b:=by
    generalize ln ls a=l at *;generalize ln ls b=k at *;obtain⟨l1,l2⟩:=l;obtain⟨k1,k2⟩:=k;unfold pl at c1;dsimp only at c1 c2;subst c2;have:l1=k1:=by grind
    rw[this]
   have:=h2 this;omega
 ·rw[if_neg c,a05 ha hb] at hu;obtain⟨e,htm,hm⟩:=qN hu;have s1:=a1D e t;rw[← hm] at s1;have h3:=a6E (a:=(ln ls a).2-(ln ls b).2) (b:=t-u) (by rw[← s1]; grind) (by grind);exact⟨by grind,by grind,(aDA e).mpr hm⟩
def ffS (b:Option (Nat×Rat))(n:Nat)(u:Option Rat):Option (Nat×Rat):=match u,b with
 | none,b=>b
 | some u,none=>some (n,u)
 | some u,some c=>if u<c.2 then some (n,u) else some c
def ffN (us:List (Option Rat)):Nat→Option (Nat×Rat)
 | 0=>none
 | n+1=>ffS (ffN us n) n (us.getD n none)
def ff (us:List (Option Rat)):Option (Nat×Rat):=ffN us us.length
theorem a98 (us:List (Option Rat)):∀ n,n≤us.length→match ffN us n with
  | none=>∀ j,j<n→us[j]?=some none
  | some c=>c.1<n∧us[c.1]?=some (some c.2)∧∀ j v,j<n→us[j]?=some (some v)→c.2≤v
 | 0,_=>fun j hj=>absurd hj (Nat.not_lt_zero _)
 | n+1,h=>by
  have ih:=a98 us n (by omega);have hn:us[n]?=some (us.getD n none):=by rw[List.getD_eq_getElem?_getD,List.getElem?_eq_getElem (by omega)]; rfl
  show match ffS (ffN us n) n (us.getD n none) with
   | none=>∀ j,j<n+1→us[j]?=some none
   | some c=>c.1<n+1∧us[c.1]?=some (some c.2)∧∀ j v,j<n+1→us[j]?=some (some v)→c.2≤v
  generalize us.getD n none=x at *
  cases x with
  | none=>
   have e:ffS (ffN us n) n none=ffN us n:=by unfold ffS; cases ffN us n<;>rfl
   rw[e]
   cases hf:ffN us n with
   | none=>
    rw[hf] at ih;intro j hj
    by_cases hjn:j=n
    ·rw[hjn]; exact hn
    ·exact ih j (by omega)
   | some c=>
    rw[hf] at ih;refine⟨by have:=ih.1; omega,ih.2.1,fun j v hj hv=>?_⟩
    by_cases hjn:j=n
    ·rw[hjn,hn] at hv; cases hv
    ·exact ih.2.2 j v (by omega) hv
  | some u=>
   cases hf:ffN us n with
   | none=>
    rw[hf] at ih;refine⟨by show n<n+1; omega,hn,fun j v hj hv=>?_⟩
    by_cases hjn:j=n
    ·rw[hjn,hn] at hv; cases hv; exact Rat.le_refl
    ·rw[ih j (by omega)] at hv; cases hv
   | some c=>
    rw[hf] at ih;show match (if u<c.2 then some (n,u) else some c) with
     | none=>∀ j,j<n+1→us[j]?=some none
     | some c=>c.1<n+1∧us[c.1]?=some (some c.2)∧∀ j v,j<n+1→us[j]?=some (some v)→c.2≤v
    by_cases hc:u<c.2
    ·rw[if_pos hc];refine⟨by show n<n+1; omega,hn,fun j v hj hv=>?_⟩;show u≤v
     by_cases hjn:j=n
     ·rw[hjn,hn] at hv; cases hv; exact Rat.le_refl
     ·have:=ih.2.2 j v (by omega) hv;grind
    ·rw[if_neg hc];refine⟨by have:=ih.1; omega,ih.2.1,fun j v hj hv=>?_⟩
     by_cases hjn:j=n
     ·rw[hjn,hn] at hv; cases hv; grind
     ·exact ih.2.2 j v (by omega) hv
theorem p7 {us:List (Option Rat)}{k:Nat}{u:Rat}(h:ff us=some (k,u)):us[k]?=some (some u)∧∀(j:Nat) (v:Rat),us[j]?=some (some v)→u≤v:=by
 have:=a98 us us.length (Nat.le_refl _);unfold ff at h;rw[h] at this;exact⟨this.2.1,fun j v hv=>this.2.2 j v (List.getElem?_eq_some_iff.mp hv).1 hv⟩
theorem yD {us:List (Option Rat)}(h:ff us=none):∀ j,j<us.length→us[j]?=some none:=by
 have:=a98 us us.length (Nat.le_refl _);unfold ff at h;rw[h] at this;exact this
def bY (ls:List Ln)(t:Rat)(xs:List Nat):List (Option Rat):=(wH xs).map fun p=>iJ ls t p.1 p.2
theorem gJ (ls:List Ln)(t:Rat)(xs:List Nat):(bY ls t xs).length=xs.length-1:=by unfold bY; rw[List.length_map,qU]
theorem fQ {ls:List Ln}{t:Rat}{xs:List Nat}{n:Nat}(h:n+1<xs.length):(bY ls t xs)[n]?=some (iJ ls t xs[n] xs[n+1]):=by
 unfold bY;rw[List.getElem?_map,rA h];rfl
def swp (xs:List Nat)(k:Nat):List Nat:=xs.take k++[xs.getD (k+1) 0,xs.getD k 0]++xs.drop (k+2)
theorem aN9 {xs:List Nat}{k:Nat}(h:k+1<xs.length):xs=xs.take k++xs[k]::xs[k+1]::xs.drop (k+2):=by
 conv=>lhs; rw[← List.take_append_drop k xs]
 rw[List.drop_eq_getElem_cons (by omega),List.drop_eq_getElem_cons (by omega)]
theorem wB {xs:List Nat}{k:Nat}(h:k+1<xs.length):swp xs k=xs.take k++xs[k+1]::xs[k]::xs.drop (k+2):=by
 unfold swp;rw[List.getD_eq_getElem?_getD,List.getD_eq_getElem?_getD,List.getElem?_eq_getElem h,List.getElem?_eq_getElem (by omega:k<xs.length),List.append_assoc];rfl
theorem a3C {xs:List Nat}{k:Nat}(h:k+1<xs.length):(swp xs k).Perm xs:=by
 rw[wB h]
 conv=>rhs; rw[aN9 h]
 exact List.Perm.append_left _ (List.Perm.swap _ _ _)
theorem aJB {xs:List Nat}{k:Nat}(h:k+1<xs.length):(swp xs k).length=xs.length:=(a3C h).length_eq
theorem aI8 {xs:List Nat}{k:Nat}(h:k+1<xs.length):(xs.set k xs[k+1]).set (k+1) xs[k]=swp xs k:=by
 rw[wB h];apply List.ext_getElem?;intro j
 by_cases h1:j=k+1
 ·subst h1;rw[List.getElem?_set_self (by rw[List.length_set]; exact h),List.getElem?_append_right (by rw[List.length_take]; omega),List.length_take,Nat.min_eq_left (by omega),show k+1-k=1 by omega];rfl
 ·rw[List.getElem?_set_ne (fun z=>h1 z.symm)]
  by_cases h2:j=k
  ·subst h2;rw[List.getElem?_set_self (by omega),List.getElem?_append_right (by rw[List.length_take]; omega),List.length_take,Nat.min_eq_left (by omega),Nat.sub_self];rfl
  ·rw[List.getElem?_set_ne (fun z=>h2 z.symm)]
   by_cases h3:j<k
   ·rw[List.getElem?_append_left (by rw[List.length_take]; omega),List.getElem?_take_of_lt h3]
   ·rw[List.getElem?_append_right (by rw[List.length_take]; omega),List.length_take,Nat.min_eq_left (by omega)];obtain⟨m,hm⟩:∃ m,j-k=m+2:=⟨j-k-2,by omega⟩;rw[hm,List.getElem?_cons_succ,List.getElem?_cons_succ,List.getElem?_drop,show k+2+m=j by omega]
abbrev WInv (ls:List Ln)(t:Rat)(xs:List Nat):Prop:=xs.Pairwise (Wb ls t)
theorem xP {R:Nat→Nat→Prop}(tr:∀ a b c,R a b→R b c→R a c):∀{xs:List Nat},(∀ n (h:n+1<xs.length),R xs[n] xs[n+1])→xs.Pairwise R
 | [],_=>.nil
 | [x],_=>List.pairwise_singleton _ _
 | x::y::xs,h=>by
  have ih:=xP tr (xs:=y::xs) fun n hn=>h (n+1) (by simpa using hn);refine List.pairwise_cons.mpr ⟨fun z hz=>?_,ih⟩;have h0:=h 0 (by simp);rcases List.mem_cons.mp hz with rfl|hz
  ·exact h0
  ·exact tr _ _ _ h0 ((List.pairwise_cons.mp ih).1 z hz)
theorem WInv.on {ls:List Ln}{t u:Rat}{xs:List Nat}(hm:∀ x∈xs,x<ls.length)(h:WInv ls t xs)(htu:t≤u)(hu:∀(j:Nat) (v:Rat),(bY ls t xs)[j]?=some (some v)→u≤v):WInv ls u xs:=by
 have pw:xs.Pairwise (fun a b=>pl (ln ls b) u≤pl (ln ls a) u):=by
  refine xP (R:=fun a b=>pl (ln ls b) u≤pl (ln ls a) u) (fun a b c h1 h2=>Rat.le_trans h2 h1) fun n hn=>?_;have h0:=List.pairwise_iff_getElem.mp h n (n+1) (by omega) hn (by omega);exact(h0.on (hm _ (List.getElem_mem _)) (hm _ (List.getElem_mem _)) htu fun v hv=>hu n v (by rw[fQ hn,hv])).1
 exact List.Pairwise.imp₂ (fun a b h1 h2=>⟨h1,h2.2⟩) pw h
theorem WInv.swp {ls:List Ln}{t:Rat}{xs:List Nat}{k:Nat}(h:WInv ls t xs)(hk:k+1<xs.length)(h1:pl (ln ls xs[k]) t=pl (ln ls xs[k+1]) t)(h2:ln ls xs[k]≠ln ls xs[k+1]):WInv ls t (My.swp xs k):=by
 rw[wB hk];have h':=h;unfold WInv at h';rw[aN9 hk] at h';generalize xs[k]=a at *;generalize xs[k+1]=b at *;generalize xs.take k=A at *;generalize xs.drop (k+2)=B at *;obtain⟨hA,hab,hc⟩:=List.pairwise_append.mp h';obtain⟨ha,hbB⟩:=List.pairwise_cons.mp hab;obtain⟨hb,hB⟩:=List.pairwise_cons.mp hbB;refine List.pairwise_append.mpr ⟨hA,List.pairwise_cons.mpr ⟨fun y hy=>?_,List.pairwise_cons.mpr ⟨fun y hy=>ha y (List.mem_cons_of_mem _ hy),hB⟩⟩,fun x hx y hy=>?_⟩
 ·rcases List.mem_cons.mp hy with rfl|hy
  ·exact⟨by rw[h1]; exact Rat.le_refl,fun z=>absurd z.symm h2⟩
  ·exact hb y hy
 ·rcases List.mem_cons.mp hy with rfl|hy
  ·exact hc x hx _ (by simp)
  ·rcases List.mem_cons.mp hy with rfl|hy
   ·exact hc x hx _ (by simp)
   ·exact hc x hx y (by simp[hy])
def a6Y (f:Nat→Rat):List Nat→Nat
 | []=>0
 | x::xs=>(xs.filter fun y=>decide (f x<f y)).length+a6Y f xs
theorem zQ (f:Nat→Rat):∀ xs:List Nat,a6Y f xs≤xs.length*xs.length
 | []=>Nat.le_refl _
 | x::xs=>by
  have h1:=List.length_filter_le (fun y=>decide (f x<f y)) xs;have h2:=zQ f xs
  show(xs.filter fun y=>decide (f x<f y)).length+a6Y f xs≤(xs.length+1)*(xs.length+1)
  have h3:(xs.length+1)*(xs.length+1)=xs.length*xs.length+2*xs.length+1:=by rw[Nat.add_mul,Nat.mul_add]; omega
  omega
theorem a86 (f:Nat→Rat){a b:Nat}(h:f a<f b):∀ A B:List Nat,a6Y f (A++a::b::B)=a6Y f (A++b::a::B)+1
 | [],B=>by
  show((b::B).filter fun y=>decide (f a<f y)).length+((B.filter fun y=>decide (f b<f y)).length+a6Y f B)=((a::B).filter fun y=>decide (f b<f y)).length+((B.filter fun y=>decide (f a<f y)).length+a6Y f B)+1
  rw[List.filter_cons,if_pos (decide_eq_true h),List.filter_cons,if_neg (by rw[decide_eq_true_iff]; grind),List.length_cons];omega
 | x::A,B=>by
  have ih:=a86 f h A B;have hp:((A++a::b::B).filter fun y=>decide (f x<f y)).length=((A++b::a::B).filter fun y=>decide (f x<f y)).length:=((List.Perm.append_left A (List.Perm.swap b a B)).filter _).length_eq
  show((A++a::b::B).filter fun y=>decide (f x<f y)).length+a6Y f (A++a::b::B)=((A++b::a::B).filter fun y=>decide (f x<f y)).length+a6Y f (A++b::a::B)+1
  omega
abbrev uA (ls:List Ln)(xs:List Nat):Nat:=a6Y (fun i=>(ln ls i).2) xs
theorem aJW {ls:List Ln}{t u:Rat}{xs:List Nat}{k:Nat}(hm:∀ x∈xs,x<ls.length)(h:WInv ls t xs)(hf:ff (bY ls t xs)=some (k,u)) :
  k+1<xs.length∧t≤u∧WInv ls u (swp xs k)∧uA ls xs=uA ls (swp xs k)+1∧(u=t∨∃ i j,i<ls.length∧j<ls.length∧mtO (ln ls i) (ln ls j)=some u):=by
 obtain⟨h1,h2⟩:=p7 hf;have hk:k+1<xs.length:=by
  have:=(List.getElem?_eq_some_iff.mp h1).1;rw[gJ] at this;omega
 rw[fQ hk] at h1;have h1:=Option.some.inj h1;have ha:=hm _ (List.getElem_mem (show k<xs.length by omega));have hb:=hm _ (List.getElem_mem hk);have hw:=List.pairwise_iff_getElem.mp h k (k+1) (by omega) hk (by omega);obtain⟨m1,m2,m3⟩:=hw.meet ha hb h1;refine⟨hk,m1,(h.on hm m1 h2).swp hk m3 (fun z=>by rw[z] at m2; exact absurd m2 (by grind)),?_,?_⟩
 ·rw[wB hk]
  conv=>lhs; rw[aN9 hk]
  exact a86 (fun i=>(ln ls i).2) m2 _ _
 ·unfold iJ at h1
  by_cases c:ahN ls t xs[k+1] xs[k]=true
  ·rw[if_pos c] at h1;exact .inl (Option.some.inj h1).symm
  ·rw[if_neg c,a05 ha hb] at h1;obtain⟨e,_,hu⟩:=qN h1;refine .inr ⟨_,_,ha,hb,?_⟩;unfold mtO;rw[if_neg e,hu]
theorem WInv.start (ls:List Ln)(t:Rat):WInv ls t (ord ls t):=by
 have hm:∀ x∈ord ls t,x<ls.length:=fun x hx=>(kW ls t x).mp hx;refine List.Pairwise.imp_of_mem (fun{a b} ha hb h=>?_) (pI ls t);rw[zO (hm a ha) (hm b hb),lY] at h;refine⟨by rcases h with h|h<;>grind,fun e=>?_⟩;rw[e] at h;rcases h with h|⟨_,h|h⟩
 ·grind
 ·grind
 ·omega
theorem aHO {k j:Nat}{i:Int}(h0:0≤i)(h1:i<10^(6*j))(hk:20*j≤k):Bt k i:=by
 show i.natAbs<2^k;have h2:(10:Nat)^(6*j)≤2^(20*j):=by
  rw[Nat.pow_mul,Nat.pow_mul];exact Nat.pow_le_pow_left (by decide) j
 have h3:(2:Nat)^(20*j)≤2^k:=Nat.pow_le_pow_right (by decide) hk;have h4:((10:Int)^(6*j))=(((10:Nat)^(6*j):Nat):Int):=by simp
 rw[h4] at h1;omega
section
variable {p:Addr}{n:Nat}{Q:Rv→Nat→Prop}
theorem aPG {k:Nat}(hk:k≤10)(hn:n<1000000)(q:∀(r:Int) n',Bt (20*k) r→n'≤n+11→Q (.val (.int r)) n'):uN p n [.val (.int (k:Int))] Q:=by
 refine a0I ?_;unfold yL;walk_at "!%&`ĄGn";refine⟨by omega,by omega,?_⟩;refine jP (fun j Γ=>∃ x r n',Γ=[.box (penF.box p n'),.val (.int (k:Int)),.val (.int r),x]∧0≤r∧r<10^(6*j)∧n'=n+j) ⟨_,_,_,rfl,by decide,by decide,rfl⟩ ?_ ?_
 ·rintro j Γ K hj ⟨x,r,n',rfl,r0,r1,hn'⟩ hK;have hj:j<10:=by omega
  unfold wG;walk_at "!4?6Mc#";refine⟨aN5 (k:=200) (aHO r0 r1 (by omega)) (m:=31) (by show Int.natAbs 1000000<2^31; decide),?_⟩;walk_at "!>";refine fW (by decide) (by decide) (by omega) fun d d0 d1=>?_;walk_at "!#";refine hK.nx _ ⟨_,_,_,rfl,by omega,?_,by omega⟩;have:(10:Int)^(6*(j+1))=10^(6*j)*1000000:=by
   rw[show 6*(j+1)=6*j+6 by omega,Int.pow_add];rfl
  rw[this];omega
 ·rintro Γ ⟨x,r,n',rfl,r0,r1,hn'⟩;rw[Int.toNat_natCast] at r1 hn';unfold wK;walk_at "!#PV<bG/6&$8>";refine fW (by decide) (by decide) (by omega) fun d d0 d1=>?_;walk_at "!#";have hb:=aHO r0 r1 (Nat.le_refl _);have hd:d=0∨d=1:=by omega
  rcases hd with rfl|rfl
  ·refine cO (d:=.int r) rfl ?_;walk_at "!D";exact q _ _ hb (by omega)
  ·refine cO (d:=.int (0-r)) rfl ?_;walk_at "!D";exact q _ _ (by rw[Int.zero_sub]; exact hb.neg) (by omega)
end
section
variable {p:Addr}{n:Nat}{Q:Rv→Nat→Prop}
theorem pN {kd:Int}(hn:n<900000)(q:∀(r:Rat) n',Sz 60 r→n'≤n+20→Q (.val (bU r)) n'):dD p n [.val (.int kd)] Q:=by
 refine a0I ?_;unfold pL;walk_at "!LJc[#";refine fX (fun c=>?_) (fun c=>?_)
 ·walk_at "!PV+6>";refine fW (by decide) (by decide) (by omega) fun r r0 r1=>?_;walk_at "!&ą1D";rw[a9H];exact q _ _ (aFE (by omega) (by omega)) (by omega)
 ·unfold pO;walk_at "!ELJc[#";refine fX (fun c=>?_) (fun c=>?_)
  ·walk_at "!Pt(6>";refine fW (by decide) (by decide) (by omega) fun r r0 r1=>?_;walk_at "!&(6&>";refine fW (by decide) (by decide) (by omega) fun s s0 s1=>?_;walk_at "!2";have h1:Bt 60 (r-20):=aKM (by omega) (by omega);have h2:Bt 60 (1+s):=aKM (by omega) (by omega);refine qC (by omega) (h2.mono (by decide)) ?_;walk_at "!D";exact q _ _ (Sz.divInt h1 h2 (by omega)) (by omega)
  ·unfold pW;walk_at "!5Pt(>";refine aPG (k:=3) (n:=n) (by decide) (by omega) fun r n' hr hn2=>?_;walk_at "!(6&>";refine fW (by decide) (by decide) (by omega) fun s s0 s1=>?_;walk_at "!2";have h2:Bt 60 (1+s):=aKM (by omega) (by omega);refine qC (by omega) (h2.mono (by decide)) ?_;walk_at "!D";exact q _ _ (Sz.divInt hr h2 (by omega)) (by omega)
theorem a0R (ls:List Ln):PyData.eqv (.list (bH ls)) (.list [])=decide (ls=[]):=by
 cases ls with
 | nil=>rfl
 | cons x xs=>exact(decide_eq_false (fun z=>nomatch z)).symm
theorem a4Y (ls:List Ln):Gd 3 (.list (bH ls)):=uH (n:=2) fun d h=>by
 obtain⟨l,_,rfl⟩:=List.mem_map.mp h;exact aIU l
theorem aEH:Good (.list []):=(uH (n:=0) (ds:=[]) fun _ h=>nomatch h).good
def LnS (ls:List Ln):Prop:=∀ l∈ls,Sz 200 l.1∧Sz 60 l.2
theorem LnS.snoc {ls:List Ln}{l:Ln}(h:LnS ls)(h1:Sz 200 l.1)(h2:Sz 60 l.2):LnS (ls++[l]):=fun x hx=>by
 rcases List.mem_append.mp hx with hx|hx
 ·exact h x hx
 ·rw[List.mem_singleton.mp hx]; exact⟨h1,h2⟩
theorem LnS.ok {ls:List Ln}(h:LnS ls):LinesOk 200 ls:=fun l hl=>⟨(h l hl).1,(h l hl).2.mono (by decide)⟩
theorem aEK {ls:List Ln}{r:Int}(r0:0≤r)(r1:r<(ls.length:Int)):∃ l∈ls,ixD (.list (bH ls)) (.int r)=some (o5 l):=by
 have h:r.toNat<ls.length:=by omega
 refine⟨ls[r.toNat],List.getElem_mem h,?_⟩;have:=aGL h;rwa[Int.toNat_of_nonneg r0] at this
theorem aOO {kd way:Int}{pc tm:Rat}{l:Ln}{ls:List Ln}{a4 a6:Sl}{K:Fl→Prop}(hpc:Sz 60 pc)(htm:Sz 60 tm)(hl:ls.length<900)(h:LnS ls)(h1:Sz 200 l.1)(h2:Sz 60 l.2)
  (hK:∀ l,Sz 200 l.1→Sz 60 l.2→K (.nx [.box (penF.box p n),.val (.int kd),.val (bU pc),.val (bU tm),a4,.own (bH (ls++[l])),a6,.val (o5 l),.val (.int way)])) :
  lU [.box (penF.box p n),.val (.int kd),.val (bU pc),.val (bU tm),a4,.own (bH ls),a6,.val (o5 l),.val (.int way)] K:=by
 have app:∀ l,Sz 200 l.1→Sz 60 l.2→lV [.box (penF.box p n),.val (.int kd),.val (bU pc),.val (bU tm),a4,.own (bH ls),a6,.val (o5 l),.val (.int way)] K:=fun l h1 h2=>by
  unfold lV;walk_at "!Ė$";refine aBC rfl (by rw[jN]; omega) ?_;rw[a7M];exact hK l h1 h2
 unfold lU;walk_at "!9Bĥ$+&q8";refine⟨good_int _,a9N (n:=0) (fun d hd=>?_),?_⟩
 ·simp only[List.mem_cons,List.not_mem_nil,or_false] at hd;rcases hd with rfl|rfl|rfl<;>exact oY _
 skip;generalize (List.any _ _:Bool)=b
 cases b with
 | false=>
  skip;exact app l h1 h2
 | true=>
  skip;refine fX (fun c=>?_) (fun c=>?_)
  ·walk_at "!?+I(Ae;";refine aIG (h2.mono (by decide)) (htm.mono (by decide)) ?_;walk_at "!(ć&-";refine aCF (.inr rfl) (hpc.mono (by decide)) ((h2.mul htm).mono (by decide)) ?_;walk_at "!/e8";rw[aDC];exact app (pc-l.2*tm,l.2) ((hpc.sub (h2.mul htm)).mono (by decide)) h2
  ·walk_at "!5";exact app l h1 h2
theorem aP6 {kd way:Int}{pc tm:Rat}{l:Ln}{ls:List Ln}{a4 a6:Sl}{K:Fl→Prop}(hn:n<900000)(hpc:Sz 60 pc)(htm:Sz 60 tm)(hl:ls.length<900)(h:LnS ls)(h1:Sz 200 l.1)(h2:Sz 60 l.2)
  (hK:∀ l n',n'≤n+1→Sz 200 l.1→Sz 60 l.2→K (.nx [.box (penF.box p n'),.val (.int kd),.val (bU pc),.val (bU tm),a4,.own (bH (ls++[l])),a6,.val (o5 l),.val (.int way)])) :
  lR [.box (penF.box p n),.val (.int kd),.val (bU pc),.val (bU tm),a4,.own (bH ls),a6,.val (o5 l),.val (.int way)] K:=by
 unfold lR;walk_at "!9xBJc[#";refine fX (fun c=>?_) (fun c=>?_)
 ·walk_at "!:$b8";refine⟨(a4Y ls).good,aEH,?_⟩;rw[a0R];refine⟨rfl,?_⟩;refine a3B (fun e=>?_) (fun e=>?_)
  ·have hp:0<ls.length:=by cases ls with|nil=>exact absurd rfl e|cons _ _=>exact Nat.zero_lt_succ _
   walk_at "!?#Ħ+m/O$ĆY$";refine cO (uL ls) ?_;walk_at "!Z";refine fW (by omega) (by omega) (by omega) fun r r0 r1=>?_;walk_at "!#";obtain⟨k,hk,ek⟩:=aEK r0 r1;refine cO ek ?_;walk_at "!&ā1ħ";exact aOO (l:=(l.1,k.2)) hpc htm hl h h1 (h k hk).2 fun l g1 g2=>hK l _ (by omega) g1 g2
  ·walk_at "!5";exact aOO hpc htm hl h h1 h2 fun l g1 g2=>hK l _ (by omega) g1 g2
 ·refine⟨rfl,?_⟩;walk_at "!p";exact aOO hpc htm hl h h1 h2 fun l g1 g2=>hK l _ (by omega) g1 g2
theorem aFS (hn:n<800000)(q:∀(ls:List Ln) n',ls.length≤10→LinesOk 200 ls→n'≤n+600→Q (.own (bH ls)) n'):nR p n [] Q:=by
 refine a0I ?_;unfold rZ;walk_at "!%<bqqq8>";refine fW (by decide) (by decide) (by omega) fun r r0 r1=>?_;walk_at "!#";obtain⟨kd,hkd⟩:∃ kd:Int,ixD (.list [.int 0,.int 1,.int 0,.int 2,.int 0,.int 1]) (.int r)=some (.int kd):=by
  have:r=0∨r=1∨r=2∨r=3∨r=4∨r=5:=by omega
  rcases this with rfl|rfl|rfl|rfl|rfl|rfl
  ·exact⟨0,rfl⟩
  ·exact⟨1,rfl⟩
  ·exact⟨0,rfl⟩
  ·exact⟨2,rfl⟩
  ·exact⟨0,rfl⟩
  ·exact⟨1,rfl⟩
 refine cO hkd ?_;walk_at "!%>";refine pN (n:=n+1) (by omega) fun pc n1 hpc hn1=>?_;walk_at "!%>";refine pN (n:=n1) (by omega) fun tm n2 htm hn2=>?_;walk_at "!%>";refine fW (by decide) (by decide) (by omega) fun m m0 m1=>?_;walk_at "!9BJ>";refine fW (by decide) (by decide) (by omega) fun r8 r80 r81=>?_;walk_at "!&[";have r5:∀ m:Int,0≤m→m≤10→lZ [.box (penF.box p (n2+1+1)),.val (.int kd),.val (bU pc),.val (bU tm),.val (.int m),.no,.no,.no,.no] fun fl=>match fl with
   | .rt rv=>∃ rv0 s',rv=.box (bKp penF rv0 p s')∧Q rv0 s'
   | .nx Γ=>∃ s',Γ[0]?=some (.box (penF.box p s'))∧Q (.val .none) s'
   | _=>False:=fun m m0 m1=>by
  unfold lZ;walk_at "!Xĉ1`ĄGn";refine⟨by omega,by omega,?_⟩;refine jP (fun i Γ=>∃ ls nn a6 a7 a8,Γ=[.box (penF.box p nn),.val (.int kd),.val (bU pc),.val (bU tm),.val (.int m),.own (bH ls),a6,a7,a8]∧ls.length=i∧LnS ls∧nn≤n+50+50*i) ⟨[],_,_,_,_,rfl,rfl,fun l hl=>(nomatch hl),by omega⟩ ?_ ?_
  ·rintro i Γ K hi ⟨ls,nn,a6,a7,a8,rfl,hl,h,hnn⟩ hK;unfold rJ;walk_at "!4%+r*Z";refine pN (n:=nn) (by omega) fun x k1 hx hk1=>?_;walk_at "!/r*Z";refine pN (n:=k1) (by omega) fun y k2 hy hk2=>?_;walk_at "!1%>";refine fW (by decide) (by decide) (by omega) fun way w0 w1=>?_;walk_at "!9xBJc[#";have fin:∀ l k,k≤k2+3→Sz 200 l.1→Sz 60 l.2→K (.nx [.box (penF.box p k),.val (.int kd),.val (bU pc),.val (bU tm),.val (.int m),.own (bH (ls++[l])),.val (.int (0+(i:Int))),.val (o5 l),.val (.int way)]):=fun l k hk g1 g2=>hK.nx _ ⟨_,_,_,_,_,rfl,by rw[List.length_append,List.length_singleton,hl],h.snoc g1 g2,by omega⟩;refine fX (fun c=>?_) (fun c=>?_)
   ·walk_at "!:$b8";refine⟨(a4Y ls).good,aEH,?_⟩;rw[a0R];refine⟨rfl,?_⟩;refine a3B (fun e=>?_) (fun e=>?_)
    ·have hp:0<ls.length:=by cases ls with|nil=>exact absurd rfl e|cons _ _=>exact Nat.zero_lt_succ _
     walk_at "!?#Ħ<$ĆY$";refine cO (uL ls) ?_;walk_at "!Z";refine fW (by omega) (by omega) (by omega) fun r r0 r1=>?_;walk_at "!#";obtain⟨k,hk,ek⟩:=aEK r0 r1;refine cO ek ?_;walk_at "!ħ";exact aP6 (l:=k) (by omega) hpc htm (by omega) h (h k hk).1 (h k hk).2 fun l n' hn' g1 g2=>fin l n' (by omega) g1 g2
    ·walk_at "!5";exact aP6 (l:=(x,y)) (by omega) hpc htm (by omega) h (hx.mono (by decide)) hy fun l n' hn' g1 g2=>fin l n' (by omega) g1 g2
   ·refine⟨rfl,?_⟩;walk_at "!p";exact aP6 (l:=(x,y)) (by omega) hpc htm (by omega) h (hx.mono (by decide)) hy fun l n' hn' g1 g2=>fin l n' (by omega) g1 g2
  ·rintro Γ ⟨ls,nn,a6,a7,a8,rfl,hl,h,hnn⟩;unfold rO;walk_at "!#PėD";exact q _ _ (by omega) h.ok (by omega)
 refine fX (fun c=>?_) (fun c=>?_)
 ·walk_at "!.S";refine fX (fun c=>?_) (fun c=>?_)
  ·walk_at "!?h";exact r5 _ (by decide) (by decide)
  ·walk_at "!5";exact r5 m m0 (by omega)
 ·walk_at "!p";exact r5 m m0 (by omega)
end
abbrev Pt:=Nat×Nat×Option Rat
def pD (p:Pt):D:=.tuple [.int (p.1:Int),.int (p.2.1:Int),xF p.2.2]
def aEX (ls:List Ln)(t:Rat)(xs:List Nat):List Pt:=(wH xs).map fun p=>(p.1,p.2,iJ ls t p.1 p.2)
def aCS (ls:List Ln)(t:Rat)(xs:List Nat):List D:=(wH xs).map fun p=>yR ls t p.1 p.2
theorem a89 (ls:List Ln)(t:Rat)(xs:List Nat):aCS ls t xs=(aEX ls t xs).map pD:=by
 unfold aCS aEX;rw[List.map_map];rfl
theorem a9Z (ls:List Ln)(t:Rat)(xs:List Nat):(aEX ls t xs).map (fun p=>p.2.2)=bY ls t xs:=by
 unfold aEX bY;rw[List.map_map];rfl
def aPV (ps:List Pt):Prop:=∀ p∈ps,∀ u,p.2.2=some u→Sz 2900 u
theorem a7H {ls:List Ln}(hz:LinesOk 200 ls){t u:Rat}(ht:Sz 2900 t){i j:Nat}(hi:i<ls.length)(hj:j<ls.length)(h:iJ ls t i j=some u):Sz 2900 u:=by
 unfold iJ at h
 by_cases c:ahN ls t j i=true
 ·rw[if_pos c] at h;rw[← Option.some.inj h]; exact ht
 ·rw[if_neg c,a05 hi hj] at h;obtain⟨e,_,hu⟩:=qN h;obtain⟨z1,z2⟩:=hz.get (nY hi);obtain⟨z3,z4⟩:=hz.get (nY hj);exact(aI6 (t:=u) z1 z2 z3 z4 (by unfold mtO; rw[if_neg e,hu])).mono (by decide)
theorem aIV {ls:List Ln}(hz:LinesOk 200 ls){t:Rat}(ht:Sz 2900 t){xs:List Nat}(hm:∀ x∈xs,x<ls.length):aPV (aEX ls t xs):=fun p hp u hu=>by
 obtain⟨q,hq,rfl⟩:=List.mem_map.mp hp;obtain⟨n,hn,rfl⟩:=uD hq;exact a7H hz ht (hm _ (List.getElem_mem _)) (hm _ (List.getElem_mem _)) hu
def ffD:Option (Nat×Rat)→D
 | none=>.none
 | some c=>.int (c.1:Int)
theorem a6Q:∀ ps:List Pt,cI (ps.map pD)=true
 | []=>rfl
 | p::ps=>by
  show(fG (pD p)&&cI (ps.map pD))=true
  rw[a6Q ps,Bool.and_true];obtain⟨i,j,o⟩:=p
  cases o<;>rfl
theorem tL:∀ xs:List Nat,cI (cF xs)=true
 | []=>rfl
 | _::xs=>tL xs
theorem uG:∀ ls:List Ln,cI (bH ls)=true
 | []=>rfl
 | _::ls=>uG ls
section
variable {Q:Rv→Prop}{ls:List Ln}
theorem aM9 {ps:List Pt}(hz:aPV ps)(q:Q (.val (ffD (ff (ps.map fun p=>p.2.2))))):cZ [.val (.list (ps.map pD))] Q:=by
 refine pU ?_;unfold gQ;walk_at "!%&`#Ĩ)";refine yV (fun n Γ=>∃ a b,Γ=[.val (.list (ps.map pD)),.val (ffD (ffN (ps.map fun p=>p.2.2) n)),a,b]) ⟨_,_,rfl⟩ ?_ ?_
 ·rintro n d Γ K hd ⟨a,b,rfl⟩ hK;have hn:n<ps.length:=by
   have:=(List.getElem?_eq_some_iff.mp hd).1;unfold uB at this;rw[List.length_map,List.length_range,List.length_map] at this;exact this
  have hp:ps[n]?=some ps[n]:=List.getElem?_eq_getElem hn;have ed:d=.tuple [.int (n:Int),pD ps[n]]:=by
   unfold uB at hd;rw[List.getElem?_map,List.getElem?_range (by rw[List.length_map]; exact hn)] at hd;have:(ps.map pD).getD n .none=pD ps[n]:=by
    rw[List.getD_eq_getElem?_getD,List.getElem?_map,hp];rfl
   have h2:some (PyData.tuple [.int (n:Int),(ps.map pD).getD n .none])=some d:=hd;rw[this] at h2;exact(Option.some.inj h2).symm
  subst ed;have hg:(ps.map fun p=>p.2.2).getD n none=ps[n].2.2:=by rw[List.getD_eq_getElem?_getD,List.getElem?_map,hp]; rfl
  have hk:=hK.nx;have ok:=a98 (ps.map fun p=>p.2.2) n (by rw[List.length_map]; omega);have es:ffN (ps.map fun p=>p.2.2) (n+1)=ffS (ffN (ps.map fun p=>p.2.2) n) n ps[n].2.2:=by rw[← hg]; rfl
  rw[es] at hk;generalize ffN (ps.map fun p=>p.2.2) n=f at *;unfold gU;walk_at "!Ęz4z4ę{Bu3";refine cO (d:=xF ps[n].2.2) rfl ?_;skip;have zp:=hz _ (List.getElem_mem hn)
  cases ho:ps[n].2.2 with
  | none=>
   rw[ho] at hk;skip;have:ffS f n none=f:=by unfold ffS; cases f<;>rfl
   rw[this] at hk;exact hk _ ⟨_,_,rfl⟩
  | some u=>
   rw[ho] at hk;skip
   cases f with
   | none=>
    skip;exact hk _ ⟨_,_,rfl⟩
   | some c=>
    have hc:=ok.2.1;rw[List.getElem?_map] at hc;obtain⟨pc,e1,e2⟩:=Option.map_eq_some_iff.mp hc;skip;refine cO (mH (show(ps.map pD)[c.1]?=some (pD pc) by rw[List.getElem?_map,e1]; rfl)) ?_;walk_at "!h";refine cO (d:=bU c.2) (by show some (xF pc.2.2)=_; rw[e2]; rfl) ?_;walk_at "!2";have eu:xF ps[n].2.2=bU u:=by rw[ho]; rfl
    rw[eu];refine gG ((zp u ho).mono (by decide)) ((hz pc (List.mem_of_getElem? e1) c.2 e2).mono (by decide)) ?_;walk_at "!#";have e3:ffS (some c) n (some u)=if u<c.2 then some (n,u) else some c:=rfl
    rw[e3] at hk;refine fX (fun h=>?_) (fun h=>?_)
    ·rw[if_pos h] at hk;walk_at "!?)";exact hk _ ⟨_,_,rfl⟩
    ·rw[if_neg h] at hk;walk_at "!E";exact hk _ ⟨_,_,rfl⟩
 ·rintro Γ ⟨a,b,rfl⟩;have hle:(uB (ps.map pD)).length=ps.length:=by unfold uB; rw[List.length_map,List.length_range,List.length_map]
  rw[hle];unfold gY;walk_at "!0)";unfold ff at q;rw[List.length_map] at q;exact q
end
section
variable {Q:Rv→Prop}{ls:List Ln}
end
theorem aJF {ls:List Ln}{t:Rat}{xs:List Nat}{n:Nat}(h:n+1<xs.length):(aEX ls t xs)[n]?=some (xs[n],xs[n+1],iJ ls t xs[n] xs[n+1]):=by
 unfold aEX;rw[List.getElem?_map,rA h];rfl
theorem aCM {ls:List Ln}{t:Rat}{xs:List Nat}{k:Nat}{u:Rat}(h:ff (bY ls t xs)=some (k,u)):∃ hk:k+1<xs.length,iJ ls t xs[k] xs[k+1]=some u:=by
 obtain⟨h1,_⟩:=p7 h;have hk:k+1<xs.length:=by
  have:=(List.getElem?_eq_some_iff.mp h1).1;rw[gJ] at this;omega
 rw[fQ hk] at h1;exact⟨hk,Option.some.inj h1⟩
theorem aIO {b:Bool}{A B:Prop}(h:b=true)(a:A):if b=true then A else B:=by rw[h]; exact a1K a
theorem aFK {A B:Prop}(h:A):if isN (ffD none)=true then A else B:=a1K h
theorem aFO {c:Nat×Rat}{A B:Prop}(h:B):if isN (ffD (some c))=true then A else B:=xX h
theorem a9F {n i:Nat}(h:i<n):ixN n (i:Int)=some i:=by
 unfold ixN;rw[if_pos (by omega),if_pos (by omega),Int.toNat_natCast]
theorem a5Q (xs:List Nat)(k a:Nat):(cF xs).set k (.int (a:Int))=cF (xs.set k a):=by unfold cF; rw[List.map_set]
section
variable {ls:List Ln}{xs:List Nat}{t:Rat}{lim:Option Rat}
theorem a7O {p:Addr}{Q:Rv→List D→Prop}(hz:LinesOk 200 ls)(hl:xs.length≤30)(hm:∀ x∈xs,x<ls.length)(ht:Sz 2900 t)(hlim:∀ v,lim=some v→Sz 2900 v)
  (q0:ff (bY ls t xs)=none∨(∃ k u v,ff (bY ls t xs)=some (k,u)∧lim=some v∧v<u)→Q (.val .none) (cF xs))
  (q1:∀ k u,ff (bY ls t xs)=some (k,u)→(∀ v,lim=some v→¬v<u)→Q (.val (.tuple [.int (k:Int),bU u])) (cF (swp xs k))) :
  nM p (cF xs) [.val (.list (bH ls)),.val (bU t),.val (xF lim)] Q:=by
 show nC [.val (.list (bH ls)),.box (lstF.box p (cF xs)),.val (bU t),.val (xF lim),.no,.no,.no] _;unfold nC;walk_at "!%aĚt**;";refine lQ hz hl hm ht ?_;have ep:((wH xs).map fun p=>yR ls t p.1 p.2)=(aEX ls t xs).map pD:=a89 ls t xs;rw[ep];refine⟨a6Q _,rfl,?_⟩;walk_at "!%I-";refine aM9 (aIV hz ht hm) ?_;rw[a9Z];walk_at "!Lv)"
 cases hf:ff (bY ls t xs) with
 | none=>
  refine aFK ?_;walk_at "!ěV&Ĝċ";exact q0 (.inl hf)
 | some c=>
  obtain⟨k,u⟩:=c;obtain⟨hk,hu⟩:=aCM hf;have su:Sz 2900 u:=a7H hz ht (hm _ (List.getElem_mem _)) (hm _ (List.getElem_mem _)) hu;have ek:((aEX ls t xs).map pD)[k]?=some (.tuple [.int (xs[k]:Int),.int (xs[k+1]:Int),bU u]):=by
   rw[List.getElem?_map,aJF hk,hu];rfl
  have fin:(∀ v,lim=some v→¬v<u)→lW [.val (.list (bH ls)),.box (lstF.box p (cF xs)),.val (bU t),.val (xF lim),.val (.list ((aEX ls t xs).map pD)),.val (.int (k:Int)),.val (bU u)] fun fl=>match fl with
    | .rt rv=>∃ rv0 s',rv=.box (bKp lstF rv0 p s')∧Q rv0 s'
    | .nx Γ=>∃ s',Γ[1]?=some (.box (lstF.box p s'))∧Q (.val .none) s'
    | _=>False:=fun hv=>by
   unfold lW;walk_at "!QĩOW";refine cO (mH ek) ?_;walk_at "!&";refine cO (d:=.int (xs[k+1]:Int)) rfl ?_;walk_at "!Ī$";refine aMH rfl (a9F (by rw[iZ]; omega)) ?_;walk_at "!QĩOW";refine cO (mH ek) ?_;walk_at "!&";refine cO (d:=.int (xs[k]:Int)) rfl ?_;walk_at "!ĪS";refine aMH (j:=k+1) rfl (by rw[show((k:Int)+1)=((k+1:Nat):Int) by omega]; exact a9F (by rw[List.length_set,iZ]; omega)) ?_;walk_at "!#ěV+$G1Ĝċ";rw[a5Q,a5Q,aI8 hk];exact q1 k u hf hv
  refine aFO (c:=(k,u)) ?_;walk_at "!5";unfold rN;walk_at "!%OH";refine cO (mH ek) ?_;walk_at "!&";refine cO (d:=bU u) rfl ?_;walk_at "!9Bu)"
  cases lim with
  | none=>
   skip;exact fin fun v z=>nomatch z
  | some v=>
   refine aIO rfl ?_;walk_at "!.F";refine gG ((hlim v rfl).mono (by decide)) (su.mono (by decide)) ?_;walk_at "!#";refine fX (fun c=>?_) (fun c=>?_)
   ·walk_at "!ěV&Ĝċ";exact q0 (.inr ⟨k,u,v,hf,rfl,c⟩)
   ·walk_at "!5";exact fin fun w z=>by cases z; exact c
end
def wS (s:WS)(ls:List Ln)(t:Rat)(xs:List Nat):WS:={ s with ls:=bH ls,now:=bU t,os:=cF xs }
section
variable {c w:Addr}{s:WS}{ls:List Ln}{xs:List Nat}{t:Rat}{lim:Option Rat}{Q:Rv→WS→Prop}
theorem a97 (q:Q (.val (bU t)) (wS s ls t xs)):qK c w (wS s ls t xs) [] Q:=by
 refine a0I ?_;unfold a2M;walk_at "!PV";refine a2S rfl (.inl rfl) ?_;walk_at "!D";exact q
theorem pJ (q:Q (.own (cF xs)) (wS s ls t xs)):fD c w (wS s ls t xs) [] Q:=by
 refine a0I ?_;unfold zM;walk_at "!PĚČ#";refine a1Q (s:=wS s ls t xs) rfl ?_;show cI (cF xs)=true∧_∧_;refine⟨tL xs,rfl,?_⟩;walk_at "!D";exact q
theorem aB1 (hz:LinesOk 200 ls)(hl:xs.length≤30)(hm:∀ x∈xs,x<ls.length)(ht:Sz 2900 t)(q:Q (.own (aCS ls t xs)) (wS s ls t xs)):q8 c w (wS s ls t xs) [] Q:=by
 refine a0I ?_;unfold vD;walk_at "!PĚt(";refine aEB (s:=wS s ls t xs) rfl ?_;walk_at "!(";refine a1Q (s:=wS s ls t xs) rfl ?_;walk_at "!(";refine a2S (s:=wS s ls t xs) rfl (.inr rfl) ?_;walk_at "!2";refine lQ hz hl hm ht ?_;have ep:((wH xs).map fun p=>yR ls t p.1 p.2)=aCS ls t xs:=rfl;rw[ep];refine⟨by rw[a89]; exact a6Q _,rfl,?_⟩;walk_at "!D";exact q
theorem yK (hz:LinesOk 200 ls)(hl:xs.length≤30)(hm:∀ x∈xs,x<ls.length)(ht:Sz 2900 t)(hlim:∀ v,lim=some v→Sz 2900 v)
  (q0:ff (bY ls t xs)=none∨(∃ k u v,ff (bY ls t xs)=some (k,u)∧lim=some v∧v<u)→Q (.val .none) (wS s ls t xs))
  (q1:∀ k u,ff (bY ls t xs)=some (k,u)→(∀ v,lim=some v→¬v<u)→∀ hk:k+1<xs.length,Q (.val (.tuple [bU u,.int (xs[k]:Int),.int (xs[k+1]:Int)])) (wS s ls u (swp xs k))) :
  eX c w (wS s ls t xs) [.val (xF lim)] Q:=by
 refine a0I ?_;unfold sX;walk_at "!%#";refine⟨w,wS s ls t xs,xF lim,rfl,rfl,?_⟩;refine a7O hz hl hm ht hlim (fun h=>?_) fun k u h hv=>?_
 ·refine⟨_,rfl,rfl,?_⟩;walk_at "!Lv)CPV&D";exact q0 h
 ·obtain⟨hk,hu⟩:=aCM h;refine⟨_,rfl,rfl,?_⟩;walk_at "!Lv)p";unfold rE;walk_at "!%3";refine cO (d:=.int (k:Int)) rfl ?_;walk_at "!Q";refine a8D ?_;walk_at "!=";refine cO (d:=bU u) rfl ?_;refine aL2 (w:=w) (s:=wS s ls t (swp xs k)) rfl rfl ?_;walk_at "!#PV+";refine a2S (w:=w) (s:=wS s ls u (swp xs k)) rfl (.inl rfl) ?_;walk_at "!/";have e1:(swp xs k)[k]?=some xs[k+1]:=by
   rw[wB hk,List.getElem?_append_right (by rw[List.length_take]; omega),List.length_take,Nat.min_eq_left (by omega),Nat.sub_self];rfl
  have e2:(swp xs k)[k+1]?=some xs[k]:=by
   rw[wB hk,List.getElem?_append_right (by rw[List.length_take]; omega),List.length_take,Nat.min_eq_left (by omega),show k+1-k=1 by omega];rfl
  refine aHH (w:=w) (s:=wS s ls u (swp xs k)) rfl (.inl rfl) ?_;walk_at "!S";refine aLI rfl (.inl rfl) ?_;refine cO (d:=.int (xs[k]:Int)) ?_ ?_
  ·rw[show((k:Int)+1)=((k+1:Nat):Int) by omega];exact mH (by show(cF (swp xs k))[k+1]?=_; unfold cF; rw[List.getElem?_map,e2]; rfl)
  walk_at "!/";refine aHH (w:=w) (s:=wS s ls u (swp xs k)) rfl (.inl rfl) ?_;walk_at "!$";refine aLI rfl (.inl rfl) ?_;refine cO (d:=.int (xs[k+1]:Int)) (mH (by show(cF (swp xs k))[k]?=_; unfold cF; rw[List.getElem?_map,e1]; rfl)) ?_;walk_at "!1D";exact q1 k u h hv hk
theorem aFL (hz:LinesOk 200 ls)(hl:xs.length≤30)(hm:∀ x∈xs,x<ls.length)(ht:Sz 2900 t)
  (q0:ff (bY ls t xs)=none→Q (.val .none) (wS s ls t xs))
  (q1:∀ k u,ff (bY ls t xs)=some (k,u)→∀ hk:k+1<xs.length,Q (.val (.tuple [bU u,.int (xs[k]:Int),.int (xs[k+1]:Int)])) (wS s ls u (swp xs k))) :
  qY c w (wS s ls t xs) [] Q:=by
 refine a0I ?_;unfold a1T;walk_at "!Pī(ĝ";refine yK (lim:=none) hz hl hm ht (fun v z=>nomatch z) (fun h=>?_) fun k u h hv hk=>?_
 ·walk_at "!D";exact q0 (h.elim (fun z=>z) fun⟨_,_,_,_,z,_⟩=>nomatch z)
 ·walk_at "!D";exact q1 k u h hk
end
theorem eqF {A B:Prop}{d:D}(g:Good d)(b:B):if (!PyData.eqv d d)=true then A else B:=by rw[xM g]; exact xX b
theorem aCL {xs:List Nat}{k:Nat}(h:k+1<xs.length):(cF xs).take k++[.int (xs[k+1]:Int),.int (xs[k]:Int)]++(cF xs).drop (k+2)=cF (swp xs k):=by
 rw[wB h];unfold cF;rw[List.map_append,List.map_cons,List.map_cons,List.map_take,List.map_drop,List.append_assoc];rfl
structure WkOk (ls:List Ln)(t:Rat)(xs:List Nat):Prop where
 inv:WInv ls t xs
 mem:∀ x∈xs,x<ls.length
 len:xs.length=ls.length
 sz:Sz 2900 t
theorem WkOk.step {ls:List Ln}{t u:Rat}{xs:List Nat}{k:Nat}(hz:LinesOk 200 ls)(h:WkOk ls t xs)(hf:ff (bY ls t xs)=some (k,u)):WkOk ls u (swp xs k)∧uA ls xs=uA ls (swp xs k)+1:=by
 obtain⟨hk,_,h2,h3,_⟩:=aJW h.mem h.inv hf;obtain⟨hk',hu⟩:=aCM hf;exact⟨⟨h2,fun x hx=>h.mem x ((a3C hk).mem_iff.mp hx),by rw[aJB hk]; exact h.len,a7H hz h.sz (h.mem _ (List.getElem_mem _)) (h.mem _ (List.getElem_mem _)) hu⟩,h3⟩
theorem WkOk.start {ls:List Ln}{t:Rat}(ht:Sz 2900 t):WkOk ls t (ord ls t):=⟨WInv.start ls t,fun x hx=>(kW ls t x).mp hx,nA ls t,ht⟩
def aHN (u:Rat)(a b:Nat):D:=.tuple [bU u,.int (a:Int),.int (b:Int)]
def goN (ls:List Ln)(v:Rat):Nat→Rat→List Nat→List D×List Nat
 | 0,_,xs=>([],xs)
 | m+1,t,xs=>match ff (bY ls t xs) with
  | none=>([],xs)
  | some (k,u)=>if v<u then([],xs) else(aHN u (xs.getD k 0) (xs.getD (k+1) 0)::(goN ls v m u (swp xs k)).1,(goN ls v m u (swp xs k)).2)
def goX (ls:List Ln)(v t:Rat)(xs:List Nat):List D×List Nat:=goN ls v (uA ls xs) t xs
theorem nD {ls:List Ln}{v t:Rat}{xs:List Nat}(h:ff (bY ls t xs)=none):goX ls v t xs=([],xs):=by
 unfold goX
 cases uA ls xs with
 | zero=>rfl
 | succ m=>unfold goN; rw[h]
theorem xT {ls:List Ln}{v t u:Rat}{xs:List Nat}{k:Nat}(h:ff (bY ls t xs)=some (k,u))(hv:v<u):goX ls v t xs=([],xs):=by
 unfold goX
 cases uA ls xs with
 | zero=>rfl
 | succ m=>unfold goN; rw[h]; dsimp only; rw[if_pos hv]
theorem tD {ls:List Ln}(hz:LinesOk 200 ls){v t u:Rat}{xs:List Nat}{k:Nat}(ok:WkOk ls t xs)(h:ff (bY ls t xs)=some (k,u))(hv:¬v<u) :
  goX ls v t xs=(aHN u (xs.getD k 0) (xs.getD (k+1) 0)::(goX ls v u (swp xs k)).1,(goX ls v u (swp xs k)).2):=by
 obtain⟨_,hg⟩:=ok.step hz h;unfold goX;rw[hg]
 conv=>lhs; unfold goN
 rw[h];dsimp only;rw[if_neg hv]
theorem aDW {ls:List Ln}{v t:Rat}{xs:List Nat}(ok:WkOk ls t xs)(htv:t≤v)(hv:Sz 2900 v)(h:ff (bY ls t xs)=none∨∃ k u,ff (bY ls t xs)=some (k,u)∧v<u):WkOk ls v xs:=by
 refine⟨ok.inv.on ok.mem htv fun j w hj=>?_,ok.mem,ok.len,hv⟩;rcases h with h|⟨k,u,h,hu⟩
 ·have:=yD h j (List.getElem?_eq_some_iff.mp hj).1;rw[this] at hj
  cases hj
 ·have:=(p7 h).2 j w hj;grind
section
variable {ls:List Ln}{v:Rat}{c w:Addr}{s:WS}
theorem aCC {t0:Rat}{xs0:List Nat}{Q:Rv→WS→Prop}(hz:LinesOk 200 ls)(hl:ls.length≤10)(ok0:WkOk ls t0 xs0)(htv:t0≤v)(hv:Sz 2900 v)
  (q:Q (.own (goX ls v t0 xs0).1) (wS s ls v (goX ls v t0 xs0).2)):zW c w (wS s ls t0 xs0) [.val (bU v)] Q:=by
 have htg:uA ls xs0≤100:=Nat.le_trans (zQ _ xs0) (by rw[ok0.len]; exact Nat.mul_le_mul hl hl);refine a0I ?_;unfold aDN;walk_at "!LI(#";refine a2S (s:=wS s ls t0 xs0) rfl (.inl rfl) ?_;walk_at "!2";refine gG (hv.mono (by decide)) (ok0.sz.mono (by decide)) ?_;walk_at "!#";refine fX (fun c=>absurd c (by grind)) (fun _=>?_);walk_at "!5";unfold a4T;walk_at "!Xĉ1%r*Z";have I:Nat→En→Prop:=fun m Γ=>True;clear I;have nxt:∀{t:Rat} {xs:List Nat},WkOk ls t xs→t≤v→∀{Q':Rv→WS→Prop},(goX ls v t xs=([],xs)→Q' (.val .none) (wS s ls t xs)) →
   (∀ k u (hk:k+1<xs.length),WkOk ls u (swp xs k)→u≤v→uA ls xs=uA ls (swp xs k)+1→goX ls v t xs=(aHN u xs[k] xs[k+1]::(goX ls v u (swp xs k)).1,(goX ls v u (swp xs k)).2)→Q' (.val (aHN u xs[k] xs[k+1])) (wS s ls u (swp xs k))) →
   eX c w (wS s ls t xs) [.val (bU v)] Q':=fun{t xs} ok ht {Q'} q0 q1=>by
  refine yK (lim:=some v) hz (by rw[ok.len]; omega) ok.mem ok.sz (fun u h=>by cases h; exact hv) (fun h=>?_) fun k u hf hvu hk=>?_
  ·rcases h with h|⟨k,u,v',h,e,hlt⟩
   ·exact q0 (nD h)
   ·cases e
    exact q0 (xT h hlt)
  ·obtain⟨ok2,htog⟩:=ok.step hz hf;have hvu:=hvu v rfl;have gs:=tD hz ok hf hvu;have ga:xs.getD k 0=xs[k]:=by rw[List.getD_eq_getElem?_getD,List.getElem?_eq_getElem (by omega)]; rfl
   have gb:xs.getD (k+1) 0=xs[k+1]:=by rw[List.getD_eq_getElem?_getD,List.getElem?_eq_getElem hk]; rfl
   rw[ga,gb] at gs;exact q1 k u hk ok2 (by grind) htog gs
 have ends:∀{t:Rat} {xs:List Nat} {acc:List D},acc=(goX ls v t0 xs0).1→xs=(goX ls v t0 xs0).2→tG c [.box ((bD c).box w (wS s ls t xs)),.val (bU v),.own acc,.val .none] fun fl=>match fl with
   | .rt rv=>∃ rv0 s',rv=.box (bKp (bD c) rv0 w s')∧Q rv0 s'
   | .nx Γ=>∃ s',Γ[0]?=some (.box ((bD c).box w s'))∧Q (.val .none) s'
   | _=>False:=fun{t xs acc} e1 e2=>by
  rw[← e1,←e2] at q;unfold tG;walk_at "!QĽ$";refine aL2 (w:=w) (s:=wS s ls t xs) rfl rfl ?_;walk_at "!#PėD";exact q
 have loop:∀ Γ,(∃ t xs acc st,Γ=[.box ((bD c).box w (wS s ls t xs)),.val (bU v),.own acc,.val st]∧WkOk ls t xs∧t≤v∧((st=.none∧acc=(goX ls v t0 xs0).1∧xs=(goX ls v t0 xs0).2)∨(∃ u a b,st=aHN u a b∧acc++st::(goX ls v t xs).1=(goX ls v t0 xs0).1∧(goX ls v t xs).2=(goX ls v t0 xs0).2∧acc.length+uA ls xs≤200))) →
   uQ (dM (a0A (aM 3))) (zY c) Γ fun fl=>match fl with
    | .nx Γ1=>tG c Γ1 fun fl=>match fl with
     | .rt rv=>∃ rv0 s',rv=.box (bKp (bD c) rv0 w s')∧Q rv0 s'
     | .nx Γ=>∃ s',Γ[0]?=some (.box ((bD c).box w s'))∧Q (.val .none) s'
     | _=>False
    | fl=>(match fl with
     | .rt rv=>∃ rv0 s',rv=.box (bKp (bD c) rv0 w s')∧Q rv0 s'
     | .nx Γ=>∃ s',Γ[0]?=some (.box ((bD c).box w s'))∧Q (.val .none) s'
     | _=>False):=fun Γ h=>by
  obtain⟨t1,xs1,acc1,st1,e,h1,h2,h3⟩:=h;refine pH (fun m Γ=>∃ t xs acc st,Γ=[.box ((bD c).box w (wS s ls t xs)),.val (bU v),.own acc,.val st]∧m=uA ls xs+(if isN st then 0 else 1)∧WkOk ls t xs∧t≤v∧((st=.none∧acc=(goX ls v t0 xs0).1∧xs=(goX ls v t0 xs0).2)∨(∃ u a b,st=aHN u a b∧acc++st::(goX ls v t xs).1=(goX ls v t0 xs0).1∧(goX ls v t xs).2=(goX ls v t0 xs0).2∧acc.length+uA ls xs≤200))) (uA ls xs1+(if isN st1 then 0 else 1)) ⟨t1,xs1,acc1,st1,e,rfl,h1,h2,h3⟩ ?_;rintro m Γ ⟨t,xs,acc,st,rfl,rfl,ok,ht,h⟩;walk_at "!.u)";rcases h with⟨rfl,e1,e2⟩|⟨u,a,b,rfl,e1,e2,hla⟩
  ·walk_at "!d";exact ends e1 e2
  ·refine aIO rfl ?_;unfold zY;walk_at "!QĖ$";refine aBC rfl (by omega) ?_;walk_at "!?r*Z";refine nxt ok ht (fun hg=>?_) fun k u' hk ok2 hu htog hg=>?_
   ·rw[hg] at e1 e2;walk_at "!#";exact⟨uA ls xs,Nat.lt_succ_self _,t,xs,_,_,rfl,rfl,ok,ht,.inl ⟨rfl,e1,e2⟩⟩
   ·rw[hg] at e1 e2;walk_at "!#";refine⟨uA ls (swp xs k)+1,by show _<uA ls xs+1; omega,u',swp xs k,_,_,rfl,rfl,ok2,hu,.inr ⟨u',xs[k],xs[k+1],rfl,?_,e2,?_⟩⟩
    ·rw[List.append_assoc]; exact e1
    ·rw[List.length_append,List.length_singleton]; omega
 refine nxt ok0 htv (fun hg=>?_) fun k u hk ok2 hu htog hg=>?_
 ·walk_at "!j";exact loop _ ⟨t0,xs0,_,_,rfl,ok0,htv,.inl ⟨rfl,by rw[hg],by rw[hg]⟩⟩
 ·walk_at "!j";refine loop _ ⟨u,swp xs0 k,[],_,rfl,ok2,hu,.inr ⟨u,xs0[k],xs0[k+1],rfl,by rw[hg]; rfl,by rw[hg],?_⟩⟩;show 0+_≤200;omega
end
abbrev Ev:=Rat×Nat×Nat
def evD (e:Ev):D:=aHN e.1 e.2.1 e.2.2
def evP (e:Ev):Nat×Nat:=e.2
def evN (ls:List Ln):Nat→Rat→List Nat→List Ev×List Nat
 | 0,_,xs=>([],xs)
 | m+1,t,xs=>match ff (bY ls t xs) with
  | none=>([],xs)
  | some (k,u)=>((u,xs.getD k 0,xs.getD (k+1) 0)::(evN ls m u (swp xs k)).1,(evN ls m u (swp xs k)).2)
def evs (ls:List Ln)(t:Rat)(xs:List Nat):List Ev×List Nat:=evN ls (uA ls xs) t xs
theorem jH {ls:List Ln}{t:Rat}{xs:List Nat}(h:ff (bY ls t xs)=none):evs ls t xs=([],xs):=by
 unfold evs
 cases uA ls xs with
 | zero=>rfl
 | succ m=>unfold evN; rw[h]
theorem qH {ls:List Ln}(hz:LinesOk 200 ls){t u:Rat}{xs:List Nat}{k:Nat}(ok:WkOk ls t xs)(h:ff (bY ls t xs)=some (k,u)) :
  evs ls t xs=((u,xs.getD k 0,xs.getD (k+1) 0)::(evs ls u (swp xs k)).1,(evs ls u (swp xs k)).2):=by
 obtain⟨_,hg⟩:=ok.step hz h;unfold evs;rw[hg]
 conv=>lhs; unfold evN
 rw[h]
def aEY:List Nat→List (Nat×Nat)
 | []=>[]
 | x::xs=>xs.map (fun y=>(x,y))++aEY xs
theorem uV {R:Nat→Nat→Prop}:∀{xs:List Nat},xs.Pairwise R→∀{a b:Nat},(a,b)∈aEY xs→a∈xs∧b∈xs∧R a b
 | [],_,_,_,h=>nomatch h
 | x::xs,hp,a,b,h=>by
  obtain⟨h1,h2⟩:=List.pairwise_cons.mp hp;rcases List.mem_append.mp h with h|h
  ·obtain⟨y,hy,e⟩:=List.mem_map.mp h
   cases e
   exact⟨List.mem_cons_self,List.mem_cons_of_mem _ hy,h1 b hy⟩
  ·obtain⟨m1,m2,m3⟩:=uV h2 h;exact⟨List.mem_cons_of_mem _ m1,List.mem_cons_of_mem _ m2,m3⟩
theorem a8E:∀{xs:List Nat} {a b:Nat},a∈xs→b∈xs→a≠b→(a,b)∈aEY xs∨(b,a)∈aEY xs
 | [],_,_,h,_,_=>nomatch h
 | x::xs,a,b,ha,hb,hn=>by
  rcases List.mem_cons.mp ha with rfl|ha'
  ·rcases List.mem_cons.mp hb with rfl|hb
   ·exact absurd rfl hn
   ·exact .inl (List.mem_append_left _ (List.mem_map.mpr ⟨b,hb,rfl⟩))
  ·rcases List.mem_cons.mp hb with rfl|hb
   ·exact .inr (List.mem_append_left _ (List.mem_map.mpr ⟨a,ha',rfl⟩))
   ·rcases a8E ha' hb hn with h|h
    ·exact .inl (List.mem_append_right _ h)
    ·exact .inr (List.mem_append_right _ h)
theorem aES:∀{xs:List Nat},xs.Nodup→(aEY xs).Nodup
 | [],_=>List.nodup_nil
 | x::xs,h=>by
  obtain⟨h1,h2⟩:=List.nodup_cons.mp h;refine List.nodup_append.mpr ⟨?_,aES h2,fun p hp q hq e=>?_⟩
  ·exact List.pairwise_map.mpr (List.Pairwise.imp (fun{a b} (z:a≠b) e=>z (Prod.mk.inj e).2) h2)
  ·obtain⟨y,hy,rfl⟩:=List.mem_map.mp hp;subst e;have:=(uV (R:=fun _ _=>True) (List.pairwise_of_forall fun _ _=>trivial) hq).1;exact h1 this
theorem a9K (x y:Nat)(B:List Nat):∀ A:List Nat,∃ R,(aEY (A++x::y::B)).Perm ((x,y)::R)∧(aEY (A++y::x::B)).Perm ((y,x)::R)
 | []=>by
  refine⟨B.map (fun z=>(x,z))++(B.map (fun z=>(y,z))++aEY B),.refl _,?_⟩
  show((y,x)::(B.map (fun z=>(y,z))++(B.map (fun z=>(x,z))++aEY B))).Perm _
  refine List.Perm.cons _ ?_;rw[← List.append_assoc,←List.append_assoc];exact List.Perm.append_right _ List.perm_append_comm
 | a::A=>by
  obtain⟨R,h1,h2⟩:=a9K x y B A;have pm:(A++x::y::B).Perm (A++y::x::B):=List.Perm.append_left _ (List.Perm.swap _ _ _);refine⟨(A++x::y::B).map (fun z=>(a,z))++R,?_,?_⟩
  ·exact(List.Perm.append_left _ h1).trans List.perm_middle
  ·exact(List.Perm.append (pm.symm.map _) h2).trans List.perm_middle
def aKA (f:Nat→Rat)(xs:List Nat):List (Nat×Nat):=(aEY xs).filter fun p=>decide (f p.1<f p.2)
theorem aFF (f:Nat→Rat){x y:Nat}(h:f x<f y)(A B:List Nat):(aKA f (A++x::y::B)).Perm ((x,y)::aKA f (A++y::x::B)):=by
 obtain⟨R,h1,h2⟩:=a9K x y B A;have g1:=h1.filter fun p=>decide (f p.1<f p.2);have g2:=h2.filter fun p=>decide (f p.1<f p.2);rw[List.filter_cons_of_pos (by simpa using h)] at g1;rw[List.filter_cons_of_neg (by simp only[decide_eq_true_eq]; grind)] at g2;exact g1.trans (List.Perm.cons _ g2.symm)
abbrev slp (ls:List Ln)(i:Nat):Rat:=(ln ls i).2
theorem aKE {ls:List Ln}{t:Rat}{xs:List Nat}(ok:WkOk ls t xs)(h:ff (bY ls t xs)=none):xs.Pairwise fun a b=>slp ls b≤slp ls a:=by
 refine xP (R:=fun a b=>slp ls b≤slp ls a) (fun a b c h1 h2=>Rat.le_trans h2 h1) fun n hn=>?_;have e:=yD h n (by rw[gJ]; omega);rw[fQ hn] at e;have e:=Option.some.inj e;have ha:=ok.mem _ (List.getElem_mem (show n<xs.length by omega));have hb:=ok.mem _ (List.getElem_mem hn);have hw:=List.pairwise_iff_getElem.mp ok.inv n (n+1) (by omega) hn (by omega);unfold iJ at e
 by_cases c:ahN ls t xs[n+1] xs[n]=true
 ·rw[if_pos c] at e; cases e
 ·rw[if_neg c,a05 ha hb] at e;rw[zO hb ha] at c;apply Classical.byContradiction;intro z;have z:(ln ls xs[n]).2<(ln ls xs[n+1]).2:=by
   have:¬(ln ls xs[n+1]).2≤(ln ls xs[n]).2:=z;grind
  unfold nxC at e;rw[if_neg (by grind)] at e
  by_cases d:t<mt (ln ls xs[n]) (ln ls xs[n+1])
  ·rw[if_pos d] at e; cases e
  ·apply c;rw[lY];obtain⟨w1,_⟩:=hw;generalize ln ls xs[n]=l at *;generalize ln ls xs[n+1]=k at *;have m:mt l k*(l.2-k.2)=k.1-l.1:=Rat.div_mul_cancel (by grind);have p1:pl l t=l.1+l.2*t:=rfl;have p2:pl k t=k.1+k.2*t:=rfl;have a1:=Rat.mul_nonneg (show 0≤t-mt l k by grind) (show 0≤k.2-l.2 by grind);generalize mt l k=m0 at *;have:pl k t=pl l t:=by
    have:pl l t≤pl k t:=by rw[p1,p2]; grind
    grind
   refine .inr ⟨this,.inl ?_⟩;grind
theorem aJ2 {ls:List Ln}{t:Rat}{xs:List Nat}(ok:WkOk ls t xs):xs.Nodup:=List.Pairwise.imp (fun{a b} (h:Wb ls t a b) e=>by
 subst e;exact absurd (h.2 rfl) (Nat.lt_irrefl _)) ok.inv
theorem aCR {l k:Ln}{u:Rat}(h:l.2<k.2)(e:pl l u=pl k u):u=mt l k:=by
 have m:mt l k*(l.2-k.2)=k.1-l.1:=Rat.div_mul_cancel (by grind);have p1:pl l u=l.1+l.2*u:=rfl;have p2:pl k u=k.1+k.2*u:=rfl;have:(u-mt l k)*(l.2-k.2)=0:=by
  rw[p1,p2] at e;generalize mt l k=m0 at *;grind
 rcases Rat.mul_eq_zero.mp this with z|z<;>grind
structure EvOk (ls:List Ln)(t:Rat)(e:Ev):Prop where
 a:e.2.1<ls.length
 b:e.2.2<ls.length
 t0:t≤e.1
 s:slp ls e.2.1<slp ls e.2.2
 m:e.1=mt (ln ls e.2.1) (ln ls e.2.2)
theorem a2U {ls:List Ln}{t u:Rat}{xs:List Nat}{k:Nat}(ok:WkOk ls t xs)(h:ff (bY ls t xs)=some (k,u)):∃ hk:k+1<xs.length,EvOk ls t (u,xs.getD k 0,xs.getD (k+1) 0)∧xs.getD k 0=xs[k]∧xs.getD (k+1) 0=xs[k+1]:=by
 obtain⟨hk,hu⟩:=aCM h;have ha:=ok.mem _ (List.getElem_mem (show k<xs.length by omega));have hb:=ok.mem _ (List.getElem_mem hk);have hw:=List.pairwise_iff_getElem.mp ok.inv k (k+1) (by omega) hk (by omega);obtain⟨m1,m2,m3⟩:=hw.meet ha hb hu;have e1:xs.getD k 0=xs[k]:=by rw[List.getD_eq_getElem?_getD,List.getElem?_eq_getElem (by omega)]; rfl
 have e2:xs.getD (k+1) 0=xs[k+1]:=by rw[List.getD_eq_getElem?_getD,List.getElem?_eq_getElem hk]; rfl
 refine⟨hk,?_,e1,e2⟩;rw[e1,e2];exact⟨ha,hb,m1,m2,aCR m2 m3⟩
structure EvsOk (ls:List Ln)(t:Rat)(xs:List Nat):Prop where
 ev:∀ e∈(evs ls t xs).1,EvOk ls t e
 up:(evs ls t xs).1.Pairwise fun a b=>a.1≤b.1
 pm:((evs ls t xs).1.map evP).Perm (aKA (slp ls) xs)
 fin:(evs ls t xs).2.Pairwise fun a b=>slp ls b≤slp ls a
 mem:∀ x∈(evs ls t xs).2,x<ls.length
 len:(evs ls t xs).1.length=uA ls xs
theorem aKJ {ls:List Ln}(hz:LinesOk 200 ls):∀(m:Nat) {t:Rat} {xs:List Nat},uA ls xs=m→WkOk ls t xs→EvsOk ls t xs:=by
 intro m
 induction m with
 | zero=>
  intro t xs hm ok;have hf:ff (bY ls t xs)=none:=by
   cases h:ff (bY ls t xs) with
   | none=>rfl
   | some p=>
    obtain⟨k,u⟩:=p;have:=(ok.step hz h).2;omega
  have ni:=aKE ok hf;have e0:=jH hf;refine⟨?_,?_,?_,?_,?_,?_⟩<;>rw[e0]
  ·exact fun e h=>nomatch h
  ·exact .nil
  ·have:aKA (slp ls) xs=[]:=List.filter_eq_nil_iff.mpr fun p hp=>by
    obtain⟨a,b⟩:=p;have:=(uV ni hp).2.2;simp only[decide_eq_true_eq];grind
   rw[this];exact .nil
  ·exact ni
  ·exact ok.mem
  ·exact hm.symm
 | succ m ih=>
  intro t xs hm ok
  cases h:ff (bY ls t xs) with
  | none=>
   have ni:=aKE ok h;have:uA ls xs=0:=by
    have aux:∀ xs:List Nat,xs.Pairwise (fun a b=>slp ls b≤slp ls a)→a6Y (fun i=>(ln ls i).2) xs=0:=by
     intro xs
     induction xs with
     | nil=>exact fun _=>rfl
     | cons x xs ih2=>
      intro hp;obtain⟨h1,h2⟩:=List.pairwise_cons.mp hp
      show(xs.filter fun y=>decide ((ln ls x).2<(ln ls y).2)).length+a6Y _ xs=0
      rw[ih2 h2,List.filter_eq_nil_iff.mpr fun y hy=>by
       have:(ln ls y).2≤(ln ls x).2:=h1 y hy;simp only[decide_eq_true_eq];grind]
      rfl
    exact aux xs ni
   omega
  | some p=>
   obtain⟨k,u⟩:=p;obtain⟨ok1,hg⟩:=ok.step hz h;obtain⟨hk,ev,e1,e2⟩:=a2U ok h;have o:=ih (t:=u) (xs:=swp xs k) (by omega) ok1;have e0:=qH hz ok h;refine⟨?_,?_,?_,?_,?_,?_⟩<;>rw[e0]
   ·intro e he;rcases List.mem_cons.mp he with rfl|he
    ·exact ev
    ·obtain⟨a,b,c,d,f⟩:=o.ev e he;exact⟨a,b,Rat.le_trans ev.t0 c,d,f⟩
   ·exact List.pairwise_cons.mpr ⟨fun e he=>(o.ev e he).t0,o.up⟩
   ·show((xs.getD k 0,xs.getD (k+1) 0)::(evs ls u (swp xs k)).1.map evP).Perm _
    have s:=ev.s;have s:slp ls (xs.getD k 0)<slp ls (xs.getD (k+1) 0):=s;refine(List.Perm.cons _ o.pm).trans ?_
    conv=>rhs; rw[aN9 hk]
    rw[wB hk,e1,e2];rw[e1,e2] at s;exact(aFF (slp ls) s _ _).symm
   ·exact o.fin
   ·exact o.mem
   ·show(evs ls u (swp xs k)).1.length+1=_
    rw[o.len];exact hg.symm
theorem vM {ls:List Ln}(hz:LinesOk 200 ls){t:Rat}{xs:List Nat}(ok:WkOk ls t xs):EvsOk ls t xs:=aKJ hz _ rfl ok
theorem inv_due {ls:List Ln}{t:Rat}{a b:Nat}:(a,b)∈aKA (slp ls) (ord ls t)↔a<ls.length∧b<ls.length∧slp ls a<slp ls b∧t<mt (ln ls a) (ln ls b):=by
 have hm:∀ x,x∈ord ls t↔x<ls.length:=fun x=>kW ls t x;have key:∀ a b,a<ls.length→b<ls.length→slp ls a<slp ls b→(ahN ls t a b=true↔t<mt (ln ls a) (ln ls b)):=fun a b ha hb hs=>by
  rw[zO ha hb,lY];have hs:(ln ls a).2<(ln ls b).2:=hs;generalize ln ls a=l at *;generalize ln ls b=k at *;have m:mt l k*(l.2-k.2)=k.1-l.1:=Rat.div_mul_cancel (by grind);have p1:pl l t=l.1+l.2*t:=rfl;have p2:pl k t=k.1+k.2*t:=rfl;rw[p1,p2];generalize mt l k=m0 at *;constructor
  ·intro h;have h:k.1+k.2*t<l.1+l.2*t:=by
    rcases h with h|⟨h1,h2|h2⟩<;>grind
   apply Classical.byContradiction;intro c;have a1:=Rat.mul_nonneg (show 0≤t-m0 by grind) (show 0≤k.2-l.2 by grind);grind
  ·intro h
   left
   have a1:=Rat.mul_pos (show 0<m0-t by grind) (show 0<k.2-l.2 by grind);grind
 unfold aKA;rw[List.mem_filter];simp only[decide_eq_true_eq];constructor
 ·rintro⟨h1,h2⟩
  obtain⟨m1,m2,m3⟩:=uV (pI ls t) h1;have m1:=(hm a).mp m1;have m2:=(hm b).mp m2;exact⟨m1,m2,h2,(key a b m1 m2 h2).mp m3⟩
 ·rintro⟨m1,m2,h2,h3⟩
  refine⟨?_,h2⟩;have hab:=(key a b m1 m2 h2).mpr h3;rcases a8E ((hm a).mpr m1) ((hm b).mpr m2) (fun e=>by subst e; exact absurd h2 (by grind)) with h|h
  ·exact h
  ·have:=(uV (pI ls t) h).2.2;rw[(dO ls t).asymm _ _ m1 m2 hab] at this
   cases this
theorem aG8 {ls:List Ln}(hz:LinesOk 200 ls){v:Rat}:∀(m:Nat) {t:Rat} {xs:List Nat},uA ls xs=m→WkOk ls t xs→(∀ e∈(evs ls t xs).1,e.1≤v)→goX ls v t xs=((evs ls t xs).1.map evD,(evs ls t xs).2):=by
 intro m
 induction m with
 | zero=>
  intro t xs hm ok _;have hf:ff (bY ls t xs)=none:=by
   cases h:ff (bY ls t xs) with
   | none=>rfl
   | some p=>
    obtain⟨k,u⟩:=p;have:=(ok.step hz h).2;omega
  rw[nD hf,jH hf];rfl
 | succ m ih=>
  intro t xs hm ok hv
  cases h:ff (bY ls t xs) with
  | none=>rw[nD h,jH h]; rfl
  | some p=>
   obtain⟨k,u⟩:=p;obtain⟨ok1,hg⟩:=ok.step hz h;have e0:=qH hz ok h;rw[e0] at hv ⊢;have hu:¬v<u:=by
    have:u≤v:=hv _ List.mem_cons_self;grind
   rw[tD hz ok h hu,ih (by omega) ok1 fun e he=>hv e (List.mem_cons_of_mem _ he)];rfl
theorem aJG {ls:List Ln}{u v:Rat}{a b:Nat}(ha:a<ls.length)(hb:b<ls.length)(h:Wb ls u a b)(hv:Wb ls v a b)(huv:u≤v)(hw:∀ w,iJ ls u a b=some w→v<w):iJ ls v a b=iJ ls u a b:=by
 have key:ahN ls v b a=false∧nxN ls v a b=nxN ls u a b:=by
  have hw':=hw;unfold iJ at hw';have nu:ahN ls u b a=false:=by
   cases c:ahN ls u b a with
   | false=>rfl
   | true=>
    have:=hw' u (by rw[if_pos c]);grind
  rw[if_neg (by rw[nu]; decide)] at hw';obtain⟨h1,h2⟩:=h;obtain⟨g1,g2⟩:=hv;rw[a05 ha hb] at hw' ⊢;rw[a05 ha hb];have nu':¬ahB (ln ls b) (ln ls a) b a u=true:=by
   rw[zO hb ha] at nu;rw[nu]; decide
  rw[lY] at nu';have goal1:¬ahB (ln ls b) (ln ls a) b a v=true:=by
   rw[lY];intro c;have e1:ln ls a=ln ls b→a<b:=g2;generalize ln ls a=l at *;generalize ln ls b=k at *;have p1:∀ t,pl l t=l.1+l.2*t:=fun _=>rfl;have p2:∀ t,pl k t=k.1+k.2*t:=fun _=>rfl;unfold nxC at hw'
   by_cases es:l.2=k.2
   ·have el:pl k v=pl l v→l=k:=fun z=>Prod.ext (by rw[p1,p2] at z; grind) es;rcases c with c|⟨c1,c2|c2⟩
    ·grind
    ·grind
    ·have:=e1 (el c1);omega
   ·rw[if_neg es] at hw';have m:mt l k*(l.2-k.2)=k.1-l.1:=Rat.div_mul_cancel (by grind);have c1:pl k v=pl l v∧l.2<k.2:=by
     rcases c with c|⟨c1,c2|c2⟩<;>grind
    obtain⟨c1,c2⟩:=c1;have ev:v=mt l k:=aCR c2 c1.symm
    by_cases d:u<mt l k
    ·have:=hw' (mt l k) (by rw[if_pos d]);grind
    ·have eu:u=v:=by grind
     subst eu;exact nu' (.inr ⟨c1,.inl c2⟩)
  refine⟨by rw[zO hb ha]; cases c:ahB (ln ls b) (ln ls a) b a v with|false=>rfl|true=>exact absurd c goal1,?_⟩;unfold nxC at hw' ⊢
  by_cases es:(ln ls a).2=(ln ls b).2
  ·rw[if_pos es,if_pos es]
  ·rw[if_neg es,if_neg es];rw[if_neg es] at hw'
   by_cases d:u<mt (ln ls a) (ln ls b)
   ·have:=hw' _ (by rw[if_pos d]);rw[if_pos d,if_pos this]
   ·rw[if_neg d,if_neg (by grind)]
 unfold iJ;have nu:ahN ls u b a=false:=by
  cases c:ahN ls u b a with
  | false=>rfl
  | true=>
   have:=hw u (by unfold iJ; rw[if_pos c]);grind
 rw[key.1,nu,key.2,if_neg (by decide),if_neg (by decide)]
def Quiet (ls:List Ln)(t v:Rat)(xs:List Nat):Prop:=ff (bY ls t xs)=none∨∃ k u,ff (bY ls t xs)=some (k,u)∧v<u
theorem a95 {ls:List Ln}{t v:Rat}{xs:List Nat}(ok:WkOk ls t xs)(htv:t≤v)(hv:Sz 2900 v)(h:Quiet ls t v xs):bY ls v xs=bY ls t xs:=by
 have ok':=aDW ok htv hv h;refine List.ext_getElem? fun n=>?_
 by_cases hn:n+1<xs.length
 ·rw[fQ hn,fQ hn];have ha:=ok.mem _ (List.getElem_mem (show n<xs.length by omega));have hb:=ok.mem _ (List.getElem_mem hn);refine congrArg some (aJG ha hb (List.pairwise_iff_getElem.mp ok.inv n (n+1) (by omega) hn (by omega)) (List.pairwise_iff_getElem.mp ok'.inv n (n+1) (by omega) hn (by omega)) htv fun w hw=>?_);rcases h with h|⟨k,u,h,hu⟩
  ·have e:=yD h n (by rw[gJ]; omega);rw[fQ hn,hw] at e
   cases e
  ·have:=(p7 h).2 n w (by rw[fQ hn,hw]);grind
 ·rw[List.getElem?_eq_none (by rw[gJ]; omega),List.getElem?_eq_none (by rw[gJ]; omega)]
theorem aDK {ls:List Ln}{t v:Rat}{xs:List Nat}(h:bY ls v xs=bY ls t xs):evs ls v xs=evs ls t xs:=by
 unfold evs
 cases uA ls xs with
 | zero=>rfl
 | succ m=>unfold evN; rw[h]
theorem aI3 {ls:List Ln}(hz:LinesOk 200 ls){v:Rat}(hv:Sz 2900 v):∀(m:Nat) {t:Rat} {xs:List Nat},uA ls xs=m→WkOk ls t xs→t≤v →
  WkOk ls v (goX ls v t xs).2∧(evs ls t xs).1.map evD=(goX ls v t xs).1++(evs ls v (goX ls v t xs).2).1.map evD∧(evs ls t xs).2=(evs ls v (goX ls v t xs).2).2 ∧
  Quiet ls v v (goX ls v t xs).2:=by
 intro m;have stop:∀{t:Rat} {xs:List Nat},WkOk ls t xs→t≤v→Quiet ls t v xs→goX ls v t xs=([],xs)→WkOk ls v (goX ls v t xs).2∧(evs ls t xs).1.map evD=(goX ls v t xs).1++(evs ls v (goX ls v t xs).2).1.map evD∧(evs ls t xs).2=(evs ls v (goX ls v t xs).2).2∧Quiet ls v v (goX ls v t xs).2:=by
  intro t xs ok htv hq e;have ht:=a95 ok htv hv hq;rw[e];refine⟨aDW ok htv hv hq,?_,?_,?_⟩
  ·rw[aDK ht]; rfl
  ·rw[aDK ht]
  ·unfold Quiet;rw[ht];exact hq
 induction m with
 | zero=>
  intro t xs hm ok htv;have hf:ff (bY ls t xs)=none:=by
   cases h:ff (bY ls t xs) with
   | none=>rfl
   | some p=>
    obtain⟨k,u⟩:=p;have:=(ok.step hz h).2;omega
  exact stop ok htv (.inl hf) (nD hf)
 | succ m ih=>
  intro t xs hm ok htv
  cases h:ff (bY ls t xs) with
  | none=>exact stop ok htv (.inl h) (nD h)
  | some p=>
   obtain⟨k,u⟩:=p
   by_cases hvu:v<u
   ·exact stop ok htv (.inr ⟨k,u,h,hvu⟩) (xT h hvu)
   ·obtain⟨ok1,hg⟩:=ok.step hz h;obtain⟨i1,i2,i3,i4⟩:=ih (by omega) ok1 (show u≤v by grind);rw[tD hz ok h hvu,qH hz ok h];refine⟨i1,?_,i3,i4⟩;show aHN u _ _::(evs ls u (swp xs k)).1.map evD=_::((goX ls v u (swp xs k)).1++_);rw[i2]
theorem aLJ {ls:List Ln}{v:Rat}{xs:List Nat}(ok:WkOk ls v xs)(hm:∀ i,i∈xs↔i<ls.length)(h:Quiet ls v v xs):xs=ord ls v:=by
 have st:=dO ls v;refine aH9 ?_ hm;have pw:xs.Pairwise fun a b=>a<ls.length∧b<ls.length∧ahN ls v a b=true:=by
  refine xP (R:=fun a b=>a<ls.length∧b<ls.length∧ahN ls v a b=true) (fun a b c h1 h2=>⟨h1.1,h2.2.1,st.trans a b c h1.1 h2.1 h2.2.1 h1.2.2 h2.2.2⟩) fun n hn=>?_;have ha:=ok.mem _ (List.getElem_mem (show n<xs.length by omega));have hb:=ok.mem _ (List.getElem_mem hn);refine⟨ha,hb,?_⟩;have hne:xs[n]≠xs[n+1]:=List.pairwise_iff_getElem.mp (aJ2 ok) n (n+1) (by omega) hn (by omega);rcases st.total _ _ ha hb hne with c|c
  ·exact c
  ·have tl:iJ ls v xs[n] xs[n+1]=some v:=by unfold iJ; rw[if_pos c]
   rcases h with h|⟨k,u,h,hu⟩
   ·have e:=yD h n (by rw[gJ]; omega);rw[fQ hn,tl] at e
    cases e
   ·have:=(p7 h).2 n v (by rw[fQ hn,tl]);grind
 exact pw.imp fun h=>h.2.2
theorem aI2 {ls:List Ln}(hz:LinesOk 200 ls){v:Rat}:∀(m:Nat) {t:Rat} {xs:List Nat},uA ls xs=m→WkOk ls t xs→∀ i,i∈(goX ls v t xs).2↔i∈xs:=by
 intro m
 induction m with
 | zero=>
  intro t xs hm ok i;have hf:ff (bY ls t xs)=none:=by
   cases h:ff (bY ls t xs) with
   | none=>rfl
   | some p=>
    obtain⟨k,u⟩:=p;have:=(ok.step hz h).2;omega
  rw[nD hf]
 | succ m ih=>
  intro t xs hm ok i
  cases h:ff (bY ls t xs) with
  | none=>rw[nD h]
  | some p=>
   obtain⟨k,u⟩:=p
   by_cases hvu:v<u
   ·rw[xT h hvu]
   ·obtain⟨ok1,hg⟩:=ok.step hz h;obtain⟨hk,_⟩:=aCM h;rw[tD hz ok h hvu];show i∈(goX ls v u (swp xs k)).2↔_;rw[ih (by omega) ok1 i,(a3C hk).mem_iff]
def isR (ls:List Ln)(t:Rat)(i j:Int)(till:Option Rat):Bool:=
 if i=j∨¬(0≤i∧i<(ls.length:Int))∨¬(0≤j∧j<(ls.length:Int)) then false else
 if ahN ls t i.toNat j.toNat=false then false else
 match till,nxN ls t i.toNat j.toNat with
 | none,c=>c.isNone
 | some u,none=>decide (t<u)
 | some u,some c=>decide (t<u) && !decide (c<u)
def aNH (i j:Int)(till:Option Rat):D:=.tuple [.int i,.int j,xF till]
theorem aCD {ls:List Ln}{t:Rat}{i j:Int}{till:Option Rat}(h:i=j∨¬(0≤i∧i<(ls.length:Int))∨¬(0≤j∧j<(ls.length:Int))):isR ls t i j till=false:=by unfold isR; rw[if_pos h]
theorem aH4 {ls:List Ln}{t:Rat}{i j:Nat}{till:Option Rat}(h:i≠j)(hi:i<ls.length)(hj:j<ls.length):isR ls t i j till=(if ahN ls t i j=false then false else
 match till,nxN ls t i j with
 | none,c=>c.isNone
 | some u,none=>decide (t<u)
 | some u,some c=>decide (t<u) && !decide (c<u)):=by
 unfold isR;rw[if_neg (by omega)];rfl
section
variable {Q:Rv→Prop}{ls:List Ln}
theorem yE {i:Int}(q:Q (.val (.bool (decide (0≤i∧i<(ls.length:Int)))))):jW [.val (.list (bH ls)),.val (.int i)] Q:=by
 refine pU ?_;unfold rY;walk_at "!0ĔI-";refine a6J ?_;walk_at "!Cľ&)";refine fX (fun c=>?_) (fun c=>?_)
 ·walk_at "!Y$";refine cO (uL ls) ?_;rw[show decide (0≤i∧i<(ls.length:Int))=decide (i<(ls.length:Int)) by simp[c]] at q;walk_at "!#";exact q
 ·rw[show decide (0≤i∧i<(ls.length:Int))=false by simp[c]] at q;skip;exact q
def aIX (ls:List Ln)(t:Rat)(i j:Nat)(till:Option Rat):Bool:=if ahN ls t i j=false then false else
 match nxN ls t i j with
 | none=>true
 | some c=>(match till with
  | none=>false
  | some u => !decide (c<u))
theorem a2B {t:Rat}{i j:Nat}{till:Option Rat}(hz:LinesOk 200 ls)(hi:i<ls.length)(hj:j<ls.length)(ht:Sz 2900 t)(hu:∀ u,till=some u→Sz 2900 u)(q:Q (.val (.bool (aIX ls t i j till)))) :
  jJ [.val (.list (bH ls)),.val (.int (i:Int)),.val (.int (j:Int)),.val (bU t),.val (xF till)] Q:=by
 have e1:ls[i]?=some ls[i]:=List.getElem?_eq_getElem hi;have e2:ls[j]?=some ls[j]:=List.getElem?_eq_getElem hj;obtain⟨z1,z2⟩:=hz.get e1;obtain⟨z3,z4⟩:=hz.get e2;have zc:∀ m,nxN ls t i j=some m→Sz 802 m:=fun m h=>by
  rw[a5E e1 e2] at h;obtain⟨n1,_,n3⟩:=qN h;exact aI6 z1 z2 z3 z4 (by unfold mtO; rw[if_neg n1,n3])
 unfold aIX at q;refine pU ?_;unfold oF;walk_at "!9^_*;";refine a1J e1 e2 (z1.mono (by decide)) (z2.mono (by decide)) (z3.mono (by decide)) (z4.mono (by decide)) ht ?_;rw[← mX e1 e2]
 cases ha:ahN ls t i j with
 | false=>
  rw[if_pos ha] at q;walk_at "!čf";exact q
 | true=>
  rw[if_neg (by rw[ha]; decide)] at q;walk_at "!d5";unfold oM;walk_at "!%_*;";refine tW e1 e2 (z1.mono (by decide)) (z2.mono (by decide)) (z3.mono (by decide)) (z4.mono (by decide)) ht ?_;rw[← a5E e1 e2];walk_at "!0Ŀv)"
  cases hc:nxN ls t i j with
  | none=>
   rw[hc] at q;refine a1K ?_;exact q
  | some m=>
   rw[hc] at q;refine xX ?_;walk_at "!Ĕu)"
   cases till with
   | none=>
    refine xX ?_;exact q
   | some u=>
    refine a1K ?_;walk_at "!ģF";refine gG ((zc m hc).mono (by decide)) ((hu u rfl).mono (by decide)) ?_;walk_at "!#";exact q
theorem aAD {t:Rat}{i j:Int}{till:Option Rat}(hz:LinesOk 200 ls)(hl:ls.length≤30)(ht:Sz 2900 t)(hu:∀ u,till=some u→Sz 2900 u)(q:Q (.val (.bool (isR ls t i j till)))) :
  qL [.val (.list (bH ls)),.val (bU t),.val (aNH i j till)] Q:=by
 refine pU ?_;unfold vH aNH;walk_at "!%3";refine cO (d:=.int i) rfl ?_;walk_at "!%3";refine cO (d:=.int j) rfl ?_;walk_at "!%3";refine cO (d:=xF till) rfl ?_;walk_at "!k^F";refine yE ?_
 by_cases c1:0≤i∧i<(ls.length:Int)
 rotate_left
 ·rw[aCD (.inr (.inl c1))] at q;rw[decide_eq_false c1];walk_at "!čCf";exact q
 rw[decide_eq_true c1];walk_at "!d~^F";refine yE ?_
 by_cases c2:0≤j∧j<(ls.length:Int)
 rotate_left
 ·rw[aCD (.inr (.inr c2))] at q;rw[decide_eq_false c2];walk_at "!čCf";exact q
 rw[decide_eq_true c2];walk_at "!d.JW[#";refine fX (fun c3=>?_) (fun c3=>?_)
 ·rw[aCD (.inl c3)] at q;walk_at "!f";exact q
 obtain⟨i,rfl⟩:∃ n:Nat,i=(n:Int):=⟨i.toNat,by omega⟩;obtain⟨j,rfl⟩:∃ n:Nat,j=(n:Int):=⟨j.toNat,by omega⟩;have hi:i<ls.length:=by omega
 have hj:j<ls.length:=by omega
 rw[aH4 (by omega) hi hj] at q;walk_at "!5";unfold tM;walk_at "!9Bu)";have last:(∀ u,till=some u→t<u)→nO [.val (.list (bH ls)),.val (bU t),.val (.tuple [.int (i:Int),.int (j:Int),xF till]),.val (.int (i:Int)),.val (.int (j:Int)),.val (xF till)] fun fl=>match fl with|.rt rv=>Q rv|.nx _=>Q (.val .none)|_=>False:=by
  intro hlt;unfold nO;walk_at "!ă****;";refine a2B hz hi hj ht hu ?_;unfold aIX
  cases ha:ahN ls t i j with
  | false=>rw[if_pos ha] at q; rw[if_pos rfl]; exact q
  | true=>
   rw[if_neg (by rw[ha]; decide)] at q;rw[if_neg (by decide)]
   cases till with
   | none=>cases hc:nxN ls t i j<;>rw[hc] at q<;>exact q
   | some u=>
    have:=hlt u rfl
    cases hc:nxN ls t i j with
    | none=>rw[hc] at q; show Q (.val (.bool true)); rw[← decide_eq_true this]; exact q
    | some m=>
     rw[hc] at q;have q2:Q (.val (.bool (decide (t<u) && !decide (m<u)))):=q;rw[decide_eq_true this,Bool.true_and] at q2;exact q2
 cases till with
 | none=>
  refine xX ?_;walk_at "!p";exact last fun u h=>nomatch h
 | some u=>
  refine a1K ?_;walk_at "!^F";refine gG (ht.mono (by decide)) ((hu u rfl).mono (by decide)) ?_;walk_at "!#";refine a3B (fun c=>?_) (fun c=>?_)
  ·walk_at "!f";have e3:(if ahN ls t i j=false then false else match some u,nxN ls t i j with|none,c=>c.isNone|some u,none=>decide (t<u)|some u,some c=>decide (t<u) && !decide (c<u))=false:=by
    split
    ·rfl
    ·cases nxN ls t i j with
     | none=>exact decide_eq_false c
     | some m=>show(decide (t<u)&&_)=false; rw[decide_eq_false c]; rfl
   rw[e3] at q;exact q
  ·walk_at "!5";exact last fun v h=>by cases h; exact c
end
abbrev Pp:=Int×Int×Option Rat
def ppD (p:Pp):D:=aNH p.1 p.2.1 p.2.2
def aKF (p:Pp):Prop:=∀ u,p.2.2=some u→Sz 2900 u
def a7E (ps:List Pp):List D:=ps.map ppD
theorem uC (ps:List Pp):(a7E ps).length=ps.length:=by unfold a7E; rw[List.length_map]
def prD (i j:Int):D:=.tuple [.int i,.int j]
theorem a7T (i j:Int):Gd 1 (prD i j):=aQO (oY _) (oY _)
def prs (ps:List Pp):List D:=ps.map fun p=>prD p.1 p.2.1
theorem aE0 (ps:List Pp):Goods (prs ps):=a9N (n:=1) fun d h=>by
 obtain⟨p,_,rfl⟩:=List.mem_map.mp h;exact a7T _ _
def inB (ps:List Pp)(i j:Int):Bool:=(prs ps).any fun e=>PyData.eqv e (prD i j)
def allR (ls:List Ln)(t:Rat)(ps:List Pp):Bool:=ps.all fun p=>isR ls t p.1 p.2.1 p.2.2
def aN6 (ls:List Ln)(t:Rat)(ps:List Pp):Bool:=(wH (ord ls t)).all fun q=>inB ps q.1 q.2
def aHV (b:Option Rat)(p:Pp):Option Rat:=match p.2.2,b with
 | none,b=>b
 | some u,none=>some u
 | some u,some c=>if u<c then some u else some c
def fM (ps:List Pp):Option Rat:=ps.foldl aHV none
theorem a7I (ps:List Pp)(p:Pp):fM (ps++[p])=aHV (fM ps) p:=by unfold fM; rw[List.foldl_append]; rfl
theorem aE6 {ps:List Pp}{c:Rat}(h:∀ p∈ps,aKF p)(e:fM ps=some c):Sz 2900 c:=by
 have go:∀(ps:List Pp) (b:Option Rat),(∀ p∈ps,aKF p)→(∀ u,b=some u→Sz 2900 u)→∀ c,ps.foldl aHV b=some c→Sz 2900 c:=by
  intro ps
  induction ps with
  | nil=>exact fun b _ hb c e=>hb c e
  | cons p ps ih=>
   intro b hp hb c e;refine ih (aHV b p) (fun x hx=>hp x (List.mem_cons_of_mem _ hx)) (fun u hu=>?_) c e;have h0:=hp p List.mem_cons_self;obtain⟨i,j,till⟩:=p
   cases till with
   | none=>exact hb u hu
   | some v=>
    cases b with
    | none=>cases hu; exact h0 _ rfl
    | some w=>
     have hu:(if v<w then some v else some w)=some u:=hu
     split at hu
     ·cases hu; exact h0 _ rfl
     ·cases hu; exact hb _ rfl
 exact go ps none h (fun u hu=>by cases hu) c e
def aNA (ls:List Ln)(t:Rat)(ps:List Pp):Option (List Nat×Option Rat):=if allR ls t ps=true then(if aN6 ls t ps=true then some (ord ls t,fM ps) else none) else none
theorem aEL {α:Type}(xs:List α)(f:α→Bool):uU ([]++(List.filter (fun _=>true) xs).map fun x=>PyData.bool (f x))=some (xs.map f):=by
 have e:List.filter (fun _=>true) xs=xs:=List.filter_eq_self.mpr fun _ _=>rfl;rw[e,List.nil_append,show(xs.map fun x=>PyData.bool (f x))=(xs.map f).map PyData.bool by rw[List.map_map]; rfl];exact aA0 _
theorem aJK {α:Type}(xs:List α)(f:α→D):([]:List D)++(List.filter (fun _=>true) xs).map f=xs.map f:=by
 have e:List.filter (fun _=>true) xs=xs:=List.filter_eq_self.mpr fun _ _=>rfl;rw[e,List.nil_append]
theorem aHE {α:Type}(xs:List α)(f:α→Bool):(xs.map f).all id=xs.all f:=by rw[List.all_map]; rfl
section
variable {Q:Rv→Prop}{ls:List Ln}
theorem yZ {ps:List Pp}(hz:∀ p∈ps,aKF p)(q:∀ d,((d=.none∧fM ps=none)∨∃(k:Nat) (p:Pp) (u:Rat),d=.int (k:Int)∧ps[k]?=some p∧p.2.2=some u∧fM ps=some u)→Q (.val d)) :
  cZ [.val (.list (a7E ps))] Q:=by
 refine pU ?_;unfold gQ;walk_at "!%&`#Ĩ)";refine yV (fun n Γ=>∃ d a b,Γ=[.val (.list (a7E ps)),.val d,a,b]∧((d=.none∧fM (ps.take n)=none)∨∃(k:Nat) (p:Pp) (u:Rat),d=.int (k:Int)∧ps[k]?=some p∧p.2.2=some u∧fM (ps.take n)=some u)) ⟨_,_,_,rfl,.inl ⟨rfl,rfl⟩⟩ ?_ ?_
 ·rintro n d Γ K hd ⟨d0,a,b,rfl,hI⟩ hk;have hn:n<ps.length:=by
   have:=(List.getElem?_eq_some_iff.mp hd).1;unfold uB at this;rw[List.length_map,List.length_range,uC] at this;exact this
  have hp:ps[n]?=some ps[n]:=List.getElem?_eq_getElem hn;have ed:d=.tuple [.int (n:Int),ppD ps[n]]:=by
   unfold uB at hd;rw[List.getElem?_map,List.getElem?_range (by rw[uC]; exact hn)] at hd;have:(a7E ps).getD n .none=ppD ps[n]:=by
    rw[List.getD_eq_getElem?_getD];unfold a7E;rw[List.getElem?_map,hp];rfl
   have h2:some (PyData.tuple [.int (n:Int),(a7E ps).getD n .none])=some d:=hd;rw[this] at h2;exact(Option.some.inj h2).symm
  subst ed;have zp:=hz _ (List.getElem_mem hn);have tk:ps.take (n+1)=ps.take n++[ps[n]]:=by rw[List.take_succ,hp]; rfl
  have hk3:=hk.nx;rw[tk,a7I] at hk3;generalize fM (ps.take n)=w at *;generalize hpp:ps[n]=p at *;obtain⟨i,j,till⟩:=p;unfold gU;walk_at "!Ęz4z4ę{Bu3";refine cO (d:=xF till) rfl ?_;skip
  cases till with
  | none=>
   skip;exact hk3 _ ⟨_,_,_,rfl,hI⟩
  | some u=>
   skip;rcases hI with⟨rfl,rfl⟩|⟨k,p,c,rfl,e1,e2,rfl⟩
   ·skip;exact hk3 _ ⟨_,_,_,rfl,.inr ⟨n,_,u,rfl,hp,rfl,rfl⟩⟩
   ·have hkl:=(List.getElem?_eq_some_iff.mp e1).1;skip;refine cO (mH (show(a7E ps)[k]?=some (ppD p) by unfold a7E; rw[List.getElem?_map,e1]; rfl)) ?_;walk_at "!h";refine cO (d:=bU c) (by show some (xF p.2.2)=_; rw[e2]; rfl) ?_;walk_at "!2";refine gG ((zp u rfl).mono (by decide)) ((hz p (List.mem_of_getElem? e1) c e2).mono (by decide)) ?_;walk_at "!#";refine fX (fun h=>?_) (fun h=>?_)
    ·walk_at "!?)";refine hk3 _ ⟨_,_,_,rfl,.inr ⟨n,_,u,rfl,hp,rfl,?_⟩⟩
     show(if u<c then some u else some c)=_
     rw[if_pos h]
    ·walk_at "!E";refine hk3 _ ⟨_,_,_,rfl,.inr ⟨k,p,c,rfl,e1,e2,?_⟩⟩
     show(if u<c then some u else some c)=_
     rw[if_neg h]
 ·rintro Γ ⟨d,a,b,rfl,hI⟩;have hle:(uB (a7E ps)).length=ps.length:=by unfold uB; rw[List.length_map,List.length_range,uC]
  rw[hle,List.take_length] at hI;unfold gY;walk_at "!0)";exact q d hI
theorem aIP {ps:List Pp}{t:Rat}(hz:LinesOk 200 ls)(hl:ls.length≤30)(ht:Sz 2900 t)(hp:∀ p∈ps,aKF p)(hn:ps.length≤500)
  (q:match aNA ls t ps with|none=>Q (.val .none)|some r=>Q (.box (aK6 (cF r.1) (xF r.2)))):a3K [.val (.list (bH ls)),.val (bU t),.val (.list (a7E ps))] Q:=by
 refine pU ?_;unfold a7G;walk_at "!9^ĬyĂw)";refine⟨by rw[uC]; omega,?_⟩;refine pQ (α:=Pp) (fun _=>true) (fun p=>.bool (isR ls t p.1 p.2.1 p.2.2)) ppD ps [] _ (fun p hm _ k k0 h1 h0=>?_) ?_
 ·walk_at "!4";unfold vA;walk_at "!C_;";refine aAD hz hl ht (hp p hm) ?_;walk_at "!#";exact h1 rfl
 rw[aEL];walk_at "!#";rw[aHE,show(ps.all fun p=>isR ls t p.1 p.2.1 p.2.2)=allR ls t ps from rfl];unfold aNA at q
 cases ha:allR ls t ps with
 | false=>
  rw[ha] at q;walk_at "!čf";exact q
 | true=>
  rw[ha,if_pos rfl] at q;walk_at "!d5";unfold a1C;walk_at "!Xt*;";refine iI hz hl ht ?_;walk_at "!%yĂw)";refine⟨by rw[uC]; omega,?_⟩;refine pQ (α:=Pp) (fun _=>true) (fun p=>prD p.1 p.2.1) ppD ps [] _ (fun p hm _ k k0 h1 h0=>?_) ?_
  ·walk_at "!4";unfold vA;walk_at "!C+=";refine cO (d:=.int p.1) rfl ?_;walk_at "!/=";refine cO (d:=.int p.2.1) rfl ?_;walk_at "!1";exact h1 rfl
  rw[aJK,show(ps.map fun p=>prD p.1 p.2.1)=prs ps from rfl];walk_at "!9x^ĬyĂwI-";refine wN ?_;walk_at "!#";have hol:=nA ls t;refine⟨by rw[List.length_map,qU]; omega,?_⟩;refine pQ (α:=Nat×Nat) (fun _=>true) (fun p=>.bool (inB ps p.1 p.2)) aA6 (wH (ord ls t)) [] _ (fun p hm _ k k0 h1 h0=>?_) ?_
  ·walk_at "!4";unfold vA;walk_at "!CĥH";exact⟨(a7T _ _).good,aE0 ps,h1 rfl⟩
  rw[aEL];walk_at "!g";rw[aHE,show((wH (ord ls t)).all fun p=>inB ps p.1 p.2)=aN6 ls t ps from rfl]
  cases hb:aN6 ls t ps with
  | false=>
   rw[hb] at q;walk_at "!čf";exact q
  | true=>
   rw[hb,if_pos rfl] at q;walk_at "!d5";unfold a1O;walk_at "!%I-";refine yZ hp fun d hd=>?_;walk_at "!s#";refine aKP rfl ?_;rcases hd with⟨rfl,e⟩|⟨k,p,u,rfl,e1,e2,e⟩
   ·rw[e] at q;walk_at "!ĭ.v)C&";exact q
   ·rw[e] at q;have hkl:=(List.getElem?_eq_some_iff.mp e1).1;walk_at "!ĭ.v)oOW";refine cO (mH (show(a7E ps)[k]?=some (ppD p) by unfold a7E; rw[List.getElem?_map,e1]; rfl)) ?_;walk_at "!&";refine cO (d:=bU u) (by show some (xF p.2.2)=_; rw[e2]; rfl) ?_;skip;exact q
end
theorem mem_mts {ls:List Ln}{t:Rat}:t∈mts ls↔∃(i j:Nat) (l k:Ln),ls[i]?=some l∧ls[j]?=some k∧l.2≠k.2∧mt l k=t:=by
 unfold mts;rw[mem_mtsTo];constructor
 ·rintro⟨i,j,l,k,_,_,e1,e2,h⟩
  unfold mtO at h
  split at h
  ·cases h
  ·rename_i c
   cases h
   exact⟨i,j,l,k,e1,e2,c,rfl⟩
 ·rintro⟨i,j,l,k,e1,e2,c,rfl⟩
  have hi:i<ls.length:=(List.getElem?_eq_some_iff.mp e1).1;have hj:j<ls.length:=(List.getElem?_eq_some_iff.mp e2).1;have hij:i≠j:=by
   rintro rfl;rw[e1] at e2; cases e2;exact c rfl
  by_cases d:j<i
  ·exact⟨i,j,l,k,hi,d,e1,e2,by unfold mtO; rw[if_neg c]⟩
  ·exact⟨j,i,k,l,hj,by omega,e2,e1,by unfold mtO; rw[if_neg (Ne.symm c),aEA c]⟩
theorem aJD {ds:List D}{d:D}(h:ds.getLast?=some d):ixD (.list ds) (.int (-1))=some d:=by
 have hne:ds≠[]:=by rintro rfl; cases h
 have hp:=List.length_pos_iff.mpr hne;show atI ds (-1)=_;unfold atI ixN;rw[if_neg (by decide),if_pos (by omega)];show ds[((-1:Int)+(ds.length:Int)).toNat]?=_;rw[show((-1:Int)+(ds.length:Int)).toNat=ds.length-1 by omega,←List.getLast?_eq_getElem?];exact h
section
variable {Q:Rv→Prop}{ls:List Ln}
end
def a0Y (ls:List Ln)(t:Rat):List Pp:=(wH (ord ls t)).map fun p=>((p.1:Int),(p.2:Int),nxN ls t p.1 p.2)
theorem aDB (ls:List Ln)(t:Rat):aLK ls t=a7E (a0Y ls t):=by
 unfold aLK aBS;rw[← a88 (a8W ls t) (ord ls t)];unfold a7E a0Y;rw[List.map_map];rfl
theorem aGE (ls:List Ln)(t:Rat):(a0Y ls t).length=ls.length-1:=by
 unfold a0Y;rw[List.length_map,qU,nA]
theorem a3A {xs:List Nat}{p:Nat×Nat}(h:p∈wH xs):Adj xs p.1 p.2:=by
 obtain⟨n,hn,rfl⟩:=uD h;exact⟨n,List.getElem?_eq_getElem (by omega),List.getElem?_eq_getElem hn⟩
theorem a8P {xs:List Nat}{i j:Nat}(h:Adj xs i j):(i,j)∈wH xs:=by
 obtain⟨n,h1,h2⟩:=h;obtain⟨l1,rfl⟩:=List.getElem?_eq_some_iff.mp h1;obtain⟨l2,rfl⟩:=List.getElem?_eq_some_iff.mp h2;exact List.mem_of_getElem? (rA l2)
theorem mem_pap0 {ls:List Ln}{t:Rat}{p:Pp}:p∈a0Y ls t↔∃ i j:Nat,Adj (ord ls t) i j∧p=((i:Int),(j:Int),nxN ls t i j):=by
 unfold a0Y;rw[List.mem_map];constructor
 ·rintro⟨q,h,rfl⟩
  exact⟨q.1,q.2,a3A h,rfl⟩
 ·rintro⟨i,j,h,rfl⟩
  exact⟨(i,j),a8P h,rfl⟩
theorem aDS {ls:List Ln}{t:Rat}{i j:Nat}(h:Adj (ord ls t) i j):i<ls.length∧j<ls.length∧i≠j∧ahN ls t i j=true∧ahN ls t j i=false:=by
 have ha:=aE5 (pI ls t) h;obtain⟨n,h1,h2⟩:=h;have hi:=(kW ls t i).mp (List.mem_of_getElem? h1);have hj:=(kW ls t j).mp (List.mem_of_getElem? h2);have hij:i≠j:=by
  rintro rfl;rw[(dO ls t).irr hj] at ha
  cases ha
 exact⟨hi,hj,hij,ha,(dO ls t).asymm _ _ hi hj ha⟩
theorem a3M {ls:List Ln}{t u:Rat}{i j:Nat}(h:nxN ls t i j=some u):t<u∧u∈mts ls:=by
 unfold nxN at h
 cases e1:ls[i]? with
 | none=>rw[e1] at h; cases h
 | some l=>
  cases e2:ls[j]? with
  | none=>rw[e1,e2] at h; cases h
  | some k=>
   rw[e1,e2] at h;obtain⟨c1,c2,c3⟩:=qN h;exact⟨c2,mem_mts.mpr ⟨i,j,l,k,e1,e2,c1,c3.symm⟩⟩
theorem aJI {ls:List Ln}{t:Rat}{i j:Nat}(h:Adj (ord ls t) i j):isR ls t i j (nxN ls t i j)=true:=by
 obtain⟨hi,hj,hij,ha,_⟩:=aDS h;rw[aH4 hij hi hj,if_neg (by rw[ha]; decide)]
 cases hn:nxN ls t i j with
 | none=>rfl
 | some u=>
  show(decide (t<u) && !decide (u<u))=true
  rw[decide_eq_true (a3M hn).1,decide_eq_false (by grind)];rfl
theorem aC8:∀(ps:List Pp) (b:Option Rat),(∀ u,ps.foldl aHV b=some u→(b=some u∨∃ p∈ps,p.2.2=some u)∧(∀ v,b=some v→u≤v)∧∀ p∈ps,∀ v,p.2.2=some v→u≤v)∧(ps.foldl aHV b=none→b=none∧∀ p∈ps,p.2.2=none)
 | [],b=>⟨fun u h=>⟨.inl h,fun v hv=>by rw[show b=some u from h] at hv; cases hv; exact Rat.le_refl,fun _ h=>(nomatch h)⟩,fun h=>⟨h,fun _ h=>(nomatch h)⟩⟩
 | p::ps,b=>by
  obtain⟨g1,g2⟩:=aC8 ps (aHV b p);obtain⟨i,j,till⟩:=p
  cases till with
  | none=>
   refine⟨fun u h=>?_,fun h=>?_⟩
   ·obtain⟨a1,a2,a3⟩:=g1 u h;refine⟨a1.imp (fun x=>x) fun⟨q,x,y⟩=>⟨q,List.mem_cons_of_mem _ x,y⟩,a2,fun q hq v hv=>?_⟩;rcases List.mem_cons.mp hq with rfl|hq
    ·cases hv
    ·exact a3 q hq v hv
   ·obtain⟨a1,a2⟩:=g2 h;refine⟨a1,fun q hq=>?_⟩;rcases List.mem_cons.mp hq with rfl|hq
    ·rfl
    ·exact a2 q hq
  | some w=>
   have key:∃ c,aHV b (i,j,some w)=some c∧(b=some c∨w=c)∧c≤w∧∀ v,b=some v→c≤v:=by
    cases b with
    | none=>exact⟨w,rfl,.inr rfl,Rat.le_refl,fun v h=>by cases h⟩
    | some x=>
     by_cases hx:w<x
     ·exact⟨w,by show(if w<x then _ else _)=_; rw[if_pos hx],.inr rfl,Rat.le_refl,fun v h=>by cases h; grind⟩
     ·exact⟨x,by show(if w<x then _ else _)=_; rw[if_neg hx],.inl rfl,by grind,fun v h=>by cases h; exact Rat.le_refl⟩
   obtain⟨c,e,k1,k2,k3⟩:=key;rw[e] at g1 g2;refine⟨fun u h=>?_,fun h=>?_⟩
   ·rw[List.foldl_cons,e] at h;obtain⟨a1,a2,a3⟩:=g1 u h;refine⟨?_,fun v hv=>Rat.le_trans (a2 c rfl) (k3 v hv),fun q hq v hv=>?_⟩
    ·rcases a1 with a1|⟨q,x,y⟩
     ·cases a1
      rcases k1 with k1|k1
      ·exact .inl k1
      ·exact .inr ⟨_,List.mem_cons_self,by rw[k1]⟩
     ·exact .inr ⟨q,List.mem_cons_of_mem _ x,y⟩
    ·rcases List.mem_cons.mp hq with rfl|hq
     ·cases hv
      exact Rat.le_trans (a2 c rfl) k2
     ·exact a3 q hq v hv
   ·rw[List.foldl_cons,e] at h
    cases(g2 h).1
theorem a93 {ps:List Pp}{u:Rat}(h:fM ps=some u):(∃ p∈ps,p.2.2=some u)∧∀ p∈ps,∀ v,p.2.2=some v→u≤v:=by
 obtain⟨a1,_,a3⟩:=(aC8 ps none).1 u h;exact⟨a1.elim (fun x=>by cases x) fun x=>x,a3⟩
theorem a9L {ps:List Pp}(h:fM ps=none):∀ p∈ps,p.2.2=none:=((aC8 ps none).2 h).2
def aML (ls:List Ln)(t v:Rat):Prop:=∀ u,fM (a0Y ls t)=some u→v<u
theorem aBW {ls:List Ln}{t v:Rat}(h:aML ls t v){i j:Nat}(g:Adj (ord ls t) i j){u:Rat}(hu:nxN ls t i j=some u):v<u:=by
 have hm:=mem_pap0.mpr ⟨i,j,g,rfl⟩
 cases e:fM (a0Y ls t) with
 | none=>
  have:=a9L e _ hm;rw[show nxN ls t i j=none from this] at hu
  cases hu
 | some w=>
  have h1:=h w e;have h2:=(a93 e).2 _ hm u hu;grind
theorem aEE {ls:List Ln}{t v:Rat}(htv:t≤v)(h:aML ls t v):ord ls v=ord ls t:=aBP htv fun _ _ g _ hu=>aBW h g hu
theorem aHX (ls:List Ln)(t:Rat):aNA ls t (a0Y ls t)=some (ord ls t,fM (a0Y ls t)):=by
 have e1:allR ls t (a0Y ls t)=true:=List.all_eq_true.mpr fun p hp=>by
  obtain⟨i,j,g,rfl⟩:=mem_pap0.mp hp;exact aJI g
 have e2:aN6 ls t (a0Y ls t)=true:=List.all_eq_true.mpr fun p hp=>by
  unfold inB;exact List.any_eq_true.mpr ⟨prD p.1 p.2,List.mem_map.mpr ⟨_,mem_pap0.mpr ⟨p.1,p.2,a3A hp,rfl⟩,rfl⟩,xM (a7T _ _).good⟩
 unfold aNA;rw[e1,if_pos rfl,e2,if_pos rfl]
theorem aEJ {ls:List Ln}{t:Rat}(hz:LinesOk 200 ls):∀ p∈a0Y ls t,aKF p:=fun p hp u hu=>by
 obtain⟨i,j,_,rfl⟩:=mem_pap0.mp hp;exact(aKZ hz (a3M hu).2).mono (by decide)
section
variable {Q:Rv→Prop}{ls:List Ln}{t:Rat}
theorem aIR {l k:Ln}(z1:Sz 200 l.1)(z2:Sz 200 l.2)(z3:Sz 200 k.1)(z4:Sz 200 k.2)(c:l.2≠k.2)(q:Q (.val (bU (mt l k)))):uT [.val (o5 l),.val (o5 k)] Q:=by
 have c:l.2-k.2≠0:=by grind
 have s1:Sz 401 (l.2-k.2):=(z2.sub z4).mono (by decide);have s2:Sz 401 (k.1-l.1):=(z3.sub z1).mono (by decide);obtain⟨b0,b1⟩:=id s1;obtain⟨c0,c1⟩:=id s2;refine pU ?_;unfold a00;walk_at "!%Am(m(ć&-";refine aCF (.inr rfl) (z3.mono (by decide)) (z1.mono (by decide)) ?_;rw[aDC];walk_at "!%Ae(e(ć&-";refine aCF (.inr rfl) (z2.mono (by decide)) (z4.mono (by decide)) ?_;rw[aDC];walk_at "!TU(M@lN-";refine qC (Int.mul_ne_zero (cY _) (a8T c)) ((c1.mul b0).mono (by decide)) ?_;rw[aE2 _ c];exact q
def aG3 (ls:List Ln)(t:Rat)(i j:Nat):Bool:=decide (slp ls i<slp ls j)&&decide (t<mt (ln ls i) (ln ls j))
def iV (ls:List Ln)(t:Rat)(i n:Nat):List (Nat×Nat):=((List.range n).filter (aG3 ls t i)).map fun j=>(i,j)
def t8 (ls:List Ln)(t:Rat)(m:Nat):List (Nat×Nat):=(List.range m).flatMap fun i=>iV ls t i ls.length
def aDH (ls:List Ln)(t:Rat):List (Nat×Nat):=t8 ls t ls.length
def kI (p:Nat×Nat):Int×Int:=((p.1:Int),(p.2:Int))
theorem aHL {p q:Nat×Nat}(h:kI p=kI q):p=q:=by
 unfold kI at h;simp only[Prod.mk.injEq] at h;exact Prod.ext (by omega) (by omega)
def a9V (ls:List Ln)(ps:List (Nat×Nat)):Pds:=ps.map fun p=>(kI p,bU (mt (ln ls p.1) (ln ls p.2)))
theorem a70 {f:Nat×Nat→D}:∀{ps:List (Nat×Nat)} {p:Nat×Nat},p∉ps→a0H (ps.map fun p=>(kI p,f p)) (kI p)=none
 | [],_,_=>rfl
 | x::ps,p,h=>by
  rw[List.map_cons];unfold a0H;rw[if_neg (fun e=>h (by rw[aHL e]; exact List.mem_cons_self)),a70 fun z=>h (List.mem_cons_of_mem _ z)]
theorem aE4 {f:Nat×Nat→D}:∀{ps:List (Nat×Nat)} {p:Nat×Nat},p∈ps→a0H (ps.map fun p=>(kI p,f p)) (kI p)=some (f p)
 | x::ps,p,h=>by
  rw[List.map_cons];unfold a0H
  by_cases e:kI x=kI p
  ·rw[if_pos e,aHL e]
  ·rw[if_neg e];rcases List.mem_cons.mp h with h|h
   ·exact absurd (by rw[h]) e
   ·exact aE4 h
theorem aH0 {f:Nat×Nat→D}{ps:List (Nat×Nat)}{p:Nat×Nat}(h:p∉ps):a5J (ps.map fun p=>(kI p,f p)) (kI p) (f p)=(ps++[p]).map fun p=>(kI p,f p):=by
 unfold a5J;rw[a70 h,if_neg (by decide),List.map_append];rfl
theorem dueRow_mem {i n:Nat}{p:Nat×Nat}:p∈iV ls t i n↔p.1=i∧p.2<n∧aG3 ls t i p.2=true:=by
 unfold iV;rw[List.mem_map];constructor
 ·rintro⟨j,hj,rfl⟩
  obtain⟨h1,h2⟩:=List.mem_filter.mp hj;exact⟨rfl,List.mem_range.mp h1,h2⟩
 ·rintro⟨rfl,h1,h2⟩
  exact⟨p.2,List.mem_filter.mpr ⟨List.mem_range.mpr h1,h2⟩,rfl⟩
theorem dueTo_mem {m:Nat}{p:Nat×Nat}:p∈t8 ls t m↔p.1<m∧p.2<ls.length∧aG3 ls t p.1 p.2=true:=by
 unfold t8;rw[List.mem_flatMap];constructor
 ·rintro⟨i,hi,h⟩
  obtain⟨rfl,h1,h2⟩:=dueRow_mem.mp h;exact⟨List.mem_range.mp hi,h1,h2⟩
 ·rintro⟨h0,h1,h2⟩
  exact⟨p.1,List.mem_range.mpr h0,dueRow_mem.mpr ⟨rfl,h1,h2⟩⟩
theorem a7R (i n:Nat):iV ls t i (n+1)=if aG3 ls t i n=true then iV ls t i n++[(i,n)] else iV ls t i n:=by
 unfold iV;rw[List.range_succ,List.filter_append,List.map_append]
 by_cases h:aG3 ls t i n=true
 ·rw[if_pos h,List.filter_cons_of_pos h]; rfl
 ·rw[if_neg h,List.filter_cons_of_neg h,List.filter_nil,List.map_nil,List.append_nil]
theorem vG (m:Nat):t8 ls t (m+1)=t8 ls t m++iV ls t m ls.length:=by
 unfold t8;rw[List.range_succ,List.flatMap_append];simp
theorem a1S (i n:Nat):(iV ls t i n).length≤n:=by
 unfold iV;rw[List.length_map];exact Nat.le_trans (List.length_filter_le _ _) (by rw[List.length_range]; exact Nat.le_refl _)
theorem aC3 (m:Nat):(t8 ls t m).length≤m*ls.length:=by
 induction m with
 | zero=>exact Nat.zero_le _
 | succ m ih=>
  rw[vG,List.length_append,Nat.succ_mul];exact Nat.add_le_add ih (a1S _ _)
theorem aI7 (hz:LinesOk 200 ls)(hl:ls.length≤10)(ht:Sz 2900 t)(q:Q (.box (bDt (a9V ls (aDH ls t))))):tO [.val (.list (bH ls)),.val (bU t)] Q:=by
 have ll:aJ5 (.list (bH ls))=some (.int (ls.length:Int)):=by show some (PyData.int ((bH ls).length:Int))=_; rw[jN]
 refine pU ?_;unfold zF;walk_at "!X#";refine aE3 ?_;walk_at "!`Ą/Y)";refine cO ll ?_;walk_at "!n";refine⟨by omega,by omega,?_⟩;refine jP (fun i Γ=>∃ a b c,Γ=[.val (.list (bH ls)),.val (bU t),.box (bDt (a9V ls (t8 ls t i))),a,b,c]) ⟨_,_,_,rfl⟩ ?_ ?_
 ·rintro i Γ K hi ⟨a,b,c,rfl⟩ hK;have hi:i<ls.length:=by omega
  rw[Int.zero_add];unfold wO;walk_at "!4ĮĄ/Y$";refine cO ll ?_;walk_at "!n";refine⟨by omega,by omega,?_⟩;refine jP (fun j Γ=>∃ b c,Γ=[.val (.list (bH ls)),.val (bU t),.box (bDt (a9V ls (t8 ls t i++iV ls t i j))),.val (.int (i:Int)),b,c]) ⟨_,_,by rw[show iV ls t i 0=[] from rfl,List.append_nil]; rfl⟩ ?_ ?_
  ·rintro j Γ K2 hj ⟨b,c,rfl⟩ hK2;have hj:j<ls.length:=by omega
   obtain⟨z1,z2⟩:=hz.get (nY hi);obtain⟨z3,z4⟩:=hz.get (nY hj);have k3:=hK2.nx;rw[a7R] at k3;have fresh:(i,j)∉t8 ls t i++iV ls t i j:=fun h=>by
    rcases List.mem_append.mp h with h|h
    ·have:=(dueTo_mem.mp h).1;exact absurd this (Nat.lt_irrefl _)
    ·have:=(dueRow_mem.mp h).2.1;exact absurd this (Nat.lt_irrefl _)
   have lng:(t8 ls t i++iV ls t i j).length<1000:=by
    rw[List.length_append];have h1:=aC3 (ls:=ls) (t:=t) i;have h2:=a1S (ls:=ls) (t:=t) i j;have:i*ls.length≤10*10:=Nat.mul_le_mul (by omega) hl;omega
   rw[Int.zero_add];unfold wL;walk_at "!4{.AOH";refine cO (nU (nY hi)) ?_;walk_at "!&ā(OW";refine cO (nU (nY hj)) ?_;walk_at "!&ā2";refine a5B (z2.mono (by decide)) (z4.mono (by decide)) ?_;walk_at "!#";refine fX (fun c1=>?_) (fun c1=>?_)
   ·walk_at "!%A<H";refine cO (nU (nY hi)) ?_;walk_at "!(<W";refine cO (nU (nY hj)) ?_;walk_at "!2";refine aIR z1 z2 z3 z4 (by grind) ?_;walk_at "!{.F";refine a5B (ht.mono (by decide)) (((z3.sub z1).div (z2.sub z4) (by grind)).mono (by decide)) ?_;walk_at "!#";refine fX (fun c2=>?_) (fun c2=>?_)
    ·skip;refine aD4 ?_;walk_at "!$";refine⟨⟨_,rfl⟩,?_⟩;walk_at "!+$G1";refine⟨_,kI (i,j),rfl,rfl,by unfold a9V; rw[List.length_map]; exact lng,?_⟩;rw[if_pos (by unfold aG3; rw[decide_eq_true (show slp ls i<slp ls j from c1),decide_eq_true c2]; rfl)] at k3;have e:a5J (a9V ls (t8 ls t i++iV ls t i j)) (kI (i,j)) (bU (mt (ln ls i) (ln ls j)))=a9V ls (t8 ls t i++(iV ls t i j++[(i,j)])):=by
      unfold a9V;rw[← List.append_assoc,←aH0 (f:=fun p=>bU (mt (ln ls p.1) (ln ls p.2))) fresh]
     rw[e];exact k3 _ ⟨_,_,rfl⟩
    ·walk_at "!E";rw[if_neg (by unfold aG3; rw[decide_eq_false c2,Bool.and_false]; decide)] at k3;exact k3 _ ⟨_,_,rfl⟩
   ·walk_at "!E";rw[if_neg (by unfold aG3; rw[decide_eq_false (show ¬slp ls i<slp ls j from c1),Bool.false_and]; decide)] at k3;exact k3 _ ⟨_,_,rfl⟩
  ·rintro Γ ⟨b,c,rfl⟩;have k4:=hK.nx;rw[vG] at k4;rw[Int.toNat_natCast];exact k4 _ ⟨_,_,_,rfl⟩
 ·rintro Γ ⟨a,b,c,rfl⟩;rw[Int.toNat_natCast];unfold wI;walk_at "!s#";exact q
end
theorem aM4 {b:Bool}{A B:Prop}(h:b=false)(x:B):if b=true then A else B:=by rw[h]; exact xX x
theorem aLD (e:Ev):Gd 2 (evD e):=a5N (n:=1) fun d h=>by
 simp only[List.mem_cons,List.not_mem_nil,or_false] at h;rcases h with rfl|rfl|rfl
 ·exact a8K _
 ·exact(oY _).mono
 ·exact(oY _).mono
theorem aKI (es:List Ev):Gd 3 (.list (es.map evD)):=uH (n:=2) fun d h=>by
 obtain⟨e,_,rfl⟩:=List.mem_map.mp h;exact aLD e
theorem aBE {es:List Ev}{j:Nat}{e:Ev}(h:es[j]?=some e):ixD (.list (es.map evD)) (.int (j:Int))=some (evD e):=mH (by rw[List.getElem?_map,h]; rfl)
theorem aJL {xs:List Nat}{k:Nat}(h:k+1<xs.length):L2.VS.cutD (cF xs) (some ((k:Int)+1)) (some ((k:Int)+2))=[.int (xs[k+1]:Int)]:=by
 unfold L2.VS.cutD;rw[show((k:Int)+2)=((k+2:Nat):Int) by omega,show((k:Int)+1)=((k+1:Nat):Int) by omega,HT.sIx_nat,HT.sIx_nat,Nat.min_eq_left (by rw[iZ]; omega),Nat.min_eq_left (by rw[iZ]; omega),show k+2-(k+1)=1 by omega];unfold cF;rw[← List.map_drop,List.drop_eq_getElem_cons h];rfl
def a4A (ps:List (Nat×Nat)):Pds:=ps.map fun p=>(kI p,.bool true)
structure ToldI (ls:List Ln)(E:List Ev)(j:Nat)(t:Rat)(xs:List Nat):Prop where
 ok:WkOk ls t xs
 rest:(evs ls t xs).1=E.drop j
theorem ToldI.next {ls:List Ln}{E:List Ev}{j:Nat}{t:Rat}{xs:List Nat}(hz:LinesOk 200 ls)(h:ToldI ls E j t xs){e:Ev}(he:E[j]?=some e) :
  ∃ k,∃ hk:k+1<xs.length,e=(e.1,xs[k],xs[k+1])∧ToldI ls E (j+1) e.1 (swp xs k):=by
 have hr:=h.rest;have hj:=(List.getElem?_eq_some_iff.mp he).1;have ed:E.drop j=e::E.drop (j+1):=by
  rw[List.drop_eq_getElem_cons hj,(List.getElem?_eq_some_iff.mp he).2]
 rw[ed] at hr
 cases hf:ff (bY ls t xs) with
 | none=>rw[jH hf] at hr; cases hr
 | some p=>
  obtain⟨k,u⟩:=p;obtain⟨hk,ev,e1,e2⟩:=a2U h.ok hf;rw[qH hz h.ok hf] at hr;obtain⟨h1,h2⟩:=List.cons.inj hr;subst h1;exact⟨k,hk,by rw[← e1,←e2],(h.ok.step hz hf).1,h2⟩
section
variable {Q:Rv→Prop}{ls:List Ln}{t:Rat}
theorem aFU (hz:LinesOk 200 ls)(hl:ls.length≤10)(ht:Sz 2900 t)(q:Q (.val (.bool true))) :
  fV [.val (.list (cF (ord ls t))),.val (.list ((evs ls t (ord ls t)).1.map evD)),.pub (pDt (a9V ls (aDH ls t)))] Q:=by
 have ok0:=WkOk.start (ls:=ls) ht;have eo:=vM hz ok0;have hEl:(evs ls t (ord ls t)).1.length≤100:=by
  rw[eo.len];exact Nat.le_trans (zQ _ _) (by rw[nA]; exact Nat.mul_le_mul hl hl)
 have st0:ToldI ls (evs ls t (ord ls t)).1 0 t (ord ls t):=⟨ok0,rfl⟩;have mem:∀ e∈(evs ls t (ord ls t)).1,evP e∈aDH ls t:=fun e he=>by
  have h1:=eo.pm.mem_iff.mp (List.mem_map.mpr ⟨e,he,rfl⟩);obtain⟨a,b,c,d⟩:=inv_due.mp h1;refine dueTo_mem.mpr ⟨a,b,?_⟩
  show(decide (slp ls e.2.1<slp ls e.2.2)&&decide (t<mt (ln ls e.2.1) (ln ls e.2.2)))=true
  rw[decide_eq_true c,decide_eq_true d];rfl
 have nd:((evs ls t (ord ls t)).1.map evP).Nodup:=eo.pm.nodup_iff.mpr ((aES (aJ2 ok0)).filter _);have hlen:(aDH ls t).length=(evs ls t (ord ls t)).1.length:=by
  have p:(aDH ls t).Perm ((evs ls t (ord ls t)).1.map evP):=by
   refine(List.perm_ext_iff_of_nodup ?_ nd).mpr fun p=>?_
   ·unfold aDH;have aux:∀ m,(t8 ls t m).Nodup:=by
     intro m
     induction m with
     | zero=>exact List.nodup_nil
     | succ m ih=>
      rw[vG];refine List.nodup_append.mpr ⟨ih,?_,fun a ha b hb e=>?_⟩
      ·unfold iV;exact List.pairwise_map.mpr (List.Pairwise.imp (fun{a b} (z:a≠b) e=>z (Prod.mk.inj e).2) (List.nodup_range.filter _))
      ·have h1:=(dueTo_mem.mp ha).1;have h2:=(dueRow_mem.mp hb).1;rw[e] at h1;omega
    exact aux _
   ·rw[eo.pm.mem_iff];obtain⟨a,b⟩:=p;rw[inv_due];unfold aDH;rw[dueTo_mem];unfold aG3;simp only[Bool.and_eq_true,decide_eq_true_eq]
  rw[p.length_eq,List.length_map]
 have up:=eo.up;have evk:=eo.ev;generalize (evs ls t (ord ls t)).1=E at *;refine pU ?_;unfold j5;walk_at "!X#";refine aE3 ?_;walk_at "!XČ)`Ą/Y$";refine cO (d:=.int (E.length:Int)) (by show some (PyData.int ((E.map evD).length:Int))=_; rw[List.length_map]) ?_;walk_at "!n";refine⟨by omega,by omega,?_⟩;refine jP (fun j Γ=>∃ u xs x5 x6 x7 x8 x9,Γ=[.val (.list (cF (ord ls t))),.val (.list (E.map evD)),.pub (pDt (a9V ls (aDH ls t))),.box (bDt (a4A ((E.take j).map evP))),.own (cF xs),x5,x6,x7,x8,x9]∧ToldI ls E j u xs) ⟨t,ord ls t,_,_,_,_,_,rfl,st0⟩ ?_ ?_
 ·rintro j Γ K hj ⟨u,xs,x5,x6,x7,x8,x9,rfl,ti⟩ hK;have hj:j<E.length:=by omega
  have he:E[j]?=some E[j]:=List.getElem?_eq_getElem hj;obtain⟨k,hk,ee,ti2⟩:=ti.next hz he
  have hxl:xs.length≤10:=by rw[ti.ok.len]; exact hl
  have tk:(E.take (j+1)).map evP=(E.take j).map evP++[evP E[j]]:=by rw[List.take_succ,he,List.map_append]; rfl
  have fresh:evP E[j]∉(E.take j).map evP:=fun h=>by
   have h1:((E.take (j+1)).map evP).Nodup:=nd.sublist ((List.take_sublist _ _).map _);rw[tk] at h1;exact(List.nodup_append.mp h1).2.2 _ h _ (List.mem_singleton.mpr rfl) rfl
  have hdue:=mem E[j] (List.getElem_mem hj);have ev:=evk E[j] (List.getElem_mem hj);have zt:∀ i (h:i<E.length),Sz 2900 E[i].1:=fun i h=>by
   have v:=evk E[i] (List.getElem_mem h);obtain⟨z1,z2⟩:=hz.get (nY v.a);obtain⟨z3,z4⟩:=hz.get (nY v.b);rw[v.m];have vs:=v.s;have vs:(ln ls E[i].2.1).2<(ln ls E[i].2.2).2:=vs;exact((z3.sub z1).div (z2.sub z4) (by grind)).mono (by decide)
  have hK3:=hK.nx;rw[tk] at hK3;have hp:evP E[j]=(xs[k],xs[k+1]):=by rw[ee]; rfl
  have hm:=ev.m;rw[hp] at fresh hdue;rw[hp] at hK3;have ea:E[j].2.1=xs[k]:=congrArg Prod.fst hp;have eb:E[j].2.2=xs[k+1]:=congrArg Prod.snd hp;rw[ea,eb] at hm;obtain⟨tm,htm⟩:∃ tm,tm=E[j].1:=⟨_,rfl⟩;rw[← htm] at hm ti2;have he2:ixD (.list (E.map evD)) (.int (j:Int))=some (.tuple [bU tm,.int (xs[k]:Int),.int (xs[k+1]:Int)]):=by
   rw[aBE he,ee,htm];rfl
  have hnat:∀(i:Nat) (h:i<xs.length),(xs.map fun x:Nat=>(x:Int)).getD i 0=(xs[i]:Int):=fun i h=>by
   rw[List.getD_eq_getElem?_getD,List.getElem?_map,List.getElem?_eq_getElem h];rfl
  have r4:g8 [.val (.list (cF (ord ls t))),.val (.list (E.map evD)),.pub (pDt (a9V ls (aDH ls t))),.box (bDt (a4A ((E.take j).map evP))),.own (cF xs),.val (.int (j:Int)),x6,x7,x8,x9] K:=by
   unfold g8;walk_at "!Qŀ<H";refine cO he2 ?_;walk_at "!Ęz4z4z4ęk.";refine aH8 ?_;walk_at "!+$G8";refine⟨_,kI (xs[k],xs[k+1]),.inl rfl,rfl,?_⟩;rw[show a0H (a4A ((E.take j).map evP)) (kI (xs[k],xs[k+1]))=none from a70 fresh];refine aM4 rfl ?_;walk_at "!~.";refine aH8 ?_;walk_at "!+$G8";refine⟨_,kI (xs[k],xs[k+1]),.inr rfl,rfl,?_⟩;have hsome:a0H (a9V ls (aDH ls t)) (kI (xs[k],xs[k+1]))=some (bU tm):=by rw[hm]; exact aE4 (f:=fun p=>bU (mt (ln ls p.1) (ln ls p.2))) hdue
   rw[hsome];refine aM4 rfl ?_;walk_at "!:#";refine aJV (.inr rfl) ?_;walk_at "!+$G1";refine⟨_,kI (xs[k],xs[k+1]),_,.inr rfl,rfl,hsome,?_⟩;walk_at "!$Ā";refine a3B (fun h=>absurd rfl h) (fun _=>?_);walk_at "!5";unfold kY;walk_at "!Q";refine aD4 ?_;walk_at "!h";refine⟨⟨_,rfl⟩,?_⟩;walk_at "!+$G1";refine⟨_,kI (xs[k],xs[k+1]),rfl,rfl,by unfold a4A; rw[List.length_map,List.length_map,List.length_take]; omega,?_⟩;have ep:a5J (a4A ((E.take j).map evP)) (kI (xs[k],xs[k+1])) (.bool true)=a4A ((E.take j).map evP++[(xs[k],xs[k+1])]):=aH0 (f:=fun _=>.bool true) fresh;rw[ep];walk_at "!%Ł#";refine aIF ?_;walk_at "!$";refine⟨xs.map fun x:Nat=>(x:Int),by show PyData.list (cF xs)=_; unfold cF aF9; rw[List.map_map]; rfl,?_⟩;walk_at "!$";refine⟨_,k,rfl,by rw[List.length_map]; omega,hnat k (by omega),fun i hi=>?_,?_⟩
   ·rw[hnat i (by omega)];intro z;have z:xs[i]=xs[k]:=by omega
    have:=(List.getElem_inj (aJ2 ti.ok)).mp z;omega
   walk_at "!gg9x:aĤ$ĊĒĊSbG8";rw[aJL hk];have g1:Good (.list [.int (xs[k+1]:Int)]):=(uH (n:=0) fun d h=>by rw[List.mem_singleton.mp h]; exact oY _).good;refine⟨g1,g1,rfl,eqF g1 ?_⟩;walk_at "!5";unfold lA;walk_at "!łbGG8ŃĊ$ĊS";rw[show((k:Int)+2)=((k+2:Nat):Int) by omega];refine aP0 rfl (by omega) (by rw[iZ]; omega) (by rw[iZ]; show xs.length+2≤1000; omega) ?_;rw[aCL hk];exact hK3 _ ⟨tm,swp xs k,_,_,_,_,_,rfl,ti2⟩
  rw[Int.zero_add];unfold jQ;walk_at "!4k^ĕ<H";refine cO (aBE he) ?_;walk_at "!ń~:Y<H";refine cO (aBE he) ?_;skip;refine cO (d:=.int 3) rfl ?_;walk_at "!&[";refine a3B (fun h=>absurd rfl h) (fun _=>?_);walk_at "!BS";refine fX (fun c=>?_) (fun c=>?_)
  ·have hj1:j-1<E.length:=by omega
   have hle:E[j-1].1≤E[j].1:=List.pairwise_iff_getElem.mp up (j-1) j hj1 hj (by omega);walk_at "!.AOH";refine cO (aBE he) ?_;walk_at "!&";refine cO (d:=bU E[j].1) rfl ?_;walk_at "!(O$S";rw[show((j:Int)-1)=((j-1:Nat):Int) by omega];refine cO (aBE (List.getElem?_eq_getElem hj1)) ?_;walk_at "!&";refine cO (d:=bU E[j-1].1) rfl ?_;walk_at "!2";refine a5B ((zt j hj).mono (by decide)) ((zt _ hj1).mono (by decide)) ?_;rw[decide_eq_false (by grind)];walk_at "!p";exact r4
  ·walk_at "!p";exact r4
 ·rintro Γ ⟨u,xs,x5,x6,x7,x8,x9,rfl,ti⟩;rw[Int.toNat_natCast,List.take_length];unfold jV;walk_at "!0J#";refine aBT (.inl rfl) ?_;skip;refine aBT (.inr rfl) ?_;walk_at "![";have e1:(a4A (E.map evP)).length=E.length:=by unfold a4A; rw[List.length_map,List.length_map]
  have e2:(a9V ls (aDH ls t)).length=E.length:=by unfold a9V; rw[List.length_map]; exact hlen
  rw[e1,e2];rw[decide_eq_true rfl];exact q
end
section
variable {c w:Addr}{s:WS}{ls:List Ln}
theorem aDJ {t:Rat}{xs:List Nat}{Q:Rv→WS→Prop}(hz:LinesOk 200 ls)(hl:ls.length≤10)(ok:WkOk ls t xs)(hg:uA ls xs<50)
  (q:∀ u,Q (.own ((evs ls t xs).1.map evD)) (wS s ls u (evs ls t xs).2)):f9 c w (wS s ls t xs) [] Q:=by
 have hlx:∀{u:Rat} {ys:List Nat},WkOk ls u ys→ys.length≤30:=fun o=>by rw[o.len]; omega
 have eo:=vM hz ok;have elen:=eo.len;refine a0I ?_;unfold kE;walk_at "!Xĉ1%K";have one:∀{u:Rat} {ys:List Nat} {Q':Rv→WS→Prop},WkOk ls u ys→((evs ls u ys).1=[]→(evs ls u ys).2=ys→Q' (.val .none) (wS s ls u ys)) →
   (∀ e u' zs,WkOk ls u' zs→(evs ls u ys).1=e::(evs ls u' zs).1→(evs ls u ys).2=(evs ls u' zs).2→Q' (.val (evD e)) (wS s ls u' zs))→qY c w (wS s ls u ys) [] Q':=fun{u ys Q'} o q0 q1=>by
  refine aFL hz (hlx o) o.mem o.sz (fun h=>?_) fun k v h hk=>?_
  ·exact q0 (by rw[jH h]) (by rw[jH h])
  ·obtain⟨hk',ev,e1,e2⟩:=a2U o h;have es:=qH hz o h;rw[e1,e2] at es;exact q1 (v,ys[k],ys[k+1]) v (swp ys k) (o.step hz h).1 (by rw[es]) (by rw[es])
 have fin:∀(u:Rat) (ys:List Nat) (fnd:D),(evs ls t xs).2=ys→cW c [.box ((bD c).box w (wS s ls u ys)),.own ((evs ls t xs).1.map evD),.val fnd] fun fl=>match fl with
   | .rt rv=>∃ rv0 s',rv=.box (bKp (bD c) rv0 w s')∧Q rv0 s'
   | .nx Γ=>∃ s',Γ[0]?=some (.box ((bD c).box w s'))∧Q (.val .none) s'
   | _=>False:=fun u ys fnd h=>by
  unfold cW;walk_at "!PėD";rw[← h];exact q u
 have loop:∀(n:Nat) (u:Rat) (ys:List Nat) (fnd:D),WkOk ls u ys→(evs ls t xs).2=(evs ls u ys).2 →
   ((fnd=.none∧(evs ls u ys).1=[]∧(evs ls u ys).2=ys∧n=(evs ls t xs).1.length)∨∃ e,fnd=evD e∧(evs ls t xs).1[n]?=some e∧(evs ls t xs).1.drop (n+1)=(evs ls u ys).1)→n≤(evs ls t xs).1.length →
   uQ (tE (a6C (dM (a0A (aM 2))) (dM (mLt (a6Z (aM 1)) (mC (.int 50)))))) (fJ c) [.box ((bD c).box w (wS s ls u ys)),.own (((evs ls t xs).1.take n).map evD),.val fnd] fun fl=>match fl with
    | .nx Γ1=>cW c Γ1 fun fl=>match fl with
     | .rt rv=>∃ rv0 s',rv=.box (bKp (bD c) rv0 w s')∧Q rv0 s'
     | .nx Γ=>∃ s',Γ[0]?=some (.box ((bD c).box w s'))∧Q (.val .none) s'
     | _=>False
    | fl=>match fl with
     | .rt rv=>∃ rv0 s',rv=.box (bKp (bD c) rv0 w s')∧Q rv0 s'
     | .nx Γ=>∃ s',Γ[0]?=some (.box ((bD c).box w s'))∧Q (.val .none) s'
     | _=>False:=by
  intro n u ys fnd o h2 hf hn;refine pH (fun m Γ=>∃ n u ys fnd,Γ=[.box ((bD c).box w (wS s ls u ys)),.own (((evs ls t xs).1.take n).map evD),.val fnd]∧WkOk ls u ys∧(evs ls t xs).2=(evs ls u ys).2∧((fnd=.none∧(evs ls u ys).1=[]∧(evs ls u ys).2=ys∧n=(evs ls t xs).1.length)∨∃ e,fnd=evD e∧(evs ls t xs).1[n]?=some e∧(evs ls t xs).1.drop (n+1)=(evs ls u ys).1)∧n≤(evs ls t xs).1.length∧m=(evs ls t xs).1.length-n) ((evs ls t xs).1.length-n) ⟨n,u,ys,fnd,rfl,o,h2,hf,hn,rfl⟩ ?_;rintro m Γ ⟨n,u,ys,fnd,rfl,o,h2,hf,hn,rfl⟩;have ll:aJ5 (.list (((evs ls t xs).1.take n).map evD))=some (.int (n:Int)):=by show some (PyData.int ((((evs ls t xs).1.take n).map evD).length:Int))=_; rw[List.length_map,List.length_take]; congr 2; omega
  rcases hf with⟨rfl,r1,r2,rn⟩|⟨e,rfl,he,hd⟩
  ·walk_at "!xBu)dgo";rw[rn,List.take_length];exact fin u ys .none (by rw[h2,r2])
  ·have hne:=(List.getElem?_eq_some_iff.mp he).1;walk_at "!xBu)";refine aIO rfl ?_;walk_at "!.6Y)";refine cO ll ?_;walk_at "!&g";have h50:(n:Int)<50:=by omega
   rw[decide_eq_true h50];walk_at "!C";unfold fJ;walk_at "!QĖ$";refine aBC (by with_unfolding_all rfl) (by rw[List.length_map,List.length_take]; omega) ?_;have tk:((evs ls t xs).1.take n).map evD++[evD e]=((evs ls t xs).1.take (n+1)).map evD:=by rw[List.take_succ,he,List.map_append]; rfl
   rw[tk];walk_at "!?K";refine one o (fun r1 r2=>?_) fun e' u' zs o' r1 r2=>?_
   ·walk_at "!#";have hn1:n+1=(evs ls t xs).1.length:=by
     have:=congrArg List.length (hd.trans r1);rw[List.length_drop,List.length_nil] at this;omega
    exact⟨_,by omega,n+1,u,ys,.none,rfl,o,h2,.inl ⟨rfl,r1,r2,hn1⟩,by omega,rfl⟩
   ·walk_at "!#";have hd2:=hd.trans r1;have hn1:n+1<(evs ls t xs).1.length:=by
     have:=congrArg List.length hd2;rw[List.length_drop,List.length_cons] at this;omega
    rw[List.drop_eq_getElem_cons hn1] at hd2;obtain⟨d1,d2⟩:=List.cons.inj hd2;exact⟨_,by omega,n+1,u',zs,evD e',rfl,o',h2.trans r2,.inr ⟨e',rfl,by rw[← d1]; exact List.getElem?_eq_getElem hn1,d2⟩,by omega,rfl⟩
 refine one ok (fun r1 r2=>?_) fun e u' zs o' r1 r2=>?_
 ·walk_at "!j";refine loop 0 t xs .none ok rfl (.inl ⟨rfl,r1,r2,by rw[r1]; rfl⟩) (Nat.zero_le _)
 ·walk_at "!j";exact loop 0 u' zs (evD e) o' r2 (.inr ⟨e,rfl,by rw[r1]; rfl,by rw[r1]; rfl⟩) (Nat.zero_le _)
end
theorem aL7 {b:Bool}{A B:Prop}(h:b=false)(x:B):if b=true then A else B:=by rw[h]; exact xX x
theorem aEW {k:Nat}{a b:Int}(h:Bt k a)(hb:0<b):Bt k (a.fdiv b):=by
 rw[Int.fdiv_eq_ediv_of_nonneg _ (by omega)]
 show(a/b).natAbs<2^k
 have h:a.natAbs<2^k:=h;exact Nat.lt_of_le_of_lt (Int.natAbs_ediv_le_natAbs a b) h
theorem aQA {lo:Rat}{p:Int}(hp:0<p):lo<Rat.divInt ((lo.num*p).fdiv lo.den+1) p:=by
 have hd:=lo.den_pos;rw[Int.fdiv_eq_ediv_of_nonneg _ (by omega)];have h1:lo.num*p<(lo.num*p/(lo.den:Int)+1)*(lo.den:Int):=by
  have e:=Int.mul_ediv_add_emod (lo.num*p) (lo.den:Int);have l:=Int.emod_lt_of_pos (lo.num*p) (show(0:Int)<(lo.den:Int) by omega);rw[Int.add_mul,Int.mul_comm (lo.num*p/(lo.den:Int)) (lo.den:Int)];omega
 generalize lo.num*p/(lo.den:Int)+1=f at *;apply Classical.byContradiction;intro c;have c:Rat.divInt f p≤lo:=by grind
 have h2:Rat.divInt f p*(p:Rat)=(f:Rat):=by
  rw[Rat.divInt_eq_div,Rat.div_mul_cancel];intro z;have:p=0:=by exact_mod_cast z
  omega
 have h3:=aO3 lo;have p0:(0:Rat)≤(p:Rat):=by exact_mod_cast (by omega:0≤p)
 have d0:(0:Rat)≤((lo.den:Int):Rat):=by exact_mod_cast (by omega:(0:Int)≤(lo.den:Int))
 have h1:(lo.num:Rat)*(p:Rat)<(f:Rat)*((lo.den:Int):Rat):=by exact_mod_cast h1
 have a1:=Rat.mul_le_mul_of_nonneg_right c p0;rw[h2] at a1;have a2:=Rat.mul_le_mul_of_nonneg_right a1 d0;rw[h3] at h1;generalize ((lo.den:Int):Rat)=dd at *;grind
section
variable {Q:Rv→Prop}
theorem a6O {lo hi:Rat}(h1:Sz 2900 lo)(h2:Sz 2900 hi)(h:lo<hi)(q:∀ r:Rat,lo≤r→r<hi→Sz 2900 r→Q (.val (bU r))):j8 [.val (bU lo),.val (bU hi)] Q:=by
 refine pU ?_;unfold oE;walk_at "!`Ņ+&qqq8";refine yV (fun _ Γ=>∃ a b,Γ=[.val (bU lo),.val (bU hi),a,b]) ⟨_,_,rfl⟩ ?_ ?_
 ·rintro i d Γ K hd ⟨a,b,rfl⟩ hK;obtain⟨p,rfl,p0,p1⟩:∃ p:Int,d=.int p∧0<p∧p<1000000:=by
   have:d∈[PyData.int 1,.int 2,.int 7,.int 60,.int 997,.int 99991,.int 999983]:=List.mem_of_getElem? hd;simp only[List.mem_cons,List.not_mem_nil,or_false] at this;rcases this with rfl|rfl|rfl|rfl|rfl|rfl|rfl<;>exact⟨_,rfl,by decide,by decide⟩
  obtain⟨b0,b1⟩:=id h1;have bp:Bt 31 p:=aKM (by omega) (by omega);unfold oV;walk_at "!4%A6MĈ$N@#";refine⟨⟨cY lo,b1.mono (by decide)⟩,?_⟩;walk_at "!&*2";have bn:Bt 2931 (lo.num*p):=b0.mul bp;have bf:Bt 2931 ((lo.num*p).fdiv lo.den):=aEW bn (den_pos lo);have bg:Bt 2932 ((lo.num*p).fdiv lo.den+1):=by
   show((lo.num*p).fdiv lo.den+1).natAbs<2^2932
   have bf:((lo.num*p).fdiv lo.den).natAbs<2^2931:=bf;have:(2:Nat)^2932=2*2^2931:=by rw[Nat.pow_succ,Nat.mul_comm]
   generalize (2:Nat)^2931=N at *;omega
  have lt:=aQA (lo:=lo) p0;refine qC (by omega) (bp.mono (by decide)) ?_;have sr:Sz 2932 (Rat.divInt ((lo.num*p).fdiv lo.den+1) p):=Sz.divInt bg (bp.mono (by decide)) (by omega);have dr:(Rat.divInt ((lo.num*p).fdiv lo.den+1) p).den≤p.natAbs:=by
   obtain⟨_,e2⟩:=qW (t:=(lo.num*p).fdiv lo.den+1) (b:=p) p0;rw[fd] at e2;have:((Rat.divInt ((lo.num*p).fdiv lo.den+1) p).den:Int).natAbs≤p.natAbs:=by
    rw[← e2];exact Int.natAbs_ediv_le_natAbs _ _
   omega
  generalize Rat.divInt ((lo.num*p).fdiv lo.den+1) p=r at *;walk_at "!{BF";refine a5B (sr.mono (by decide)) (h2.mono (by decide)) ?_;walk_at "!#";refine fX (fun c1=>?_) (fun c1=>?_)
  ·walk_at "!.6}lh";refine fX (fun c2=>?_) (fun c2=>?_)
   ·walk_at "!0$";refine hK.rt _ (q r (Rat.le_of_lt lt) c1 ?_);have z1:Bt 2900 r.num:=by
     show r.num.natAbs<2^2900;have:r.num.natAbs<2^60:=by
      have:(2:Nat)^60=1152921504606846976:=by decide
      split at c2<;>omega
     exact Nat.lt_of_lt_of_le this (Nat.pow_le_pow_right (by decide) (by decide))
    have z2:Bt 2900 (r.den:Int):=by
     show((r.den:Int)).natAbs<2^2900
     have:((r.den:Int)).natAbs<2^60:=by
      have:(2:Nat)^60=1152921504606846976:=by decide
      omega
     exact Nat.lt_of_lt_of_le this (Nat.pow_le_pow_right (by decide) (by decide))
    exact⟨z1,z2⟩
   ·with_reducible apply aGF
    exact hK.nx _ ⟨_,_,rfl⟩
  ·first
   | with_reducible apply aGF
   | (refine xX ?_; with_reducible apply aGF)
   exact hK.nx _ ⟨_,_,rfl⟩
 ·rintro Γ ⟨a,b,rfl⟩;unfold oG;walk_at "!0)";exact q lo Rat.le_refl h h1
end
theorem aED (ls:List Ln)(t:Rat):aCS ls t (ord ls t)=aLK ls t:=a5F (fun x hx=>(kW ls t x).mp hx) (pI ls t)
theorem a9G {ls:List Ln}{t:Rat}{n:Nat}(h:n+1<(ord ls t).length):Adj (ord ls t) (ord ls t)[n] (ord ls t)[n+1]∧iJ ls t (ord ls t)[n] (ord ls t)[n+1]=nxN ls t (ord ls t)[n] (ord ls t)[n+1]:=by
 have hp:((ord ls t)[n],(ord ls t)[n+1])∈wH (ord ls t):=List.mem_of_getElem? (rA h);have ha:=a3A hp;refine⟨ha,?_⟩;unfold iJ;rw[if_neg (by rw[(aDS ha).2.2.2.2]; decide)]
theorem a4W {ls:List Ln}{t u:Rat}{n:Nat}(h:(bY ls t (ord ls t))[n]?=some (some u)):∃ p∈a0Y ls t,p.2.2=some u:=by
 have hn:n+1<(ord ls t).length:=by
  have:=(List.getElem?_eq_some_iff.mp h).1;rw[gJ] at this;omega
 rw[fQ hn] at h;obtain⟨ha,e⟩:=a9G hn;refine⟨_,mem_pap0.mpr ⟨_,_,ha,rfl⟩,?_⟩;show nxN ls t _ _=some u;rw[← e];exact Option.some.inj h
theorem a9E {ls:List Ln}{t:Rat}:(fM (a0Y ls t)=none→ff (bY ls t (ord ls t))=none)∧∀ u,fM (a0Y ls t)=some u→t<u∧∃ k,ff (bY ls t (ord ls t))=some (k,u):=by
 refine⟨fun h=>?_,fun u h=>?_⟩
 ·cases hf:ff (bY ls t (ord ls t)) with
  | none=>rfl
  | some p=>
   obtain⟨k,u⟩:=p;obtain⟨q,hq,e⟩:=a4W (p7 hf).1;rw[a9L h q hq] at e
   cases e
 ·obtain⟨⟨p,hp,e⟩,hle⟩:=a93 h;obtain⟨i,j,ha,rfl⟩:=mem_pap0.mp hp;have e:nxN ls t i j=some u:=e;obtain⟨n,hn,e2⟩:=uD (a8P ha);have e2:i=(ord ls t)[n]∧j=(ord ls t)[n+1]:=⟨(Prod.mk.inj e2).1,(Prod.mk.inj e2).2⟩;obtain⟨rfl,rfl⟩:=e2;have e3:(bY ls t (ord ls t))[n]?=some (some u):=by rw[fQ hn,(a9G hn).2,e]
  refine⟨(a3M e).1,?_⟩
  cases hf:ff (bY ls t (ord ls t)) with
  | none=>
   have:=yD hf n (by rw[gJ]; omega);rw[e3] at this
   cases this
  | some p=>
   obtain⟨k,v⟩:=p;have h1:=(p7 hf).2 n u e3;obtain⟨q,hq,e4⟩:=a4W (p7 hf).1;have h2:=hle q hq v e4;have:v=u:=by grind
   subst this;exact⟨k,rfl⟩
section
variable {c w:Addr}{s:WS}{ls:List Ln}{t now u0 r:Rat}{E:List Ev}{tl:List D}{k:Nat}{x5 x8 x9:Sl}{K:Fl→Prop}
structure TillI (ls:List Ln)(E:List Ev)(tl:List D)(now u0 r:Rat)(k:Nat):Prop where
 ok:WkOk ls now (ord ls now)
 spl:E.map evD=tl++(evs ls now (ord ls now)).1.map evD
 n:E.length≤100
 ff:ff (bY ls now (ord ls now))=some (k,u0)
 zu:Sz 2900 u0
 r1:now≤r
 r2:r<u0
 r3:Sz 2900 r
abbrev tlE (c w:Addr)(s:WS)(ls:List Ln)(t:Rat)(E:List Ev)(p:Rat)(xs:List Nat)(tl:List D)(x5:Sl)(now u0:Rat)(x8 x9:Sl):En:=
 [.val (.list (bH ls)),.val (bU t),.val (.int (E.length:Int)),.box ((bD c).box w (wS s ls p xs)),.val (.list tl),x5,.val (bU now),.val (.tuple [.list (cF (ord ls now)),bU u0]),x8,x9]
theorem aOY (hz:LinesOk 200 ls)(hl:ls.length≤10)(h:TillI ls E tl now u0 r k)
  (hK:∀ mr x9',WkOk ls u0 (ord ls u0)→E.map evD=(tl++mr)++(evs ls u0 (ord ls u0)).1.map evD→tl.length<(tl++mr).length→K (.nx (tlE c w s ls t E u0 (ord ls u0) (tl++mr) x5 now u0 x8 x9'))) :
  cL c (tlE c w s ls t E r (ord ls now) tl x5 now u0 x8 x9) K:=by
 obtain⟨ok,hspl,hn,h2,zu,hr1,hr2,hr3⟩:=h;have hq:Quiet ls now r (ord ls now):=.inr ⟨k,u0,h2,hr2⟩;have okr:=aDW ok hr1 hr3 hq;have tr:=a95 ok hr1 hr3 hq;have h2r:ff (bY ls r (ord ls now))=some (k,u0):=by rw[tr]; exact h2
 have er:=aDK tr;have gn:Good (.list []):=(uH (n:=0) (ds:=[]) fun _ h=>nomatch h).good;obtain⟨i1,i2,_,i4⟩:=aI3 hz zu _ rfl okr (Rat.le_of_lt hr2);have hX:(goX ls u0 r (ord ls now)).2=ord ls u0:=aLJ i1 (fun i=>by rw[aI2 hz _ rfl okr,kW]) i4;have hne:∃ a as,(goX ls u0 r (ord ls now)).1=a::as:=⟨_,_,by rw[tD hz okr h2r (by grind)]⟩;have gm:Gd 3 (.list (goX ls u0 r (ord ls now)).1):=uH (n:=2) fun d h=>by
  have:d∈(evs ls r (ord ls now)).1.map evD:=by rw[i2]; exact List.mem_append_left _ h
  obtain⟨e,_,rfl⟩:=List.mem_map.mp this;exact aLD e
 rw[hX] at i1 i2;rw[er] at i2;have hl2:tl.length+(goX ls u0 r (ord ls now)).1.length≤100:=by
  have h3:=congrArg List.length hspl;rw[List.length_append,List.length_map,List.length_map] at h3;have h4:=congrArg List.length i2;rw[List.length_append,List.length_map,List.length_map] at h4;omega
 rw[i2,←List.append_assoc] at hspl;unfold cL;walk_at "!%Ć=";refine cO (d:=bU u0) rfl ?_;walk_at "!Z";refine aCC hz hl okr (Rat.le_of_lt hr2) zu ?_;rw[hX];generalize (goX ls u0 r (ord ls now)).1=mr at *;obtain⟨a,as,rfl⟩:=hne;walk_at "!LJ$b8";refine⟨gm.good,gn,?_⟩;refine aL7 rfl ?_;walk_at "!5";unfold eE;walk_at "!?aįH";exact⟨Nat.le_trans hl2 (by decide),hK _ _ i1 hspl (by rw[List.length_append,List.length_cons]; omega)⟩
theorem aP8 (hz:LinesOk 200 ls)(hl:ls.length≤10)(ok:WkOk ls now (ord ls now))(hspl:E.map evD=tl++(evs ls now (ord ls now)).1.map evD)(hn:E.length≤100)(hu:fM (a0Y ls now)=some u0)
  (hK:∀ mr x8' x9',WkOk ls u0 (ord ls u0)→E.map evD=(tl++mr)++(evs ls u0 (ord ls u0)).1.map evD→tl.length<(tl++mr).length→K (.nx (tlE c w s ls t E u0 (ord ls u0) (tl++mr) x5 now u0 x8' x9'))) :
  cJ c (tlE c w s ls t E now (ord ls now) tl x5 now u0 x8 x9) K:=by
 obtain⟨h1,k,h2⟩:=a9E.2 u0 hu;have zu:Sz 2900 u0:=aE6 (aEJ hz) hu;have go:=zB (ord ls now);have gn:Good (.list []):=(uH (n:=0) (ds:=[]) fun _ h=>nomatch h).good;unfold cJ;walk_at "!%I(3";refine cO (d:=bU u0) rfl ?_;walk_at "!2";refine a6O ok.sz zu h1 fun r hr1 hr2 hr3=>?_;walk_at "!k:F";refine iI hz (by omega) hr3 ?_;rw[aEE hr1 fun u h=>by rw[hu] at h; cases h; exact hr2];walk_at "!3";refine cO (d:=.list (cF (ord ls now))) rfl ?_;skip;refine⟨go,go,eqF go ?_⟩;walk_at "!:r*Z";refine aCC hz hl ok hr1 hr3 ?_;rw[xT h2 hr2];walk_at "!b8";refine⟨gn,gn,eqF gn ?_⟩
 with_reducible apply aGF
 exact aOY hz hl ⟨ok,hspl,hn,h2,zu,hr1,hr2,hr3⟩ fun mr x9' a b d=>hK mr _ x9' a b d
end
section
variable {c:Addr}{Q:Rv→Prop}{ls:List Ln}{t:Rat}
theorem aGJ (hz:LinesOk 200 ls)(hl:ls.length≤10)(ht:Sz 2900 t)(q:Q (.val (.list ((evs ls t (ord ls t)).1.map evD)))) :
  c7 c [.val (.list (bH ls)),.val (bU t),.val (.int ((evs ls t (ord ls t)).1.length:Int))] Q:=by
 have ok0:=WkOk.start (ls:=ls) ht;have eo:=vM hz ok0;have hEl:(evs ls t (ord ls t)).1.length≤100:=by
  rw[eo.len];exact Nat.le_trans (zQ _ _) (by rw[nA]; exact Nat.mul_le_mul hl hl)
 generalize hE:(evs ls t (ord ls t)).1=E at *;refine pU ?_;unfold dF;walk_at "!X#";refine a6K ?_;walk_at "!W";refine⟨bH ls,cF (ord ls t),rfl,by rw[jN]; omega,uG ls,rfl,tL _,iI hz (by omega) ht rfl,fun w d ll lo=>?_⟩;obtain⟨s,hs⟩:∃ s:WS,s=⟨d,ll,lo,[],.none,[]⟩:=⟨_,rfl⟩;walk_at "!%b8`Ą/Ēn";refine⟨by omega,by omega,?_⟩;refine jP (fun i Γ=>∃ now tl x5 x6 x7 x8 x9,Γ=[.val (.list (bH ls)),.val (bU t),.val (.int (E.length:Int)),.box ((bD c).box w (wS s ls now (ord ls now))),.val (.list tl),x5,x6,x7,x8,x9]∧WkOk ls now (ord ls now)∧E.map evD=tl++(evs ls now (ord ls now)).1.map evD∧i≤tl.length) ⟨t,[],_,_,_,_,_,by rw[hs]; rfl,ok0,by rw[hE]; rfl,Nat.zero_le _⟩ ?_ ?_
 ·rintro i Γ K hi ⟨now,tl,x5,x6,x7,x8,x9,rfl,ok,hspl,hlen⟩ hK;have hw:∀{Q':Rv→WS→Prop},Q' (.own (cF (ord ls now))) (wS s ls now (ord ls now))→fD c w (wS s ls now (ord ls now)) [] Q':=fun q=>pJ q;have gp:Good (.list (aLK ls now)):=aGG _ _ _ _;have go:=zB (ord ls now);have hxl:(ord ls now).length≤30:=by rw[nA]; omega
  have htl:tl.length≤100:=by
   have:=congrArg List.length hspl;rw[List.length_append,List.length_map] at this;omega
  unfold dX;walk_at "!4%K";refine a97 ?_;walk_at "!%_(F";refine yH hz (by omega) ok.sz ?_;rw[aDB];walk_at "!-";refine aIP hz (by omega) ok.sz (aEJ hz) (by rw[aGE]; omega) ?_;rw[aHX];walk_at "!gk:K";rw[show(aK6 (cF (ord ls now)) (xF (fM (a0Y ls now)))).view.getD PyData.none=.tuple [.list (cF (ord ls now)),xF (fM (a0Y ls now))] from rfl];refine aB1 hz hxl ok.mem ok.sz ?_;rw[aED];walk_at "!F";refine yH hz (by omega) ok.sz ?_;walk_at "!#";refine⟨gp,gp,eqF gp ?_⟩;walk_at "!:K";refine hw ?_;walk_at "!F";refine iI hz (by omega) ok.sz ?_;walk_at "!#";refine⟨go,go,eqF go ?_⟩;walk_at "!5";unfold eF;walk_at "!k.v)o:3";refine cO (d:=.list (cF (ord ls now))) rfl ?_;walk_at "!K";refine hw ?_;walk_at "!#";refine⟨go,go,eqF go ?_⟩;walk_at "!5";unfold eG;walk_at "!Lv3"
  cases hu:fM (a0Y ls now) with
  | none=>
   refine cO (d:=.none) rfl ?_;walk_at "!C0)";have e:=jH (a9E.1 hu);rw[e] at hspl;rw[List.map_nil,List.append_nil] at hspl;rw[← hspl];exact hK.rt _ q
  | some u0=>
   refine cO (d:=bU u0) rfl ?_;refine aL7 rfl ?_
   first
   | with_reducible apply aGF
   | walk_at "ms"
   exact aP8 hz hl ok hspl hEl hu fun mr x8' x9' a b d=>hK.nx _ ⟨u0,tl++mr,_,_,_,_,_,rfl,a,b,by omega⟩
 ·rintro Γ ⟨now,tl,x5,x6,x7,x8,x9,rfl,ok,hspl,hlen⟩;have:=congrArg List.length hspl;rw[List.length_append,List.length_map] at this;omega
end
theorem aMV {i:Nat}{mo:MO}{Γ:En}{Q:Fl→Prop}(h:mo Γ fun rv Γ1=>∃ B b,rv=.box B∧B.pv=some b∧Q (.nx (Γ1.set i (.pub b)))):aI1 i mo Γ Q:=h
theorem a3X (f:Nat→Rat):∀ xs:List Nat,2*a6Y f xs+xs.length≤xs.length*xs.length
 | []=>Nat.le_refl _
 | x::xs=>by
  have ih:=a3X f xs;have h1:(xs.filter fun y=>decide (f x<f y)).length≤xs.length:=List.length_filter_le _ _;show 2*((xs.filter fun y=>decide (f x<f y)).length+a6Y f xs)+(xs.length+1)≤(xs.length+1)*(xs.length+1);have:(xs.length+1)*(xs.length+1)=xs.length*xs.length+2*xs.length+1:=by grind
  omega
theorem aJ0 {t:Rat}{E:List Ev}(h0:∀ e∈E,t≤e.1)(up:E.Pairwise fun a b=>a.1≤b.1):∃ f:Rat,∃ a b:Int,([PyData.tuple [bU t,.int 0,.int 0]]++E.map evD).getLast?=some (.tuple [bU f,.int a,.int b])∧t≤f∧(∀ e∈E,e.1≤f)∧(f=t∨∃ e∈E,f=e.1):=by
 rcases List.eq_nil_or_concat E with rfl|⟨D0,e,rfl⟩
 ·exact⟨t,0,0,rfl,Rat.le_refl,fun _ h=>(nomatch h),.inl rfl⟩
 ·rw[List.concat_eq_append] at *;refine⟨e.1,e.2.1,e.2.2,?_,h0 e (by simp),fun e' h=>?_,.inr ⟨e,by simp,rfl⟩⟩
  ·rw[List.map_append,←List.append_assoc]
   show(_++[evD e]).getLast?=_
   rw[List.getLast?_append];rfl
  ·rcases List.mem_append.mp h with h|h
   ·exact(List.pairwise_append.mp up).2.2 e' h e (List.mem_singleton.mpr rfl)
   ·rw[List.mem_singleton.mp h]; exact Rat.le_refl
theorem aOV {f:Rat}{r:Int}(h:0≤r):f≤(((f.num.fdiv f.den+1+r:Int)):Rat):=by
 have b:=aQA (lo:=f) (p:=1) (by decide);rw[Int.mul_one] at b;have e:Rat.divInt (f.num.fdiv f.den+1) 1=((f.num.fdiv f.den+1:Int):Rat):=dI (by decide) (by rw[show((1:Int):Rat)=1 from rfl]; grind);rw[e] at b;have:((f.num.fdiv f.den+1:Int):Rat)≤((f.num.fdiv f.den+1+r:Int):Rat):=by exact_mod_cast (by omega:f.num.fdiv f.den+1≤f.num.fdiv f.den+1+r)
 grind
def slD (ls:List Ln)(xs:List Nat):List D:=xs.map fun i=>bU (slp ls i)
theorem aIJ (ls:List Ln)(xs:List Nat):(slD ls xs).length=xs.length:=by unfold slD; rw[List.length_map]
section
variable {c pen w:Addr}{s:WS}{ls:List Ln}{t u f:Rat}{E:List Ev}{n:Nat}{x4 x6 x8 x9 x10 x12:Sl}
theorem law_r2 (hz:LinesOk 200 ls)(hl:ls.length≤10)(ht:Sz 2900 t)(hE:E=(evs ls t (ord ls t)).1)(hf:t≤f)(zf:Sz 2900 f)(hle:∀ e∈E,e.1≤f) :
  vC c [.no,.box (penF.box pen n),.val (.list (bH ls)),.val (bU t),x4,.box ((bD c).box w (wS s ls u (evs ls t (ord ls t)).2)),x6,.val (.list (E.map evD)),x8,x9,x10,.val (bU f),x12] jR:=by
 subst hE;have ok0:=WkOk.start (ls:=ls) ht;have eo:=vM hz ok0;have gE:=(aKI (evs ls t (ord ls t)).1).good;have gF:=zB (evs ls t (ord ls t)).2;have gx:=aG8 hz _ rfl ok0 hle;unfold vC;walk_at "!X#";refine a6K ?_;walk_at "!aČ)$";refine⟨bH ls,cF (ord ls t),rfl,by rw[jN]; omega,uG ls,rfl,tL _,iI hz (by omega) ht rfl,fun w2 d ll lo=>?_⟩;walk_at "!k:r*Z";refine aCC (s:=⟨d,ll,lo,[],.none,[]⟩) hz hl ok0 hf zf ?_;rw[gx];walk_at "!)";refine⟨gE,gE,eqF gE ?_⟩;walk_at "!~:K";refine pJ ?_;walk_at "!K";refine pJ ?_;walk_at "!#";refine⟨gF,gF,eqF gF ?_⟩;walk_at "!:K";refine a97 ?_;walk_at "!$Ā";refine a3B (fun h=>absurd rfl h) (fun _=>?_);walk_at "!5";unfold a1E;walk_at "!0JAaČ)*(Y$";refine cO (d:=.int ((evs ls t (ord ls t)).1.length:Int)) (by show some (PyData.int (((evs ls t (ord ls t)).1.map evD).length:Int))=_; rw[List.length_map]) ?_;walk_at "!2";refine aGJ hz hl ht ?_;walk_at "!)";refine⟨gE,gE,?_⟩;rw[xM gE];rfl
end
section
variable {c pen w:Addr}{s:WS}{ls:List Ln}{t u:Rat}{E:List Ev}{n:Nat}{x4 x6 x8 x9 x10 x11 x12:Sl}
theorem law_r3 (hz:LinesOk 200 ls)(hl:ls.length≤10)(ht:Sz 60 t)(hE:E=(evs ls t (ord ls t)).1)(hn:n<900000) :
  qJ c [.no,.box (penF.box pen n),.val (.list (bH ls)),.val (bU t),x4,.box ((bD c).box w (wS s ls u (evs ls t (ord ls t)).2)),x6,.val (.list (E.map evD)),x8,x9,x10,x11,x12] jR:=by
 have ht9:Sz 2900 t:=ht.mono (by decide);have ok0:=WkOk.start (ls:=ls) ht9;have eo:=vM hz ok0;have hEl:E.length≤100:=by
  rw[hE,eo.len];exact Nat.le_trans (zQ _ _) (by rw[nA]; exact Nat.mul_le_mul hl hl)
 obtain⟨f,a,b,hf,f0,f1,f2⟩:=aJ0 (t:=t) (E:=E) (by rw[hE]; exact fun e he=>(eo.ev e he).t0) (by rw[hE]; exact eo.up);have zf:Sz 802 f:=by
  rcases f2 with rfl|⟨e,he,rfl⟩
  ·exact ht.mono (by decide)
  ·rw[hE] at he;have v:=eo.ev e he;obtain⟨z1,z2⟩:=hz.get (nY v.a);obtain⟨z3,z4⟩:=hz.get (nY v.b);rw[v.m];have vs:=v.s;have vs:(ln ls e.2.1).2<(ln ls e.2.2).2:=vs;exact((z3.sub z1).div (z2.sub z4) (by grind)).mono (by decide)
 obtain⟨b0,b1⟩:=id zf;unfold qJ;walk_at "!%Oaįb/+$q18)";refine⟨by rw[List.length_map]; show 1+E.length≤1000; omega,?_⟩;walk_at "!ćh";refine cO (aJD hf) ?_;walk_at "!&";refine cO (d:=bU f) rfl ?_;walk_at "!9BJ>";refine fW (by decide) (by decide) (by omega) fun r r0 r1=>?_;walk_at "!&[";refine fX (fun c1=>?_) (fun c1=>?_)
 ·walk_at "!.6}lh";refine fX (fun c2=>?_) (fun c2=>?_)
  ·walk_at "!?+66Ğ#";refine⟨⟨cY f,b1.mono (by decide)⟩,?_⟩;walk_at "!&>";refine fW (by decide) (by decide) (by omega) fun r' r0' r1'=>?_;walk_at "!ą1";rw[a9H];have bf:Bt 802 (f.num.fdiv f.den):=aEW b0 (den_pos f);have bg:Bt 803 (f.num.fdiv f.den+1+r'):=by
    show(f.num.fdiv f.den+1+r').natAbs<2^803
    have bf:(f.num.fdiv f.den).natAbs<2^802:=bf;have e:(2:Nat)^803=2*2^802:=by rw[Nat.pow_succ,Nat.mul_comm]
    have e3:3≤(2:Nat)^802:=Nat.le_trans (show 3≤2^2 by decide) (Nat.pow_le_pow_right (by decide) (by decide));generalize (2:Nat)^802=N at *;omega
   have up:=aOV (f:=f) r0';exact law_r2 hz hl ht9 hE (Rat.le_trans f0 up) ((aHB bg (by decide)).mono (by decide)) fun e he=>Rat.le_trans (f1 e he) up
  ·with_reducible apply aGF
   exact law_r2 hz hl ht9 hE f0 (zf.mono (by decide)) f1
 ·first
  | with_reducible apply aGF
  | (refine xX ?_; with_reducible apply aGF)
  exact law_r2 hz hl ht9 hE f0 (zf.mono (by decide)) f1
theorem law_r4 (hz:LinesOk 200 ls)(hl:ls.length≤10)(ht:Sz 60 t)(hE:E=(evs ls t (ord ls t)).1)(hn:n<900000) :
  v6 c [.no,.box (penF.box pen n),.val (.list (bH ls)),.val (bU t),x4,.box ((bD c).box w (wS s ls u (evs ls t (ord ls t)).2)),x6,.val (.list (E.map evD)),x8,x9,x10,x11,x12] jR:=by
 have ht9:Sz 2900 t:=ht.mono (by decide);have ok0:=WkOk.start (ls:=ls) ht9;have eo:=vM hz ok0;have hm:=eo.mem;have fin:=eo.fin;have r3:∀ x8 x9 x10,qJ c [.no,.box (penF.box pen n),.val (.list (bH ls)),.val (bU t),x4,.box ((bD c).box w (wS s ls u (evs ls t (ord ls t)).2)),x6,.val (.list (E.map evD)),x8,x9,x10,x11,x12] jR:=fun _ _ _=>law_r3 hz hl ht hE hn;have hxl:(evs ls t (ord ls t)).2.length≤100:=by
  have aux:∀(m:Nat) {u:Rat} {ys:List Nat},uA ls ys=m→WkOk ls u ys→(evs ls u ys).2.length=ls.length:=by
   intro m
   induction m with
   | zero=>
    intro u ys hm ok;have hf:ff (bY ls u ys)=none:=by
     cases h:ff (bY ls u ys) with
     | none=>rfl
     | some p=>
      obtain⟨k,v⟩:=p;have:=(ok.step hz h).2;omega
    rw[jH hf];exact ok.len
   | succ m ih=>
    intro u ys hm ok
    cases h:ff (bY ls u ys) with
    | none=>rw[jH h]; exact ok.len
    | some p=>
     obtain⟨k,v⟩:=p;obtain⟨ok1,hg⟩:=ok.step hz h;rw[qH hz ok h];exact ih (by omega) ok1
  rw[aux _ rfl ok0];omega
 generalize (evs ls t (ord ls t)).2=F at *;unfold v6;walk_at "!%yĂwK";refine pJ ?_;walk_at "!#";refine⟨by rw[iZ]; omega,?_⟩;refine pQ (α:=Nat) (fun _=>true) (fun i=>bU (slp ls i)) (fun i=>.int (i:Int)) F [] _ (fun x hx _ k k0 h1 h0=>?_) ?_
 ·walk_at "!4";unfold vA;walk_at "!COW";refine cO (nU (nY (hm x hx))) ?_;walk_at "!&ā";exact h1 rfl
 ·rw[List.nil_append,List.filter_eq_self.mpr fun _ _=>rfl];rw[show(F.map fun i=>bU (slp ls i))=slD ls F from rfl];walk_at "!`ņą/Y$";refine cO (d:=.int (F.length:Int)) (by show some (PyData.int ((slD ls F).length:Int))=_; rw[aIJ]) ?_;walk_at "!n"
  first
  | refine⟨by omega,by omega,by omega,?_⟩
  | refine⟨by omega,by omega,?_⟩
  | refine⟨by omega,?_⟩
  refine jP (fun i Γ=>∃ x9 x10,Γ=[.no,.box (penF.box pen n),.val (.list (bH ls)),.val (bU t),x4,.box ((bD c).box w (wS s ls u F)),x6,.val (.list (E.map evD)),.val (.list (slD ls F)),x9,x10,x11,x12]) ⟨_,_,rfl⟩ ?_ ?_
  ·rintro i Γ K hi ⟨x9,x10,rfl⟩ hK;have hi1:i+1<F.length:=by omega
   have ix:∀ j (h:j<F.length),ixD (.list (slD ls F)) (.int (j:Int))=some (bU (slp ls F[j])):=fun j h=>mH (by unfold slD; rw[List.getElem?_map,List.getElem?_eq_getElem h]; rfl);have hle:slp ls F[i+1]≤slp ls F[i]:=List.pairwise_iff_getElem.mp fin i (i+1) (by omega) hi1 (by omega);obtain⟨_,z2⟩:=hz.get (nY (hm _ (List.getElem_mem (show i<F.length by omega))));obtain⟨_,z4⟩:=hz.get (nY (hm _ (List.getElem_mem hi1)));unfold a1R;walk_at "!4{.A<$S";rw[show(1+(i:Int)-1)=(i:Int) by omega];refine cO (ix i (by omega)) ?_;walk_at "!(<W";rw[show(1+(i:Int))=((i+1:Nat):Int) by omega];refine cO (ix (i+1) hi1) ?_;walk_at "!2";refine a5B (z2.mono (by decide)) (z4.mono (by decide)) ?_;rw[decide_eq_false (by
    have hle:(ln ls F[i+1]).2≤(ln ls F[i]).2:=hle;grind)]
   walk_at "!oE";exact hK.nx _ ⟨_,_,rfl⟩
  ·rintro Γ ⟨x9,x10,rfl⟩;exact r3 _ _ _
end
theorem law_true (c pen:Addr):zK c (.no::.box (penF.box pen 1)::List.replicate 11 .no) jR:=by
 unfold zK;walk_at "!%K";refine aFS (by omega) fun ls n1 hl hz hn1=>?_;walk_at "!%Ć>";refine fW (by decide) (by decide) (by omega) fun kd k0 k1=>?_;walk_at "!ğ#İ";refine pN (by omega) fun t n2 ht hn2=>?_;have ht9:Sz 2900 t:=ht.mono (by decide);have ok0:=WkOk.start (ls:=ls) ht9;have hg:uA ls (ord ls t)<50:=by
  have h:=a3X (fun i=>(ln ls i).2) (ord ls t);rw[nA] at h;have:ls.length*ls.length≤10*ls.length:=Nat.mul_le_mul_right _ hl;show a6Y (fun i=>(ln ls i).2) (ord ls t)<50;omega
 walk_at "!j";refine aMV ?_;walk_at "!t*;";refine aI7 hz hl ht9 ?_;refine⟨_,_,rfl,rfl,?_⟩;walk_at "!X#";refine a6K ?_;walk_at "!aČ)$";refine⟨bH ls,cF (ord ls t),rfl,by rw[jN]; omega,uG ls,rfl,tL _,iI hz (by omega) ht9 rfl,fun w d ll lo=>?_⟩;walk_at "!%K";refine pJ (s:=⟨d,ll,lo,[],.none,[]⟩) (ls:=ls) (t:=t) (xs:=ord ls t) ?_;walk_at "!%K";refine aDJ hz hl ok0 hg fun u=>?_;walk_at "!9^_#";refine aNP rfl ?_;walk_at "!2";refine aFU hz hl ht9 ?_;walk_at "!d5";exact law_r4 hz hl ht rfl (by omega)
theorem ln1 {α:Type}{us:List α}(h:us.length=1):∃ x0,us=[x0]:=by
 match us,h with
 | [_],_=>exact⟨_,rfl⟩
theorem ln2 {α:Type}{us:List α}(h:us.length=2):∃ x0 x1,us=[x0,x1]:=by
 match us,h with
 | [_,_],_=>exact⟨_,_,rfl⟩
theorem ln3 {α:Type}{us:List α}(h:us.length=3):∃ x0 x1 x2,us=[x0,x1,x2]:=by
 match us,h with
 | [_,_,_],_=>exact⟨_,_,_,rfl⟩
theorem ln4 {α:Type}{us:List α}(h:us.length=4):∃ x0 x1 x2 x3,us=[x0,x1,x2,x3]:=by
 match us,h with
 | [_,_,_,_],_=>exact⟨_,_,_,_,rfl⟩
theorem ln5 {α:Type}{us:List α}(h:us.length=5):∃ x0 x1 x2 x3 x4,us=[x0,x1,x2,x3,x4]:=by
 match us,h with
 | [_,_,_,_,_],_=>exact⟨_,_,_,_,_,rfl⟩
theorem aOJ {K:Fg}{h:Heap}{mg:Mg}(X:K.In h)(G:h.Ns mainGlobals mg)
  (z_len:PySem.W.nsIn K mainGlobals "len" = some none)
  (z_abs:PySem.W.nsIn K mainGlobals "abs" = some none)
  (z_range:PySem.W.nsIn K mainGlobals "range" = some none)
  (z_isinstance:PySem.W.nsIn K mainGlobals "isinstance" = some none)
  (z_int:PySem.W.nsIn K mainGlobals "int" = some none)
  (z_bool:PySem.W.nsIn K mainGlobals "bool" = some none)
  (z_tuple:PySem.W.nsIn K mainGlobals "tuple" = some none)
  (z_max:PySem.W.nsIn K mainGlobals "max" = some none)
  (z_min:PySem.W.nsIn K mainGlobals "min" = some none)
  (z_list:PySem.W.nsIn K mainGlobals "list" = some none)
  (z_all:PySem.W.nsIn K mainGlobals "all" = some none)
  (z_any:PySem.W.nsIn K mainGlobals "any" = some none)
  (z_sorted:PySem.W.nsIn K mainGlobals "sorted" = some none)
  (z_zip:PySem.W.nsIn K mainGlobals "zip" = some none)
  (z_set:PySem.W.nsIn K mainGlobals "set" = some none)
  (z_sum:PySem.W.nsIn K mainGlobals "sum" = some none)
  (z_str:PySem.W.nsIn K mainGlobals "str" = some none)
  (z_enumerate:PySem.W.nsIn K mainGlobals "enumerate" = some none)
  (kt_int_bool:PySem.W.kitOne K (.type "int") (.type "bool")=some false)    (kt_bool_int:PySem.W.kitOne K (.type "bool") (.type "int")=some true):Bl K mg:=⟨PySem.W.mg_none_of X G z_len,PySem.W.mg_none_of X G z_abs,PySem.W.mg_none_of X G z_range,PySem.W.mg_none_of X G z_isinstance,PySem.W.mg_none_of X G z_int,PySem.W.mg_none_of X G z_bool,PySem.W.mg_none_of X G z_tuple,PySem.W.mg_none_of X G z_max,PySem.W.mg_none_of X G z_min,PySem.W.mg_none_of X G z_list,PySem.W.mg_none_of X G z_all,PySem.W.mg_none_of X G z_any,PySem.W.mg_none_of X G z_sorted,PySem.W.mg_none_of X G z_zip,PySem.W.mg_none_of X G z_set,PySem.W.mg_none_of X G z_sum,PySem.W.mg_none_of X G z_str,PySem.W.mg_none_of X G z_enumerate,kt_int_bool,kt_bool_int⟩
theorem aKQ {K:Fg}
  (kt_NoneType_bool:PySem.W.kitOne K (.type "NoneType") (.type "bool")=some false)
  (kt_NoneType_int:PySem.W.kitOne K (.type "NoneType") (.type "int")=some false)
  (kt_NoneType_str:PySem.W.kitOne K (.type "NoneType") (.type "str")=some false)
  (kt_NoneType_list:PySem.W.kitOne K (.type "NoneType") (.type "list")=some false)
  (kt_NoneType_tuple:PySem.W.kitOne K (.type "NoneType") (.type "tuple")=some false)
  (kt_NoneType_dict:PySem.W.kitOne K (.type "NoneType") (.type "dict")=some false)
  (kt_bool_NoneType:PySem.W.kitOne K (.type "bool") (.type "NoneType")=some false)
  (kt_bool_int:PySem.W.kitOne K (.type "bool") (.type "int")=some true)
  (kt_bool_str:PySem.W.kitOne K (.type "bool") (.type "str")=some false)
  (kt_bool_list:PySem.W.kitOne K (.type "bool") (.type "list")=some false)
  (kt_bool_tuple:PySem.W.kitOne K (.type "bool") (.type "tuple")=some false)
  (kt_bool_dict:PySem.W.kitOne K (.type "bool") (.type "dict")=some false)
  (kt_int_NoneType:PySem.W.kitOne K (.type "int") (.type "NoneType")=some false)
  (kt_int_bool:PySem.W.kitOne K (.type "int") (.type "bool")=some false)
  (kt_int_str:PySem.W.kitOne K (.type "int") (.type "str")=some false)
  (kt_int_list:PySem.W.kitOne K (.type "int") (.type "list")=some false)
  (kt_int_tuple:PySem.W.kitOne K (.type "int") (.type "tuple")=some false)
  (kt_int_dict:PySem.W.kitOne K (.type "int") (.type "dict")=some false)
  (kt_str_NoneType:PySem.W.kitOne K (.type "str") (.type "NoneType")=some false)
  (kt_str_bool:PySem.W.kitOne K (.type "str") (.type "bool")=some false)
  (kt_str_int:PySem.W.kitOne K (.type "str") (.type "int")=some false)
  (kt_str_list:PySem.W.kitOne K (.type "str") (.type "list")=some false)
  (kt_str_tuple:PySem.W.kitOne K (.type "str") (.type "tuple")=some false)
  (kt_str_dict:PySem.W.kitOne K (.type "str") (.type "dict")=some false)
  (kt_list_NoneType:PySem.W.kitOne K (.type "list") (.type "NoneType")=some false)
  (kt_list_bool:PySem.W.kitOne K (.type "list") (.type "bool")=some false)
  (kt_list_int:PySem.W.kitOne K (.type "list") (.type "int")=some false)
  (kt_list_str:PySem.W.kitOne K (.type "list") (.type "str")=some false)
  (kt_list_tuple:PySem.W.kitOne K (.type "list") (.type "tuple")=some false)
  (kt_list_dict:PySem.W.kitOne K (.type "list") (.type "dict")=some false)
  (kt_tuple_NoneType:PySem.W.kitOne K (.type "tuple") (.type "NoneType")=some false)
  (kt_tuple_bool:PySem.W.kitOne K (.type "tuple") (.type "bool")=some false)
  (kt_tuple_int:PySem.W.kitOne K (.type "tuple") (.type "int")=some false)
  (kt_tuple_str:PySem.W.kitOne K (.type "tuple") (.type "str")=some false)
  (kt_tuple_list:PySem.W.kitOne K (.type "tuple") (.type "list")=some false)
  (kt_tuple_dict:PySem.W.kitOne K (.type "tuple") (.type "dict")=some false)
  (kt_dict_NoneType:PySem.W.kitOne K (.type "dict") (.type "NoneType")=some false)
  (kt_dict_bool:PySem.W.kitOne K (.type "dict") (.type "bool")=some false)
  (kt_dict_int:PySem.W.kitOne K (.type "dict") (.type "int")=some false)
  (kt_dict_str:PySem.W.kitOne K (.type "dict") (.type "str")=some false)
  (kt_dict_list:PySem.W.kitOne K (.type "dict") (.type "list")=some false)
  (kt_dict_tuple:PySem.W.kitOne K (.type "dict") (.type "tuple")=some false)
  : Kit K:=Kit.mk' (by
  intro a ha b hb;simp only[tyL,List.mem_cons,List.not_mem_nil,or_false] at ha hb;rcases ha with rfl|rfl|rfl|rfl|rfl|rfl|rfl<;>rcases hb with rfl|rfl|rfl|rfl|rfl|rfl|rfl<;>intro e<;>first|assumption|exact absurd e (by decide))
def DfP (K:Fg)(mg:Mg)(x:Str)(st:Stmt):Prop:=∃(f:Addr) (fd:FuncData),Fun K x x st f fd∧mg x=some (.ref f)
theorem cV {K:Fg}{h:Heap}{mg:Mg}(X:K.In h)(G:h.Ns mainGlobals mg){x:Str}{st:Stmt}{f:Addr}{od an:Option Addr}{sl:Array (Option Value)}{oc kV dc pm cd ct:Value}
  (a:PySem.W.nsIn K mainGlobals x=some (some (.ref f))) (l:K.lookup f=some ⟨oc,od,.func (PySem.W.fnOf x x (sE st) (jU st) (aN st) .none kV dc pm an cd ct),sl⟩) (c:PySem.W.codeIn K cd x=true) (k:PySem.W.keepIn K (.ref f)=true):DfP K mg x st:=
 ⟨f,_,aBL l c k,PySem.W.mg_of X G a⟩
def MeP (K:Fg)(C:Addr)(m q:Str)(st:Stmt):Prop:=∃(f:Addr) (fd:FuncData),Fun K m q st f fd∧Meth K C m f
theorem a9T {K:Fg}{C:Addr}{m q:Str}{st:Stmt}{f:Addr}{od an:Option Addr}{sl:Array (Option Value)}{oc kV dc pm cd ct:Value}
  (a:PySem.W.findIn K (.ref C) m=some (some (.ref f))) (n:PySem.W.isFn K (.ref f)=true) (l:K.lookup f=some ⟨oc,od,.func (PySem.W.fnOf m q (sE st) (jU st) (aN st) .none kV dc pm an cd ct),sl⟩) (c:PySem.W.codeIn K cd q=true) (k:PySem.W.keepIn K (.ref f)=true):MeP K C m q st:=⟨f,_,aBL l c k,a,n,k⟩
def InP (K:Fg)(C:Addr)(q:Str)(st:Stmt):Prop:=∃(f:Addr) (fd:FuncData),Fun K "__init__" q st f fd∧Mk K C f
theorem aOW {K:Fg}{C:Addr}{q:Str}{st:Stmt}{f:Addr}{od an:Option Addr}{sl:Array (Option Value)}{oc kV dc pm cd ct:Value}
  (y:PySem.W.makesIn K C=true) (a:PySem.W.findIn K (.ref C) "__init__" = some (some (.ref f))) (n:PySem.W.isFn K (.ref f)=true) (z:PySem.W.keepIn K (.ref C)=true) (l:K.lookup f=some ⟨oc,od,.func (PySem.W.fnOf "__init__" q (sE st) (jU st) (aN st) .none kV dc pm an cd ct),sl⟩) (c:PySem.W.codeIn K cd q=true) (k:PySem.W.keepIn K (.ref f)=true):InP K C q st:=⟨f,_,aBL l c k,y,a,n,z⟩
theorem aI0 {K:Fg}{C:Addr}{f:Str}(h:PySem.W.findIn K (.ref C) f=some none):NoAttr K C f:=h
section
variable {P:Program}{w:World}{K:Fg}{mg:Mg}{base:Heap}
theorem a6G  (B:Bl K mg)(Kt:Kit K)(d:DfP K mg "is_whole" qT) :
  mF NoP P w K mg base:=by
 obtain⟨f,fd,F,hm⟩:=d;exact⟨f,fd,a7A F B Kt,hm,F.kp,F.binds fun _ _ _ _ _ _ us hl=>by
  obtain⟨_,rfl⟩:=ln1 hl;rfl⟩
theorem sJ  (B:Bl K mg)(Kt:Kit K)(d:DfP K mg "greatest_divisor" dY) :
  gM NoP P w K mg base:=by
 obtain⟨f,fd,F,hm⟩:=d;exact⟨f,fd,sU F B Kt,hm,F.kp,F.binds fun _ _ _ _ _ _ us hl=>by
  obtain⟨_,_,rfl⟩:=ln2 hl;rfl⟩
theorem a5V  (B:Bl K mg)(Kt:Kit K)(d:DfP K mg "number_of" mZ)(C_greatest_divisor:gM NoP P w K mg base)(C_is_whole:mF NoP P w K mg base) :
  dN NoP P w K mg base:=by
 obtain⟨f,fd,F,hm⟩:=d;exact⟨f,fd,a4H F B Kt C_greatest_divisor C_is_whole,hm,F.kp,F.binds fun _ _ _ _ _ _ us hl=>by
  obtain⟨_,_,rfl⟩:=ln2 hl;rfl⟩
theorem aBF  (B:Bl K mg)(Kt:Kit K)(d:DfP K mg "sum_of" xR)(C_number_of:dN NoP P w K mg base) :
  a2T NoP P w K mg base:=by
 obtain⟨f,fd,F,hm⟩:=d;exact⟨f,fd,aCV F B Kt C_number_of,hm,F.kp,F.binds fun _ _ _ _ _ _ us hl=>by
  obtain⟨_,_,rfl⟩:=ln2 hl;rfl⟩
theorem xG  (B:Bl K mg)(Kt:Kit K)(d:DfP K mg "difference_of" gD)(C_number_of:dN NoP P w K mg base) :
  jZ NoP P w K mg base:=by
 obtain⟨f,fd,F,hm⟩:=d;exact⟨f,fd,wR F B Kt C_number_of,hm,F.kp,F.binds fun _ _ _ _ _ _ us hl=>by
  obtain⟨_,_,rfl⟩:=ln2 hl;rfl⟩
theorem a2D  (B:Bl K mg)(Kt:Kit K)(d:DfP K mg "product_of" lH)(C_number_of:dN NoP P w K mg base) :
  oX NoP P w K mg base:=by
 obtain⟨f,fd,F,hm⟩:=d;exact⟨f,fd,a3Q F B Kt C_number_of,hm,F.kp,F.binds fun _ _ _ _ _ _ us hl=>by
  obtain⟨_,_,rfl⟩:=ln2 hl;rfl⟩
theorem a0Q  (B:Bl K mg)(Kt:Kit K)(d:DfP K mg "quotient_of" jD)(C_number_of:dN NoP P w K mg base) :
  nW NoP P w K mg base:=by
 obtain⟨f,fd,F,hm⟩:=d;exact⟨f,fd,a07 F B Kt C_number_of,hm,F.kp,F.binds fun _ _ _ _ _ _ us hl=>by
  obtain⟨_,_,rfl⟩:=ln2 hl;rfl⟩
theorem aAW  (B:Bl K mg)(Kt:Kit K)(d:DfP K mg "is_less" uX) :
  cR NoP P w K mg base:=by
 obtain⟨f,fd,F,hm⟩:=d;exact⟨f,fd,aAU F B Kt,hm,F.kp,F.binds fun _ _ _ _ _ _ us hl=>by
  obtain⟨_,_,rfl⟩:=ln2 hl;rfl⟩
theorem a75  (B:Bl K mg)(Kt:Kit K)(d:DfP K mg "place_at" qZ)(C_sum_of:a2T NoP P w K mg base)(C_product_of:oX NoP P w K mg base) :
  vQ NoP P w K mg base:=by
 obtain⟨f,fd,F,hm⟩:=d;exact⟨f,fd,a6W F B Kt C_sum_of C_product_of,hm,F.kp,F.binds fun _ _ _ _ _ _ us hl=>by
  obtain⟨_,_,rfl⟩:=ln2 hl;rfl⟩
theorem aA5  (B:Bl K mg)(Kt:Kit K)(d:DfP K mg "meeting" tR)(C_quotient_of:nW NoP P w K mg base)(C_difference_of:jZ NoP P w K mg base) :
  zJ NoP P w K mg base:=by
 obtain⟨f,fd,F,hm⟩:=d;exact⟨f,fd,a9P F B Kt C_quotient_of C_difference_of,hm,F.kp,F.binds fun _ _ _ _ _ _ us hl=>by
  obtain⟨_,_,rfl⟩:=ln2 hl;rfl⟩
theorem a77  (B:Bl K mg)(Kt:Kit K)(d:DfP K mg "standing" pY)(C_place_at:vQ NoP P w K mg base) :
  mJ NoP P w K mg base:=by
 obtain⟨f,fd,F,hm⟩:=d;exact⟨f,fd,a6X F B Kt C_place_at,hm,F.kp,F.binds fun _ _ _ _ _ _ us hl=>by
  obtain⟨_,_,_,rfl⟩:=ln3 hl;rfl⟩
theorem a01  (B:Bl K mg)(Kt:Kit K)(d:DfP K mg "stands_ahead" iK)(C_is_less:cR NoP P w K mg base) :
  fL NoP P w K mg base:=by
 obtain⟨f,fd,F,hm⟩:=d;exact⟨f,fd,zX F B Kt C_is_less,hm,F.kp,F.binds fun _ _ _ _ _ _ us hl=>by
  obtain⟨_,_,rfl⟩:=ln2 hl;rfl⟩
theorem a7W  (B:Bl K mg)(Kt:Kit K)(d:DfP K mg "is_ahead" qM)(C_stands_ahead:fL NoP P w K mg base)(C_standing:mJ NoP P w K mg base) :
  m8 NoP P w K mg base:=by
 obtain⟨f,fd,F,hm⟩:=d;exact⟨f,fd,a79 F B Kt C_stands_ahead C_standing,hm,F.kp,F.binds fun _ _ _ _ _ _ us hl=>by
  obtain⟨_,_,_,_,rfl⟩:=ln4 hl;rfl⟩
theorem a0G  (B:Bl K mg)(Kt:Kit K)(d:DfP K mg "next_change" jA)(C_is_less:cR NoP P w K mg base)(C_meeting:zJ NoP P w K mg base) :
  gR NoP P w K mg base:=by
 obtain⟨f,fd,F,hm⟩:=d;exact⟨f,fd,a0P F B Kt C_is_less C_meeting,hm,F.kp,F.binds fun _ _ _ _ _ _ us hl=>by
  obtain⟨_,_,_,_,rfl⟩:=ln4 hl;rfl⟩
theorem a4M  (B:Bl K mg)(Kt:Kit K)(d:DfP K mg "is_runner" o4)(C_is_whole:mF NoP P w K mg base) :
  rR NoP P w K mg base:=by
 obtain⟨f,fd,F,hm⟩:=d;exact⟨f,fd,a5K F B Kt C_is_whole,hm,F.kp,F.binds fun _ _ _ _ _ _ us hl=>by
  obtain⟨_,_,rfl⟩:=ln2 hl;rfl⟩
theorem a0O  (B:Bl K mg)(Kt:Kit K)(d:DfP K mg "order_among" gP)(C_stands_ahead:fL NoP P w K mg base)(C_standing:mJ NoP P w K mg base) :
  o9 NoP P w K mg base:=by
 obtain⟨f,fd,F,hm⟩:=d;exact⟨f,fd,a08 F B Kt C_stands_ahead C_standing,hm,F.kp,F.binds fun _ _ _ _ _ _ us hl=>by
  obtain⟨_,_,_,rfl⟩:=ln3 hl;rfl⟩
theorem a7V  (B:Bl K mg)(Kt:Kit K)(d:DfP K mg "order_at" qI)(C_order_among:o9 NoP P w K mg base) :
  iC NoP P w K mg base:=by
 obtain⟨f,fd,F,hm⟩:=d;exact⟨f,fd,a6N F B Kt C_order_among,hm,F.kp,F.binds fun _ _ _ _ _ _ us hl=>by
  obtain⟨_,_,rfl⟩:=ln2 hl;rfl⟩
theorem a2Z  (B:Bl K mg)(Kt:Kit K)(d:DfP K mg "neighbours" lM) :
  iY NoP P w K mg base:=by
 obtain⟨f,fd,F,hm⟩:=d;exact⟨f,fd,a2K F B Kt,hm,F.kp,F.binds fun _ _ _ _ _ _ us hl=>by
  obtain⟨_,rfl⟩:=ln1 hl;rfl⟩
theorem a0K  (B:Bl K mg)(Kt:Kit K)(d:DfP K mg "stays_ahead" jC)(C_is_less:cR NoP P w K mg base)(C_next_change:gR NoP P w K mg base)(C_is_ahead:m8 NoP P w K mg base) :
  o7 NoP P w K mg base:=by
 obtain⟨f,fd,F,hm⟩:=d;exact⟨f,fd,a0N F B Kt C_is_less C_next_change C_is_ahead,hm,F.kp,F.binds fun _ _ _ _ _ _ us hl=>by
  obtain⟨_,_,_,_,_,rfl⟩:=ln5 hl;rfl⟩
theorem a7K  (B:Bl K mg)(Kt:Kit K)(d:DfP K mg "is_right" qO)(C_stays_ahead:o7 NoP P w K mg base)(C_is_less:cR NoP P w K mg base)(C_is_runner:rR NoP P w K mg base) :
  vK NoP P w K mg base:=by
 obtain⟨f,fd,F,hm⟩:=d;exact⟨f,fd,a7D F B Kt C_stays_ahead C_is_less C_is_runner,hm,F.kp,F.binds fun _ _ _ _ _ _ us hl=>by
  obtain⟨_,_,_,rfl⟩:=ln3 hl;rfl⟩
theorem a9X  (B:Bl K mg)(Kt:Kit K)(d:DfP K mg "till_of" tX)(C_next_change:gR NoP P w K mg base)(C_is_ahead:m8 NoP P w K mg base) :
  a04 NoP P w K mg base:=by
 obtain⟨f,fd,F,hm⟩:=d;exact⟨f,fd,aA8 F B Kt C_next_change C_is_ahead,hm,F.kp,F.binds fun _ _ _ _ _ _ us hl=>by
  obtain⟨_,_,_,_,rfl⟩:=ln4 hl;rfl⟩
theorem yX  (B:Bl K mg)(Kt:Kit K)(d:DfP K mg "papers_among" fO)(C_neighbours:iY NoP P w K mg base)(C_till_of:a04 NoP P w K mg base) :
  dR NoP P w K mg base:=by
 obtain⟨f,fd,F,hm⟩:=d;exact⟨f,fd,zZ F B Kt C_neighbours C_till_of,hm,F.kp,F.binds fun _ _ _ _ _ _ us hl=>by
  obtain⟨_,_,_,rfl⟩:=ln3 hl;rfl⟩
theorem a4D  (B:Bl K mg)(Kt:Kit K)(d:DfP K mg "papers_at" o8)(C_papers_among:dR NoP P w K mg base)(C_order_at:iC NoP P w K mg base) :
  yO NoP P w K mg base:=by
 obtain⟨f,fd,F,hm⟩:=d;exact⟨f,fd,a4X F B Kt C_papers_among C_order_at,hm,F.kp,F.binds fun _ _ _ _ _ _ us hl=>by
  obtain⟨_,_,rfl⟩:=ln2 hl;rfl⟩
theorem wZ  (B:Bl K mg)(Kt:Kit K)(d:DfP K mg "first_to_fail" gH)(C_is_less:cR NoP P w K mg base) :
  fC NoP P w K mg base:=by
 obtain⟨f,fd,F,hm⟩:=d;exact⟨f,fd,wX F B Kt C_is_less,hm,F.kp,F.binds fun _ _ _ _ _ _ us hl=>by
  obtain⟨_,rfl⟩:=ln1 hl;rfl⟩
theorem aG5  (B:Bl K mg)(Kt:Kit K)(d:DfP K mg "shown" sI)(C_first_to_fail:fC NoP P w K mg base)(C_neighbours:iY NoP P w K mg base)(C_order_at:iC NoP P w K mg base)(C_is_right:vK NoP P w K mg base) :
  aE1 NoP P w K mg base:=by
 obtain⟨f,fd,F,hm⟩:=d;exact⟨f,fd,aF5 F B Kt C_first_to_fail C_neighbours C_order_at C_is_right,hm,F.kp,F.binds fun _ _ _ _ _ _ us hl=>by
  obtain⟨_,_,_,rfl⟩:=ln3 hl;rfl⟩
theorem a4E  (B:Bl K mg)(Kt:Kit K)(d:DfP K mg "fail_next" oA)(C_papers_among:dR NoP P w K mg base)(C_is_less:cR NoP P w K mg base)(C_first_to_fail:fC NoP P w K mg base) :
  zL NoP P w K mg base:=by
 obtain⟨f,fd,F,hm⟩:=d;exact⟨f,fd,a3U F B Kt C_papers_among C_is_less C_first_to_fail,hm,F.kp,F.binds fun _ _ _ _ _ _ us hl=>by
  obtain⟨_,_,_,_,rfl⟩:=ln4 hl;rfl⟩
theorem aA4  (B:Bl K mg)(Kt:Kit K)(d:DfP K mg "_law_pen" u9) :
  Cal P w K mg base 1 "_law_pen" ["_law_script", "_law_k"] (a8V K):=by
 obtain⟨f,fd,F,hm⟩:=d;exact⟨f,fd,aAE F B,hm,F.kp,F.binds fun _ _ _ _ _ _ us hl=>by
  obtain⟨_,_,rfl⟩:=ln2 hl;rfl⟩
theorem a6M  (B:Bl K mg)(Kt:Kit K)(d:DfP K mg "_law_take" mR) :
  fB NoP P w K mg base:=by
 obtain⟨f,fd,F,hm⟩:=d;exact⟨f,fd,a4I F B,hm,F.kp,F.binds fun _ _ _ _ _ _ us hl=>by
  obtain⟨_,_,rfl⟩:=ln2 hl;rfl⟩
theorem a2G  (B:Bl K mg)(Kt:Kit K)(d:DfP K mg "_law_lowest" lK) :
  bZ NoP P w K mg base:=by
 obtain⟨f,fd,F,hm⟩:=d;exact⟨f,fd,a2I F B Kt,hm,F.kp,F.binds fun _ _ _ _ _ _ us hl=>by
  obtain⟨_,_,rfl⟩:=ln2 hl;rfl⟩
theorem a7J  (B:Bl K mg)(Kt:Kit K)(d:DfP K mg "_law_plus" q9)(C_law_lowest:bZ NoP P w K mg base) :
  jO NoP P w K mg base:=by
 obtain⟨f,fd,F,hm⟩:=d;exact⟨f,fd,a81 F B Kt C_law_lowest,hm,F.kp,F.binds fun _ _ _ _ _ _ us hl=>by
  obtain⟨_,_,_,rfl⟩:=ln3 hl;rfl⟩
theorem a6A  (B:Bl K mg)(Kt:Kit K)(d:DfP K mg "_law_times" nG)(C_law_lowest:bZ NoP P w K mg base) :
  pG NoP P w K mg base:=by
 obtain⟨f,fd,F,hm⟩:=d;exact⟨f,fd,a5H F B Kt C_law_lowest,hm,F.kp,F.binds fun _ _ _ _ _ _ us hl=>by
  obtain⟨_,_,rfl⟩:=ln2 hl;rfl⟩
theorem a6U  (B:Bl K mg)(Kt:Kit K)(d:DfP K mg "_law_less" qX) :
  eV NoP P w K mg base:=by
 obtain⟨f,fd,F,hm⟩:=d;exact⟨f,fd,a7C F B Kt,hm,F.kp,F.binds fun _ _ _ _ _ _ us hl=>by
  obtain⟨_,_,rfl⟩:=ln2 hl;rfl⟩
theorem a9R  (B:Bl K mg)(Kt:Kit K)(d:DfP K mg "_law_far" t7)(C_law_take:fB NoP P w K mg base) :
  w5 NoP P w K mg base:=by
 obtain⟨f,fd,F,hm⟩:=d;exact⟨f,fd,aAO F B Kt C_law_take,hm,F.kp,F.binds fun _ _ _ _ _ _ us hl=>by
  obtain⟨_,_,rfl⟩:=ln2 hl;rfl⟩
theorem a3E  (B:Bl K mg)(Kt:Kit K)(d:DfP K mg "_law_number" lF)(C_law_lowest:bZ NoP P w K mg base)(C_law_take:fB NoP P w K mg base)(C_law_far:w5 NoP P w K mg base) :
  j9 NoP P w K mg base:=by
 obtain⟨f,fd,F,hm⟩:=d;exact⟨f,fd,a1Z F B Kt C_law_lowest C_law_take C_law_far,hm,F.kp,F.binds fun _ _ _ _ _ _ us hl=>by
  obtain⟨_,_,rfl⟩:=ln2 hl;rfl⟩
theorem a4N  (B:Bl K mg)(Kt:Kit K)(d:DfP K mg "_law_lines" nQ)(C_law_plus:jO NoP P w K mg base)(C_law_times:pG NoP P w K mg base)(C_law_take:fB NoP P w K mg base)(C_law_number:j9 NoP P w K mg base) :
  wD NoP P w K mg base:=by
 obtain⟨f,fd,F,hm⟩:=d;exact⟨f,fd,a5O F B Kt C_law_plus C_law_times C_law_take C_law_number,hm,F.kp,F.binds fun _ _ _ _ _ _ us hl=>by
  obtain⟨_,rfl⟩:=ln1 hl;rfl⟩
theorem aAZ  (B:Bl K mg)(Kt:Kit K)(d:DfP K mg "_law_met" tH)(C_law_lowest:bZ NoP P w K mg base)(C_law_plus:jO NoP P w K mg base) :
  vO NoP P w K mg base:=by
 obtain⟨f,fd,F,hm⟩:=d;exact⟨f,fd,a9U F B Kt C_law_lowest C_law_plus,hm,F.kp,F.binds fun _ _ _ _ _ _ us hl=>by
  obtain⟨_,_,rfl⟩:=ln2 hl;rfl⟩
theorem a9Q  (B:Bl K mg)(Kt:Kit K)(d:DfP K mg "_law_due" u6)(C_law_less:eV NoP P w K mg base)(C_law_met:vO NoP P w K mg base) :
  a0V NoP P w K mg base:=by
 obtain⟨f,fd,F,hm⟩:=d;exact⟨f,fd,aAN F B Kt C_law_less C_law_met,hm,F.kp,F.binds fun _ _ _ _ _ _ us hl=>by
  obtain⟨_,_,rfl⟩:=ln2 hl;rfl⟩
theorem vV  (B:Bl K mg)(Kt:Kit K)(d:DfP K mg "_law_told_right" fU)(C_law_less:eV NoP P w K mg base) :
  m9 NoP P w K mg base:=by
 obtain⟨f,fd,F,hm⟩:=d;exact⟨f,fd,wA F B Kt C_law_less,hm,F.kp,F.binds fun _ _ _ _ _ _ us hl=>by
  obtain⟨_,_,_,rfl⟩:=ln3 hl;rfl⟩
theorem a0E  (B:Bl K mg)(Kt:Kit K)(d:DfP K mg "_law_between" jB)(C_law_less:eV NoP P w K mg base)(C_law_lowest:bZ NoP P w K mg base) :
  rK NoP P w K mg base:=by
 obtain⟨f,fd,F,hm⟩:=d;exact⟨f,fd,a0B F B Kt C_law_less C_law_lowest,hm,F.kp,F.binds fun _ _ _ _ _ _ us hl=>by
  obtain⟨_,_,rfl⟩:=ln2 hl;rfl⟩
end
theorem aM2 {l:PySem.W.OpenLaw}{w:World}{K:Fg}{mg:Mg}{fa:Addr}(hfa:mg "law" = some (.ref fa))(B:Bl K mg)(Kt:Kit K)
  (d0:DfP K mg "is_whole" qT)
  (d1:DfP K mg "greatest_divisor" dY)
  (d2:DfP K mg "number_of" mZ)
  (d3:DfP K mg "sum_of" xR)
  (d4:DfP K mg "difference_of" gD)
  (d5:DfP K mg "product_of" lH)
  (d6:DfP K mg "quotient_of" jD)
  (d7:DfP K mg "is_less" uX)
  (d8:DfP K mg "place_at" qZ)
  (d9:DfP K mg "meeting" tR)
  (d10:DfP K mg "standing" pY)
  (d11:DfP K mg "stands_ahead" iK)
  (d12:DfP K mg "is_ahead" qM)
  (d13:DfP K mg "next_change" jA)
  (d14:DfP K mg "is_runner" o4)
  (d15:DfP K mg "order_among" gP)
  (d16:DfP K mg "order_at" qI)
  (d17:DfP K mg "neighbours" lM)
  (d18:DfP K mg "stays_ahead" jC)
  (d19:DfP K mg "is_right" qO)
  (d20:DfP K mg "till_of" tX)
  (d21:DfP K mg "papers_among" fO)
  (d22:DfP K mg "papers_at" o8)
  (d23:DfP K mg "first_to_fail" gH)
  (d24:DfP K mg "shown" sI)
  (d25:DfP K mg "fail_next" oA)
  (d26:DfP K mg "_law_pen" u9)
  (d27:DfP K mg "_law_take" mR)
  (d28:DfP K mg "_law_lowest" lK)
  (d29:DfP K mg "_law_plus" q9)
  (d30:DfP K mg "_law_times" nG)
  (d31:DfP K mg "_law_less" qX)
  (d32:DfP K mg "_law_far" t7)
  (d33:DfP K mg "_law_number" lF)
  (d34:DfP K mg "_law_lines" nQ)
  (d35:DfP K mg "_law_met" tH)
  (d36:DfP K mg "_law_due" u6)
  (d37:DfP K mg "_law_told_right" fU)
  (d38:DfP K mg "_law_all_steps" jX)
  (d39:DfP K mg "_law_between" jB)
  (d40:DfP K mg "_law_from_till_to_till" dJ)
  (d41:DfP K mg "law" aF2)
  {c:Addr} (hmW:mg "Walk" = some (.ref c)) (cl:Cls K c) (n_lines:NoAttr K c "lines") (n_now:NoAttr K c "now") (n_listed:NoAttr K c "listed") (mI:InP K c "Walk.__init__" a2P) (me_time:MeP K c "time" "Walk.time" a3D) (me_order:MeP K c "order" "Walk.order" zA) (me_papers:MeP K c "papers" "Walk.papers" vP) (me_step_by:MeP K c "step_by" "Walk.step_by" sZ) (me_step:MeP K c "step" "Walk.step" a2H) (me_go:MeP K c "go" "Walk.go" aCT)
  (hL:∀ c pen,(zK c) (.no::.box (penF.box pen 1)::List.replicate 11 .no) jR) :
  ∃ fd:FuncData,(∀(s:Shared) (v:Value),BindsTo s fd ⟨[v],[]⟩ [("_law_script", v)])∧∀ base:Heap,K.In base→base.Ns mainGlobals mg→FnOk l.prog w K mg base CX0 13 fa fd ["_law_script"] (aGS K):=by
 obtain⟨f,fd,F,hm⟩:=d41
 cases hfa.symm.trans hm
 refine⟨fd,?_,fun base _ _=>?_⟩
 ·obtain⟨oc,od,kV,doc,pm,an,cdv,ct,osl,rfl,lk,hcd⟩:=F.ex;exact fun s v=>.of_eq rfl
 obtain⟨fi,fdi,FI,M⟩:=mI;obtain⟨f_time,fd_time,F_time,M_time⟩:=me_time;obtain⟨f_order,fd_order,F_order,M_order⟩:=me_order;obtain⟨f_papers,fd_papers,F_papers,M_papers⟩:=me_papers;obtain⟨f_step_by,fd_step_by,F_step_by,M_step_by⟩:=me_step_by
 obtain⟨f_step,fd_step,F_step,M_step⟩:=me_step;obtain⟨f_go,fd_go,F_go,M_go⟩:=me_go;have C_is_whole:=a6G (P:=l.prog) (w:=w) (base:=base) B Kt d0;have C_greatest_divisor:=sJ (P:=l.prog) (w:=w) (base:=base) B Kt d1;have C_number_of:=a5V (P:=l.prog) (w:=w) (base:=base) B Kt d2 C_greatest_divisor C_is_whole;have C_sum_of:=aBF (P:=l.prog) (w:=w) (base:=base) B Kt d3 C_number_of;have C_difference_of:=xG (P:=l.prog) (w:=w) (base:=base) B Kt d4 C_number_of;have C_product_of:=a2D (P:=l.prog) (w:=w) (base:=base) B Kt d5 C_number_of;have C_quotient_of:=a0Q (P:=l.prog) (w:=w) (base:=base) B Kt d6 C_number_of;have C_is_less:=aAW (P:=l.prog) (w:=w) (base:=base) B Kt d7;have C_place_at:=a75 (P:=l.prog) (w:=w) (base:=base) B Kt d8 C_sum_of C_product_of;have C_meeting:=aA5 (P:=l.prog) (w:=w) (base:=base) B Kt d9 C_quotient_of C_difference_of;have C_standing:=a77 (P:=l.prog) (w:=w) (base:=base) B Kt d10 C_place_at;have C_stands_ahead:=a01 (P:=l.prog) (w:=w) (base:=base) B Kt d11 C_is_less;have C_is_ahead:=a7W (P:=l.prog) (w:=w) (base:=base) B Kt d12 C_stands_ahead C_standing;have C_next_change:=a0G (P:=l.prog) (w:=w) (base:=base) B Kt d13 C_is_less C_meeting;have C_is_runner:=a4M (P:=l.prog) (w:=w) (base:=base) B Kt d14 C_is_whole;have C_order_among:=a0O (P:=l.prog) (w:=w) (base:=base) B Kt d15 C_stands_ahead C_standing;have C_order_at:=a7V (P:=l.prog) (w:=w) (base:=base) B Kt d16 C_order_among;have C_neighbours:=a2Z (P:=l.prog) (w:=w) (base:=base) B Kt d17;have C_stays_ahead:=a0K (P:=l.prog) (w:=w) (base:=base) B Kt d18 C_is_less C_next_change C_is_ahead;have C_is_right:=a7K (P:=l.prog) (w:=w) (base:=base) B Kt d19 C_stays_ahead C_is_less C_is_runner;have C_till_of:=a9X (P:=l.prog) (w:=w) (base:=base) B Kt d20 C_next_change C_is_ahead;have C_papers_among:=yX (P:=l.prog) (w:=w) (base:=base) B Kt d21 C_neighbours C_till_of;have C_papers_at:=a4D (P:=l.prog) (w:=w) (base:=base) B Kt d22 C_papers_among C_order_at;have C_first_to_fail:=wZ (P:=l.prog) (w:=w) (base:=base) B Kt d23 C_is_less;have C_shown:=aG5 (P:=l.prog) (w:=w) (base:=base) B Kt d24 C_first_to_fail C_neighbours C_order_at C_is_right;have C_fail_next:=a4E (P:=l.prog) (w:=w) (base:=base) B Kt d25 C_papers_among C_is_less C_first_to_fail;have C_law_pen:=aA4 (P:=l.prog) (w:=w) (base:=base) B Kt d26;have C_law_take:=a6M (P:=l.prog) (w:=w) (base:=base) B Kt d27;have C_law_lowest:=a2G (P:=l.prog) (w:=w) (base:=base) B Kt d28;have C_law_plus:=a7J (P:=l.prog) (w:=w) (base:=base) B Kt d29 C_law_lowest;have C_law_times:=a6A (P:=l.prog) (w:=w) (base:=base) B Kt d30 C_law_lowest;have C_law_less:=a6U (P:=l.prog) (w:=w) (base:=base) B Kt d31;have C_law_far:=a9R (P:=l.prog) (w:=w) (base:=base) B Kt d32 C_law_take;have C_law_number:=a3E (P:=l.prog) (w:=w) (base:=base) B Kt d33 C_law_lowest C_law_take C_law_far;have C_law_lines:=a4N (P:=l.prog) (w:=w) (base:=base) B Kt d34 C_law_plus C_law_times C_law_take C_law_number;have C_law_met:=aAZ (P:=l.prog) (w:=w) (base:=base) B Kt d35 C_law_lowest C_law_plus;have C_law_due:=a9Q (P:=l.prog) (w:=w) (base:=base) B Kt d36 C_law_less C_law_met;have C_law_told_right:=vV (P:=l.prog) (w:=w) (base:=base) B Kt d37 C_law_less;have O_time:=aC5 (P0:=NoP) (P:=l.prog) (w:=w) (mg:=mg) (base:=base) cl n_lines n_now n_listed F_time B Kt;have B_time:Binds K fd_time ["self"] []:=(F_time.binds (ps:=["self"]) fun _ _ _ _ _ _ us hl=>by
  obtain⟨_,rfl⟩:=ln1 hl;rfl)
 have O_order:=a9Y (P0:=NoP) (P:=l.prog) (w:=w) (mg:=mg) (base:=base) cl n_lines n_now n_listed F_order B Kt;have B_order:Binds K fd_order ["self"] []:=(F_order.binds (ps:=["self"]) fun _ _ _ _ _ _ us hl=>by
  obtain⟨_,rfl⟩:=ln1 hl;rfl)
 have O_papers:=a7P (P0:=NoP) (P:=l.prog) (w:=w) (mg:=mg) (base:=base) cl n_lines n_now n_listed F_papers B Kt C_papers_among;have B_papers:Binds K fd_papers ["self"] []:=(F_papers.binds (ps:=["self"]) fun _ _ _ _ _ _ us hl=>by
  obtain⟨_,rfl⟩:=ln1 hl;rfl)
 have O_step_by:=a5C (P0:=NoP) (P:=l.prog) (w:=w) (mg:=mg) (base:=base) cl n_lines n_now n_listed F_step_by B Kt C_fail_next;have B_step_by:Binds K fd_step_by ["self", "limit"] []:=(F_step_by.binds (ps:=["self", "limit"]) fun _ _ _ _ _ _ us hl=>by
  obtain⟨_,_,rfl⟩:=ln2 hl;rfl)
 have O_step:=aB7 (P0:=NoP) (P:=l.prog) (w:=w) (mg:=mg) (base:=base) cl n_lines n_now n_listed M_step_by O_step_by B_step_by F_step B Kt;have B_step:Binds K fd_step ["self"] []:=(F_step.binds (ps:=["self"]) fun _ _ _ _ _ _ us hl=>by
  obtain⟨_,rfl⟩:=ln1 hl;rfl)
 have O_go:=aIH (P0:=NoP) (P:=l.prog) (w:=w) (mg:=mg) (base:=base) cl n_lines n_now n_listed M_step_by O_step_by B_step_by F_go B Kt C_is_less;have B_go:Binds K fd_go ["self", "time"] []:=(F_go.binds (ps:=["self", "time"]) fun _ _ _ _ _ _ us hl=>by
  obtain⟨_,_,rfl⟩:=ln2 hl;rfl)
 obtain⟨f2_law_all_steps,fd2_law_all_steps,F2_law_all_steps,hm2_law_all_steps⟩:=d38;have C_law_all_steps:Cal l.prog w K mg base 12 "_law_all_steps" ["_law_walk"] (spL NoP (bD c) 1 (f9 c)):=⟨f2_law_all_steps,fd2_law_all_steps,xH cl M_step O_step B_step F2_law_all_steps B Kt,hm2_law_all_steps,F2_law_all_steps.kp,(F2_law_all_steps.binds (ps:=["_law_walk"]) fun _ _ _ _ _ _ us hl=>by
  obtain⟨_,rfl⟩:=ln1 hl;rfl)⟩
 have C_law_between:=a0E (P:=l.prog) (w:=w) (base:=base) B Kt d39 C_law_less C_law_lowest;obtain⟨f3,fd3,F3,hm3⟩:=d40;have C_law_from_till_to_till:Cal l.prog w K mg base 12 "_law_from_till_to_till" ["_law_lines_here", "_law_time", "_law_most"] (spM NoP 3 (c7 c)):=⟨f3,fd3,mD hmW M (a1I (P0:=NoP) cl n_lines n_now n_listed FI B C_order_at) (FI.binds (ps:=["self", "lines", "time"]) fun _ _ _ _ _ _ us hl=>by
  obtain⟨_,_,_,rfl⟩:=ln3 hl;rfl) cl M_time O_time B_time M_order O_order B_order M_papers O_papers B_papers M_go O_go B_go F3 B Kt C_order_at C_law_between C_papers_at C_shown,hm3,F3.kp,(F3.binds (ps:=["_law_lines_here", "_law_time", "_law_most"]) fun _ _ _ _ _ _ us hl=>by
  obtain⟨_,_,_,rfl⟩:=ln3 hl;rfl)⟩
 exact aMF F B Kt hmW M (a1I (P0:=NoP) cl n_lines n_now n_listed FI B C_order_at) (FI.binds (ps:=["self", "lines", "time"]) fun _ _ _ _ _ _ us hl=>by
  obtain⟨_,_,_,rfl⟩:=ln3 hl;rfl) cl M_time O_time B_time M_order O_order B_order M_go O_go B_go C_law_pen C_law_from_till_to_till C_law_take C_law_less C_law_told_right C_law_all_steps C_law_number C_law_lines C_law_due (hL _)
theorem walk {l:PySem.W.OpenLaw}{q:Program}{loose:List Str}{XP:Mg→Heap→Prop}{YP:World→Heap→Prop}{d:DefRec}{K:Params→Fg}(hn:l.most=some 63)(hdf:d.params.defaults=[])
  (hY:∀(w:World) (h:Heap),YP w h→(K w.params).In h)
  (F:∀(w:World) (mg:Mg) (fa:Addr) (h:Heap),(K w.params).In h→h.Ns mainGlobals mg→mg d.name=some (.ref fa) →
   ∃ fd:FuncData,(∀(s:Shared) (u:Value),BindsTo s fd ⟨[u],[]⟩ [("_law_script", u)])∧∀ base:Heap,(K w.params).In base→base.Ns mainGlobals mg→FnOk l.prog w (K w.params) mg base CX0 13 fa fd ["_law_script"] (aGS (K w.params))) :
  PySem.W.WalkO q loose XP YP l.row.toRowW d [] (fun f vs=>PySem.call f vs):=
 L2.aK3 (n:=63) (k:=13) (x := "_law_script") (CX:=fun _=>CX0) (sp:=fun w=>aGS (K w.params)) hn (by decide) hdf ⟨rfl,by decide,by decide⟩ hY F (fun _ _ a ns hl _ hS=>⟨a,ns,rfl,hS,hl,fun _=>rfl⟩) fun _ _ _ _ _ z=>z
end My
def PySem.W.Fast.tw14679801441775433386:=()
def PySem.W.Fast.tw17108592342710539419:=()
def PySem.W.Fast.tw18007038312556124596:=()
def PySem.W.Fast.tw2307570518514943277:=()
def PySem.W.Fast.tw2538677054921106924:=()
def PySem.W.Fast.tw4106052220789971696:=()
def PySem.W.Fast.tw6388464464246382738:=()
def PySem.W.Fast.tw6895745490393814243:=()
def PySem.W.Fast.tw5368872251086784847:=()
def PySem.W.Fast.tw3010339986232007044:=()
def PySem.W.Fast.tw10522325592598501418:=()
def PySem.W.Fast.tw4949413098482872472:=()
def PySem.W.Fast.tw9872729935070858116:=()
def PySem.W.Fast.tw12202893273692599391:=()
def PySem.W.Fast.tw9465947857926227526:=()
def PySem.W.Fast.tw1299058007788422177:=()
def PySem.W.Fast.tw11853971153533886180:=()
def PySem.W.Fast.tw15259247546444385583:=()
open PySem PySem.W PyProof.Rows
set_option maxRecDepth 100000 in
set_option maxHeartbeats 0 in
theorem PySem.Challenge.cw_leadtimes_k28_whole_each_exchanged_once_holds : PySem.Challenge.rw_leadtimes_k28_whole_each_exchanged_once.Holds := by
 w_on; o_law; k_head; (case hw => w_witness2)
 k_fill
 refine My.walk (l := PySem.Challenge.rw_leadtimes_k28_whole_each_exchanged_once) rfl rfl (fun w h Y => PySem.W.kIn_of Y) ?F
 case F =>
  intro w mg fa h KX G hmg
  refine' My.aM2 hmg (My.aOJ KX G ?x0 ?x1 ?x2 ?x3 ?x4 ?x5 ?x6 ?x7 ?x8 ?x9 ?xa ?xb ?xc ?xd ?xe ?xf ?xg ?xh ?xi ?xj) (My.aKQ ?xk ?xl ?xm ?xn ?xo ?xp ?xq ?xj ?xr ?xs ?xt ?xu ?xv ?xi ?xw ?xx ?xy ?xz ?x10 ?x11 ?x12 ?x13 ?x14 ?x15 ?x16 ?x17 ?x18 ?x19 ?x1a ?x1b ?x1c ?x1d ?x1e ?x1f ?x1g ?x1h ?x1i ?x1j ?x1k ?x1l ?x1m ?x1n) (My.cV KX G ?x1o ?x1p ?x1q ?x1r) (My.cV KX G ?x1s ?x1t ?x1u ?x1v) (My.cV KX G ?x1w ?x1x ?x1y ?x1z) (My.cV KX G ?x20 ?x21 ?x22 ?x23) (My.cV KX G ?x24 ?x25 ?x26 ?x27) (My.cV KX G ?x28 ?x29 ?x2a ?x2b) (My.cV KX G ?x2c ?x2d ?x2e ?x2f) (My.cV KX G ?x2g ?x2h ?x2i ?x2j) (My.cV KX G ?x2k ?x2l ?x2m ?x2n) (My.cV KX G ?x2o ?x2p ?x2q ?x2r) (My.cV KX G ?x2s ?x2t ?x2u ?x2v) (My.cV KX G ?x2w ?x2x ?x2y ?x2z) (My.cV KX G ?x30 ?x31 ?x32 ?x33) (My.cV KX G ?x34 ?x35 ?x36 ?x37) (My.cV KX G ?x38 ?x39 ?x3a ?x3b) (My.cV KX G ?x3c ?x3d ?x3e ?x3f) (My.cV KX G ?x3g ?x3h ?x3i ?x3j) (My.cV KX G ?x3k ?x3l ?x3m ?x3n) (My.cV KX G ?x3o ?x3p ?x3q ?x3r) (My.cV KX G ?x3s ?x3t ?x3u ?x3v) (My.cV KX G ?x3w ?x3x ?x3y ?x3z) (My.cV KX G ?x40 ?x41 ?x42 ?x43) (My.cV KX G ?x44 ?x45 ?x46 ?x47) (My.cV KX G ?x48 ?x49 ?x4a ?x4b) (My.cV KX G ?x4c ?x4d ?x4e ?x4f) (My.cV KX G ?x4g ?x4h ?x4i ?x4j) (My.cV KX G ?x4k ?x4l ?x4m ?x4n) (My.cV KX G ?x4o ?x4p ?x4q ?x4r) (My.cV KX G ?x4s ?x4t ?x4u ?x4v) (My.cV KX G ?x4w ?x4x ?x4y ?x4z) (My.cV KX G ?x50 ?x51 ?x52 ?x53) (My.cV KX G ?x54 ?x55 ?x56 ?x57) (My.cV KX G ?x58 ?x59 ?x5a ?x5b) (My.cV KX G ?x5c ?x5d ?x5e ?x5f) (My.cV KX G ?x5g ?x5h ?x5i ?x5j) (My.cV KX G ?x5k ?x5l ?x5m ?x5n) (My.cV KX G ?x5o ?x5p ?x5q ?x5r) (My.cV KX G ?x5s ?x5t ?x5u ?x5v) (My.cV KX G ?x5w ?x5x ?x5y ?x5z) (My.cV KX G ?x60 ?x61 ?x62 ?x63) (My.cV KX G ?x64 ?x65 ?x66 ?x67) (My.cV KX G ?x68 ?x69 ?x6a ?x6b) (PySem.W.mg_of KX G ?x6c) ⟨?x6d, ?x6e, ?x6f, ?x6g⟩ (My.aI0 ?x6h) (My.aI0 ?x6i) (My.aI0 ?x6j) (My.aOW ?x6k ?x6l ?x6m ?x6n ?x6o ?x6p ?x6q) (My.a9T ?x6r ?x6s ?x6t ?x6u ?x6v) (My.a9T ?x6w ?x6x ?x6y ?x6z ?x70) (My.a9T ?x71 ?x72 ?x73 ?x74 ?x75) (My.a9T ?x76 ?x77 ?x78 ?x79 ?x7a) (My.a9T ?x7b ?x7c ?x7d ?x7e ?x7f) (My.a9T ?x7g ?x7h ?x7i ?x7j ?x7k) My.law_true
  (case x6c|x6d|x6e|x6f|x6g|x6h|x6i|x6j|x6k|x6l|x6m|x6n|x6o|x6p|x6q|x6r|x6s|x6t|x6u|x6v|x6w|x6x|x6y|x6z|x70|x71|x72|x73|x74|x75|x76|x77|x78|x79|x7a|x7b|x7c|x7d|x7e|x7f|x7g|x7h|x7i|x7j|x7k|x1o|x1p|x1q|x1r|x1s|x1t|x1u|x1v|x1w|x1x|x1y|x1z|x20|x21|x22|x23|x24|x25|x26|x27|x28|x29|x2a|x2b|x2c|x2d|x2e|x2f|x2g|x2h|x2i|x2j|x2k|x2l|x2m|x2n|x2o|x2p|x2q|x2r|x2s|x2t|x2u|x2v|x2w|x2x|x2y|x2z|x30|x31|x32|x33|x34|x35|x36|x37|x38|x39|x3a|x3b|x3c|x3d|x3e|x3f|x3g|x3h|x3i|x3j|x3k|x3l|x3m|x3n|x3o|x3p|x3q|x3r|x3s|x3t|x3u|x3v|x3w|x3x|x3y|x3z|x40|x41|x42|x43|x44|x45|x46|x47|x48|x49|x4a|x4b|x4c|x4d|x4e|x4f|x4g|x4h|x4i|x4j|x4k|x4l|x4m|x4n|x4o|x4p|x4q|x4r|x4s|x4t|x4u|x4v|x4w|x4x|x4y|x4z|x50|x51|x52|x53|x54|x55|x56|x57|x58|x59|x5a|x5b|x5c|x5d|x5e|x5f|x5g|x5h|x5i|x5j|x5k|x5l|x5m|x5n|x5o|x5p|x5q|x5r|x5s|x5t|x5u|x5v|x5w|x5x|x5y|x5z|x60|x61|x62|x63|x64|x65|x66|x67|x68|x69|x6a|x6b|x0|x1|x2|x3|x4|x5|x6|x7|x8|x9|xa|xb|xc|xd|xe|xf|xg|xh => k_is)
  (case xk|xl|xm|xn|xo|xp|xq|xj|xr|xs|xt|xu|xv|xi|xw|xx|xy|xz|x10|x11|x12|x13|x14|x15|x16|x17|x18|x19|x1a|x1b|x1c|x1d|x1e|x1f|x1g|x1h|x1i|x1j|x1k|x1l|x1m|x1n => kit_is)
#print axioms PySem.Challenge.cw_leadtimes_k28_whole_each_exchanged_once_holds
