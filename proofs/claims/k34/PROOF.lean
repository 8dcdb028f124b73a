import PyProof.Rows.All
import Wide.All
import OpenK.AllK
import Wide.FinOn
import Lean
import PyProof.EqAt
import PyProof.EqKinds
import PyProof.TupleCall
import PyProof.P3Eq
import PyProof.P3In
import PyProof.NeData
import PyProof.FitsBits
import PySem.Challenge.RW_leadtimes_k34_papers_gone_and_come
noncomputable section
set_option compiler.extract_closed false
set_option Elab.async false
set_option linter.all false
set_option maxRecDepth 100000
namespace L2
open PySem PySem.Spec PyProof.Rows
abbrev Key:=Sum Int Str
noncomputable def aAH:Key→Value→Bool
 | .inl k,v=>Value.isInt k v
 | .inr x,v=>Value.isStrOf x v
noncomputable def aUZ (w:World):Key→Int
 | .inl k=>hashInt k
 | .inr x=>hashStr w x
theorem cO:∀{k:Key} {v:Value},aAH k v=true→(∃ i t,k=Sum.inl i∧v=Value.int i t)∨(∃ x t,k=Sum.inr x∧v=Value.str x t)
 | .inl i,v,h=>by
  obtain⟨t,e⟩:=Value.isInt_shape (k:=i) (v:=v) h;exact .inl ⟨i,t,rfl,e⟩
 | .inr x,v,h=>by
  obtain⟨t,e⟩:=Value.isStrOf_shape (x:=x) (v:=v) h;exact .inr ⟨x,t,rfl,e⟩
theorem aHE (i:Int)(t:Tok):aAH (.inl i) (.int i t)=true:=by simp[aAH,Value.isInt]
theorem aFK (x:Str)(t:Tok):aAH (.inr x) (.str x t)=true:=by simp[aAH,Value.isStrOf]
theorem aOV (a b:Int):decide ((Sum.inl a:Key)=Sum.inl b)=(a==b):=by
 by_cases e:a=b
 ·subst e; simp
 ·have h:¬(Sum.inl a:Key)=Sum.inl b:=fun q=>e (Sum.inl.inj q);rw[decide_eq_false h];exact(beq_eq_false_iff_ne.mpr e).symm
theorem aOO (a b:Str):decide ((Sum.inr a:Key)=Sum.inr b)=decide (a=b):=by
 by_cases e:a=b
 ·subst e; simp
 ·have h:¬(Sum.inr a:Key)=Sum.inr b:=fun q=>e (Sum.inr.inj q);rw[decide_eq_false h,decide_eq_false e]
theorem aOL (a:Int)(b:Str):decide ((Sum.inl a:Key)=Sum.inr b)=false:=decide_eq_false (fun q=>nomatch q)
theorem aQB (a:Str)(b:Int):decide ((Sum.inr a:Key)=Sum.inl b)=false:=decide_eq_false (fun q=>nomatch q)
noncomputable def eX (prog:Program)(w:World):PySem.KeyKind prog w Key where
 is:=aAH
 hash:=aUZ w
 inj:=fun v a b ha hb=>by
  rcases cO ha with⟨i,t,rfl,rfl⟩|⟨x,t,rfl,rfl⟩
  ·rcases cO hb with⟨j,u,rfl,e⟩|⟨y,u,rfl,e⟩
   ·injection e with e1 _; rw[e1]
   ·exact nomatch e
  ·rcases cO hb with⟨j,u,rfl,e⟩|⟨y,u,rfl,e⟩
   ·exact nomatch e
   ·injection e with e1 _; rw[e1]
 byValue:=fun k v h=>by
  rcases cO h with⟨i,t,rfl,rfl⟩|⟨x,t,rfl,rfl⟩<;>rfl
 pyHash:=fun hv h=>by
  rcases cO hv with⟨i,t,rfl,rfl⟩|⟨x,t,rfl,rfl⟩
  ·exact wpAny_pyHash_int h
  ·exact wpAny_pyHash_str h
 eqBool:=fun hu hv h=>by
  rcases cO hu with⟨i,t,rfl,rfl⟩|⟨x,t,rfl,rfl⟩
  ·rcases cO hv with⟨j,u,rfl,rfl⟩|⟨y,u,rfl,rfl⟩
   ·rw[aOV] at h; exact wpAny_eqBool_int h
   ·rw[aOL] at h; exact SeqAt.EqAt.int_str i t y u _ _ _ _ h
  ·rcases cO hv with⟨j,u,rfl,rfl⟩|⟨y,u,rfl,rfl⟩
   ·rw[aQB] at h; exact SeqAt.EqAt.str_int x t j u _ _ _ _ h
   ·rw[aOO] at h; exact wpAny_eqBool_str h
 «strs»:=fun k x t v h=>by
  rcases cO h with⟨i,u,rfl,e⟩|⟨y,u,rfl,e⟩
  ·exact nomatch e
  ·injection e with e1 _;subst e1
   cases v<;>rfl
theorem a3L (prog:Program)(w:World)(k:Key)(v:Value):(eX prog w).is k v=aAH k v:=rfl
theorem a8K (prog:Program)(w:World)(i:Int)(t:Tok):(eX prog w).is (.inl i) (.int i t)=true:=aHE i t
theorem a97 (prog:Program)(w:World)(x:Str)(t:Tok):(eX prog w).is (.inr x) (.str x t)=true:=aFK x t
end L2
namespace L2
open PySem PySem.Spec PyProof.Rows
inductive V where
 | non|bl (b:Bool)|int (i:Int)|str (x:Str)|byt (b:Array UInt8)|flt (b:UInt64)|ref (a:Addr)|ty (n:String)
 deriving DecidableEq
noncomputable def RelV:V→Value→Prop
 | .non,u=>u=Value.none
 | .bl b,u=>u=Value.bool b
 | .int i,u=>∃ t,u=Value.int i t
 | .str x,u=>∃ t,u=Value.str x t
 | .byt b,u=>∃ t,u=Value.bytes b t
 | .flt b,u=>∃ t,u=Value.float b t
 | .ref a,u=>u=Value.ref a
 | .ty n,u=>u=Value.type n
abbrev Vals:List V→List Value→Prop:=Paired RelV
theorem Vals.length {xs:List V}{us:List Value}(r:Vals xs us):xs.length=us.length:=Paired.length r
theorem Vals.get:∀{xs:List V} {us:List Value} {i:Nat} {x:V},Vals xs us→xs[i]?=some x→∃ u,us[i]?=some u∧RelV x u
 | _,_,_,_,.nil,e=>by simp at e
 | _,_,0,_,.cons r _,e=>by simp at e; subst e; exact⟨_,rfl,r⟩
 | _,_,i+1,x,.cons _ t,e=>by
  obtain⟨u,h1,h2⟩:=Vals.get (i:=i) (x:=x) t (by simpa using e);exact⟨u,by simpa using h1,h2⟩
theorem Vals.set {x:V}{u:Value}(r:RelV x u):∀{xs:List V} {us:List Value} (i:Nat),Vals xs us→Vals (xs.set i x) (us.set i u)
 | _,_,_,.nil=>.nil
 | _,_,0,.cons _ t=>.cons r t
 | _,_,i+1,.cons q t=>.cons q (Vals.set r i t)
theorem Vals.append:∀{xs ys:List V} {us ws:List Value},Vals xs us→Vals ys ws→Vals (xs++ys) (us++ws):=by
 intro xs ys us ws h q
 induction h with
 | nil=>exact q
 | cons r t ih=>exact .cons r ih
theorem Vals.take:∀{xs:List V} {us:List Value} (n:Nat),Vals xs us→Vals (xs.take n) (us.take n)
 | _,_,0,_=>.nil
 | _,_,_+1,.nil=>.nil
 | _,_,n+1,.cons r t=>.cons r (Vals.take n t)
theorem Vals.drop:∀{xs:List V} {us:List Value} (n:Nat),Vals xs us→Vals (xs.drop n) (us.drop n)
 | _,_,0,r=>r
 | _,_,_+1,.nil=>.nil
 | _,_,n+1,.cons _ t=>Vals.drop n t
noncomputable def RelO:Option V→Option Value→Prop
 | some v,some u=>RelV v u
 | none,none=>True
 | _,_=>False
noncomputable def KV {κ:Type}:List (κ×V)→List (κ×Value)→Prop:=Paired fun(p:κ×V) (q:κ×Value)=>p.1=q.1∧RelV p.2 q.2
noncomputable def kV:Key→V
 | .inl i=>.int i
 | .inr x=>.str x
inductive HO where
 | lst (xs:List V)
 | tup (xs:List V)
 | dK (kvs:List (Key×V))|dT (kvs:List (List Key×V))
 | set (S:Int→Bool) (n:Nat)
 | ins (C dx:Addr) (fs:List (Str×V))
 | own (x:Addr)
 | xd (fs:List (Str×V))
 | met (f x:Addr)
 | rng (lo hi:Int)
 | frz (o:Obj) (u:HO)
 | tbl (ps:Array Value)
 | ext (φ:Heap→Prop)
abbrev Hp:=Addr→Option HO
noncomputable def upd (H:Hp)(a:Addr)(o:HO):Hp:=fun b=>if b=a then some o else H b
theorem aV {H:Hp}{a:Addr}{o:HO}:upd H a o a=some o:=by unfold upd; rw[if_pos rfl]
theorem aM {H:Hp}{a b:Addr}{o:HO}(h:b≠a):upd H a o b=H b:=by unfold upd; rw[if_neg h]
theorem gD {H:Hp}{a b:Addr}{o u:HO}(h:H a=some o)(h':H b=some u)(d:o≠u):a≠b:=by
 intro e; subst e; rw[h] at h'; exact d (Option.some.inj h')
theorem b7 {H:Hp}{a b:Addr}{o:HO}(h:H a=some o)(h':H b=none):a≠b:=by
 intro e; subst e; rw[h] at h'; cases h'
section
variable (P:Program)(w:World)
noncomputable def ObjOk (H:Hp)(h:Heap)(a:Addr):HO→Prop
 | .lst xs=>xs.length≤sizeLine∧∃(its:List Value) (n:Nat),Vals xs its∧h.get? a=some { cls:=.type "list", data:=.seq its.toArray n }
 | .tup xs=>xs.length≤sizeLine∧∃ its:List Value,Vals xs its∧IsTup h a its.toArray
 | .dK kvs=>kvs.length≤sizeLine∧(a==sysModules)=false∧∃ vs,KV kvs vs∧h.DictOf (eX P w) a vs
 | .dT kvs=>kvs.length≤sizeLine∧(a==sysModules)=false∧∃ xs:List (List Key×Addr×Value),
   Paired (fun(p:List Key×V) (q:List Key×Addr×Value)=>p.1=q.1∧H q.2.1=some (.tup (p.1.map kV))∧RelV p.2 q.2.2) kvs xs ∧
   ∃ o es ep,h.get? a=some o∧o.ExactDict∧o.data=.dict es ep∧es.toList=xs.map (entryOfKey (tupleKind (eX P w)))∧(xs.map (·.1)).Nodup
 | .set S n=>h.SetOf (intKind P w) a S n
 | .ins C dx fs=>H dx=some (.own a)∧fs.length≤1000∧dx≠a∧h.get? a=some (PySem.W.instObj C dx) ∧
   ∃ mA,h.Ns1 dx mA∧(∀ f,RelO (fs.lookup f) (mA f))∧PySem.Within mA (fs.map (·.1))
 | .own _=>∃ o,h.get? a=some o
 | .xd fs=>∃ mA,h.Ns1 a mA∧∀ f,RelO (fs.lookup f) (mA f)
 | .rng lo hi=>∃ t u v,h.get? a=some { cls:=.type "range", data:=.fields #[.int lo t,.int hi u,.int 1 v] }
 | .frz o u=>h.get? a=some o∧ObjOk H h a u
 | .tbl ps=>h.get? a=some { cls:=.none,data:=.fields ps }
 | .met f x=>h.get? a=some (PySem.W.methodObj (.ref f) (.ref x))
 | .ext φ=>φ h∧(∃ o,h.get? a=some o)∧∀ h1 h2:Heap,φ h1→(∀ o,h1.get? a=some o→h2.get? a=some o)→φ h2
noncomputable def HOk (H:Hp)(h:Heap):Prop:=∀ a o,H a=some o→ObjOk P w H h a o
end
section
variable {P:Program}{w:World}{H H':Hp}{h h':Heap}{a:Addr}{o:HO}
theorem ObjOk.lt (x:ObjOk P w H h a o):a<h.objs.size:=by
 cases o with
 | lst xs=>obtain⟨_,_,_,_,e⟩:=x; exact Heap.lt_size e
 | tup xs=>obtain⟨_,_,_,p⟩:=x; exact p.lt
 | dK kvs=>obtain⟨_,_,_,_,o,_,_,e,_⟩:=x; exact Heap.lt_size e
 | dT kvs=>obtain⟨_,_,_,_,o,_,_,e,_⟩:=x; exact Heap.lt_size e
 | set S n=>obtain⟨o,_,_,_,e,_⟩:=x; exact Heap.lt_size e
 | ins C dx fs=>obtain⟨_,_,_,e,_⟩:=x; exact Heap.lt_size e
 | own y=>obtain⟨_,e⟩:=x; exact Heap.lt_size e
 | xd fs=>obtain⟨_,⟨_,_,_,e,_⟩,_⟩:=x; exact Heap.lt_size e
 | rng lo hi=>obtain⟨_,_,_,e⟩:=x; exact Heap.lt_size e
 | frz ob u=>obtain⟨e,_⟩:=x; exact Heap.lt_size e
 | tbl ps=>exact Heap.lt_size (show h.get? a=some _ from x)
 | met f y=>exact Heap.lt_size (show h.get? a=some _ from x)
 | ext φ=>obtain⟨_,⟨_,e⟩,_⟩:=x; exact Heap.lt_size e
theorem Paired.mapP {α β:Type}{F G:α→β→Prop}:∀{l₁:List α} {l₂:List β},Paired F l₁ l₂→(∀ a b,F a b→G a b)→Paired G l₁ l₂:=by
 intro l₁ l₂ h f
 induction h with
 | nil=>exact .nil
 | cons r t ih=>exact .cons (f _ _ r) ih
theorem Paired.imp' {α β:Type}{F G:α→β→Prop}(f:∀ a b,F a b→G a b){l₁:List α}{l₂:List β}(r:Paired F l₁ l₂):Paired G l₁ l₂:=Paired.mapP r f
theorem ObjOk.stay (x:ObjOk P w H h a o)(k:∀ b u,(b=a∨H b=some (.own a))→h.get? b=some u→h'.get? b=some u)
  (ho:∀ b,H b=some (.own a)→H' b=some (.own a)) (ht:∀ b xs,H b=some (.tup xs)→H' b=some (.tup xs)):ObjOk P w H' h' a o:=by
 induction o with
 | lst xs=>obtain⟨z,its,n,r,e⟩:=x; exact⟨z,its,n,r,k _ _ (.inl rfl) e⟩
 | tup xs=>obtain⟨z,its,r,ob,e,c⟩:=x; exact⟨z,its,r,ob,k _ _ (.inl rfl) e,c⟩
 | dK kvs=>obtain⟨z,y,vs,r,ob,es,ep,e,c⟩:=x; exact⟨z,y,vs,r,ob,es,ep,k _ _ (.inl rfl) e,c⟩
 | dT kvs=>
  obtain⟨z,y,xs,r,ob,es,ep,e,c⟩:=x;exact⟨z,y,xs,Paired.mapP r fun p q z=>⟨z.1,ht _ _ z.2.1,z.2.2⟩,ob,es,ep,k _ _ (.inl rfl) e,c⟩
 | set S n=>obtain⟨ob,es,ep,t,e,c⟩:=x; exact⟨ob,es,ep,t,k _ _ (.inl rfl) e,c⟩
 | ins C dx fs=>
  obtain⟨d,z,ne,e,mA,⟨od,es,ep,e2,c⟩,r⟩:=x;exact⟨ho _ d,z,ne,k _ _ (.inl rfl) e,mA,⟨od,es,ep,k _ _ (.inr d) e2,c⟩,r⟩
 | own y=>obtain⟨ob,e⟩:=x; exact⟨ob,k _ _ (.inl rfl) e⟩
 | xd fs=>obtain⟨mA,⟨od,es,ep,e,c⟩,r⟩:=x; exact⟨mA,⟨od,es,ep,k _ _ (.inl rfl) e,c⟩,r⟩
 | rng lo hi=>obtain⟨t,u,v,e⟩:=x; exact⟨t,u,v,k _ _ (.inl rfl) e⟩
 | frz ob u ih=>obtain⟨e,q⟩:=x; exact⟨k _ _ (.inl rfl) e,ih q⟩
 | tbl ps=>
  have e:h.get? a=some { cls:=.none,data:=.fields ps }:=x;show h'.get? a=some { cls:=.none,data:=.fields ps };exact k a _ (.inl rfl) e
 | met f y=>
  have e:h.get? a=some (PySem.W.methodObj (.ref f) (.ref y)):=x;show h'.get? a=some (PySem.W.methodObj (.ref f) (.ref y));exact k a _ (.inl rfl) e
 | ext φ=>obtain⟨p,⟨o,e⟩,st⟩:=x; exact⟨st _ _ p fun o q=>k _ _ (.inl rfl) q,⟨o,k _ _ (.inl rfl) e⟩,st⟩
theorem HOk.lt (x:HOk P w H h)(e:H a=some o):a<h.objs.size:=(x a o e).lt
theorem HOk.fresh (x:HOk P w H h)(e:h.objs.size≤a):H a=none:=by
 cases q:H a with
 | none=>rfl
 | some u=>exact absurd (Nat.lt_of_lt_of_le (x.lt q) e) (Nat.lt_irrefl _)
theorem HOk.kept (x:HOk P w H h)(k:∀ b u,h.get? b=some u→h'.get? b=some u):HOk P w H h':=fun a o e=>
 (x a o e).stay (fun b u _ q=>k b u q) (fun _ q=>q) fun _ _ q=>q
theorem HOk.laid (x:HOk P w H h)(k:∀ b u,h.get? b=some u→h'.get? b=some u)(hp:h.objs.size≤a)(new:ObjOk P w (upd H a o) h' a o):HOk P w (upd H a o) h':=fun b u e=>by
 have hn:=x.fresh hp
 by_cases hb:b=a
 ·subst hb; rw[aV] at e; cases e; exact new
 ·rw[aM hb] at e;exact(x b u e).stay (fun c v _ q=>k c v q) (fun c q=>by rw[aM (b7 q hn)]; exact q) fun c xs q=>by rw[aM (b7 q hn)]; exact q
end
noncomputable def Rd (H:Hp)(a:Addr)(u:HO):Prop:=H a=some u∨∃ o,H a=some (.frz o u)
theorem Rd.ok {P:Program}{w:World}{H:Hp}{h:Heap}{a:Addr}{u:HO}(r:Rd H a u)(x:HOk P w H h):ObjOk P w H h a u:=by
 rcases r with r|⟨o,r⟩
 ·exact x a u r
 ·obtain⟨_,q⟩:=x a _ r;exact q
noncomputable def Mut:Option HO→Prop
 | some (.lst _)=>True
 | some (.dK _)=>True
 | some (.dT _)=>True
 | some (.set _ _)=>True
 | some (.ins _ _ _)=>True
 | some (.ext _)=>True
 | _=>False
section
variable {P:Program}{w:World}{H:Hp}{h h':Heap}{x e:Addr}{o':HO}
theorem HOk.write (ok:HOk P w H h)(mu:Mut (H x))(he:e=x∨H e=some (.own x))(k:∀ b u,b≠e→h.get? b=some u→h'.get? b=some u)(heo:∃ u,h'.get? e=some u)
  (new:ObjOk P w (upd H x o') h' x o'):HOk P w (upd H x o') h':=fun b u q=>by
 have nown:∀ c y,H c=some (.own y)→c≠x:=fun c y r z=>by subst z; rw[r] at mu; exact mu
 have ntup:∀ c xs,H c=some (.tup xs)→c≠x:=fun c xs r z=>by subst z; rw[r] at mu; exact mu
 by_cases hb:b=x
 ·subst hb; rw[aV] at q; cases q; exact new
 ·rw[aM hb] at q
  by_cases hbe:b=e
  ·have q':H b=some (.own x):=by
    rcases he with z|z
    ·exact absurd (hbe.trans z) hb
    ·rw[hbe]; exact z
   rw[q] at q'; cases q';obtain⟨v,hv⟩:=heo;exact⟨v,by rw[hbe]; exact hv⟩
  ·refine(ok b u q).stay (fun c v hc r=>k c v ?_ r) (fun c r=>by rw[aM (nown c b r)]; exact r) fun c xs r=>by rw[aM (ntup c xs r)]; exact r
   rcases hc with rfl|hc
   ·exact hbe
   ·rintro rfl;rcases he with z|z
    ·exact nown c b hc z
    ·rw[hc] at z; cases z; exact hb rfl
end
structure Un (fs ex:List Addr)(H H':Hp)(h h':Heap):Prop where
 keep:∀ b o,h.get? b=some o→H b=none→b∉fs→b∉ex→h'.get? b=some o
 slot:∀ b o,h.get? b=some o→H b=none→b∈fs→b∉ex→∃ sl,h'.get? b=some { o with slots:=sl }
 free:∀ b o,h.get? b=some o→H b=none→b∉ex→H' b=none
 there:∀ b o,h.get? b=some o→b∉ex→∃ o',h'.get? b=some o'
 tups:∀ b xs,H b=some (.tup xs)→H' b=some (.tup xs)
 frzs:∀ b o u,H b=some (.frz o u)→H' b=some (.frz o u)
 tbls:∀ b ps,H b=some (.tbl ps)→∃ more,H' b=some (.tbl (ps++more))
section
variable {fs fs' ex ex':List Addr}{H H1 H2:Hp}{h h1 h2 h':Heap}{a x e:Addr}{o:HO}
theorem Un.any (u:Un fs ex H H1 h h1){b:Addr}{ob:Obj}(q:h.get? b=some ob)(n:H b=none)(hx:b∉ex):∃ sl,h1.get? b=some { ob with slots:=sl }:=by
 by_cases hb:b∈fs
 ·exact u.slot b ob q n hb hx
 ·exact⟨ob.slots,u.keep b ob q n hb hx⟩
theorem Un.kept (k:∀ b u,h.get? b=some u→h'.get? b=some u):Un fs ex H H h h':=
 ⟨fun b ob q _ _ _=>k b ob q,fun b ob q _ _ _=>⟨ob.slots,k b ob q⟩,fun _ _ _ n _=>n,fun b ob q _=>⟨ob,k b ob q⟩,fun _ _ q=>q,fun _ _ _ q=>q,fun _ ps q=>⟨#[],by rw[q]; simp⟩⟩
theorem Un.refl:Un fs ex H H h h:=Un.kept fun _ _ q=>q
theorem Un.laid (k:∀ b u,h.get? b=some u→h'.get? b=some u)(hp:h.objs.size≤a)(hn:H a=none):Un fs ex H (upd H a o) h h' where
 keep:=fun b u q _ _ _=>k b u q
 slot:=fun b u q _ _ _=>⟨u.slots,k b u q⟩
 free:=fun b u q n _=>by rw[aM (Nat.ne_of_lt (Nat.lt_of_lt_of_le (Heap.lt_size q) hp))]; exact n
 there:=fun b u q _=>⟨u,k b u q⟩
 tups:=fun b xs q=>by rw[aM (b7 q hn)]; exact q
 frzs:=fun b u xs q=>by rw[aM (b7 q hn)]; exact q
 tbls:=fun b ps q=>⟨#[],by rw[aM (b7 q hn),q]; simp⟩
theorem Un.write (mu:Mut (H x))(he:e=x∨H e=some (.own x))(k:∀ b u,b≠e→h.get? b=some u→h'.get? b=some u)(heo:∃ u,h'.get? e=some u):Un fs ex H (upd H x o) h h':=by
 have hx:∀ b,H b=none→b≠x:=fun b n z=>by subst z; rw[n] at mu; exact mu
 have hb:∀ b,H b=none→b≠e:=fun b n z=>by
  subst z;rcases he with r|r
  ·exact hx b n r
  ·rw[n] at r; cases r
 have hm:∀ b u,H b=some u→¬Mut (some u)→b≠x:=fun b u q nm z=>by subst z; rw[q] at mu; exact nm mu
 refine⟨fun b u q n _ _=>k b u (hb b n) q,fun b u q n _ _=>⟨u.slots,k b u (hb b n) q⟩,fun b u q n _=>by rw[aM (hx b n)]; exact n,fun b u q _=>?_,
  fun b xs q=>by rw[aM (hm b _ q fun z=>z)]; exact q,fun b u xs q=>by rw[aM (hm b _ q fun z=>z)]; exact q,fun b ps q=>⟨#[],by rw[aM (hm b _ q fun z=>z),q]; simp⟩⟩
 by_cases hbe:b=e
 ·subst hbe; exact heo
 ·exact⟨u,k b u hbe q⟩
end
noncomputable def trk (h:Heap)(H:Hp):List Addr:=(List.range h.objs.size).filter fun a=>(H a).isSome
noncomputable def aJB (h:Heap)(H:Hp):Heap:=PySem.W.hideAll h (trk h H)
theorem aG4 (h:Heap)(H:Hp):(aJB h H).objs.size=h.objs.size:=PySem.W.hideAll_size _ _
theorem aJ0 {h:Heap}{H:Hp}{b:Addr}{o:Obj}(e:h.get? b=some o)(n:H b=none):(aJB h H).get? b=some o:=
 PySem.W.hideAll_get _ e fun hm=>by
  have q:(H b).isSome=true:=(List.mem_filter.mp hm).2;rw[n] at q; simp at q
theorem aLV {h:Heap}{H:Hp}{b:Addr}{o:Obj}(e:(aJB h H).get? b=some o):h.get? b=some o∧H b=none:=by
 have e':h.get? b=some o:=PySem.W.of_hideAll (trk h H) e;refine⟨e',?_⟩
 cases q:H b with
 | none=>rfl
 | some x=>
  have hm:b∈trk h H:=List.mem_filter.mpr ⟨List.mem_range.mpr (Heap.lt_size e'),by simp[q]⟩;have z:(aJB h H).get? b=none:=PySem.W.hideAll_none (trk h H) hm;rw[z] at e; cases e
end L2
namespace L2
open PySem PySem.Spec PyProof.Rows
structure Mod (K:PySem.W.Frag)(mg:Str→Option Value)(base:Heap):Prop where
 kin:K.In base
 glob:base.Ns mainGlobals mg
 blt:∃ mb,base.Ns builtinsNs mb∧∀ x:Str,x ≠ "__name__" → mb x=bootBuiltins x
 nolimit:base.NoLimit
structure Cx where
 prog:Program
 w:World
 K:PySem.W.Frag
 mg:Str→Option Value
 base:Heap
 A:Around
 N:List Str
 s₀:Shared
 H₀:Hp
 env:Env
 outer:List Env
 stack:List Env
 ex:List Addr
 fn:Str→Bool
 calm:Bool
 pn:List (Addr×Obj)
 xe:Value→Shared→Prop
noncomputable def frs (l:List Env):List Addr:=l.filterMap (·.frame)
abbrev Cx.fs (X:Cx):List Addr:=frs X.outer
noncomputable def Vis (sc:Scope)(x:Str):Prop:=sc.names.lookup x=some .local∨sc.names.lookup x=some .cell∨sc.names.lookup x=some .free
noncomputable def Loc (sc:Scope)(x:Str):Prop:=sc.names.lookup x=some .local∨sc.names.lookup x=some .cell
noncomputable def Look (env:Env)(h:Heap)(m:Str→Option Value)(x:Str)(u:Value):Prop:=
 (env.kindOf x=some .local∧m x=some u)∨((env.kindOf x=some .cell∨env.kindOf x=some .free)∧∃ c,env.cells.lookup x=some c∧h.IsCell c (some u))
structure Cx.Ok (X:Cx):Prop where
 mod:Mod X.K X.mg X.base
 kind:X.env.scope.kind=.function
 glob:X.env.globals=mainGlobals
 blt:X.env.builtins=builtinsNs
 above:X.s₀.heap.objs.size≤X.env.locals
 inj:∀ x y c,X.env.cells.lookup x=some c→X.env.cells.lookup y=some c→x=y
 has:∀ x,(X.env.kindOf x=some .cell∨X.env.kindOf x=some .free)→∃ c,X.env.cells.lookup x=some c
 cab:∀ x c,X.fn x=true→X.env.cells.lookup x=some c→X.s₀.heap.objs.size≤c
 hd:X.calm=true→X.A.handled=none
 frames:X.A.frames=some X.stack
 stk:X.stack=X.outer∨(X.stack=X.env::X.outer∧X.env.frame=some X.env.locals)
 exf:∀ b∈X.ex,b≠X.env.locals∧∀ x c,X.env.cells.lookup x=some c→c≠b
 bs:∀ b o,X.base.get? b=some o→X.s₀.heap.get? b=some o∧X.H₀ b=none
 bsz:X.base.objs.size≤X.s₀.heap.objs.size
 noex:∀ b o,X.base.get? b=some o→b∉X.ex
 exfs:∀ b∈X.ex,b∉X.fs
 funs:X.s₀.heap.FunFrames X.base X.outer
 frf:∀ b∈X.fs,X.H₀ b=none
structure Inv (X:Cx)(pins:List (Addr×Obj))(σ:List (Option V))(H:Hp)(s:Shared):Prop where
 ok:X.Ok
 os:s.os=X.s₀.os
 bare:AllBare s.gens
 base:Un X.fs X.ex X.H₀ H X.s₀.heap s.heap
 loc:∃ m,s.heap.Ns X.env.locals m∧∀(i:Nat) (x:Str) (v:V),X.N[i]?=some x→σ[i]?=some (some v)→Vis X.env.scope x→∃ u,RelV v u∧Look X.env s.heap m x u
 cell:∀ x c,X.env.cells.lookup x=some c→∃ v,s.heap.IsCell c v
 free:H X.env.locals=none
 freeC:∀ x c,X.env.cells.lookup x=some c→H c=none
 pin:∀ p∈X.pn++pins,s.heap.get? p.1=some p.2∧H p.1=none∧p.1≠X.env.locals∧p.1∉X.fs∧∀ v,p.2.data≠.cell v
 hok:HOk X.prog X.w H s.heap
 len:σ.length=X.N.length
section
variable {X:Cx}{pins:List (Addr×Obj)}{σ:List (Option V)}{H H':Hp}{s:Shared}{h':Heap}
theorem Cx.Ok.nofr (ok:X.Ok){b:Addr}{o:Obj}(e:X.base.get? b=some o):b∉X.fs:=fun hb=>by
 have:=(ok.funs.mem hb).1;rw[e] at this; cases this
theorem Inv.bs (I:Inv X pins σ H s):∀ b o,X.base.get? b=some o→s.heap.get? b=some o∧H b=none:=fun b o e=>
 ⟨I.base.keep b o (I.ok.bs b o e).1 (I.ok.bs b o e).2 (I.ok.nofr e) (I.ok.noex b o e),I.base.free b o (I.ok.bs b o e).1 (I.ok.bs b o e).2 (I.ok.noex b o e)⟩
theorem Inv.bk (I:Inv X pins σ H s):∀ b o,X.base.get? b=some o→s.heap.get? b=some o:=fun b o e=>(I.bs b o e).1
theorem Inv.mod (I:Inv X pins σ H s):Mod X.K X.mg X.base:=I.ok.mod
theorem Inv.kIn (I:Inv X pins σ H s):X.K.In s.heap:=I.ok.mod.kin.keeps I.bk
theorem Inv.lt (I:Inv X pins σ H s):X.env.locals<s.heap.objs.size:=let ⟨_,hn,_⟩:=I.loc; hn.lt
theorem Inv.sz (I:Inv X pins σ H s):X.s₀.heap.objs.size≤s.heap.objs.size:=Nat.le_trans I.ok.above (Nat.le_of_lt I.lt)
theorem Inv.nofs (I:Inv X pins σ H s){a:Addr}(h:s.heap.objs.size≤a):a∉X.fs:=fun hb=>by
 obtain⟨_,o,ho,_⟩:=I.ok.funs.mem hb;exact absurd (Nat.lt_of_lt_of_le (Heap.lt_size ho) (Nat.le_trans I.sz h)) (Nat.lt_irrefl _)
theorem Inv.cne (I:Inv X pins σ H s):∀ x c,X.env.cells.lookup x=some c→c≠X.env.locals:=fun x c e z=>by
 obtain⟨v,o,ho,hd⟩:=I.cell x c e;obtain⟨m,⟨o',es,ep,ho',hd',_⟩,_⟩:=I.loc;rw[z,ho'] at ho; cases ho; rw[hd'] at hd; cases hd
theorem Inv.funs (I:Inv X pins σ H s):s.heap.FunFrames X.base X.outer:=by
 have all:∀(l:List Env),(∀ b∈frs l,b∈X.fs)→X.s₀.heap.FunFrames X.base l→s.heap.FunFrames X.base l:=by
  intro l
  induction l with
  | nil=>intro _ _; trivial
  | cons env r ih=>
   intro hs hl;obtain⟨hk,⟨L,o,hf,hn,ho,hd⟩,hr⟩:=hl;have hL:L∈X.fs:=hs L (by unfold frs; rw[List.filterMap_cons,hf]; exact List.mem_cons_self);obtain⟨sl,e⟩:=I.base.slot L o ho (I.ok.frf L hL) hL fun z=>I.ok.exfs L z hL;exact⟨hk,⟨L,_,hf,hn,e,hd⟩,ih (fun b hb=>hs b (by unfold frs; rw[List.filterMap_cons,hf]; exact List.mem_cons_of_mem _ hb)) hr⟩
 exact all X.outer (fun _ hb=>hb) I.ok.funs
theorem Inv.stack (I:Inv X pins σ H s):s.heap.FunFrames X.base X.stack:=by
 rcases I.ok.stk with e|⟨e,hf⟩
 ·rw[e]; exact I.funs
 ·rw[e];obtain⟨m,hn,_⟩:=I.loc;refine .cons (by rw[I.ok.kind]; decide) hf hn ?_ I.funs;exact Heap.get?_none_of_le (Nat.le_trans I.ok.bsz I.ok.above)
theorem Inv.stkSub (I:Inv X pins σ H s):∀ b∈frs X.stack,b∈X.env.locals::X.fs:=fun b hb=>by
 rcases I.ok.stk with e|⟨e,hf⟩
 ·rw[e] at hb; exact List.mem_cons_of_mem _ hb
 ·rw[e] at hb;unfold frs at hb;rw[List.filterMap_cons,hf] at hb;exact hb
theorem Inv.stkFree (I:Inv X pins σ H s):∀ b∈frs X.stack,H b=none:=fun b hb=>by
 rcases List.mem_cons.mp (I.stkSub b hb) with e|hb
 ·rw[e]; exact I.free
 ·obtain⟨_,o,ho,_⟩:=I.ok.funs.mem hb;exact I.base.free b o ho (I.ok.frf b hb) fun z=>I.ok.exfs b z hb
theorem Inv.step {g':Array GenState}{t':Nat}{d':Drawn}{ch:List Addr}(I:Inv X pins σ H s)
  (hch:∀ b∈ch,(b∈X.ex∨X.s₀.heap.objs.size≤b)∧b≠X.env.locals∧(∀ x c,X.env.cells.lookup x=some c→c≠b)∧∀ p∈X.pn++pins,p.1≠b)
  (keep:∀ b o,b≠X.env.locals→b∉X.fs→b∉ch→s.heap.get? b=some o→H b=none→h'.get? b=some o)
  (slot:∀ b o,b≠X.env.locals→b∈X.fs→b∉ch→s.heap.get? b=some o→H b=none→∃ sl,h'.get? b=some { o with slots:=sl }) (free:∀ b o,b∉ch→s.heap.get? b=some o→H b=none→H' b=none)
  (there:∀ b o,b∉ch→s.heap.get? b=some o→∃ o',h'.get? b=some o')
  (tups:∀ b xs,H b=some (.tup xs)→H' b=some (.tup xs)) (frzs:∀ b o u,H b=some (.frz o u)→H' b=some (.frz o u)) (tbls:∀ b ps,H b=some (.tbl ps)→∃ more,H' b=some (.tbl (ps++more)))
  (ns:∀ m,s.heap.Ns X.env.locals m→h'.Ns X.env.locals m) (hok:HOk X.prog X.w H' h') (hg:AllBare g') :
  Inv X pins σ H' { s with heap:=h',gens:=g',drawn:=d',toks:=t' }:=by
 have neL:∀ b o,X.s₀.heap.get? b=some o→b≠X.env.locals:=fun b o e=>Nat.ne_of_lt (Nat.lt_of_lt_of_le (Heap.lt_size e) I.ok.above);have neC:∀ b o,X.s₀.heap.get? b=some o→b∉X.ex→b∉ch:=fun b o e hx hb=>by
  rcases(hch b hb).1 with z|z
  ·exact hx z
  ·exact absurd (Nat.lt_of_lt_of_le (Heap.lt_size e) z) (Nat.lt_irrefl _)
 have cellK:∀ x c,X.env.cells.lookup x=some c→∀ v,s.heap.IsCell c v→h'.IsCell c v:=fun x c e v ⟨o,ho,hd⟩=>by
  have nch:c∉ch:=fun z=>(hch c z).2.2.1 x c e rfl
  by_cases hc:c∈X.fs
  ·obtain⟨sl,q⟩:=slot c o (I.cne x c e) hc nch ho (I.freeC x c e);exact⟨_,q,hd⟩
  ·exact⟨o,keep c o (I.cne x c e) hc nch ho (I.freeC x c e),hd⟩
 refine⟨I.ok,I.os,hg,⟨fun b o e n hb hx=>?_,fun b o e n hb hx=>?_,fun b o e n hx=>?_,fun b o e hx=>?_,fun b xs e=>tups b xs (I.base.tups b xs e),fun b o xs e=>frzs b o xs (I.base.frzs b o xs e),fun b ps e=>?_⟩,?_,fun x c e=>?_,?_,fun x c e=>?_,fun p hp=>?_,hok,I.len⟩
 ·exact keep b o (neL b o e) hb (neC b o e hx) (I.base.keep b o e n hb hx) (I.base.free b o e n hx)
 ·obtain⟨sl,e1⟩:=I.base.slot b o e n hb hx;obtain⟨sl',e2⟩:=slot b _ (neL b o e) hb (neC b o e hx) e1 (I.base.free b o e n hx);exact⟨sl',e2⟩
 ·obtain⟨o',e1⟩:=I.base.there b o e hx;exact free b o' (neC b o e hx) e1 (I.base.free b o e n hx)
 ·obtain⟨o',e1⟩:=I.base.there b o e hx;exact there b o' (neC b o e hx) e1
 ·obtain⟨m1,e1⟩:=I.base.tbls b ps e;obtain⟨m2,e2⟩:=tbls b _ e1;exact⟨m1++m2,by rw[e2,Array.append_assoc]⟩
 ·obtain⟨m,hn,hl⟩:=I.loc;refine⟨m,ns m hn,fun i x v e1 e2 e3=>?_⟩;obtain⟨u,r,l⟩:=hl i x v e1 e2 e3;refine⟨u,r,?_⟩;rcases l with l|⟨k,c,e,z⟩
  ·exact .inl l
  ·exact .inr ⟨k,c,e,cellK x c e _ z⟩
 ·obtain⟨v,z⟩:=I.cell x c e;exact⟨v,cellK x c e v z⟩
 ·obtain⟨m,⟨o,_,_,ho,_⟩,_⟩:=I.loc;exact free _ o (fun z=>(hch _ z).2.1 rfl) ho I.free
 ·obtain⟨v,o,ho,hd⟩:=I.cell x c e;exact free c o (fun z=>(hch c z).2.2.1 x c e rfl) ho (I.freeC x c e)
 ·obtain⟨e,n,ne,nf,d⟩:=I.pin p hp;have nch:p.1∉ch:=fun z=>(hch p.1 z).2.2.2 p hp rfl;exact⟨keep p.1 p.2 ne nf nch e n,free p.1 p.2 nch e n,ne,nf,d⟩
theorem Inv.un {t':Nat}(I:Inv X pins σ H s)(u:Un X.fs [] H H' s.heap h')(hok:HOk X.prog X.w H' h'):Inv X pins σ H' { s with heap:=h',toks:=t' }:=by
 obtain⟨m,⟨o,es,ep,ho,r⟩,_⟩:=id I.loc;obtain⟨sl,hL⟩:=u.any ho I.free (by simp);exact I.step (g':=s.gens) (d':=s.drawn) (ch:=[]) (fun _ z=>nomatch z) (fun b o _ hb _ e n=>u.keep b o e n hb (by simp)) (fun b o _ hb _ e n=>u.slot b o e n hb (by simp)) (fun b o _ e n=>u.free b o e n (by simp)) (fun b o _ e=>u.there b o e (by simp)) u.tups u.frzs u.tbls (fun m' hm=>by
  obtain⟨o',es',ep',ho',r'⟩:=hm;rw[ho] at ho'; cases ho';exact⟨_,es',ep',hL,r'⟩) hok I.bare
theorem Inv.call {g':Array GenState}{t':Nat}{d':Drawn}{ch:List Addr}(I:Inv X pins σ H s)(u:Un (frs X.stack) ch H H' s.heap h')(hok:HOk X.prog X.w H' h')(hg:AllBare g')
  (hch:∀ b∈ch,(b∈X.ex∨X.s₀.heap.objs.size≤b)∧b≠X.env.locals∧(∀ x c,X.env.cells.lookup x=some c→c≠b)∧∀ p∈X.pn++pins,p.1≠b) :
  Inv X pins σ H' { s with heap:=h',gens:=g',drawn:=d',toks:=t' }:=by
 obtain⟨m,⟨o,es,ep,ho,r⟩,_⟩:=id I.loc;obtain⟨sl,hL⟩:=u.any ho I.free fun z=>(hch _ z).2.1 rfl;exact I.step (ch:=ch) hch (fun b o hL hb hc e n=>u.keep b o e n (fun z=>(List.mem_cons.mp (I.stkSub b z)).elim hL hb) hc) (fun b o _ _ hc e n=>u.any e n hc) (fun b o hc e n=>u.free b o e n hc) (fun b o hc e=>u.there b o e hc) u.tups u.frzs u.tbls (fun m' hm=>by
  obtain⟨o',es',ep',ho',r'⟩:=hm;rw[ho] at ho'; cases ho';exact⟨_,es',ep',hL,r'⟩) hok hg
theorem Inv.turned {t':Nat}{it:Addr}(I:Inv X pins σ H s)(k:∀ b o,b≠it→s.heap.get? b=some o→h'.get? b=some o)(hn:H it=none)(hL:it≠X.env.locals)
  (h1:it∈X.ex∨X.s₀.heap.objs.size≤it) (h2:∀ x c,X.env.cells.lookup x=some c→c≠it) (h3:∀ p∈X.pn++pins,p.1≠it):Inv X pins σ H { s with heap:=h',toks:=t' }:=by
 have nit:∀ b u,H b=some u→b≠it:=fun b u e z=>by rw[z,hn] at e; cases e
 refine I.step (g':=s.gens) (d':=s.drawn) (ch:=[it]) (fun b hb=>?_) (fun b o _ _ hc e _=>k b o (fun z=>hc (by simp[z])) e) (fun b o _ _ hc e _=>⟨o.slots,k b o (fun z=>hc (by simp[z])) e⟩) (fun _ _ _ _ n=>n)
  (fun b o hc e=>⟨o,k b o (fun z=>hc (by simp[z])) e⟩) (fun _ _ e=>e) (fun _ _ _ e=>e) (fun b ps e=>⟨#[],by rw[e]; simp⟩) (fun m hm=>?_) (fun b u e=>?_) I.bare
 ·have e:b=it:=by simpa using hb
  subst e;exact⟨h1,hL,h2,h3⟩
 ·obtain⟨o,es,ep,ho,r⟩:=hm;exact⟨o,es,ep,k _ o (Ne.symm hL) ho,r⟩
 ·refine(I.hok b u e).stay (fun c v hc q=>k c v ?_ q) (fun _ q=>q) fun _ _ q=>q;rcases hc with z|z
  ·rw[z]; exact nit b u e
  ·exact nit c _ z
theorem Inv.tok (I:Inv X pins σ H s)(t:Nat):Inv X pins σ H { s with toks:=t }:=I.un (h':=s.heap) (t':=t) Un.refl I.hok
theorem Inv.kept {t':Nat}(I:Inv X pins σ H s)(k:∀ b u,s.heap.get? b=some u→h'.get? b=some u):Inv X pins σ H { s with heap:=h',toks:=t' }:=I.un (Un.kept k) (I.hok.kept k)
theorem Inv.laid {a:Addr}{o:HO}{t':Nat}(I:Inv X pins σ H s)(k:∀ b u,s.heap.get? b=some u→h'.get? b=some u)(hp:s.heap.objs.size≤a)(new:ObjOk X.prog X.w (upd H a o) h' a o) :
  Inv X pins σ (upd H a o) { s with heap:=h',toks:=t' }:=I.un (Un.laid k hp (I.hok.fresh hp)) (I.hok.laid k hp new)
theorem Inv.write {x e:Addr}{o:HO}{t':Nat}(I:Inv X pins σ H s)(mu:Mut (H x))(he:e=x∨H e=some (.own x))(k:∀ b u,b≠e→s.heap.get? b=some u→h'.get? b=some u)(heo:∃ u,h'.get? e=some u)
  (new:ObjOk X.prog X.w (upd H x o) h' x o):Inv X pins σ (upd H x o) { s with heap:=h',toks:=t' }:=I.un (Un.write mu he k heo) (I.hok.write mu he k heo new)
theorem Inv.weak {σ':List (Option V)}(I:Inv X pins σ H s)(hl:σ'.length=σ.length)(w:∀(i:Nat) v,σ'[i]?=some (some v)→σ[i]?=some (some v)):Inv X pins σ' H s:=
 ⟨I.ok,I.os,I.bare,I.base,let ⟨m,hn,hl'⟩:=I.loc; ⟨m,hn,fun i x v e1 e2 e3=>hl' i x v e1 (w i v e2) e3⟩,I.cell,I.free,I.freeC,I.pin,I.hok,hl.trans I.len⟩
theorem Inv.pins_of {pins':List (Addr×Obj)}(I:Inv X pins σ H s)(h:∀ p∈pins',s.heap.get? p.1=some p.2∧H p.1=none∧p.1≠X.env.locals∧p.1∉X.fs∧∀ v,p.2.data≠.cell v):Inv X pins' σ H s:=
 ⟨I.ok,I.os,I.bare,I.base,I.loc,I.cell,I.free,I.freeC,fun p hp=>(List.mem_append.mp hp).elim (fun z=>I.pin p (List.mem_append_left _ z)) (h p),I.hok,I.len⟩
theorem aB2 {N:List Str}(hN:N.Nodup){i j:Nat}{x:Str}(a:N[i]?=some x)(b:N[j]?=some x):i=j:=by
 obtain⟨h1,e1⟩:=List.getElem?_eq_some_iff.mp a;obtain⟨h2,e2⟩:=List.getElem?_eq_some_iff.mp b;exact(List.getElem_inj hN).mp (e1.trans e2.symm)
theorem aG2 {M:Model}{A:Around}{E:Value→Shared→Prop}{i:Nat}{x:Str}{v:V}{u:Value}{Q:Unit→Shared→Prop}(I:Inv X pins σ H s)(hN:X.N.Nodup)(hi:X.N[i]?=some x)(hx:Loc X.env.scope x)(r:RelV v u)
  (h:∀ s',Inv X pins (σ.set i (some v)) H s'→(∃ a,Heap.SameBut a s.heap s'.heap∧(a=X.env.locals∨X.env.cells.lookup x=some a))→Q () s') (hf:X.fn x=true∨X.env.scope.names.lookup x=some .local:=by first|exact .inl rfl|exact .inr rfl|assumption):wpAny M A (storeName X.env x u) Q E s:=by
 obtain⟨m,hn,hl⟩:=id I.loc;have hcls:(X.env.scope.kind==.class||(X.env.scope.kind==.module&&X.env.locals != X.env.globals))=false:=by rw[I.ok.kind]; rfl
 have hiσ:i<σ.length:=by rw[I.len]; exact(List.getElem?_eq_some_iff.mp hi).1
 have cne:=I.cne;have tracked:∀{a:Addr} {h':Heap},(∃ o,s.heap.get? a=some o∧H a=none)→Heap.SameBut a s.heap h'→HOk X.prog X.w H h':=fun{a h'} ha hs b ob e=>by
  obtain⟨_,_,hfree⟩:=ha;refine(I.hok b ob e).stay (fun c w' hc q=>(hs.2 c ?_).trans q) (fun _ q=>q) fun _ _ q=>q;rintro rfl;rcases hc with rfl|hc
  ·rw[hfree] at e; cases e
  ·rw[hfree] at hc; cases hc
 rcases hx with hk|hk
 ·refine wpAny_storeName_local hk hn (fun h' hn' hs=>?_) hcls;obtain⟨oL,_,_,hoL,_⟩:=id hn;refine h _ ⟨I.ok,I.os,I.bare,⟨fun b o e n hb hx=>?_,fun b o e n hb hx=>?_,I.base.free,fun b o e hx=>?_,I.base.tups,I.base.frzs,I.base.tbls⟩,⟨_,hn',fun j y v' e1 e2 e3=>?_⟩,fun y c e=>?_,I.free,I.freeC,fun p hp=>?_,tracked ⟨oL,hoL,I.free⟩ hs,by simpa using I.len⟩ ⟨_,hs,.inl rfl⟩
  ·exact(hs.2 b (Nat.ne_of_lt (Nat.lt_of_lt_of_le (Heap.lt_size e) I.ok.above))).trans (I.base.keep b o e n hb hx)
  ·obtain⟨sl,e1⟩:=I.base.slot b o e n hb hx;exact⟨sl,(hs.2 b (Nat.ne_of_lt (Nat.lt_of_lt_of_le (Heap.lt_size e) I.ok.above))).trans e1⟩
  ·obtain⟨o',e1⟩:=I.base.there b o e hx;exact⟨o',(hs.2 b (Nat.ne_of_lt (Nat.lt_of_lt_of_le (Heap.lt_size e) I.ok.above))).trans e1⟩
  ·by_cases hj:j=i
   ·subst hj;rw[hi] at e1; cases e1;rw[List.getElem?_set_self hiσ] at e2
    cases e2
    exact⟨u,r,.inl ⟨hk,by simp⟩⟩
   ·rw[List.getElem?_set_ne (Ne.symm hj)] at e2;obtain⟨u',r',q⟩:=hl j y v' e1 e2 e3;refine⟨u',r',?_⟩;rcases q with⟨k,e⟩|⟨k,c,e,z⟩
    ·refine .inl ⟨k,?_⟩;have:y≠x:=fun e=>hj (aB2 hN e1 (e▸hi));simp[this,e]
    ·exact .inr ⟨k,c,e,z.sameBut hs (cne y c e)⟩
  ·obtain⟨w',z⟩:=I.cell y c e;exact⟨w',z.sameBut hs (cne y c e)⟩
  ·obtain⟨e,n,ne,nf,d⟩:=I.pin p hp;exact⟨(hs.2 p.1 ne).trans e,n,ne,nf,d⟩
 ·have hfn:X.fn x=true:=by
   rcases hf with z|z
   ·exact z
   ·rw[z] at hk; cases hk
  obtain⟨c,hc⟩:=I.ok.has x (.inl hk);obtain⟨w',z⟩:=I.cell x c hc;refine wpAny_storeName_cell I.ok.kind hk hc z (fun h' hc' hs=>?_);obtain⟨oc,hoc,hocd⟩:=id z;refine h { s with heap:=h' } ⟨I.ok,I.os,I.bare,⟨fun b o e n hb hx=>?_,fun b o e n hb hx=>?_,I.base.free,fun b o e hx=>?_,I.base.tups,I.base.frzs,I.base.tbls⟩,⟨m,hn.sameBut hs (Ne.symm (cne x c hc)),fun j y v' e1 e2 e3=>?_⟩,fun y c' e=>?_,I.free,I.freeC,fun p hp=>?_,tracked ⟨oc,hoc,I.freeC x c hc⟩ hs,by simpa using I.len⟩ ⟨c,hs,.inr hc⟩
  ·exact(hs.2 b (Nat.ne_of_lt (Nat.lt_of_lt_of_le (Heap.lt_size e) (I.ok.cab x c hfn hc)))).trans (I.base.keep b o e n hb hx)
  ·obtain⟨sl,e1⟩:=I.base.slot b o e n hb hx;exact⟨sl,(hs.2 b (Nat.ne_of_lt (Nat.lt_of_lt_of_le (Heap.lt_size e) (I.ok.cab x c hfn hc)))).trans e1⟩
  ·obtain⟨o',e1⟩:=I.base.there b o e hx;exact⟨o',(hs.2 b (Nat.ne_of_lt (Nat.lt_of_lt_of_le (Heap.lt_size e) (I.ok.cab x c hfn hc)))).trans e1⟩
  ·by_cases hj:j=i
   ·subst hj;rw[hi] at e1; cases e1;rw[List.getElem?_set_self hiσ] at e2
    cases e2
    exact⟨u,r,.inr ⟨.inl hk,c,hc,hc'⟩⟩
   ·rw[List.getElem?_set_ne (Ne.symm hj)] at e2;obtain⟨u',r',q⟩:=hl j y v' e1 e2 e3;refine⟨u',r',?_⟩;rcases q with q|⟨k,c',e,z'⟩
    ·exact .inl q
    ·refine .inr ⟨k,c',e,z'.sameBut hs ?_⟩;rintro rfl;exact hj (aB2 hN e1 (I.ok.inj _ _ _ e hc▸hi))
  ·by_cases hcc:c'=c
   ·subst hcc; exact⟨_,hc'⟩
   ·obtain⟨w2,z2⟩:=I.cell y c' e;exact⟨w2,z2.sameBut hs hcc⟩
  ·obtain⟨e,n,ne,nf,d⟩:=I.pin p hp;refine⟨(hs.2 p.1 ?_).trans e,n,ne,nf,d⟩;intro q;rw[q,hoc] at e;have q':oc=p.2:=Option.some.inj e;exact d w' (by rw[← q']; exact hocd)
theorem uU {M:Model}{A:Around}{E:Value→Shared→Prop}{i:Nat}{x:Str}{v:V}{u:Value}{Q:Unit→Shared→Prop}(I:Inv X pins σ H s)(hN:X.N.Nodup)(hi:X.N[i]?=some x)(hx:Loc X.env.scope x)(r:RelV v u)
  (h:∀ s',Inv X pins (σ.set i (some v)) H s'→Q () s') (hf:X.fn x=true∨X.env.scope.names.lookup x=some .local:=by first|exact .inl rfl|exact .inr rfl|assumption):wpAny M A (storeName X.env x u) Q E s:=
 aG2 I hN hi hx r (fun s' I' _=>h s' I') hf
theorem Inv.call' {s':Shared}{ch:List Addr}(I:Inv X pins σ H s)(ho:s'.os=s.os)(u:Un (frs X.stack) ch H H' s.heap s'.heap)(hok:HOk X.prog X.w H' s'.heap)(hg:AllBare s'.gens)
  (hch:∀ b∈ch,(b∈X.ex∨X.s₀.heap.objs.size≤b)∧b≠X.env.locals∧(∀ x c,X.env.cells.lookup x=some c→c≠b)∧∀ p∈X.pn++pins,p.1≠b):Inv X pins σ H' s':=by
 obtain⟨h',g',d',t',o'⟩:=s';have e:o'=s.os:=ho;subst e;exact I.call (g':=g') (t':=t') (d':=d') u hok hg hch
end
abbrev XK:=Value→Option Addr→Hp→Prop
abbrev St:=List (Option V)
abbrev VK:=V→Hp→Prop
abbrev TE:=St→Hp→VK→Prop
abbrev TT:=St→Hp→(Bool→Hp→Prop)→Prop
abbrev TA:=St→Hp→(List V→Hp→Prop)→Prop
structure Ends where
 nx:St→Hp→Prop
 rt:VK
 bk:St→Hp→Prop:=fun _ _=>False
 ct:St→Hp→Prop:=fun _ _=>False
abbrev TS:=Ends→St→Hp→Prop
noncomputable def EP (X:Cx)(pins:List (Addr×Obj))(σ:St)(Q:VK)(u:Value)(s':Shared):Prop:=∃ v H',Inv X pins σ H' s'∧RelV v u∧Q v H'
noncomputable def TP (X:Cx)(pins:List (Addr×Obj))(σ:St)(Q:Bool→Hp→Prop)(b:Bool)(s':Shared):Prop:=∃ H',Inv X pins σ H' s'∧Q b H'
noncomputable def AP (X:Cx)(pins:List (Addr×Obj))(σ:St)(Q:List V→Hp→Prop)(us:List Value)(s':Shared):Prop:=∃ vs H',Inv X pins σ H' s'∧Vals vs us∧Q vs H'
noncomputable def SP (X:Cx)(pins:List (Addr×Obj))(D:Ends)(f:Flow)(s':Shared):Prop:=
 match f with
 | .next=>∃ σ' H',Inv X pins σ' H' s'∧D.nx σ' H'
 | .brk=>∃ σ' H',Inv X pins σ' H' s'∧D.bk σ' H'
 | .cont=>∃ σ' H',Inv X pins σ' H' s'∧D.ct σ' H'
 | .ret u=>∃ v σ' H',Inv X pins σ' H' s'∧RelV v u∧D.rt v H'
noncomputable def PE (X:Cx)(e:Expr)(t:TE):Prop:=
 ∀(pins:List (Addr×Obj)) (s:Shared) (σ:St) (H:Hp) (Q:VK),Inv X pins σ H s→t σ H Q→wpAny (model X.prog X.w) X.A (eval e X.env) (EP X pins σ Q) X.xe s
noncomputable def PT (X:Cx)(e:Expr)(t:TT):Prop:=
 ∀(pins:List (Addr×Obj)) (s:Shared) (σ:St) (H:Hp) (Q:Bool→Hp→Prop),Inv X pins σ H s→t σ H Q→wpAny (model X.prog X.w) X.A (isTrue e X.env (eval e X.env)) (TP X pins σ Q) X.xe s
noncomputable def PW (X:Cx)(e:Expr)(t:TT):Prop:=
 ∀(whole:Sem Value) (pins:List (Addr×Obj)) (s:Shared) (σ:St) (H:Hp) (Q:Bool→Hp→Prop),Inv X pins σ H s→t σ H Q→wpAny (model X.prog X.w) X.A (isTrue e X.env whole) (TP X pins σ Q) X.xe s
theorem PW.pt {X:Cx}{e:Expr}{t:TT}(h:PW X e t):PT X e t:=h _
noncomputable def PA (X:Cx)(es:List Expr)(t:TA):Prop:=
 ∀(pos:Pos) (pins:List (Addr×Obj)) (s:Shared) (σ:St) (H:Hp) (Q:List V→Hp→Prop),Inv X pins σ H s→t σ H Q→wpAny (model X.prog X.w) X.A (spliced (backTo pos (starEach es X.env))) (AP X pins σ Q) X.xe s
noncomputable def PS (X:Cx)(st:Stmt)(t:TS):Prop:=
 ∀(pins:List (Addr×Obj)) (s:Shared) (σ:St) (H:Hp) (D:Ends),Inv X pins σ H s→t D σ H→wpAny (model X.prog X.w) X.A (exec st X.env) (SP X pins D) X.xe s
noncomputable def PSs (X:Cx)(st:List Stmt)(t:TS):Prop:=
 ∀(pins:List (Addr×Obj)) (s:Shared) (σ:St) (H:Hp) (D:Ends),Inv X pins σ H s→t D σ H→wpAny (model X.prog X.w) X.A (execs st X.env) (SP X pins D) X.xe s
theorem thn {α:Type}{t:Sem α}{Q Q':α→Shared→Prop}{M:Model}{A:Around}{E:Value→Shared→Prop}{s:Shared}(h:wpAny M A t Q E s)(hQ:∀ a s,Q a s→Q' a s):wpAny M A t Q' E s:=wpAny_mono h hQ fun _ _ x=>x
end L2
namespace L2
open PySem PySem.Spec PyProof.Rows
section
variable {X:Cx}
noncomputable def jZ (i:Nat):TE:=fun σ H Q=>∃ v,σ[i]?=some (some v)∧Q v H
noncomputable def tC (v:V):TE:=fun _ H Q=>Q v H
theorem aQE {i:Nat}{x:Str}{pos:Pos}(hN:X.N[i]?=some x)(hv:Vis X.env.scope x)(hd:(x==("__debug__" : Str))=false:=by decide)(hcd:(x==("__classdict__" : Str))=false:=by decide):PE X (.Name x pos) (jZ i):=by
 intro pins s σ H Q I h;obtain⟨v,e,h⟩:=h;obtain⟨m,hn,hl⟩:=I.loc;obtain⟨u,r,l⟩:=hl i x v hN e hv;have fin:EP X pins σ Q u s:=⟨v,H,I,r,h⟩;rcases l with⟨hk,hm⟩|⟨hk,c,hc,hcell⟩
 ·exact wpAny_Name (wpAny_loadName_local I.ok.kind hk hn hm fin) hd
 ·rcases hk with hk|hk
  ·exact wpAny_Name (wpAny_loadName_cell I.ok.kind hk hc hcell fin) hd
  ·exact wpAny_Name (wpAny_loadName_free I.ok.kind hk hc hcell fin hcd) hd
theorem aC {i j pos}:PE X (.Constant (.int i) j pos) (tC (.int i)):=fun _ _ _ H _ I h=>wpAny_Constant_int ⟨.int i,H,I.tok _,⟨_,rfl⟩,h⟩
theorem a2A {b j pos}:PE X (.Constant (.bool b) j pos) (tC (.bl b)):=fun _ _ _ H _ I h=>Constant_bool ⟨.bl b,H,I,rfl,h⟩
theorem gB {j pos}:PE X (.Constant .none j pos) (tC .non):=fun _ _ _ H _ I h=>Constant_none ⟨.non,H,I,rfl,h⟩
theorem jM {x j pos}:PE X (.Constant (.str x) j pos) (tC (.str x)):=fun _ _ _ H _ I h=>Calls.Constant_str ⟨.str x,H,I.tok _,⟨_,rfl⟩,h⟩
noncomputable def Gl (X:Cx)(x:Str):Prop:=X.env.kindOf x=some .globalImplicit
theorem a5A {E:Value→Shared→Prop}{pins:List (Addr×Obj)}{s:Shared}{σ:St}{H:Hp}{x:Str}{u:Value}{pos:Pos}{Q:Value→Shared→Prop}(I:Inv X pins σ H s)(hg:Gl X x)(hm:X.mg x=some u)(h:Q u s)
  (hd:(x==("__debug__" : Str))=false:=by decide):wpAny (model X.prog X.w) X.A (eval (.Name x pos) X.env) Q E s:=
 Calls.Name_function_global I.ok.kind hg (Calls.loadGlobal_global (by rw[I.ok.glob]; exact I.mod.glob.keeps I.bk) hm h) hd
theorem xZ {E:Value→Shared→Prop}{pins:List (Addr×Obj)}{s:Shared}{σ:St}{H:Hp}{x:Str}{u:Value}{pos:Pos}{Q:Value→Shared→Prop}(I:Inv X pins σ H s)(hg:Gl X x)(hm:X.mg x=none)(hv:bootBuiltins x=some u)(h:Q u s)
  (hn:x ≠ "__name__" := by decide) (hd:(x==("__debug__" : Str))=false:=by decide):wpAny (model X.prog X.w) X.A (eval (.Name x pos) X.env) Q E s:=by
 obtain⟨mb,h1,h2⟩:=I.mod.blt;exact Calls.Name_function_global I.ok.kind hg (Calls.loadGlobal_builtin (by rw[I.ok.glob]; exact I.mod.glob.keeps I.bk) hm (by rw[I.ok.blt]; exact h1.keeps I.bk) ((h2 x hn).trans hv) h) hd
theorem a3U {x:Str}{v:V}{u:Value}{pos:Pos}(hg:Gl X x)(hm:X.mg x=some u)(r:RelV v u)(hd:(x==("__debug__" : Str))=false:=by decide):PE X (.Name x pos) (tC v):=
 fun _ _ _ H _ I h=>a5A I hg hm ⟨v,H,I,r,h⟩ hd
theorem oX {x:Str}{v:V}{u:Value}{pos:Pos}(hg:Gl X x)(hm:X.mg x=none)(hv:bootBuiltins x=some u)(r:RelV v u)(hn:x ≠ "__name__" := by decide)(hd:(x==("__debug__" : Str))=false:=by decide):PE X (.Name x pos) (tC v):=
 fun _ _ _ H _ I h=>xZ I hg hm hv ⟨v,H,I,r,h⟩ hn hd
variable {a b:Expr}{ta tb:TE}{pos:Pos}
noncomputable def PC (X:Cx)(op:CmpOp)(a b:Expr)(t:TE):Prop:=
 ∀(pins:List (Addr×Obj)) (s:Shared) (σ:St) (H:Hp) (Q:VK),Inv X pins σ H s→t σ H Q →
  wpAny (model X.prog X.w) X.A (eval a X.env) (fun v s₁=>wpAny (model X.prog X.w) X.A (eval b X.env) (fun u s₂=>wpAny (model X.prog X.w) X.A (compareOp op v u) (EP X pins σ Q) X.xe s₂) X.xe s₁) X.xe s
noncomputable def tB (t:TE):TT:=fun σ H Q=>t σ H fun x H1=>∃ c,x=.bl c∧Q c H1
theorem aO9 {op:CmpOp}{t:TE}(h:PC X op a b t)(h1:behindInMarks op b=false:=by first|exact nobehind _ (by decide) (by decide)|rfl):PE X (.Compare a [op] [b] pos) t:=fun pins s σ H Q I hw=>wpAny_Compare1 (h pins s σ H Q I hw) h1
theorem dG {e:Expr}{t:TE}(h:PE X e t)(he:∀ whole,isTrue e X.env whole=(do let v←whole; standAt e.pos; holding [v] (truthy v)):=by intro _; rfl):PT X e (tB t):=by
 intro pins s σ H Q I hw;refine isTrue_plain (thn (h pins s σ H _ I hw) fun v s1 ⟨x,H1,I1,r1,q1⟩=>?_) (he _);obtain⟨d,rfl,q⟩:=q1
 cases r1
 exact wpAny_truthy_bool ⟨H1,I1,q⟩
variable {tA tB':TT}{rest:List Expr}
noncomputable def aUG (t u:TT):TT:=fun σ H Q=>t σ H fun c H1=>if c=true then u σ H1 Q else Q false H1
noncomputable def tOr (t u:TT):TT:=fun σ H Q=>t σ H fun c H1=>if c=true then Q true H1 else u σ H1 Q
noncomputable def aUE (t:TT):TT:=fun σ H Q=>t σ H fun c H1=>Q (!c) H1
theorem oR (ha:PT X a tA):PW X (.BoolOp .And [a] pos) tA:=by
 intro wh pins s σ H Q I h;refine isTrue_and (thn (ha pins s σ H Q I h) fun c s1 e=>?_)
 cases c with
 | true=>exact isTrue_and_nil e
 | false=>exact e
theorem tD (ha:PT X a tA):PW X (.BoolOp .Or [a] pos) tA:=by
 intro wh pins s σ H Q I h;refine isTrue_or (thn (ha pins s σ H Q I h) fun c s1 e=>?_)
 cases c with
 | false=>exact isTrue_or_nil e
 | true=>exact e
theorem vH (ha:PT X a tA)(hb:PW X (.BoolOp .And (b::rest) pos) tB'):PW X (.BoolOp .And (a::b::rest) pos) (aUG tA tB'):=by
 intro wh pins s σ H Q I h;refine isTrue_and (thn (ha pins s σ H _ I h) fun c s1 ⟨H1,I1,q1⟩=>?_)
 cases c with
 | true=>exact hb wh pins s1 σ H1 Q I1 q1
 | false=>exact⟨H1,I1,q1⟩
theorem v9 (ha:PT X a tA)(hb:PW X (.BoolOp .Or (b::rest) pos) tB'):PW X (.BoolOp .Or (a::b::rest) pos) (tOr tA tB'):=by
 intro wh pins s σ H Q I h;refine isTrue_or (thn (ha pins s σ H _ I h) fun c s1 ⟨H1,I1,q1⟩=>?_)
 cases c with
 | true=>exact⟨H1,I1,q1⟩
 | false=>exact hb wh pins s1 σ H1 Q I1 q1
theorem j6 (ha:PT X a tA):PT X (.UnaryOp .Not a pos) (aUE tA):=by
 intro pins s σ H Q I h;exact isTrue_not (ha pins s σ H (fun c H1=>Q (!c) H1) I h)
noncomputable def aOM (ta tb:TE):TE:=fun σ H Q=>ta σ H fun x H1=>∃ c,x=.bl c∧if c=true then tb σ H1 Q else Q (.bl false) H1
noncomputable def aPH (ta:TE):TE:=fun σ H Q=>ta σ H fun x H1=>∃ c,x=.bl c∧Q (.bl (!c)) H1
theorem a1I {op}{t:TE}(h:PE X a t):PE X (.BoolOp op [a] pos) t:=fun pins s σ H Q I hw=>BoolOp_one (h pins s σ H Q I hw)
theorem sZ (ha:PE X a ta)(hb:PE X (.BoolOp .And (b::rest) pos) tb):PE X (.BoolOp .And (a::b::rest) pos) (aOM ta tb):=by
 intro pins s σ H Q I h;refine BoolOp_and (thn (ha pins s σ H _ I h) fun v s1 ⟨x,H1,I1,r1,q1⟩=>?_);obtain⟨c,rfl,q1⟩:=q1
 cases r1
 refine wpAny_truthy_bool ?_
 cases c with
 | true=>exact hb pins s1 σ H1 Q I1 q1
 | false=>exact⟨.bl false,H1,I1,rfl,q1⟩
theorem aNH (ha:PE X a ta):PE X (.UnaryOp .Not a pos) (aPH ta):=by
 intro pins s σ H Q I h;refine UnaryOp_ (thn (ha pins s σ H _ I h) fun v s1 ⟨x,H1,I1,r1,q1⟩=>?_);obtain⟨c,rfl,q1⟩:=q1
 cases r1
 exact not_of (wpAny_truthy_bool ⟨.bl (!c),H1,I1,rfl,q1⟩)
noncomputable def tIf (t:TT)(ta tb:TE):TE:=fun σ H Q=>t σ H fun c H1=>if c=true then ta σ H1 Q else tb σ H1 Q
theorem aAX {c:Expr}(hc:PT X c tA)(ha:PE X a ta)(hb:PE X b tb):PE X (.IfExp c a b pos) (tIf tA ta tb):=by
 intro pins s σ H Q I h;refine wpAny_IfExp (thn (hc pins s σ H _ I h) fun d s1 ⟨H1,I1,q1⟩=>?_)
 cases d with
 | true=>exact ha pins s1 σ H1 Q I1 q1
 | false=>exact hb pins s1 σ H1 Q I1 q1
end
end L2
namespace L2
open PySem PySem.Spec PyProof.Rows
noncomputable def SqL (K:PySem.W.Frag)(H:Hp)(a:Addr)(xs:List V):Prop:=
 Rd H a (.lst xs) ∨
  ∃(o:Obj) (its:Array Value) (n:Nat),K.lookup a=some o∧o.cls=.type "list" ∧ o.dict=none∧o.data=.seq its n∧its.size≤sizeLine∧Vals xs its.toList
noncomputable def SqT (K:PySem.W.Frag)(H:Hp)(a:Addr)(xs:List V):Prop:=
 Rd H a (.tup xs) ∨
  ∃(o:Obj) (its:Array Value) (n:Nat),K.lookup a=some o∧o.cls=.type "tuple" ∧ o.data=.seq its n∧its.size≤sizeLine∧Vals xs its.toList
noncomputable def aUK:Value→Option V
 | .none=>some .non
 | .bool b=>some (.bl b)
 | .int i _=>some (.int i)
 | .str x _=>some (.str x)
 | .bytes b _=>some (.byt b)
 | .float b _=>some (.flt b)
 | .ref a=>some (.ref a)
 | .type n=>some (.ty n)
 | _=>none
theorem RelV.abs {x:V}{u:Value}(r:RelV x u):aUK u=some x:=by
 cases x with
 | non=>cases r; rfl
 | bl _=>cases r; rfl
 | int _=>obtain⟨t,rfl⟩:=r; rfl
 | str _=>obtain⟨t,rfl⟩:=r; rfl
 | byt _=>obtain⟨t,rfl⟩:=r; rfl
 | flt _=>obtain⟨t,rfl⟩:=r; rfl
 | ref _=>cases r; rfl
 | ty _=>cases r; rfl
theorem RelV.inj {x y:V}{u:Value}(r:RelV x u)(q:RelV y u):x=y:=Option.some.inj (r.abs.symm.trans q.abs)
theorem Vals.inj:∀{xs ys:List V} {us:List Value},Vals xs us→Vals ys us→xs=ys:=by
 intro xs ys us h
 induction h generalizing ys with
 | nil=>intro q; cases q; rfl
 | cons r t ih=>intro q; cases q with|cons r' t'=>rw[r.inj r',ih t']
section
variable {X:Cx}{pins:List (Addr×Obj)}{σ:St}{H:Hp}{s:Shared}{a:Addr}{xs ys:List V}
theorem SqL.of {K:PySem.W.Frag}(h:H a=some (.lst xs)):SqL K H a xs:=.inl (.inl h)
theorem SqT.of {K:PySem.W.Frag}(h:H a=some (.tup xs)):SqT K H a xs:=.inl (.inl h)
theorem Inv.list (I:Inv X pins σ H s)(h:SqL X.K H a xs):∃ its:List Value,Vals xs its∧PlainL s.heap a its.toArray∧xs.length≤sizeLine:=by
 rcases h with h|⟨o,its,n,hk,hc,hd,hs,hz,r⟩
 ·obtain⟨z,its,n,r,e⟩:=h.ok I.hok;exact⟨its,r,⟨_,n,e,rfl,rfl,rfl⟩,z⟩
 ·refine⟨its.toList,r,⟨o,n,I.kIn a o hk,hc,hd,by simpa using hs⟩,?_⟩;have e:=r.length;simp only[Array.length_toList] at e;omega
theorem Inv.tuple (I:Inv X pins σ H s)(h:SqT X.K H a xs):∃ its:List Value,Vals xs its∧IsTup s.heap a its.toArray∧xs.length≤sizeLine:=by
 rcases h with h|⟨o,its,n,hk,hc,hs,hz,r⟩
 ·obtain⟨z,its,r,p⟩:=h.ok I.hok;exact⟨its,r,p,z⟩
 ·refine⟨its.toList,r,⟨o,I.kIn a o hk,hc,n,by simpa using hs⟩,?_⟩;have e:=r.length;simp only[Array.length_toList] at e;omega
theorem Inv.list_inj (I:Inv X pins σ H s)(h:SqL X.K H a xs)(h':SqL X.K H a ys):xs=ys:=by
 obtain⟨its,r,⟨o,n,e,_,_,d⟩,_⟩:=I.list h;obtain⟨its',r',⟨o',n',e',_,_,d'⟩,_⟩:=I.list h';rw[e] at e'; cases e';rw[d] at d';injection d' with d1 _;have:its=its':=by simpa using congrArg Array.toList d1
 subst this;exact r.inj r'
theorem Inv.tuple_inj (I:Inv X pins σ H s)(h:SqT X.K H a xs)(h':SqT X.K H a ys):xs=ys:=by
 obtain⟨its,r,⟨o,e,_,n,d⟩,_⟩:=I.tuple h;obtain⟨its',r',⟨o',e',_,n',d'⟩,_⟩:=I.tuple h';rw[e] at e'; cases e';rw[d] at d';injection d' with d1 _;have:its=its':=by simpa using congrArg Array.toList d1
 subst this;exact r.inj r'
end
abbrev Cx.wish (X:Cx)(E:Value→Shared→Prop):Cx:={ X with xe:=E }
abbrev Cx.nox (X:Cx):Cx:=X.wish fun _ _=>False
theorem Cx.Ok.wish {X:Cx}(ok:X.Ok)(E:Value→Shared→Prop):(X.wish E).Ok:=
 ⟨ok.mod,ok.kind,ok.glob,ok.blt,ok.above,ok.inj,ok.has,ok.cab,ok.hd,ok.frames,ok.stk,ok.exf,ok.bs,ok.bsz,ok.noex,ok.exfs,ok.funs,ok.frf⟩
theorem Cx.Ok.unwish {X:Cx}{E:Value→Shared→Prop}(ok:(X.wish E).Ok):X.Ok:=
 ⟨ok.mod,ok.kind,ok.glob,ok.blt,ok.above,ok.inj,ok.has,ok.cab,ok.hd,ok.frames,ok.stk,ok.exf,ok.bs,ok.bsz,ok.noex,ok.exfs,ok.funs,ok.frf⟩
section
variable {X:Cx}{pins:List (Addr×Obj)}{σ:St}{H:Hp}{s:Shared}{E:Value→Shared→Prop}
theorem Inv.wish (I:Inv X pins σ H s)(E:Value→Shared→Prop):Inv (X.wish E) pins σ H s:=⟨I.ok.wish E,I.os,I.bare,I.base,I.loc,I.cell,I.free,I.freeC,I.pin,I.hok,I.len⟩
theorem Inv.unwish (I:Inv (X.wish E) pins σ H s):Inv X pins σ H s:=⟨I.ok.unwish,I.os,I.bare,I.base,I.loc,I.cell,I.free,I.freeC,I.pin,I.hok,I.len⟩
theorem SP.unwish {D:Ends}{f:Flow}{s':Shared}(h:SP (X.wish E) pins D f s'):SP X pins D f s':=by
 cases f with
 | next=>obtain⟨σ',H',I,q⟩:=h; exact⟨σ',H',I.unwish,q⟩
 | brk=>obtain⟨σ',H',I,q⟩:=h; exact⟨σ',H',I.unwish,q⟩
 | cont=>obtain⟨σ',H',I,q⟩:=h; exact⟨σ',H',I.unwish,q⟩
 | ret u=>obtain⟨v,σ',H',I,r,q⟩:=h; exact⟨v,σ',H',I.unwish,r,q⟩
theorem PSs.nox {st:List Stmt}{t:TS}(h:PSs X.nox st t):PSs X st t:=fun pins s σ H D I hw=>
 wpAny_mono (h pins s σ H D (I.wish _) hw) (fun _ _ q=>q.unwish) fun _ _ z=>False.elim z
end
section
variable {X:Cx}{st:Stmt}{rest:List Stmt}{t u:TS}{e:Expr}{te:TE}{pos:Pos}
noncomputable def aOZ:TS:=fun D σ H=>D.nx σ H
noncomputable def aU1 (t u:TS):TS:=fun D σ H=>t { D with nx:=u D } σ H
theorem bL:PSs X [] aOZ:=fun _ _ σ H _ I h=>wpAny_execs_nil ⟨σ,H,I,h⟩
theorem aD (h1:PS X st t)(h2:PSs X rest u):PSs X (st::rest) (aU1 t u):=by
 intro pins s σ H D I h;refine wpAny_execs_cons (thn (h1 pins s σ H { D with nx:=u D } I h) fun f s1 q=>?_)
 cases f with
 | next=>
  obtain⟨σ',H',I',q⟩:=q;exact h2 pins s1 σ' H' D I' q
 | ret v=>exact q
 | brk=>exact q
 | cont=>exact q
theorem aL (h1:PS X st t):PSs X [st] t:=by
 intro pins s σ H D I h;refine wpAny_execs_cons (thn (h1 pins s σ H D I h) fun f s1 q=>?_)
 cases f with
 | next=>exact wpAny_execs_nil q
 | ret v=>exact q
 | brk=>exact q
 | cont=>exact q
theorem Inv.quiet {pins:List (Addr×Obj)}{σ:St}{H:Hp}{s:Shared}(I:Inv X pins σ H s):interactive X.env=false:=by simp[interactive,I.ok.kind]
noncomputable def aIE (te:TE):TS:=fun D σ H=>te σ H fun _ H1=>D.nx σ H1
theorem iR (he:PE X e te)(hs:swapsWith e none pos.line X.env=pure false:=by rfl):PS X (.Expr e pos) (aIE te):=by
 intro pins s σ H D I h;exact wpAny_Expr_any (thn (he pins s σ H _ I h) fun v s1 ⟨x,H1,I1,r1,q1⟩=>⟨σ,H1,I1,q1⟩) I.quiet hs
noncomputable def aQW (te:TE):TS:=fun D σ H=>te σ H D.rt
theorem b8 (he:PE X e te):PS X (.Return (some e) pos) (aQW te):=by
 intro pins s σ H D I h;exact wpAny_Return_some (thn (he pins s σ H _ I h) fun v s1 ⟨x,H1,I1,r1,q1⟩=>⟨x,σ,H1,I1,r1,q1⟩)
noncomputable def aUB (c:TT)(t u:TS):TS:=fun D σ H=>c σ H fun b H1=>if b=true then t D σ H1 else u D σ H1
theorem cP {c:Expr}{a b:List Stmt}{tc:TT}(hc:PT X c tc)(ha:PSs X a t)(hb:PSs X b u):PS X (.If c a b pos) (aUB tc t u):=by
 intro pins s σ H D I h;refine wpAny_If (thn (hc pins s σ H _ I h) fun d s1 ⟨H1,I1,q1⟩=>?_)
 cases d with
 | true=>exact ha pins s1 σ H1 D I1 q1
 | false=>exact hb pins s1 σ H1 D I1 q1
noncomputable def aK4:TS:=fun _ _ _=>False
theorem vO:PS X st aK4:=fun _ _ _ _ _ _ h=>h.elim
end
abbrev TG:=V→St→Hp→(St→Hp→Prop)→Prop
abbrev TGs:=List V→St→Hp→(St→Hp→Prop)→Prop
noncomputable def PG (X:Cx)(target:Expr)(t:TG):Prop:=
 ∀(pins:List (Addr×Obj)) (s:Shared) (σ:St) (H:Hp) (v:V) (u:Value) (Q:St→Hp→Prop),Inv X pins σ H s→RelV v u→t v σ H Q →
  wpAny (model X.prog X.w) X.A (assign target X.env u) (fun _ s'=>∃ σ' H',Inv X pins σ' H' s'∧Q σ' H') X.xe s
noncomputable def PGs (X:Cx)(ts:List Expr)(t:TGs):Prop:=
 ∀(pins:List (Addr×Obj)) (s:Shared) (σ:St) (H:Hp) (vs:List V) (us:List Value) (Q:St→Hp→Prop),Inv X pins σ H s→Vals vs us→t vs σ H Q →
  wpAny (model X.prog X.w) X.A (assignInOrder ((assignEach ts X.env).map (·.2)) us) (fun _ s'=>∃ σ' H',Inv X pins σ' H' s'∧Q σ' H') X.xe s
abbrev aT9:=V→V→V→Hp→(Hp→Prop)→Prop
noncomputable def aTG (X:Cx)(t:aT9):Prop:=
 ∀(pins:List (Addr×Obj)) (s:Shared) (σ:St) (H:Hp) (o i v:V) (ov iv u:Value) (Q:Hp→Prop),Inv X pins σ H s→RelV o ov→RelV i iv→RelV v u→t o i v H Q →
  wpAny (model X.prog X.w) X.A (setItem ov iv u) (fun _ s'=>∃ H',Inv X pins σ H' s'∧Q H') X.xe s
abbrev TIp:=V→V→Hp→VK→Prop
noncomputable def PIp (X:Cx)(op:Operator)(t:TIp):Prop:=
 ∀(pins:List (Addr×Obj)) (s:Shared) (σ:St) (H:Hp) (x y:V) (v u:Value) (Q:VK),Inv X pins σ H s→RelV x v→RelV y u→t x y H Q →
  wpAny (model X.prog X.w) X.A (inplaceOp op v u) (EP X pins σ Q) X.xe s
section
variable {X:Cx}{pos:Pos}
noncomputable def aD0 (i:Nat):TG:=fun v σ H Q=>Q (σ.set i (some v)) H
theorem dC {i:Nat}{x:Str}(hN:X.N.Nodup)(hi:X.N[i]?=some x)(hx:Loc X.env.scope x)(hf:X.fn x=true∨X.env.scope.names.lookup x=some .local:=by first|exact .inl rfl|exact .inr rfl|assumption):PG X (.Name x pos) (aD0 i):=by
 intro pins s σ H v u Q I r h;exact wpAny_assign_Name (uU I hN hi hx r (fun s' I'=>⟨_,H,I',h⟩) hf)
noncomputable def aTS:TGs:=fun vs σ H Q=>vs=[]∧Q σ H
noncomputable def aPP (t:TG)(u:TGs):TGs:=fun vs σ H Q=>∃ v r,vs=v::r∧t v σ H fun σ' H'=>u r σ' H' Q
theorem a8N:PGs X [] aTS:=by
 intro pins s σ H vs us Q I r h;obtain⟨e,h⟩:=h;subst e
 cases r
 exact assignInOrder_nil ⟨σ,H,I,h⟩
theorem qW {e:Expr}{es:List Expr}{t:TG}{u:TGs}(h1:PG X e t)(h2:PGs X es u)
  (hs:(assignEach (e::es) X.env).map (·.2)=assign e X.env::(assignEach es X.env).map (·.2):=by rfl):PGs X (e::es) (aPP t u):=by
 intro pins s σ H vs us Q I r h;obtain⟨v,vr,e1,h⟩:=h;subst e1
 cases r with
 | cons r rr=>
  rw[hs];refine assignInOrder_cons (thn (h1 pins s σ H _ _ _ I r h) fun _ s1 ⟨σ1,H1,I1,q1⟩=>?_);exact h2 pins s1 σ1 H1 _ _ Q I1 rr q1
noncomputable def aU0 (K:PySem.W.Frag)(n:Nat)(t:TGs):TG:=fun v σ H Q=>∃ a xs,v=.ref a∧SqT K H a xs∧xs.length=n∧t xs σ H Q
theorem aH5 {es:List Expr}{k:Nat}{t:TGs}{n:Nat}(hc:X.calm=true)(h:PGs X es t)
  (hn:(assignEach es X.env).length=n:=by rfl) (hst:(assignEach es X.env).findIdx? (·.1)=none:=by rfl):PG X (.Tuple es k pos) (aU0 X.K n t):=by
 intro pins s σ H v u Q I r hw;obtain⟨a,xs,e1,hq,hl,hw⟩:=hw;subst e1
 cases r
 obtain⟨its,rv,ht,hz⟩:=I.tuple hq;refine assign_Tuple_tuple (I.ok.hd hc) ht (by simp[hn,←hl,rv.length]) hst fun h' hx=>?_;have I1:Inv X pins σ H { s with heap:=h' }:=I.kept (t':=s.toks) fun b o e=>hx b o (Nat.ne_of_lt (Heap.lt_size e)) e;exact h pins _ σ H xs _ Q I1 (by simpa using rv) hw
noncomputable def aTQ (to ti:TE)(t:aT9):TG:=fun v σ H Q=>to σ H fun o H1=>ti σ H1 fun i H2=>t o i v H2 fun H3=>Q σ H3
theorem aC3 {o i:Expr}{to ti:TE}{t:aT9}(ho:PE X o to)(hi:PE X i ti)(hs:aTG X t)
  (ha:∀ v,assign (.Subscript o i pos) X.env v=(do
   let ov←holding [v] (eval o X.env)
   let iv←holding [v,ov] (eval i X.env)
   standAt pos
   holding [v,ov,iv] (setItem ov iv v)
   release [v,ov,iv] []):=by intro _; rfl):PG X (.Subscript o i pos) (aTQ to ti t):=by
 intro pins s σ H v u Q I r h;rw[ha];refine wpAny_bind (wpAny_holding (thn (ho pins s σ H _ I h) fun ov s1 ⟨x,H1,I1,r1,q1⟩=>?_));refine wpAny_bind (wpAny_holding (thn (hi pins s1 σ H1 _ I1 q1) fun iv s2 ⟨y,H2,I2,r2,q2⟩=>?_));refine wpAny_bind (wpAny_standAt (wpAny_bind (wpAny_holding (thn (hs pins s2 σ H2 x y v ov iv u _ I2 r1 r2 r q2) fun _ s3 ⟨H3,I3,q3⟩=>?_))));exact wpAny_release ⟨σ,H3,I3,q3⟩
noncomputable def aPT (te:TE)(g:TG):TS:=fun D σ H=>te σ H fun x H1=>g x σ H1 D.nx
theorem aB6 {tg e:Expr}{te:TE}{g:TG}(he:PE X e te)(hg:PG X tg g)(hs:swapsWithSole [tg] e pos.line X.env=pure false:=by rfl)(hw:swappedStores [tg] e X.env=pure none:=by rfl)
  (h1:(assignEach [tg] X.env).map (·.2)=[assign tg X.env]:=by rfl):PS X (.Assign [tg] e pos) (aPT te g):=by
 intro pins s σ H D I h;refine wpAny_Assign_stores (thn (he pins s σ H _ I h) fun v s1 ⟨x,H1,I1,r1,q1⟩=>?_) hs hw;rw[h1];exact thn (hg pins s1 σ H1 x v _ I1 r1 q1) fun _ s2 q=>q
theorem bA {i:Nat}{x:Str}{e:Expr}{te:TE}{pos':Pos}(hN:X.N.Nodup)(hi:X.N[i]?=some x)(hx:Loc X.env.scope x)(he:PE X e te)(hs:swapsWith e (some (.Name x pos')) pos.line X.env=pure false:=by rfl)(hf:X.fn x=true∨X.env.scope.names.lookup x=some .local:=by first|exact .inl rfl|exact .inr rfl|assumption) :
  PS X (.Assign [.Name x pos'] e pos) (aPT te (aD0 i)):=by
 intro pins s σ H D I h;refine wpAny_Assign_Name (thn (he pins s σ H _ I h) fun v s1 ⟨y,H1,I1,r1,q1⟩=>?_) hs;exact uU I1 hN hi hx r1 (fun s2 I2=>⟨_,H1,I2,q1⟩) hf
noncomputable def aTL (i j:Nat)(ta:TA):TS:=fun D σ H=>ta σ H fun vs H1=>∃ v w,vs=[v,w]∧D.nx ((σ.set i (some v)).set j (some w)) H1
theorem aOD {i j:Nat}{x y:Str}{a b:Expr}{ta:TA}{px py pt:Pos}{kt k2 pt2}(hc:X.calm=true)(hN:X.N.Nodup)(hi:X.N[i]?=some x)(hj:X.N[j]?=some y)(hij:i≠j)
  (hx:X.env.scope.names.lookup x=some .local) (hy:X.env.scope.names.lookup y=some .local) (ha:PA X [a,b] ta)
  (hw:swappedStores [.Tuple [.Name x px,.Name y py] kt pt] (.Tuple [a,b] k2 pt2) X.env=pure (some [x,y]))
  (hs:swapsWithSole [.Tuple [.Name x px,.Name y py] kt pt] (.Tuple [a,b] k2 pt2) pos.line X.env=pure false:=by rfl) :
  PS X (.Assign [.Tuple [.Name x px,.Name y py] kt pt] (.Tuple [a,b] k2 pt2) pos) (aTL i j ta):=by
 intro pins s σ H D I h;rw[exec_Assign_arm];refine wpAny_bind (wpAny_standAt ?_);rw[hs];refine wpAny_bind (wpAny_pure ?_);rw[if_neg (by decide)];refine wpAny_bind (Tuple_ (thn (ha _ pins s σ H _ I h) fun us s1 ⟨vs,H1,I1,r1,q1⟩=>?_));obtain⟨v,w,e1,q1⟩:=q1;subst e1;obtain⟨u1,u2,rfl,rv,rw'⟩:∃ u1 u2,us=[u1,u2]∧RelV v u1∧RelV w u2:=by
  cases r1 with
  | cons p q=>
   cases q with
   | cons p' q'=>
    cases q'
    exact⟨_,_,rfl,p,p'⟩
 refine wpAny_newObj_type ?_ (by show 2≤sizeLine; decide);have I2:Inv X pins σ H1 { s1 with heap:=s1.heap.push { cls:=.type "tuple", data:=.seq [u1,u2].toArray } }:=I1.kept (t':=s1.toks) fun b o e=>Heap.get?_push_of_some _ e;rw[hw];refine wpAny_bind (wpAny_pure ?_);show wpAny (model X.prog X.w) X.A (do rule "assign.swapped-stores"; let items←unpackItems (.ref s1.heap.objs.size) 2 none; assignInOrder [fun v=>bindName X.env y v,fun v=>bindName X.env x v] items.reverse; pure Flow.next) _ _ _;refine wpAny_bind (wpAny_rule (wpAny_bind (unpackItems_tuple (items:=#[u1,u2]) (I.ok.hd hc) (IsTup.new s1.heap _) fun h' hx'=>?_)));have I3:=I2.kept (h':=h') (t':=s1.toks) fun b o e=>hx' b o (Nat.ne_of_lt (Heap.lt_size e)) e;show wpAny _ _ (assignInOrder [fun v=>bindName X.env y v,fun v=>bindName X.env x v] [u2,u1] >>= fun _=>pure Flow.next) _ _ _;refine wpAny_bind (assignInOrder_cons (wpAny_bindName (uU I3 hN hj (.inl hy) rw' (fun s2 I4=>?_) (.inr hy))));refine assignInOrder_cons (wpAny_bindName (uU I4 hN hi (.inl hx) rv (fun s3 I5=>assignInOrder_nil (wpAny_pure ?_)) (.inr hx)));rw[List.set_comm _ _ (Ne.symm hij)] at I5;exact⟨_,H1,I5,q1⟩
noncomputable def aU5 (i:Nat)(te:TE)(ti:TIp):TS:=fun D σ H=>∃ x,σ[i]?=some (some x)∧te σ H fun y H1=>ti x y H1 fun z H2=>D.nx (σ.set i (some z)) H2
theorem aO3 {i:Nat}{x:Str}{e:Expr}{te:TE}{op:Operator}{ti:TIp}{pos':Pos}(hN:X.N.Nodup)(hi:X.N[i]?=some x)(hx:Loc X.env.scope x)(he:PE X e te)(ho:PIp X op ti)(hf:X.fn x=true∨X.env.scope.names.lookup x=some .local:=by first|exact .inl rfl|exact .inr rfl|assumption) :
  PS X (.AugAssign (.Name x pos') op e pos) (aU5 i te ti):=by
 intro pins s σ H D I h;obtain⟨v,e1,h⟩:=h;obtain⟨m,hn,hl⟩:=I.loc;have vis:Vis X.env.scope x:=by rcases hx with k|k; exact .inl k; exact .inr (.inl k)
 obtain⟨u,r,l⟩:=hl i x v hi e1 vis;refine wpAny_AugAssign_Name ?_;have go:wpAny (model X.prog X.w) X.A (eval e X.env) (fun w s₂=>wpAny (model X.prog X.w) X.A (inplaceOp op u w) (fun r s₃=>wpAny (model X.prog X.w) X.A (storeName X.env x r) (fun _=>SP X pins D .next) X.xe s₃) X.xe s₂) X.xe s:=by
  refine thn (he pins s σ H _ I h) fun w s1 ⟨y,H1,I1,r1,q1⟩=>?_;refine thn (ho pins s1 σ H1 v y u w _ I1 r r1 q1) fun z s2 ⟨zv,H2,I2,r2,q2⟩=>?_;exact uU I2 hN hi hx r2 (fun s3 I3=>⟨_,H2,I3,q2⟩) hf
 rcases l with⟨hk,hm⟩|⟨hk,c,hc,hcell⟩
 ·exact wpAny_loadName_local I.ok.kind hk hn hm go
 ·rcases hk with hk|hk
  ·exact wpAny_loadName_cell I.ok.kind hk hc hcell go
  ·rcases hx with k|k
   ·have:X.env.scope.names.lookup x=some .free:=hk;rw[k] at this; cases this
   ·have:X.env.scope.names.lookup x=some .free:=hk;rw[k] at this; cases this
noncomputable def ipI (f:Int→Int→Int):TIp:=fun x y H Q=>∃ i j,x=.int i∧y=.int j∧Q (.int (f i j)) H
theorem aQG:PIp X .Add (ipI fun i j=>i+j):=by
 intro pins s σ H x y v u Q I r1 r2 h;obtain⟨i,j,e1,e2,q⟩:=h;subst e1; subst e2;obtain⟨t,rfl⟩:=r1;obtain⟨t',rfl⟩:=r2;exact iadd_int ⟨.int _,H,I.tok _,⟨_,rfl⟩,q⟩
end
section
variable {X:Cx}{pos:Pos}
noncomputable def aKB (c:TT)(tb:TS):TS:=fun D σ H=>∃ W:Nat→St→Hp→Prop,(∃ m,W m σ H)∧∀ m σ H,W m σ H →
 c σ H fun b H1=>if b=true then ∃ N:St→Hp→Prop,(∀ σ' H',N σ' H'→∃ m',m'<m∧W m' σ' H')∧tb { D with nx:=N,ct:=N,bk:=D.nx } σ H1 else D.nx σ H1
theorem zB {c:Expr}{body:List Stmt}{tc:TT}{tb:TS}(hp:PassesOwn (model X.prog X.w) X.A X.env X.xe)(hc:PT X c tc)(hb:PSs X body tb):PS X (.While c body [] pos) (aKB tc tb):=by
 intro pins s σ H D I h;obtain⟨W,⟨m0,w0⟩,turn⟩:=h;refine wpAny_While (codeAny_whileLoop (fun n s'=>∃ σ' H',Inv X pins σ' H' s'∧W n σ' H') ?_ m0 ⟨σ,H,I,w0⟩);rintro n s1 ⟨σ1,H1,I1,w1⟩;refine wpAny_passesOwn hp (thn (hc pins s1 σ1 H1 _ I1 (turn n σ1 H1 w1)) fun b s2 ⟨H2,I2,q2⟩=>?_)
 cases b with
 | true=>
  obtain⟨N,hN,q2⟩:=q2;rw[if_pos rfl];refine wpAny_passesOwn hp (thn (hb pins s2 σ1 H2 _ I2 q2) fun f s3 q3=>?_)
  cases f with
  | next=>
   obtain⟨σ3,H3,I3,n3⟩:=q3;obtain⟨m',hm,w3⟩:=hN σ3 H3 n3;exact⟨m',hm,σ3,H3,I3,w3⟩
  | cont=>
   obtain⟨σ3,H3,I3,n3⟩:=q3;obtain⟨m',hm,w3⟩:=hN σ3 H3 n3;exact⟨m',hm,σ3,H3,I3,w3⟩
  | brk=>exact q3
  | ret v=>exact q3
 | false=>
  rw[if_neg Bool.false_ne_true];exact wpAny_execs_nil ⟨σ1,H2,I2,q2⟩
end
structure It where
 go:Nat→Hp→Prop
 yld:Nat→Hp→V→Hp→Prop
 stop:Nat→Hp→Prop
noncomputable def aDQ (X:Cx)(pins:List (Addr×Obj))(H:Hp)(b:Addr):Prop:=
 H b=none∧b≠X.env.locals∧b∉X.fs∧(b∈X.ex∨X.s₀.heap.objs.size≤b)∧(∀ x c,X.env.cells.lookup x=some c→c≠b)∧∀ p∈X.pn++pins,p.1≠b
theorem Inv.fpOk {X:Cx}{pins:List (Addr×Obj)}{σ:St}{H H':Hp}{s:Shared}{b:Addr}(I:Inv X pins σ H s)(hb:s.heap.objs.size≤b)(hn:H' b=none):aDQ X pins H' b:=by
 refine⟨hn,Nat.ne_of_gt (Nat.lt_of_lt_of_le I.lt hb),I.nofs hb,.inr (Nat.le_trans I.sz hb),fun x c e z=>?_,fun p hp z=>?_⟩
 ·obtain⟨v,q⟩:=I.cell x c e;exact absurd (Nat.lt_of_lt_of_le q.lt (by rw[z]; exact hb)) (Nat.lt_irrefl _)
 ·exact absurd (Nat.lt_of_lt_of_le (Heap.lt_size (I.pin p hp).1) (by rw[z]; exact hb)) (Nat.lt_irrefl _)
structure Turn (P:Program)(w:World)(K:PySem.W.Frag)(tg:Expr)(J:It)(fp:List Addr)(it:Addr)(tn:Nat→Heap→Prop):Prop where
 mem:it∈fp
 obj:∀ i h,tn i h→∀ b∈fp,∃ o,h.get? b=some o∧∀ v,o.data≠.cell v
 keep:∀ i h h',tn i h→(∀ b∈fp,∀ o,h.get? b=some o→h'.get? b=some o)→tn i h'
 item:∀(X:Cx),X.prog=P→X.w=w→X.K=K→X.calm=true→∀(i:Nat) (pins:List (Addr×Obj)) (s:Shared) (σ:St) (H:Hp) (E:Value→Shared→Prop),Inv X pins σ H s→(∀ b∈fp,aDQ X pins H b)→tn i s.heap→J.go i H →
  wpAny (model P w) X.A (pyNext (.ref it)) (fun r s1=>∃ u,r=some u ∧
   wpAny (model P w) X.A (letOwnedTupleGo tg (.ref it) u) (fun _ s2=>∃ x H',Inv X pins σ H' s2∧RelV x u∧J.yld i H x H'∧tn (i+1) s2.heap∧∀ b∈fp,H' b=none) E s1) E s
 done:∀(X:Cx),X.prog=P→X.w=w→X.K=K→X.calm=true→∀(i:Nat) (pins:List (Addr×Obj)) (s:Shared) (σ:St) (H:Hp) (E:Value→Shared→Prop),Inv X pins σ H s→(∀ b∈fp,aDQ X pins H b)→tn i s.heap→J.stop i H →
  wpAny (model P w) X.A (pyNext (.ref it)) (fun r s1=>r=none∧Inv X pins σ H s1) E s
 self:∀(A:Around) (i:Nat) (s:Shared) (Q:Value→Shared→Prop) (E:Value→Shared→Prop),tn i s.heap→Q (.ref it) s→wpAny (model P w) A (pyIter (.ref it)) Q E s
abbrev TI:=St→Hp→(It→Hp→Prop)→Prop
noncomputable def PIE (X:Cx)(pins:List (Addr×Obj))(σ:St)(tg:Expr)(R:It→Hp→Prop)(itv:Value)(s2:Shared):Prop:=
 ∃(it:Addr) (fp:List Addr) (tn:Nat→Heap→Prop) (J:It) (H':Hp),itv=.ref it∧Inv X pins σ H' s2∧Turn X.prog X.w X.K tg J fp it tn∧tn 0 s2.heap∧(∀ b∈fp,aDQ X pins H' b)∧R J H'
noncomputable def PI (X:Cx)(tg iter:Expr)(wi:TI):Prop:=
 ∀(pins:List (Addr×Obj)) (s:Shared) (σ:St) (H:Hp) (R:It→Hp→Prop),Inv X pins σ H s→wi σ H R →
  wpAny (model X.prog X.w) X.A (eval iter X.env) (fun v s1=>wpAny (model X.prog X.w) X.A (pyIter v) (PIE X pins σ tg R) X.xe s1) X.xe s
theorem aLA {M:Model}{A:Around}{E:Value→Shared→Prop}{s:Shared}{tg:Expr}{it:Addr}{u:Value}{o:Obj}{n:String}{vs:Array Value}{Q:Unit→Shared→Prop}(ho:s.heap.get? it=some o)(hc:o.cls=.type n)(hd:o.data=.fields vs)
    (hn:["enumerate", "zip", "dict_itemiterator", "dict_reverseitemiterator", "odict_iterator", "itertools.zip_longest", "itertools.pairwise"].contains n=false) (hQ:Q () s):wpAny M A (letOwnedTupleGo tg (.ref it) u) Q E s:=by
  unfold letOwnedTupleGo
  cases tg<;>first
    | exact wpAny_pure hQ
    | (cases u<;>first
        | exact wpAny_pure hQ
        | (refine wpAny_bind (wpAny_load ho ?_)
           rw[hc,hd];show wpAny M A (if (["enumerate", "zip", "dict_itemiterator", "dict_reverseitemiterator", "odict_iterator", "itertools.zip_longest", "itertools.pairwise"].contains n&&vs[0]?==some (rawInt _))=true then _ else _) Q E s;rw[if_neg (by intro h; rw[hn,Bool.false_and] at h; cases h)];exact wpAny_pure hQ))
noncomputable def Itl (K:PySem.W.Frag)(a:Addr):It:=
 ⟨fun i H=>∃ xs x,SqL K H a xs∧xs[i]?=some x,fun i H x H'=>H'=H∧∀ xs,SqL K H a xs→xs[i]?=some x,fun i H=>∃ xs,SqL K H a xs∧xs.length≤i⟩
noncomputable def Itt (K:PySem.W.Frag)(a:Addr):It:=
 ⟨fun i H=>∃ xs x,SqT K H a xs∧xs[i]?=some x,fun i H x H'=>H'=H∧∀ xs,SqT K H a xs→xs[i]?=some x,fun i H=>∃ xs,SqT K H a xs∧xs.length≤i⟩
noncomputable def Itr (lo:Int)(n:Nat):It:=⟨fun i _=>i<n,fun i H x H'=>H'=H∧x=.int (lo+i),fun i _=>n≤i⟩
theorem aES {P:Program}{w:World}{K:PySem.W.Frag}{tg:Expr}(a it:Addr):Turn P w K tg (Itl K a) [it] it (fun i h=>h.IsListIter it a i) where
 mem:=by simp
 obj:=fun i h st b hb=>by
  have e:b=it:=by simpa using hb
  subst e;obtain⟨o,e,c,d⟩:=st;exact⟨o,e,fun v z=>by rw[d] at z; cases z⟩
 keep:=fun i h h' st k=>st.at fun o e=>k it (by simp) o e
 item:=by
  intro X hP hw hK hc i pins s σ H E I hf st hg;subst hP hw hK;obtain⟨xs,x,hq,hx⟩:=hg;obtain⟨its,rv,p,hz⟩:=I.list hq;obtain⟨u,hu,ru⟩:=rv.get hx;obtain⟨f0,f1,f2,f3,f4,f5⟩:=hf it (by simp);refine wpAny_pyNext_list_item st p.isList (x:=u) (by simpa using hu) fun h' st' sb=>?_;have I1:Inv X pins σ H { s with heap:=h' }:=I.turned (t':=s.toks) (fun b o hb e=>(sb.2 b hb).trans e) f0 f1 f3 f4 f5;obtain⟨o,e,c,d⟩:=id st';exact⟨u,rfl,aLA (s:={ s with heap:=h' }) e c d (by decide) ⟨x,H,I1,ru,⟨rfl,fun ys hy=>by rw[I.list_inj hy hq]; exact hx⟩,st',fun b hb=>(hf b hb).1⟩⟩
 done:=by
  intro X hP hw hK hc i pins s σ H E I hf st hg;subst hP hw hK;obtain⟨xs,hq,hx⟩:=hg;obtain⟨its,rv,p,hz⟩:=I.list hq;obtain⟨f0,f1,f2,f3,f4,f5⟩:=hf it (by simp);have hl:=rv.length;exact wpAny_pyNext_list_end (I.ok.hd hc) st p.isList (by simp; omega) fun h' eb=>⟨rfl,I.turned (t':=s.toks) (fun b o hb e=>eb b o hb e) f0 f1 f3 f4 f5⟩
 self:=fun _ _ _ _ _ st h=>wpAny_pyIter_listiter st h
theorem aCV {P:Program}{w:World}{K:PySem.W.Frag}{tg:Expr}(a it:Addr):Turn P w K tg (Itt K a) [it] it (fun i h=>h.IsTupleIter it a i) where
 mem:=by simp
 obj:=fun i h st b hb=>by
  have e:b=it:=by simpa using hb
  subst e;obtain⟨o,e,c,d⟩:=st;exact⟨o,e,fun v z=>by rw[d] at z; cases z⟩
 keep:=fun i h h' st k=>st.at fun o e=>k it (by simp) o e
 item:=by
  intro X hP hw hK hc i pins s σ H E I hf st hg;subst hP hw hK;obtain⟨xs,x,hq,hx⟩:=hg;obtain⟨its,rv,p,hz⟩:=I.tuple hq;obtain⟨u,hu,ru⟩:=rv.get hx;obtain⟨f0,f1,f2,f3,f4,f5⟩:=hf it (by simp);refine wpAny_pyNext_tuple_item st (show s.heap.IsTuple a its.toArray from p) (x:=u) (by simpa using hu) fun h' st' sb=>?_;have I1:Inv X pins σ H { s with heap:=h' }:=I.turned (t':=s.toks) (fun b o hb e=>(sb.2 b hb).trans e) f0 f1 f3 f4 f5;obtain⟨o,e,c,d⟩:=id st';exact⟨u,rfl,aLA (s:={ s with heap:=h' }) e c d (by decide) ⟨x,H,I1,ru,⟨rfl,fun ys hy=>by rw[I.tuple_inj hy hq]; exact hx⟩,st',fun b hb=>(hf b hb).1⟩⟩
 done:=by
  intro X hP hw hK hc i pins s σ H E I hf st hg;subst hP hw hK;obtain⟨xs,hq,hx⟩:=hg;obtain⟨its,rv,p,hz⟩:=I.tuple hq;obtain⟨f0,f1,f2,f3,f4,f5⟩:=hf it (by simp);have hl:=rv.length;exact wpAny_pyNext_tuple_end (I.ok.hd hc) st (show s.heap.IsTuple a its.toArray from p) (by simp; omega) fun h' eb=>⟨rfl,I.turned (t':=s.toks) (fun b o hb e=>eb b o hb e) f0 f1 f3 f4 f5⟩
 self:=fun _ _ _ _ _ st h=>wpAny_pyIter_tupleiter st h
theorem aDH {P:Program}{w:World}{K:PySem.W.Frag}{tg:Expr}(it:Addr)(lo:Int)(n:Nat):Turn P w K tg (Itr lo n) [it] it (fun i h=>IsRangeIter h it (lo+(i:Nat)*1) ((n:Int)-(i:Nat)) 1) where
 mem:=by simp
 obj:=fun i h st b hb=>by
  have e:b=it:=by simpa using hb
  subst e;exact⟨_,st,fun v z=>by
   have z':Data.fields _=Data.cell v:=z
   cases z'⟩
 keep:=fun i h h' st k=>k it (by simp) _ st
 item:=by
  intro X hP hw hK hc i pins s σ H E I hf st hg;subst hP hw hK;obtain⟨f0,f1,f2,f3,f4,f5⟩:=hf it (by simp);have W:=Walks.range (prog:=X.prog) (w:=X.w) (I.ok.hd hc) it lo 1 n;refine W.item i s _ _ hg st fun v h' tk hv st' kk=>?_;obtain⟨t,rfl⟩:=hv;have I1:Inv X pins σ H { s with heap:=h',toks:=tk }:=I.turned (fun b o hb e=>kk b o (by simpa using hb) e) f0 f1 f3 f4 f5;refine⟨_,rfl,aLA (s:={ s with heap:=h',toks:=tk }) (n := "range_iterator") st' rfl rfl (by decide) ⟨.int (lo+i),H,I1,⟨t,?_⟩,⟨rfl,rfl⟩,st',fun b hb=>(hf b hb).1⟩⟩;rw[Int.mul_one]
 done:=by
  intro X hP hw hK hc i pins s σ H E I hf st hg;subst hP hw hK;obtain⟨f0,f1,f2,f3,f4,f5⟩:=hf it (by simp);exact wpAny_pyNext_range_end (I.ok.hd hc) st (by have:n≤i:=hg; omega) fun h' eb=>⟨rfl,I.turned (t':=s.toks) (fun b o hb e=>eb b o hb e) f0 f1 f3 f4 f5⟩
 self:=fun _ _ _ _ _ st h=>wpAny_pyIter_rangeiter st h
end L2
namespace L2
open PySem PySem.Spec PyProof.Rows
section
variable {X:Cx}{tg:Expr}
noncomputable def aPV (K:PySem.W.Frag)(tl:TE):TI:=fun σ H R=>tl σ H fun x H1=>∃ a,x=.ref a∧(∃ xs,SqL K H1 a xs)∧R (Itl K a) H1
noncomputable def aT6 (K:PySem.W.Frag)(tl:TE):TI:=fun σ H R=>tl σ H fun x H1=>∃ a,x=.ref a∧(∃ xs,SqT K H1 a xs)∧R (Itt K a) H1
theorem kZ {l:Expr}{tl:TE}(hl:PE X l tl):PI X tg l (aPV X.K tl):=by
 intro pins s σ H R I h;refine thn (hl pins s σ H _ I h) fun v s1 ⟨x,H1,I1,r1,q1⟩=>?_;obtain⟨a,e,⟨xs,hq⟩,q⟩:=q1;subst e
 cases r1
 obtain⟨its,rv,p,hz⟩:=I1.list hq;refine wpAny_pyIter_list p.isList ?_;refine⟨s1.heap.objs.size,[s1.heap.objs.size],_,_,H1,rfl,I1.kept (t':=s1.toks) fun b o e=>Heap.get?_push_of_some _ e,aES a _,⟨_,Heap.get?_push_size _ rfl,rfl,rfl⟩,fun b hb=>?_,q⟩;have e:b=s1.heap.objs.size:=by simpa using hb
 subst e;exact I1.fpOk (Nat.le_refl _) (I1.hok.fresh (Nat.le_refl _))
theorem aJX {l:Expr}{tl:TE}(hl:PE X l tl):PI X tg l (aT6 X.K tl):=by
 intro pins s σ H R I h;refine thn (hl pins s σ H _ I h) fun v s1 ⟨x,H1,I1,r1,q1⟩=>?_;obtain⟨a,e,⟨xs,hq⟩,q⟩:=q1;subst e
 cases r1
 obtain⟨its,rv,p,hz⟩:=I1.tuple hq;refine wpAny_pyIter_tuple (show s1.heap.IsTuple a its.toArray from p) ?_;refine⟨s1.heap.objs.size,[s1.heap.objs.size],_,_,H1,rfl,I1.kept (t':=s1.toks) fun b o e=>Heap.get?_push_of_some _ e,aCV a _,⟨_,Heap.get?_push_size _ rfl,rfl,rfl⟩,fun b hb=>?_,q⟩;have e:b=s1.heap.objs.size:=by simpa using hb
 subst e;exact I1.fpOk (Nat.le_refl _) (I1.hok.fresh (Nat.le_refl _))
theorem aI2 {pins:List (Addr×Obj)}{σ:St}{H:Hp}{s:Shared}{R:It→Hp→Prop}{E:Value→Shared→Prop}{lo hi:Int}{t u v:Tok}{tk:Nat}(I:Inv X pins σ H s)(h1 : -(2^62)≤lo)(h2:lo<2^62)(h3 : -(2^62)≤hi)(h4:hi<2^62)
  (q:R (Itr lo (hi-lo).toNat) H):wpAny (model X.prog X.w) X.A (pyIter (.ref s.heap.objs.size)) (PIE X pins σ tg R) E { s with heap:=s.heap.push { cls:=.type "range", data:=.fields #[.int lo t,.int hi u,.int 1 v] },toks:=tk }:=by
 refine wpAny_pyIter_range (IsRange.new ..) (small_one h1 h2 h3 h4) ?_;have I1:Inv X pins σ H { s with heap:=s.heap.push { cls:=.type "range", data:=.fields #[.int lo t,.int hi u,.int 1 v] },toks:=tk }:=I.kept fun b o e=>Heap.get?_push_of_some _ e;refine⟨(s.heap.push { cls:=.type "range", data:=.fields #[.int lo t,.int hi u,.int 1 v] }).objs.size,[(s.heap.push { cls:=.type "range", data:=.fields #[.int lo t,.int hi u,.int 1 v] }).objs.size],_,_,H,rfl,
  I1.kept (t':=tk) fun b o e=>Heap.get?_push_of_some _ e,aDH _ lo (hi-lo).toNat,?_,fun b hb=>?_,q⟩
 ·have e1:lo+((0:Nat):Int)*1=lo:=by simp
  have e2:(((hi-lo).toNat:Nat):Int)-((0:Nat):Int)=Builtin.Range.rangeSize lo hi 1:=by rw[rangeSize_one]; split<;>omega
  show IsRangeIter _ _ (lo+((0:Nat):Int)*1) ((((hi-lo).toNat:Nat):Int)-((0:Nat):Int)) 1;rw[e1,e2];exact Heap.get?_push_size _ rfl
 ·have e:b=(s.heap.push { cls:=.type "range", data:=.fields #[.int lo t,.int hi u,.int 1 v] }).objs.size:=by simpa using hb
  subst e;exact I1.fpOk (Nat.le_refl _) (I1.hok.fresh (Nat.le_refl _))
noncomputable def aNI (ta:TA):TI:=fun σ H R=>ta σ H fun vs H1=>∃ j:Int,vs=[.int j] ∧ -(2^62)≤j∧j<2^62∧R (Itr 0 j.toNat) H1
theorem aGR {a:Expr}{ta:TA}{p pos:Pos}(hg:Gl X "range")(hm:X.mg "range" = none)(ha:PA X [a] ta)(hs:starEach [a] X.env=[(false,eval a X.env)]:=by rfl):PI X tg (.Call (.Name "range" p) [a] [] pos) (aNI ta):=by
 intro pins s σ H R I h;refine Call_ (xZ I hg hm boot_range (PyProof.Rows.callWith_type1 (thn (ha pos pins s σ H _ I h) fun us s1 ⟨vs,H1,I1,r1,q1⟩=>?_) hs rfl));obtain⟨j,e,q1,q2,q⟩:=q1;subst e
 cases r1 with
 | cons r rr=>
  cases rr
  obtain⟨t,rfl⟩:=r;exact call_range_1 (aI2 I1 (by omega) (by omega) q1 q2 (by simpa using q))
noncomputable def aSP (wi:TI)(g:TG)(tb:TS):TS:=fun D σ H=>wi σ H fun J H1=>∃ W:Nat→Nat→St→Hp→Prop,(∃ m,W 0 m σ H1)∧∀ i m σ H,W i m σ H →
 (J.stop i H∧D.nx σ H)∨(J.go i H∧∃ N:St→Hp→Prop,(∀ σ' H',N σ' H'→∃ m',m'<m∧W (i+1) m' σ' H')∧∀ x H',J.yld i H x H'→g x σ H' fun σ2 H2=>tb { D with nx:=N,ct:=N,bk:=D.nx } σ2 H2)
noncomputable def a6L (fp:List Addr)(h:Heap):List (Addr×Obj):=fp.filterMap fun b=>(h.get? b).map fun o=>(b,o)
theorem rF {fp:List Addr}{h:Heap}{b:Addr}{o:Obj}(hb:b∈fp)(e:h.get? b=some o):(b,o)∈a6L fp h:=List.mem_filterMap.mpr ⟨b,hb,by rw[e]; rfl⟩
theorem aEY {fp:List Addr}{h:Heap}{p:Addr×Obj}(hp:p∈a6L fp h):p.1∈fp∧h.get? p.1=some p.2:=by
 obtain⟨b,hb,e⟩:=List.mem_filterMap.mp hp
 cases q:h.get? b with
 | none=>rw[q] at e; cases e
 | some o=>
  rw[q] at e;have e':(b,o)=p:=Option.some.inj e;subst e';exact⟨hb,q⟩
theorem Inv.pinned {pins:List (Addr×Obj)}{σ:St}{H:Hp}{s:Shared}{fp:List Addr}(I:Inv X pins σ H s)(hf:∀ b∈fp,aDQ X pins H b)(ho:∀ b∈fp,∃ o,s.heap.get? b=some o∧∀ v,o.data≠.cell v):Inv X (pins++a6L fp s.heap) σ H s:=
 I.pins_of fun p hp=>(List.mem_append.mp hp).elim (fun z=>I.pin p (List.mem_append_right _ z)) fun z=>by
  obtain⟨hb,e⟩:=aEY z;obtain⟨f0,f1,f2,_⟩:=hf p.1 hb;obtain⟨o,e',d⟩:=ho p.1 hb;rw[e] at e'; cases e';exact⟨e,f0,f1,f2,d⟩
theorem Inv.unpinned {pins pl:List (Addr×Obj)}{σ:St}{H:Hp}{s:Shared}(I:Inv X (pins++pl) σ H s):Inv X pins σ H s:=I.pins_of fun p hp=>I.pin p (List.mem_append_right _ (List.mem_append_left _ hp))
theorem a2M {iter:Expr}{body:List Stmt}{wi:TI}{g:TG}{tb:TS}{pos:Pos}(hp:PassesOwn (model X.prog X.w) X.A X.env X.xe)(hc:X.calm=true)(hi:PI X tg iter wi)(hg:PG X tg g)(hb:PSs X body tb)
  (hs:∀ x,foldedSetIterable iter X.env x=pure x:=by intro _; rfl):PS X (.For tg iter body [] pos) (aSP wi g tb):=by
 intro pins s σ H D I h;refine wpAny_For (thn (hi pins s σ H _ I h) fun v s1 h1=>thn h1 fun itv s2 h2=>?_) hs;obtain⟨it,fp,tn,J,H2,e,I2,T,st2,f2,W,⟨m0,w0⟩,turn⟩:=h2;subst e;have stat:∀{H':Hp},(∀ b∈fp,H' b=none)→∀ b∈fp,aDQ X pins H' b:=fun hn b hb=>⟨hn b hb,(f2 b hb).2⟩;refine codeAny_forLoop_any (fun n s'=>∃ i σ' H',Inv X pins σ' H' s'∧tn i s'.heap∧(∀ b∈fp,H' b=none)∧W i n σ' H') ?_ m0 ⟨0,σ,H2,I2,st2,fun b hb=>(f2 b hb).1,w0⟩;rintro n s3 ⟨i,σ3,H3,I3,st3,fr3,w3⟩;rcases turn i n σ3 H3 w3 with⟨stop,qn⟩|⟨go,N,hN,step⟩
 ·refine wpAny_passesOwn hp (thn (T.done X rfl rfl rfl hc i pins s3 σ3 H3 X.xe I3 (stat fr3) st3 stop) fun r s4 ⟨hr,I4⟩=>?_);subst hr;exact wpAny_execs_nil ⟨σ3,H3,I4,qn⟩
 ·refine wpAny_passesOwn hp (thn (T.item X rfl rfl rfl hc i pins s3 σ3 H3 X.xe I3 (stat fr3) st3 go) fun r s4 ⟨u,hr,h4⟩=>?_);subst hr;refine wpAny_passesOwn hp (thn h4 fun _ s5 ⟨x,H5,I5,r5,y5,st5,fr5⟩=>?_);have I5':=I5.pinned (stat fr5) (T.obj _ _ st5);refine wpAny_passesOwn hp (thn (hg _ s5 σ3 H5 x u _ I5' r5 (step x H5 y5)) fun _ s6 ⟨σ6,H6,I6,q6⟩=>?_);refine wpAny_passesOwn hp (thn (hb _ s6 σ6 H6 _ I6 q6) fun f s7 q7=>?_);have again:∀{σ7:St} {H7:Hp},Inv X (pins++a6L fp s5.heap) σ7 H7 s7→N σ7 H7→∃ m,m<n∧∃ i σ' H',Inv X pins σ' H' s7∧tn i s7.heap∧(∀ b∈fp,H' b=none)∧W i m σ' H':=fun{σ7 H7} I7 n7=>by
   obtain⟨m',hm,w7⟩:=hN σ7 H7 n7;refine⟨m',hm,i+1,σ7,H7,I7.unpinned,T.keep _ _ _ st5 fun b hb o e=>(I7.pin (b,o) (List.mem_append_right _ (List.mem_append_right _ (rF hb e)))).1,fun b hb=>?_,w7⟩;obtain⟨o,e,d⟩:=T.obj _ _ st5 b hb;exact(I7.pin (b,o) (List.mem_append_right _ (List.mem_append_right _ (rF hb e)))).2.1
  cases f with
  | next=>obtain⟨σ7,H7,I7,n7⟩:=q7; exact again I7 n7
  | cont=>obtain⟨σ7,H7,I7,n7⟩:=q7; exact again I7 n7
  | brk=>obtain⟨σ7,H7,I7,q7⟩:=q7; exact⟨σ7,H7,I7.unpinned,q7⟩
  | ret v=>obtain⟨x7,σ7,H7,I7,r7,q7⟩:=q7; exact⟨x7,σ7,H7,I7.unpinned,r7,q7⟩
end
end L2
namespace L2
open PySem PySem.Spec PyProof.Rows
abbrev R2:=V→V→Hp→VK→Prop
noncomputable def OpR (X:Cx)(f:Value→Value→Sem Value)(r:R2):Prop:=
 ∀(pins:List (Addr×Obj)) (s:Shared) (σ:St) (H:Hp) (x y:V) (v u:Value) (Q:VK),Inv X pins σ H s→RelV x v→RelV y u→r x y H Q →
  wpAny (model X.prog X.w) X.A (f v u) (EP X pins σ Q) X.xe s
noncomputable def UnR (X:Cx)(f:Value→Sem Value)(r:V→Hp→VK→Prop):Prop:=
 ∀(pins:List (Addr×Obj)) (s:Shared) (σ:St) (H:Hp) (x:V) (v:Value) (Q:VK),Inv X pins σ H s→RelV x v→r x H Q →
  wpAny (model X.prog X.w) X.A (f v) (EP X pins σ Q) X.xe s
noncomputable def wI (X:Cx)(f:Value)(r:List V→Hp→VK→Prop):Prop:=
 ∀(pins:List (Addr×Obj)) (s:Shared) (σ:St) (H:Hp) (xs:List V) (us:List Value) (Q:VK),Inv X pins σ H s→Vals xs us→r xs H Q →
  wpAny (model X.prog X.w) X.A (call f us) (EP X pins σ Q) X.xe s
noncomputable def tOp (r:R2)(ta tb:TE):TE:=fun σ H Q=>ta σ H fun x H1=>tb σ H1 fun y H2=>r x y H2 Q
noncomputable def tUn (r:V→Hp→VK→Prop)(ta:TE):TE:=fun σ H Q=>ta σ H fun x H1=>r x H1 Q
noncomputable def rI (C:Int→Int→Prop)(g:Int→Int→V):R2:=fun x y H Q=>∃ i j,x=.int i∧y=.int j∧C i j∧Q (g i j) H
noncomputable def rI0 (g:Int→Int→V):R2:=fun x y H Q=>∃ i j,x=.int i∧y=.int j∧Q (g i j) H
noncomputable def rU (g:Int→V):V→Hp→VK→Prop:=fun x H Q=>∃ i,x=.int i∧Q (g i) H
section
variable {X:Cx}{a b c:Expr}{ta tb tc:TE}{pos:Pos}
theorem aRH (ha:PE X a ta)(hb:PE X b tb){pins:List (Addr×Obj)}{s:Shared}{σ:St}{H:Hp}{R:V→V→Hp→Prop}(I:Inv X pins σ H s)
  (h:ta σ H fun x H1=>tb σ H1 fun y H2=>R x y H2) {Q:Value→Shared→Prop} {f:Value→Value→Sem Value}
  (hf:∀ v u s2 x y H2,Inv X pins σ H2 s2→RelV x v→RelV y u→R x y H2→wpAny (model X.prog X.w) X.A (f v u) Q X.xe s2) :
  wpAny (model X.prog X.w) X.A (eval a X.env) (fun v s₁=>wpAny (model X.prog X.w) X.A (eval b X.env) (fun u s₂=>wpAny (model X.prog X.w) X.A (f v u) Q X.xe s₂) X.xe s₁) X.xe s:=by
 refine thn (ha pins s σ H _ I h) fun v s1 ⟨x,H1,I1,r1,q1⟩=>?_;refine thn (hb pins s1 σ H1 _ I1 q1) fun u s2 ⟨y,H2,I2,r2,q2⟩=>?_;exact hf v u s2 x y H2 I2 r1 r2 q2
theorem bQ {op:Operator}{r:R2}(ho:OpR X (binaryOp op) r)(ha:PE X a ta)(hb:PE X b tb):PE X (.BinOp a op b pos) (tOp r ta tb):=by
 intro pins s σ H Q I h;exact wpAny_BinOp (aRH ha hb I h fun v u s2 x y H2 I2 rx ry q=>ho pins s2 σ H2 x y v u Q I2 rx ry q)
theorem aHC {op:UnaryOp}{r:V→Hp→VK→Prop}(ho:UnR X (unaryOp op) r)(ha:PE X a ta):PE X (.UnaryOp op a pos) (tUn r ta):=by
 intro pins s σ H Q I h;exact UnaryOp_ (thn (ha pins s σ H _ I h) fun v s1 ⟨x,H1,I1,r1,q1⟩=>ho pins s1 σ H1 x v Q I1 r1 q1)
theorem opI {f:Value→Value→Sem Value}{C:Int→Int→Prop}{g:Int→Int→Int}
  (rule:∀(i j:Int) (t u:Tok) (s:Shared) (Q:Value→Shared→Prop) (E:Value→Shared→Prop),C i j→Q (.int (g i j) s.toks) { s with toks:=s.toks+1 }→wpAny (model X.prog X.w) X.A (f (.int i t) (.int j u)) Q E s) :
  OpR X f (rI C fun i j=>.int (g i j)):=by
 intro pins s σ H x y v u Q I rx ry h;obtain⟨i,j,rfl,rfl,hc,q⟩:=h;obtain⟨t,rfl⟩:=rx;obtain⟨t',rfl⟩:=ry;exact rule i j t t' s _ _ hc ⟨.int (g i j),H,I.tok _,⟨_,rfl⟩,q⟩
theorem aTN {f:Value→Value→Sem Value}{g:Int→Int→Int}
  (rule:∀(i j:Int) (t u:Tok) (s:Shared) (Q:Value→Shared→Prop) (E:Value→Shared→Prop),Q (.int (g i j) s.toks) { s with toks:=s.toks+1 }→wpAny (model X.prog X.w) X.A (f (.int i t) (.int j u)) Q E s) :
  OpR X f (rI0 fun i j=>.int (g i j)):=by
 intro pins s σ H x y v u Q I rx ry h;obtain⟨i,j,rfl,rfl,q⟩:=h;obtain⟨t,rfl⟩:=rx;obtain⟨t',rfl⟩:=ry;exact rule i j t t' s _ _ ⟨.int (g i j),H,I.tok _,⟨_,rfl⟩,q⟩
theorem aQO {f:Value→Value→Sem Value}{g:Int→Int→Bool}
  (rule:∀(i j:Int) (t u:Tok) (s:Shared) (Q:Value→Shared→Prop) (E:Value→Shared→Prop),Q (.bool (g i j)) s→wpAny (model X.prog X.w) X.A (f (.int i t) (.int j u)) Q E s) :
  OpR X f (rI0 fun i j=>.bl (g i j)):=by
 intro pins s σ H x y v u Q I rx ry h;obtain⟨i,j,rfl,rfl,q⟩:=h;obtain⟨t,rfl⟩:=rx;obtain⟨t',rfl⟩:=ry;exact rule i j t t' s _ _ ⟨.bl (g i j),H,I,rfl,q⟩
noncomputable def aQR (i j:Int):Prop:=0<j∧j<1073741824
noncomputable def aU7 (i j:Int):Prop:=0≤j∧j≤1000000∧i.natAbs<2^64
theorem j7:OpR X (binaryOp .Add) (rI0 fun i j=>.int (i+j)):=aTN fun _ _ _ _ _ _ _ q=>add_int q
theorem a2L:OpR X (binaryOp .Sub) (rI0 fun i j=>.int (i-j)):=aTN fun _ _ _ _ _ _ _ q=>sub_int q
theorem aAF:OpR X (binaryOp .FloorDiv) (rI aQR fun i j=>.int (i/j)):=opI fun i j _ _ _ _ _ hc q=>by
 have h1:(0:Int)<j:=hc.1;have h2:j<1073741824:=hc.2;exact floordiv_int (by omega) (by rw[Int.fdiv_eq_ediv_of_nonneg i (by omega)]; exact q) (.inl (PyProof.noPylong_small (by omega)))
theorem pP:OpR X (binaryOp .Mod) (rI (fun _ j=>0<j) fun i j=>.int (i%j)):=opI fun i j _ _ _ _ _ hc q=>by
 have h1:(0:Int)<j:=hc;exact mod_int' (by omega) (by rw[Int.fmod_eq_emod_of_nonneg i (by omega)]; exact q)
theorem aNU:OpR X (binaryOp .Pow) (rI aU7 fun i j=>.int (i^j.toNat)):=opI fun _ _ _ _ _ _ _ hc q=>pow_int_small hc.1 hc.2.1 hc.2.2 q
theorem unI {f:Value→Sem Value}{g:Int→Int}
  (rule:∀(i:Int) (t:Tok) (s:Shared) (Q:Value→Shared→Prop) (E:Value→Shared→Prop),Q (.int (g i) s.toks) { s with toks:=s.toks+1 }→wpAny (model X.prog X.w) X.A (f (.int i t)) Q E s) :
  UnR X f (rU fun i=>.int (g i)):=by
 intro pins s σ H x v Q I rx h;obtain⟨i,rfl,q⟩:=h;obtain⟨t,rfl⟩:=rx;exact rule i t s _ _ ⟨.int (g i),H,I.tok _,⟨_,rfl⟩,q⟩
theorem a68:UnR X (unaryOp .USub) (rU fun i=>.int (-i)):=unI fun _ _ _ _ _ q=>neg_int q
end
section
variable {X:Cx}{a b c:Expr}{ta tb tc:TE}{pos:Pos}
theorem aJS {pins:List (Addr×Obj)}{σ:St}{H:Hp}{s:Shared}{Q:VK}{k k':Bool}(I:Inv X pins σ H s)(q:Q (.bl k) H)(e:k=k'):EP X pins σ Q (.bool k') s:=by
 subst e;exact⟨.bl k,H,I,rfl,q⟩
theorem vG:OpR X (compareOp .Lt) (rI0 fun i j=>.bl (decide (i<j))):=aQO fun _ _ _ _ _ _ _ q=>lt_int q
theorem aQ2:OpR X (compareOp .LtE) (rI0 fun i j=>.bl (decide (i≤j))):=aQO fun _ _ _ _ _ _ _ q=>le_int q
theorem aM0:OpR X (compareOp .Gt) (rI0 fun i j=>.bl (decide (j<i))):=aQO fun _ _ _ _ _ _ _ q=>gt_int q
theorem aOH:OpR X (compareOp .GtE) (rI0 fun i j=>.bl (decide (j≤i))):=aQO fun _ _ _ _ _ _ _ q=>ge_int q
theorem aC6:OpR X (compareOp .Is) (fun x y H Q=>y=.non∧Q (.bl (decide (x=.non))) H):=by
 intro pins s σ H x y v u Q I rx ry h;obtain⟨rfl,q⟩:=h
 cases ry
 refine is_none_gen (aJS I q ?_)
 cases x<;>first
  | (cases rx; rfl)
  | (obtain⟨t,rfl⟩:=rx; rfl)
theorem a0S:OpR X (compareOp .IsNot) (fun x y H Q=>y=.non∧Q (.bl (!decide (x=.non))) H):=by
 intro pins s σ H x y v u Q I rx ry h;obtain⟨rfl,q⟩:=h
 cases ry
 refine isnot_none_gen (aJS I q ?_)
 cases x<;>first
  | (cases rx; rfl)
  | (obtain⟨t,rfl⟩:=rx; rfl)
theorem bH (b:Expr){op:CmpOp}(h:op≠.In:=by decide)(h2:op≠.NotIn:=by decide):behindInMarks op b=false:=by
 have e1:(op==CmpOp.In)=false:=by cases op<;>first|rfl|exact absurd rfl h
 have e2:(op==CmpOp.NotIn)=false:=by cases op<;>first|rfl|exact absurd rfl h2
 cases b<;>simp[behindInMarks,e1,e2]
theorem gU {op:CmpOp}{r:R2}(ho:OpR X (compareOp op) r)(ha:PE X a ta)(hb:PE X b tb)(hm:behindInMarks op b=false):PE X (.Compare a [op] [b] pos) (tOp r ta tb):=by
 intro pins s σ H Q I h;exact wpAny_Compare1 (aRH ha hb I h fun v u s2 x y H2 I2 rx ry q=>ho pins s2 σ H2 x y v u Q I2 rx ry q) hm
noncomputable def aQ5 (t:TE):TT:=fun σ H Q=>t σ H fun x H'=>∃ k,x=.bl k∧Q k H'
theorem bB {op:CmpOp}{r:R2}(ho:OpR X (compareOp op) r)(ha:PE X a ta)(hb:PE X b tb)(hm:behindInMarks op b=false):PT X (.Compare a [op] [b] pos) (aQ5 (tOp r ta tb)):=by
 intro pins s σ H Q I h;refine wpAny_isTrue_Compare1 (thn (ha pins s σ H _ I h) fun v s1 ⟨x,H1,I1,r1,q1⟩=>thn (hb pins s1 σ H1 _ I1 q1) fun u s2 ⟨y,H2,I2,r2,q2⟩=>
  thn (ho pins s2 σ H2 x y v u _ I2 r1 r2 q2) fun c s3 ⟨z,H3,I3,r3,k,e,q3⟩=>?_) hm
 subst e
 cases r3
 exact wpAny_truthy_bool ⟨H3,I3,q3⟩
theorem a6C:(sizeLine:Nat)<2^63:=by rw[sizeLine_eq]; decide
theorem vals1 {x:V}{us:List Value}(r:Vals [x] us):∃ u,us=[u]∧RelV x u:=by
 cases r with
 | cons r1 r2=>cases r2; exact⟨_,rfl,r1⟩
theorem vals2 {x y:V}{us:List Value}(r:Vals [x,y] us):∃ u w',us=[u,w']∧RelV x u∧RelV y w':=by
 cases r with
 | cons r1 r2=>
  cases r2 with
  | cons r3 r4=>cases r4; exact⟨_,_,rfl,r1,r3⟩
theorem qU:wI X (.builtin "abs") (fun xs H Q=>∃ i,xs=[.int i]∧Q (.int (if i<0 then -i else i)) H):=by
 intro pins s σ H xs us Q I r h;obtain⟨i,rfl,q⟩:=h;obtain⟨u,rfl,t,rfl⟩:=vals1 r;exact call_abs_int fun u tk=>⟨.int (if i<0 then -i else i),H,I.tok _,⟨_,rfl⟩,q⟩
theorem a80:wI X (.type "int") (fun xs H Q=>(∃ i,xs=[.int i]∧Q (.int i) H)∨∃ k,xs=[.bl k]∧Q (.int (if k then 1 else 0)) H):=by
 intro pins s σ H xs us Q I r h;rcases h with⟨i,rfl,q⟩|⟨k,rfl,q⟩
 ·obtain⟨u,rfl,t,rfl⟩:=vals1 r;exact call_int_int ⟨.int i,H,I,⟨_,rfl⟩,q⟩
 ·obtain⟨u,rfl,r1⟩:=vals1 r
  cases r1
  exact call_int_bool ⟨.int (if k then 1 else 0),H,I.tok _,⟨_,rfl⟩,q⟩
end
end L2
namespace L2
open PySem PySem.Spec PyProof.Rows
structure ObjM (h:Heap)(x dx C:Addr)(mA:Str→Option Value):Prop where
 obj:h.get? x=some (PySem.W.instObj C dx)
 ns:h.Ns1 dx mA
 ne:dx≠x
theorem aHL {h:Heap}{dx:Addr}{mA:Str→Option Value}(n:h.Ns1 dx mA):∃ od,h.get? dx=some od∧∀ name,PySem.W.lookIn name od=some (mA name):=by
 obtain⟨o,es,ep,ho,hd,hk,_,hm⟩:=n;refine⟨o,ho,fun name=>?_⟩;have e:=hm name;unfold nsFind findBy at e;rw[← Array.find?_toList] at e;unfold PySem.W.lookIn;rw[hd];dsimp only
 split
 ·rename_i y q
  rw[q] at e;exact congrArg some e
 ·rename_i q
  rw[q] at e;have a:es.toList.any (·.refKey)=false:=by
   rw[List.any_eq_false];intro y hy;obtain⟨z,t,hkey⟩:=hk y (Array.mem_toList_iff.mp hy);simp[DictEntry.refKey,hkey]
  have a':¬es.toList.any (·.refKey)=true:=by rw[a]; exact Bool.false_ne_true
  rw[if_neg a'];exact congrArg some e
theorem ObjM.look {h:Heap}{x dx C:Addr}{mA:Str→Option Value}(I:ObjM h x dx C mA):∃ od,PySem.W.InstAt h x (PySem.W.instObj C dx) C (some od)∧∀ name,PySem.W.lookIn name od=some (mA name):=
 let ⟨od,ho,hl⟩:=aHL I.ns
 ⟨od,⟨I.obj,rfl,rfl,ho⟩,hl⟩
section
variable {prog:Program}{w:World}{A:Around}{E:Value→Shared→Prop}{s:Shared}{K:PySem.W.Frag}{x dx C f:Addr}{mA:Str→Option Value}{name:Str}{v:Value}
theorem aL6 {expr:Bool}{Q:Value→Shared→Prop}(X:K.In s.heap)(I:ObjM s.heap x dx C mA)(hg:PySem.W.plainGet K C name=true)(hh:PySem.W.hasDictIn K C=true)
  (ha:PySem.W.findIn K (.ref C) name=some none) (hv:mA name=some v) (hv':PySem.W.handedIn v=true) (h:Q v { s with toks:=s.toks+1 }) :
  wpAny (model prog w) A (getAttr (.ref x) name expr) Q E s:=by
 obtain⟨od,J,hl⟩:=I.look;exact PySem.W.get_value X J (PySem.W.plainGet_of hg).1 (PySem.W.findObj_own hh ha rfl (by rw[hl,hv])) hv' h
theorem aI5 {pl:Sem Bool}{Q:Value×List Value→Shared→Prop}(X:K.In s.heap)(I:ObjM s.heap x dx C mA)(hg:PySem.W.plainGet K C name=true)
  (hf:PySem.W.findIn K (.ref C) name=some (some (.ref f))) (ht:PySem.W.isFn K (.ref f)=true) (hv:mA name=none) (h:Q (.ref f,[.ref x]) s) :
  wpAny (model prog w) A (getMethod (.ref x) name pl) Q E s:=by
 obtain⟨od,J,hl⟩:=I.look;exact PySem.W.method_fn X J (PySem.W.plainGet_of hg).1 (PySem.W.plainGet_of hg).2 hf (beq_iff_eq.mp ht) (by show(PySem.W.lookIn name od).map (·.isSome)=some false; rw[hl,hv]; rfl) h
theorem aL1 {ns:List Str}{Q:Unit→Shared→Prop}(X:K.In s.heap)(I:ObjM s.heap x dx C mA)
  (hs:PySem.W.findIn K (.ref C) "__setattr__" = some (some (.builtin "object.__setattr__"))) (hp:PySem.W.plainOver K C=true) (ht:PySem.W.takerIn K C name=some none) (hh:PySem.W.hasDictIn K C=true)
  (hw:PySem.Within mA ns) (hsz:ns.length≤sizeLine)
  (h:∀ h',ObjM h' x dx C (fun y=>if y=name then some v else mA y)→Heap.SameBut dx s.heap h'→Q () { s with heap:=h',toks:=s.toks+2 }) :
  wpAny (model prog w) A (setAttr (.ref x) name v) Q E s:=by
 obtain⟨od,J,hl⟩:=I.look;refine PySem.W.set_plain X J hs (PySem.W.osa_open (s:={ s with toks:=s.toks+1 }) (r:=none) X J hp ht fun b=>?_);obtain⟨cd,hc,hd'⟩:=PySem.W.any_some hh;have hx:s.heap.get? x=some ⟨.ref C,some dx,.plain,#[]⟩:=I.obj;refine wpAny_bind (wpAny_pure (wpAny_bind (wpAny_bind (wpAny_loadPart hx (wpAny_bind (PySem.W.Looks.here (s:={ s with toks:=s.toks+1 }) (PySem.W.looks_clsIn X hc) ?_))))));rw[hd'];refine wpAny_pure (a:=some dx) (wpAny_bind (wpAny_pure (wpAny_bind ?_)));refine wpAny_nsSet1 (s:={ s with toks:=s.toks+1 }) I.ns fun h' hn2 hs2=>?_;obtain⟨oD,esD,epD,hoD,hdD,hcD⟩:=hn2.count (PySem.Within.cons name v hw);refine wpAny_bind (wpAny_lookBehind hoD (by rw[hdD]; exact pastItsLine_dict (Nat.le_trans hcD (by rw[List.length_cons]; omega))) ?_);exact wpAny_pure (h _ ⟨(hs2.2 _ (Ne.symm I.ne)).trans I.obj,hn2,I.ne⟩ hs2)
theorem aJL {R:Result→Shared→Prop}{vs:List Value}{kw:List (Str×Value)}(X:K.In s.heap)(hm:PySem.W.makesIn K C=true)
  (hi:PySem.W.findIn K (.ref C) "__init__" = some (some (.ref f))) (hf:PySem.W.typeIn K (.ref f)=some (.type "function"))
  (h:codeAny (model prog w) (A.under (.builtin "type.__call__" ⟨.ref C::vs,kw⟩)) (.call (.ref f) ⟨.ref (s.heap.objs.size+1)::vs,kw⟩) (PySem.W.InitBack (s.heap.objs.size+1) R)
   { s with heap:=(s.heap.push PySem.W.emptyDict).push (PySem.W.instObj C s.heap.objs.size) }) :
  codeAny (model prog w) A (.call (.ref C) ⟨vs,kw⟩) R s:=by
 obtain⟨hh,g,d,t,os⟩:=s;exact PySem.W.make_core (PySem.W.makes_of X hm) (PySem.W.looks_findIn X hi) (fun self=>PySem.W.bind_fn X self hf) (.inl rfl) h
end
noncomputable def xJ (f:Str)(v:V):List (Str×V)→List (Str×V)
 | []=>[(f,v)]
 | (g,x)::r=>if g=f then(g,v)::r else(g,x)::xJ f v r
theorem a0I (f g:Str)(v:V):∀ fs:List (Str×V),(xJ f v fs).lookup g=if g=f then some v else fs.lookup g
 | []=>by
  show List.lookup g [(f,v)]=_
  by_cases h:g=f
  ·have hb:(g==f)=true:=beq_iff_eq.mpr h;simp only[List.lookup,hb,if_pos h]
  ·have hb:(g==f)=false:=beq_eq_false_iff_ne.mpr h;simp only[List.lookup,hb,if_neg h]
 | (k,x)::r=>by
  have ih:=a0I f g v r;rw[show xJ f v ((k,x)::r)=(if k=f then(k,v)::r else(k,x)::xJ f v r) from rfl]
  by_cases hk:k=f
  ·rw[if_pos hk]
   by_cases h:g=k
   ·have hb:(g==k)=true:=beq_iff_eq.mpr h;simp only[List.lookup,hb,if_pos (h.trans hk)]
   ·have hb:(g==k)=false:=beq_eq_false_iff_ne.mpr h;simp only[List.lookup,hb,if_neg (fun e:g=f=>h (e.trans hk.symm))]
  ·rw[if_neg hk]
   by_cases h:g=k
   ·have hb:(g==k)=true:=beq_iff_eq.mpr h;simp only[List.lookup,hb,if_neg (fun e:g=f=>hk (h.symm.trans e))]
   ·have hb:(g==k)=false:=beq_eq_false_iff_ne.mpr h;simp only[List.lookup,hb];exact ih
theorem a0P (f:Str)(v:V):∀ fs:List (Str×V),f∈(xJ f v fs).map (·.1)∧∀ g,g∈fs.map (·.1)→g∈(xJ f v fs).map (·.1)
 | []=>⟨by simp[xJ],fun g h=>by simp at h⟩
 | (k,x)::r=>by
  obtain⟨i1,i2⟩:=a0P f v r;rw[show xJ f v ((k,x)::r)=(if k=f then(k,v)::r else(k,x)::xJ f v r) from rfl]
  by_cases hk:k=f
  ·rw[if_pos hk];subst hk;exact⟨by simp,fun g h=>by simpa using h⟩
  ·rw[if_neg hk];refine⟨?_,fun g h=>?_⟩
   ·rw[List.map_cons];exact List.mem_cons_of_mem _ i1
   ·rw[List.map_cons] at h ⊢;rcases List.mem_cons.mp h with e|e
    ·exact List.mem_cons.mpr (.inl e)
    ·exact List.mem_cons_of_mem _ (i2 g e)
theorem a1C (f:Str)(v:V):∀ fs:List (Str×V),(xJ f v fs).length≤fs.length+1
 | []=>by simp[xJ]
 | (k,x)::r=>by
  have ih:=a1C f v r;rw[show xJ f v ((k,x)::r)=(if k=f then(k,v)::r else(k,x)::xJ f v r) from rfl]
  by_cases hk:k=f
  ·rw[if_pos hk,List.length_cons,List.length_cons]; omega
  ·rw[if_neg hk,List.length_cons,List.length_cons]; omega
theorem RelO.some_of {v:V}{o:Option Value}(r:RelO (some v) o):∃ u,o=some u∧RelV v u:=by
 cases o with
 | none=>exact(show False from r).elim
 | some u=>exact⟨u,rfl,r⟩
theorem RelO.none_of {o:Option Value}(r:RelO none o):o=none:=by
 cases o with
 | none=>rfl
 | some u=>exact(show False from r).elim
theorem aG9 {v:V}{u:Value}(r:RelV v u):PySem.W.handedIn u=true:=by
 cases v with
 | non=>cases(show u=Value.none from r); rfl
 | bl b=>cases(show u=Value.bool b from r); rfl
 | int i=>obtain⟨t,e⟩:=(show ∃ t,u=Value.int i t from r); cases e; rfl
 | str x=>obtain⟨t,e⟩:=(show ∃ t,u=Value.str x t from r); cases e; rfl
 | byt b=>obtain⟨t,e⟩:=(show ∃ t,u=Value.bytes b t from r); cases e; rfl
 | flt b=>obtain⟨t,e⟩:=(show ∃ t,u=Value.float b t from r); cases e; rfl
 | ref a=>cases(show u=Value.ref a from r); rfl
 | ty n=>cases(show u=Value.type n from r); rfl
section
variable {P:Program}{w:World}{H H':Hp}{h h':Heap}{a C dx:Addr}{fs fs':List (Str×V)}
theorem a5P (hok:HOk P w H h)(e:H a=some (.ins C dx fs)):∃ mA,ObjM h a dx C mA∧(∀ f,RelO (fs.lookup f) (mA f))∧PySem.Within mA (fs.map (·.1))∧fs.length≤1000∧H dx=some (.own a):=by
 obtain⟨d,z,ne,ob,mA,n,r,q⟩:=(show ObjOk P w H h a (.ins C dx fs) from hok a _ e);exact⟨mA,⟨ob,n,ne⟩,r,q,z,d⟩
end
structure Cls (K:PySem.W.Frag)(C:Addr):Prop where
 pg:PySem.W.plainGet K C Str.empty=true
 hd:PySem.W.hasDictIn K C=true
 po:PySem.W.plainOver K C=true
 sa:PySem.W.findIn K (.ref C) "__setattr__" = some (some (.builtin "object.__setattr__"))
theorem Cls.get {K:PySem.W.Frag}{C:Addr}(c:Cls K C)(f:Str):PySem.W.plainGet K C f=true:=c.pg
noncomputable def NoAttr (K:PySem.W.Frag)(C:Addr)(f:Str):Prop:=PySem.W.findIn K (.ref C) f=some none
theorem NoAttr.taker {K:PySem.W.Frag}{C:Addr}{f:Str}(n:NoAttr K C f):PySem.W.takerIn K C f=some none:=by
 unfold PySem.W.takerIn;rw[show PySem.W.findIn K (.ref C) f=some none from n];rfl
structure Meth (K:PySem.W.Frag)(C:Addr)(m:Str)(f:Addr):Prop where
 at_:PySem.W.findIn K (.ref C) m=some (some (.ref f))
 fn:PySem.W.isFn K (.ref f)=true
 kp:PySem.W.keepIn K (.ref f)=true
section
variable {X:Cx}{pins:List (Addr×Obj)}{σ:St}{H:Hp}{s:Shared}{a C dx:Addr}{fs:List (Str×V)}{f:Str}{v:V}{A:Around}{E:Value→Shared→Prop}
theorem a3K {b:Bool}{Q:Value→Shared→Prop}(I:Inv X pins σ H s)(e:H a=some (.ins C dx fs))(c:Cls X.K C)(n:NoAttr X.K C f)(l:fs.lookup f=some v)
  (h:∀ u s',Inv X pins σ H s'→RelV v u→Q u s'):wpAny (model X.prog X.w) A (getAttr (.ref a) f b) Q E s:=by
 obtain⟨mA,O,r,_,_,_⟩:=a5P I.hok e;obtain⟨u,hu,ru⟩:=RelO.some_of (v:=v) (o:=mA f) (by rw[← l]; exact r f);exact aL6 I.kIn O (c.get f) c.hd n hu (aG9 ru) (h u _ (I.tok _) ru)
theorem a3H {m:Str}{g:Addr}{pl:Sem Bool}{Q:Value×List Value→Shared→Prop}(I:Inv X pins σ H s)(e:H a=some (.ins C dx fs))(c:Cls X.K C)(k:Meth X.K C m g)(l:fs.lookup m=none)
  (h:Q (.ref g,[.ref a]) s):wpAny (model X.prog X.w) A (getMethod (.ref a) m pl) Q E s:=by
 obtain⟨mA,O,r,_,_,_⟩:=a5P I.hok e;have hn:mA m=none:=RelO.none_of (by rw[← l]; exact r m);exact aI5 I.kIn O (c.get m) k.at_ k.fn hn h
theorem a2H {y:V}{u:Value}{Q:Unit→Shared→Prop}(I:Inv X pins σ H s)(e:H a=some (.ins C dx fs))(c:Cls X.K C)(n:NoAttr X.K C f)(hl:fs.length<1000)(ry:RelV y u)
  (h:∀ s',Inv X pins σ (upd H a (.ins C dx (xJ f y fs))) s'→Q () s'):wpAny (model X.prog X.w) A (setAttr (.ref a) f u) Q E s:=by
 obtain⟨mA,O,r,wi,_,ho⟩:=a5P I.hok e;have hz:(fs.map (·.1)).length≤sizeLine:=by rw[List.length_map,sizeLine_eq]; omega
 refine aL1 I.kIn O c.sa c.po n.taker c.hd wi hz fun h' O' sb=>h _ ?_;have hd:∃ o,h'.get? dx=some o:=let ⟨o,_,_,e',_⟩:=O'.ns; ⟨o,e'⟩;refine I.write (x:=a) (e:=dx) (by rw[e]; exact True.intro) (.inr ho) (fun b q hb z=>(sb.2 b hb).trans z) hd ?_;refine⟨by rw[aM O.ne]; exact ho,?_,O.ne,O'.obj,_,O'.ns,fun g=>?_,fun g hg=>?_⟩
 ·have:=a1C f y fs; omega
 ·show RelO ((xJ f y fs).lookup g) (if g=f then some u else mA g);rw[a0I]
  by_cases q:g=f
  ·rw[if_pos q,if_pos q]; exact ry
  ·rw[if_neg q,if_neg q]; exact r g
 ·by_cases q:g=f
  ·rw[q]; exact(a0P f y fs).1
  ·refine(a0P f y fs).2 g (wi g fun z=>hg ?_)
   show(if g=f then some u else mA g)=none
   rw[if_neg q]; exact z
theorem Inv.made (I:Inv X pins σ H s):Inv X pins σ (upd (upd H s.heap.objs.size (.own (s.heap.objs.size+1))) (s.heap.objs.size+1) (.ins C s.heap.objs.size []))
  { s with heap:=(s.heap.push PySem.W.emptyDict).push (PySem.W.instObj C s.heap.objs.size) }:=by
 have e1:(s.heap.push PySem.W.emptyDict).get? s.heap.objs.size=some PySem.W.emptyDict:=Heap.get?_push_size s.heap rfl;have e2:((s.heap.push PySem.W.emptyDict).push (PySem.W.instObj C s.heap.objs.size)).get? (s.heap.objs.size+1)=some (PySem.W.instObj C s.heap.objs.size):=by
  have:=Heap.get?_push_size (s.heap.push PySem.W.emptyDict) (o:=PySem.W.instObj C s.heap.objs.size) rfl;rwa[Heap.size_push] at this
 have e3:(s.heap.push PySem.W.emptyDict).Ns s.heap.objs.size (fun _=>none):=⟨PySem.W.emptyDict,#[],_,e1,rfl,(fun e he=>absurd he (by simp)),fun _=>rfl⟩;have I1:=I.laid (a:=s.heap.objs.size) (o:=.own (s.heap.objs.size+1)) (h':=s.heap.push PySem.W.emptyDict) (t':=s.toks) (fun b u q=>Heap.get?_push_of_some _ q) (Nat.le_refl _) ⟨_,e1⟩;refine I1.laid (a:=s.heap.objs.size+1) (o:=.ins C s.heap.objs.size []) (t':=s.toks) (fun b u q=>Heap.get?_push_of_some _ q) (Nat.le_of_eq (Heap.size_push _ _)) ?_;have ne:s.heap.objs.size≠s.heap.objs.size+1:=Nat.ne_of_lt (Nat.lt_succ_self _);refine⟨by rw[aM ne,aV],Nat.zero_le _,ne,e2,fun _=>none,(Heap.Ns1.of_empty e3).at fun o q=>Heap.get?_push_of_some _ q,fun _=>True.intro,fun y hy=>absurd rfl hy⟩
theorem aMR {prog:Program}{w:World}{env:Env}{e:Expr}{f:Str}{pos:Pos}{s:Shared}{Q:Value→Shared→Prop}(hb:attributeBase e f env (eval e env)=eval e env)
  (h:wpAny (model prog w) A (eval e env) (fun o s₁=>wpAny (model prog w) A (getAttr o f true) Q E s₁) E s):wpAny (model prog w) A (eval (.Attribute e f pos) env) Q E s:=
 Attribute_any_ h (by rw[arm_eval_Attribute,hb])
end
noncomputable def a1N (K:PySem.W.Frag)(ta:TE)(f:Str):TE:=fun σ H Q=>ta σ H fun x H1=>∃ a C dx fs v,x=.ref a∧H1 a=some (.ins C dx fs)∧Cls K C∧NoAttr K C f∧fs.lookup f=some v∧Q v H1
noncomputable def aJY (K:PySem.W.Frag)(ta tv:TE)(f:Str):TS:=fun D σ H=>tv σ H fun y H1=>ta σ H1 fun x H2=>∃ a C dx fs,x=.ref a∧H2 a=some (.ins C dx fs)∧Cls K C∧NoAttr K C f∧fs.length<1000 ∧
 D.nx σ (upd H2 a (.ins C dx (xJ f y fs)))
noncomputable def aTM (X:Cx)(op:Operator)(rd:V→V→Hp→VK→Prop):Prop:=
 ∀(pins:List (Addr×Obj)) (s:Shared) (σ:St) (H:Hp) (x y:V) (u v:Value) (Q:VK),Inv X pins σ H s→RelV x u→RelV y v→rd x y H Q→wpAny (model X.prog X.w) X.A (inplaceOp op u v) (EP X pins σ Q) X.xe s
noncomputable def aFL (K:PySem.W.Frag)(ta tv:TE)(rd:V→V→Hp→VK→Prop)(f:Str):TS:=fun D σ H=>ta σ H fun x H1=>∃ a C dx fs v,x=.ref a∧H1 a=some (.ins C dx fs)∧Cls K C∧NoAttr K C f∧fs.lookup f=some v ∧
 tv σ H1 fun y H2=>rd v y H2 fun z H3=>∃ dx' fs',H3 a=some (.ins C dx' fs')∧fs'.length<1000∧D.nx σ (upd H3 a (.ins C dx' (xJ f z fs')))
section
variable {X:Cx}{o e value:Expr}{f:Str}{pos pos' tpos:Pos}{ta tv:TE}
theorem cL (he:PE X e ta)(hb:attributeBase e f X.env (eval e X.env)=eval e X.env):PE X (.Attribute e f pos) (a1N X.K ta f):=by
 intro pins s σ H Q I h;refine aMR hb (thn (he pins s σ H _ I h) fun u s1 ⟨x,H1,I1,rx,a,C,dx,fs,v,ex,ea,c,n,l,q⟩=>?_);subst ex;obtain rfl:u=Value.ref a:=rx;exact a3K I1 ea c n l fun u' s2 I2 ru=>⟨v,H1,I2,ru,q⟩
theorem gR (ha:PE X o ta)(hv:PE X value tv)(hs:swapsWith value (some (.Attribute o f pos')) pos.line X.env=pure false):PS X (.Assign [.Attribute o f pos'] value pos) (aJY X.K ta tv f):=by
 intro pins s σ H D I h;refine plainObj_wpAny_Assign_Attribute (thn (hv pins s σ H _ I h) fun u s1 ⟨y,H1,I1,ry,q⟩=>thn (ha pins s1 σ H1 _ I1 q) fun ov s2 ⟨x,H2,I2,rx,a,C,dx,fs,ex,ea,c,n,l,q2⟩=>?_) hs;subst ex;obtain rfl:ov=Value.ref a:=rx;exact a2H I2 ea c n l ry fun s3 I3=>⟨σ,_,I3,q2⟩
theorem aEA {op:Operator}{rd:V→V→Hp→VK→Prop}(ha:PE X o ta)(hv:PE X value tv)(hop:aTM X op rd):PS X (.AugAssign (.Attribute o f tpos) op value pos) (aFL X.K ta tv rd f):=by
 intro pins s σ H D I h;refine wpAny_AugAssign_AttributeAny (thn (ha pins s σ H _ I h) fun ov s1 ⟨x,H1,I1,rx,a,C,dx,fs,v,ex,ea,c,n,l,q⟩=>?_);subst ex;obtain rfl:ov=Value.ref a:=rx;refine a3K I1 ea c n l fun u s2 I2 ru=>thn (hv pins s2 σ H1 _ I2 q) fun w3 s3 ⟨y,H2,I3,ry,q3⟩=>thn (hop pins s3 σ H2 v y u w3 _ I3 ru ry q3) fun w4 s4 ⟨z,H3,I4,rz,dx',fs',ea',l',q4⟩=>?_;exact a2H I4 ea' c n l' rz fun s5 I5=>⟨σ,_,I5,q4⟩
noncomputable def aTZ:V→V→Hp→VK→Prop:=fun x y H Q=>∃ i j,x=.int i∧y=.int j∧Q (.int (i+j)) H
theorem aQ9:aTM X .Add aTZ:=by
 rintro pins s σ H x y u v Q I rx ry ⟨i,j,rfl,rfl,q⟩;obtain⟨t,rfl⟩:=(show ∃ t,u=Value.int i t from rx);obtain⟨t',rfl⟩:=(show ∃ t',v=Value.int j t' from ry);exact PyProof.Rows.iadd_int ⟨.int (i+j),H,I.tok _,⟨_,rfl⟩,q⟩
end
section
variable {X:Cx}{pins:List (Addr×Obj)}{σ:St}{H:Hp}{s:Shared}{A:Around}{E:Value→Shared→Prop}{Q:Value→Shared→Prop}{c:Value}{b:Bool}
inductive TyOf (K:PySem.W.Frag) (H:Hp):V→Value→Prop where
 | non:TyOf K H .non (.type "NoneType")
 | bl (x:Bool):TyOf K H (.bl x) (.type "bool")
 | int (i:Int):TyOf K H (.int i) (.type "int")
 | str (x:Str):TyOf K H (.str x) (.type "str")
 | flt (x:UInt64):TyOf K H (.flt x) (.type "float")
 | lst {a:Addr} {xs:List V} (e:H a=some (.lst xs)):TyOf K H (.ref a) (.type "list")
 | frz {a:Addr} {o:Obj} {xs:List V} (e:H a=some (.frz o (.lst xs))):TyOf K H (.ref a) (.type "list")
 | tup {a:Addr} {xs:List V} (e:H a=some (.tup xs)):TyOf K H (.ref a) (.type "tuple")
 | dK {a:Addr} {kvs:List (Key×V)} (e:H a=some (.dK kvs)):TyOf K H (.ref a) (.type "dict")
 | dT {a:Addr} {kvs:List (List Key×V)} (e:H a=some (.dT kvs)):TyOf K H (.ref a) (.type "dict")
 | ins {a C dx:Addr} {fs:List (Str×V)} (e:H a=some (.ins C dx fs)) (cl:Cls K C) (ha:PySem.W.findIn K (.ref C) "__class__" = some (some (.builtin "object.__class__")))
   (hn:PySem.W.specialIn K (.builtin "object.__class__") "__get__" = some (some (.builtin "getset_descriptor.__get__"))) (htk:PySem.W.takesIn K (.builtin "object.__class__")=some true)
   (hm:PySem.W.mroIn K C (.type "object")=some true):TyOf K H (.ref a) (.ref C)
theorem aFU {x:V}{u t:Value}(I:Inv X pins σ H s)(rx:RelV x u)(ty:TyOf X.K H x t)(e:PySem.W.kitOne X.K t c=some b)(h:∀ tk,Q (.bool b) { s with toks:=tk }) :
  wpAny (model X.prog X.w) A (call (.builtin "isinstance") [u,c]) Q E s:=by
 cases ty with
 | non=>cases(show u=Value.none from rx); exact PySem.W.kia_one PySem.W.kitx_none I.kIn True.intro e (fun z=>nomatch z) h
 | bl y=>cases(show u=Value.bool y from rx); exact PySem.W.kia_one PySem.W.kitx_bool I.kIn True.intro e (fun z=>nomatch z) h
 | int i=>obtain⟨t,q⟩:=(show ∃ t,u=Value.int i t from rx); cases q; exact PySem.W.kia_one PySem.W.kitx_int I.kIn True.intro e (fun z=>nomatch z) h
 | str y=>obtain⟨t,q⟩:=(show ∃ t,u=Value.str y t from rx); cases q; exact PySem.W.kia_one PySem.W.kitx_str I.kIn True.intro e (fun z=>nomatch z) h
 | flt y=>obtain⟨t,q⟩:=(show ∃ t,u=Value.float y t from rx); cases q; exact PySem.W.kia_one PySem.W.kitx_float I.kIn True.intro e (fun z=>nomatch z) h
 | @lst a xs ea=>
  cases(show u=Value.ref a from rx)
  obtain⟨_,_,n,_,h1⟩:=(show ObjOk X.prog X.w H s.heap a (.lst xs) from I.hok a _ ea);exact PySem.W.kia_one PySem.W.kitx_list I.kIn ⟨_,h1,rfl⟩ e (fun z=>nomatch z) h
 | @frz a ob xs ea=>
  cases(show u=Value.ref a from rx)
  obtain⟨_,_,_,n,_,h1⟩:=(show ObjOk X.prog X.w H s.heap a (.frz ob (.lst xs)) from I.hok a _ ea);exact PySem.W.kia_one PySem.W.kitx_list I.kIn ⟨_,h1,rfl⟩ e (fun z=>nomatch z) h
 | @tup a xs ea=>
  cases(show u=Value.ref a from rx)
  obtain⟨_,_,_,p⟩:=(show ObjOk X.prog X.w H s.heap a (.tup xs) from I.hok a _ ea);obtain⟨o,h1,h2,_⟩:=p;exact PySem.W.kia_one PySem.W.kitx_tuple I.kIn ⟨o,h1,h2⟩ e (fun z=>nomatch z) h
 | @dK a kvs ea=>
  cases(show u=Value.ref a from rx)
  obtain⟨_,_,vs,_,p⟩:=(show ObjOk X.prog X.w H s.heap a (.dK kvs) from I.hok a _ ea);obtain⟨o,es,ep,h1,h2,_⟩:=p;exact PySem.W.kia_one PySem.W.kitx_dict I.kIn ⟨o,h1,h2.1⟩ e (fun z=>nomatch z) h
 | @dT a kvs ea=>
  cases(show u=Value.ref a from rx)
  obtain⟨_,_,xs,_,o,es,ep,h1,h2,_⟩:=(show ObjOk X.prog X.w H s.heap a (.dT kvs) from I.hok a _ ea);exact PySem.W.kia_one PySem.W.kitx_dict I.kIn ⟨o,h1,h2.1⟩ e (fun z=>nomatch z) h
 | @ins a C dx fs ea cl ha hn htk hm=>
  cases(show u=Value.ref a from rx)
  obtain⟨mA,O,_⟩:=a5P I.hok ea;obtain⟨od,J,_⟩:=O.look;exact PySem.W.kia_one (PySem.W.kitx_own (cl.get _) cl.hd ha hn htk hm) I.kIn J e (fun z=>nomatch z) h
end
end L2
namespace L2
open PySem PySem.Spec PyProof.Rows
structure Room (k:Nat)(A:Around):Prop where
 hd:A.handled=none
 dp:A.depth+3*k+5<recursionLimit
 un:A.units+16*k+200<cLine
theorem Room.mono {j k:Nat}{A:Around}(r:Room k A)(h:j≤k):Room j A:=⟨r.hd,by have:=r.dp; omega,by have:=r.un; omega⟩
theorem Room.deeper {k:Nat}{A:Around}(r:Room (k+1) A)(env:Env):Room k (A.deeper env):=
 ⟨r.hd,by have:=r.dp; show A.depth+1+3*k+5<_; omega,by have:=r.un; show A.units+3+16*k+200<_; omega⟩
theorem aDI {A:Around}{C:Addr}{us:List Value}{kw:List (Str×Value)}:(A.under (.builtin "type.__call__" ⟨.ref C::us,kw⟩)).depth=A.depth+1:=by
 first|rfl|simp[Around.under,Code.weight,Code.isCreation,Code.isGuard,Code.isCaller,Code.frames,Code.isFrame,guardIds]
theorem aD4 {A:Around}{C:Addr}{us:List Value}{kw:List (Str×Value)}:(A.under (.builtin "type.__call__" ⟨.ref C::us,kw⟩)).units=A.units+1:=by
 first|rfl|simp[Around.under,Code.cUnits,Code.frames,Code.isFrame]
theorem Room.make {k:Nat}{A:Around}(r:Room (k+1) A)(C:Addr)(us:List Value)(kw:List (Str×Value)):Room k (A.under (.builtin "type.__call__" ⟨.ref C::us,kw⟩)):=
 ⟨r.hd,by have:=r.dp; rw[aDI]; omega,by have:=r.un; rw[aD4]; omega⟩
theorem Room.depth {k:Nat}{A:Around}(r:Room k A):A.depth<recursionLimit:=by have:=r.dp; omega
theorem Room.units {k:Nat}{A:Around}(r:Room k A):A.units+64<cLine:=by have:=r.un; omega
noncomputable def rB:TA:=fun _ H Q=>Q [] H
noncomputable def dD (ta:TE)(tr:TA):TA:=fun σ H Q=>ta σ H fun x H1=>tr σ H1 fun xs H2=>Q (x::xs) H2
section
variable {X:Cx}{e:Expr}{es:List Expr}{te:TE}{t:TA}{pos:Pos}
theorem aG:PA X [] rB:=fun _ _ _ _ H Q I h=>Calls.spliced_nil ⟨[],H,I,.nil,h⟩
theorem aA (ha:PE X e te)(hr:PA X es t)(hs:starEach (e::es) X.env=(false,eval e X.env)::starEach es X.env:=by rfl):PA X (e::es) (dD te t):=by
 intro pos pins s σ H Q I h;rw[hs];show wpAny _ _ (spliced ((false,eval e X.env)::backTo pos (starEach es X.env))) _ _ s;refine Calls.spliced_cons (thn (ha pins s σ H _ I h) fun u s1 ⟨x,H1,I1,r1,q1⟩=>?_);exact thn (hr pos pins s1 σ H1 _ I1 q1) fun us s2 ⟨xs,H2,I2,r2,q2⟩=>⟨x::xs,H2,I2,.cons r1 r2,q2⟩
noncomputable def aT3 (t:TA):TE:=fun σ H Q=>t σ H fun xs H1=>xs.length≤sizeLine∧∀ p,H1 p=none→Q (.ref p) (upd H1 p (.tup xs))
noncomputable def aSH (t:TA):TE:=fun σ H Q=>t σ H fun xs H1=>xs.length≤sizeLine∧∀ p,H1 p=none→Q (.ref p) (upd H1 p (.lst xs))
theorem dY {x1}(h:PA X es t):PE X (.Tuple es x1 pos) (aT3 t):=by
 intro pins s σ H Q I hq;refine wpAny_Tuple_spliced (thn (h pos pins s σ H _ I hq) fun us s1 ⟨xs,H1,I1,r,z,q⟩=>⟨by rw[← r.length]; exact z,?_⟩);have hf:H1 s1.heap.objs.size=none:=I1.hok.fresh (Nat.le_refl _);refine⟨.ref s1.heap.objs.size,upd H1 s1.heap.objs.size (.tup xs),I1.laid (t':=s1.toks) (fun b u e=>Heap.get?_push_of_some _ e) (Nat.le_refl _) ?_,rfl,q _ hf⟩;exact⟨z,us,r,⟨_,Heap.get?_push_size _ rfl,rfl,_,rfl⟩⟩
theorem eE (h:PA X es t):PE X (.List es pos) (aSH t):=by
 intro pins s σ H Q I hq;refine wpAny_List_spliced (thn (h pos pins s σ H _ I hq) fun us s1 ⟨xs,H1,I1,r,z,q⟩=>⟨by rw[← r.length]; exact z,?_⟩);have hf:H1 s1.heap.objs.size=none:=I1.hok.fresh (Nat.le_refl _);refine⟨.ref s1.heap.objs.size,upd H1 s1.heap.objs.size (.lst xs),I1.laid (t':=s1.toks) (fun b u e=>Heap.get?_push_of_some _ e) (Nat.le_refl _) ?_,rfl,q _ hf⟩;exact⟨z,us,0,r,Heap.get?_push_size _ rfl⟩
end
abbrev Sp:=List V→Hp→VK→XK→Prop
abbrev CXT:=List Env→Hp→Shared→XK→Value→Shared→Prop
structure Env0 (P:Program)(w:World)(K:PySem.W.Frag)(mg:Str→Option Value)(base:Heap)(A:Around)(outer:List Env)(s:Shared)(H:Hp):Prop where
 frames:A.frames=some outer
 mod:Mod K mg base
 bs:∀ b o,base.get? b=some o→s.heap.get? b=some o∧H b=none
 bsz:base.objs.size≤s.heap.objs.size
 funs:s.heap.FunFrames base outer
 frf:∀ b∈frs outer,H b=none
 hok:HOk P w H s.heap
 bare:AllBare s.gens
noncomputable def CE (outer:List Env)(P:Program)(w:World)(H:Hp)(s:Shared)(Q:VK)(u:Value)(s':Shared):Prop:=
 ∃ v H',s'.os=s.os∧AllBare s'.gens∧Un (frs outer) [] H H' s.heap s'.heap∧HOk P w H' s'.heap∧RelV v u∧Q v H'
noncomputable def CR (CX:CXT)(outer:List Env)(P:Program)(w:World)(H:Hp)(s:Shared)(Q:VK)(E:XK)(r:Result)(s':Shared):Prop:=
 match r with
 | .ok (.ret u)=>CE outer P w H s Q u s'
 | .ok _=>False
 | .error e=>CX outer H s E e s'
structure FnOk (P:Program)(w:World)(K:PySem.W.Frag)(mg:Str→Option Value)(base:Heap)(CX:CXT)(k:Nat)(f:Addr)(fd:FuncData)(ps:List Str)(sp:Sp):Prop where
 len:∀ vs H Q E,sp vs H Q E→vs.length=ps.length
 run:∀(A:Around) (outer:List Env) (s:Shared) (H:Hp) (args:Args) (us:List Value) (vs:List V) (Q:VK) (E:XK),Room k A→Env0 P w K mg base A outer s H→BindsTo s fd args (ps.zip us)→Vals vs us→sp vs H Q E →
  codeAny (model P w) A (.call (.ref f) args) (CR CX outer P w H s Q E) s
theorem FnOk.imp {P:Program}{w:World}{K:PySem.W.Frag}{mg:Str→Option Value}{base:Heap}{CX:CXT}{k:Nat}{f:Addr}{fd:FuncData}{ps:List Str}{sp sp':Sp}(F:FnOk P w K mg base CX k f fd ps sp)
  (h:∀ vs H Q E,sp' vs H Q E→sp vs H Q E):FnOk P w K mg base CX k f fd ps sp':=
 ⟨fun vs H Q E q=>F.len vs H Q E (h _ _ _ _ q),fun A outer s H args us vs Q E hr he hb hv hs=>F.run A outer s H args us vs Q E hr he hb hv (h _ _ _ _ hs)⟩
theorem Env0.make {P:Program}{w:World}{K:PySem.W.Frag}{mg:Str→Option Value}{base:Heap}{A:Around}{outer:List Env}{s:Shared}{H:Hp}(e:Env0 P w K mg base A outer s H)(C:Addr)(us:List Value)(kw:List (Str×Value)) :
  Env0 P w K mg base (A.under (.builtin "type.__call__" ⟨.ref C::us,kw⟩)) outer s H:=⟨by first|exact e.frames|(simpa [Around.under,Code.envs,Code.isFrame,pushEnvs] using e.frames),e.mod,e.bs,e.bsz,e.funs,e.frf,e.hok,e.bare⟩
section
variable {X:Cx}{pins:List (Addr×Obj)}{σ:St}{H:Hp}{s s':Shared}
theorem Inv.env0 (I:Inv X pins σ H s):Env0 X.prog X.w X.K X.mg X.base X.A X.stack s H:=
 ⟨I.ok.frames,I.ok.mod,I.bs,Nat.le_trans I.ok.bsz I.sz,I.stack,I.stkFree,I.hok,I.bare⟩
theorem Inv.after {Q:VK}{u:Value}(I:Inv X pins σ H s)(h:CE X.stack X.prog X.w H s Q u s'):EP X pins σ Q u s':=by
 obtain⟨v,H',os,bare,un,hok,r,q⟩:=h;obtain⟨hh,g,d,t,os'⟩:=s';obtain rfl:os'=s.os:=os;exact⟨v,H',I.call (h':=hh) (g':=g) (d':=d) (t':=t) (ch:=[]) un hok bare (fun b z=>absurd z (by simp)),r,q⟩
end
noncomputable def a9A (sp:Sp)(dvs:List V)(E:XK)(t:TA):TE:=fun σ H Q=>t σ H fun vs H1=>sp (vs++dvs) H1 Q E
noncomputable def a1Z (C:Addr)(m:Str)(sp:Sp)(dvs:List V)(E:XK)(ta:TE)(t:TA):TE:=fun σ H Q=>ta σ H fun x H1=>∃ a dx fs,x=.ref a∧H1 a=some (.ins C dx fs)∧fs.lookup m=none ∧
 t σ H1 fun vs H2=>sp (x::(vs++dvs)) H2 Q E
noncomputable def aFI (C:Addr)(sp:Sp)(dvs:List V)(E:XK)(t:TA):TE:=fun σ H Q=>t σ H fun vs H1=>∀ x dx,H1 x=none→H1 dx=none→dx≠x →
 sp (.ref x::(vs++dvs)) (upd (upd H1 dx (.own x)) x (.ins C dx [])) (fun v H2=>v=.non∧Q (.ref x) H2) E
noncomputable def Binds (K:PySem.W.Frag)(fd:FuncData)(ps:List Str)(ds:List Value):Prop:=
 ∀(s:Shared) (us:List Value),K.In s.heap→(us++ds).length=ps.length→BindsTo s fd ⟨us,[]⟩ (ps.zip (us++ds))
theorem Binds.all {K:PySem.W.Frag}{fd:FuncData}{ps:List Str}(h:∀ us:List Value,us.length=ps.length→bindArgs fd ⟨us,[]⟩=pure (ps.zip us)):Binds K fd ps []:=fun s us _ hl=>by
 rw[List.append_nil] at hl ⊢;exact .of_eq (h us hl)
noncomputable def xV (CX:CXT)(X:Cx)(E:XK):Prop:=∀(pins:List (Addr×Obj)) (σ:St) (H:Hp) (s:Shared) (e:Value) (s':Shared),Inv X pins σ H s→CX X.stack H s E e s'→X.xe e s'
section
variable {X:Cx}{CX:CXT}{k:Nat}{f C:Addr}{fd:FuncData}{ps:List Str}{sp:Sp}{dvs:List V}{ds:List Value}{E:XK}{x m:Str}{p pos apos:Pos}{e o:Expr}{es:List Expr}{ta:TE}{t:TA}
theorem aGJ {pins:List (Addr×Obj)}{σ:St}{H:Hp}{s:Shared}{Q:VK}{us:List Value}{vs:List V}(F:FnOk X.prog X.w X.K X.mg X.base CX k f fd ps sp)(hr:Room k X.A)(hb:Binds X.K fd ps ds)(hd:Vals dvs ds)(hx:xV CX X E)
  (I:Inv X pins σ H s) (r:Vals vs us) (h:sp (vs++dvs) H Q E):wpAny (model X.prog X.w) X.A (call (.ref f) us) (EP X pins σ Q) X.xe s:=by
 have r2:Vals (vs++dvs) (us++ds):=r.append hd;have hl:(us++ds).length=ps.length:=by rw[← r2.length]; exact F.len _ _ _ _ h
 refine wpAny_call (codeAny_mono (F.run X.A X.stack s H ⟨us,[]⟩ (us++ds) (vs++dvs) Q E hr I.env0 (hb s us I.kIn hl) r2 h) fun r s' hq=>?_)
 cases r with
 | error e=>exact hx pins σ H s e s' I hq
 | ok fl=>
  cases fl with
  | ret u=>exact I.after hq
  | next=>exact False.elim hq
  | brk=>exact False.elim hq
  | cont=>exact False.elim hq
theorem aMA (F:FnOk X.prog X.w X.K X.mg X.base CX k f fd ps sp)(hr:Room k X.A)(hg:Gl X x)(hm:X.mg x=some (.ref f))(hk:PySem.W.keepIn X.K (.ref f)=true)(hb:Binds X.K fd ps ds)(hd:Vals dvs ds)(hx:xV CX X E)
  (ha:PA X (e::es) t) (hdb:(x==("__debug__" : Str))=false:=by decide) (he:starEach (e::es) X.env=(false,eval e X.env)::starEach es X.env:=by rfl) (hpl:(backTo pos (starEach es X.env)).any (·.1)=false:=by rfl) :
  PE X (.Call (.Name x p) (e::es) [] pos) (a9A sp dvs E t):=by
 intro pins s σ H Q I h;refine wpAny_Call_Name_kw (a5A I hg hm ?_ hdb);refine PySem.W.callWith_K (h₀:=X.base) I.ok.mod.kin hk (thn (ha pos pins s σ H _ I h) fun us s1 ⟨vs,H1,I1,r,q⟩=>⟨I1.kIn,?_⟩) he hpl;exact aGJ F hr hb hd hx I1 r q
theorem iJ {pl:Sem Bool}(he:PE X o ta)(c:Cls X.K C)(hm:Meth X.K C m f)(F:FnOk X.prog X.w X.K X.mg X.base CX k f fd ps sp)(hr:Room k X.A)(hb:Binds X.K fd ps ds)(hd:Vals dvs ds)(hx:xV CX X E)(ha:PA X (e::es) t)
  (hst:starEach (e::es) X.env=(false,eval e X.env)::starEach es X.env:=by rfl) (hpl:(backTo pos (starEach es X.env)).any (·.1)=false:=by rfl)
  (ht:eval (.Call (.Attribute o m apos) (e::es) [] pos) X.env=(do
   let ov←eval o X.env
   standAt apos.atName
   let (f,first)←holding [ov] (getMethod ov m pl)
   callWith pos f first (backTo pos (starEach (e::es) X.env)) (backToKw pos (keywordEach [] X.env))):=by rfl) :
  PE X (.Call (.Attribute o m apos) (e::es) [] pos) (a1Z C m sp dvs E ta t):=by
 intro pins s σ H Q I h;refine PySem.W.methodCall_KW (pl:=pl) (thn (he pins s σ H _ I h) fun u s1 ⟨x,H1,I1,rx,a,dx,fs,ex,ea,l,q⟩=>?_) ht;subst ex;obtain rfl:u=Value.ref a:=rx;refine a3H I1 ea c hm l ?_;refine PySem.W.callWith_K (first:=[.ref a]) (h₀:=X.base) I.ok.mod.kin hm.kp (thn (ha pos pins s1 σ H1 _ I1 q) fun us s2 ⟨vs,H2,I2,r,q2⟩=>⟨I2.kIn,?_⟩) hst hpl;exact aGJ (us:=.ref a::us) (vs:=.ref a::vs) F hr hb hd hx I2 (.cons rfl r) q2
theorem jU {pl:Sem Bool}(he:PE X o ta)(c:Cls X.K C)(hm:Meth X.K C m f)(F:FnOk X.prog X.w X.K X.mg X.base CX k f fd ps sp)(hr:Room k X.A)(hb:Binds X.K fd ps ds)(hd:Vals dvs ds)(hx:xV CX X E)
  (ht:eval (.Call (.Attribute o m apos) [] [] pos) X.env=(do
   let ov←eval o X.env
   standAt apos.atName
   let (f,first)←holding [ov] (getMethod ov m pl)
   callWith pos f first (backTo pos (starEach [] X.env)) (backToKw pos (keywordEach [] X.env))):=by rfl) :
  PE X (.Call (.Attribute o m apos) [] [] pos) (a1Z C m sp dvs E ta rB):=by
 intro pins s σ H Q I h;refine PySem.W.methodCall_KW (pl:=pl) (thn (he pins s σ H _ I h) fun u s1 ⟨x,H1,I1,rx,a,dx,fs,ex,ea,l,q⟩=>?_) ht;subst ex;obtain rfl:u=Value.ref a:=rx;refine a3H I1 ea c hm l ?_;exact PySem.W.callWith_K0 (first:=[.ref a]) I1.kIn hm.kp (aGJ (us:=[.ref a]) (vs:=[.ref a]) F hr hb hd hx I1 (.cons rfl .nil) q)
structure Mk (K:PySem.W.Frag)(C f:Addr):Prop where
 makes:PySem.W.makesIn K C=true
 init:PySem.W.findIn K (.ref C) "__init__" = some (some (.ref f))
 fn:PySem.W.isFn K (.ref f)=true
 kp:PySem.W.keepIn K (.ref C)=true
theorem aC1 {pins:List (Addr×Obj)}{σ:St}{H:Hp}{s:Shared}{Q:VK}{us:List Value}{vs:List V}(M:Mk X.K C f)(F:FnOk X.prog X.w X.K X.mg X.base CX k f fd ps sp)(hr:Room (k+1) X.A)(hb:Binds X.K fd ps ds)(hd:Vals dvs ds)
  (hx:xV CX X E) (I:Inv X pins σ H s) (r:Vals vs us)
  (h:∀ x dx,H x=none→H dx=none→dx≠x→sp (.ref x::(vs++dvs)) (upd (upd H dx (.own x)) x (.ins C dx [])) (fun v H2=>v=.non∧Q (.ref x) H2) E) :
  wpAny (model X.prog X.w) X.A (call (.ref C) us) (EP X pins σ Q) X.xe s:=by
 have hq:=h (s.heap.objs.size+1) s.heap.objs.size (I.hok.fresh (Nat.le_succ _)) (I.hok.fresh (Nat.le_refl _)) (Nat.ne_of_lt (Nat.lt_succ_self _));have I2:=Inv.made (C:=C) I;have r2:Vals (V.ref (s.heap.objs.size+1)::(vs++dvs)) (Value.ref (s.heap.objs.size+1)::(us++ds)):=.cons rfl (r.append hd);have hl:(Value.ref (s.heap.objs.size+1)::us++ds).length=ps.length:=by
  have e:=r2.length;rw[F.len _ _ _ _ hq] at e;exact e.symm
 refine wpAny_call (aJL (f:=f) I.kIn M.makes M.init (beq_iff_eq.mp M.fn) (codeAny_mono (F.run _ X.stack _ _ ⟨Value.ref (s.heap.objs.size+1)::us,[]⟩ (Value.ref (s.heap.objs.size+1)::(us++ds)) _ _ E (hr.make C us [])
  (I2.env0.make C us []) (hb _ (Value.ref (s.heap.objs.size+1)::us) I2.kIn hl) r2 hq) fun r s' hq'=>?_))
 cases r with
 | error e=>exact hx pins σ _ _ e s' I2 hq'
 | ok fl=>
  cases fl with
  | ret u=>
   obtain⟨v,H',I3,rv,ev,q3⟩:=I2.after hq';subst ev;exact⟨rv,⟨V.ref (s.heap.objs.size+1),H',I3,rfl,q3⟩⟩
  | next=>exact False.elim hq'
  | brk=>exact False.elim hq'
  | cont=>exact False.elim hq'
theorem aMY (M:Mk X.K C f)(F:FnOk X.prog X.w X.K X.mg X.base CX k f fd ps sp)(hr:Room (k+1) X.A)(hg:Gl X x)(hm:X.mg x=some (.ref C))(hb:Binds X.K fd ps ds)(hd:Vals dvs ds)(hx:xV CX X E)
  (ha:PA X (e::es) t) (hdb:(x==("__debug__" : Str))=false:=by decide) (he:starEach (e::es) X.env=(false,eval e X.env)::starEach es X.env:=by rfl) (hpl:(backTo pos (starEach es X.env)).any (·.1)=false:=by rfl) :
  PE X (.Call (.Name x p) (e::es) [] pos) (aFI C sp dvs E t):=by
 intro pins s σ H Q I h;refine wpAny_Call_Name_kw (a5A I hg hm ?_ hdb);refine PySem.W.callWith_K (h₀:=X.base) I.ok.mod.kin M.kp (thn (ha pos pins s σ H _ I h) fun us s1 ⟨vs,H1,I1,r,q⟩=>⟨I1.kIn,?_⟩) he hpl;exact aC1 M F hr hb hd hx I1 r q
theorem yU (M:Mk X.K C f)(F:FnOk X.prog X.w X.K X.mg X.base CX k f fd ps sp)(hr:Room (k+1) X.A)(hg:Gl X x)(hm:X.mg x=some (.ref C))(hb:Binds X.K fd ps ds)(hd:Vals dvs ds)(hx:xV CX X E)
  (hdb:(x==("__debug__" : Str))=false:=by decide):PE X (.Call (.Name x p) [] [] pos) (aFI C sp dvs E rB):=by
 intro pins s σ H Q I h;refine wpAny_Call_Name_kw (a5A I hg hm ?_ hdb);exact PySem.W.callWith_K0 I.kIn M.kp (aC1 (us:=[]) M F hr hb hd hx I .nil h)
end
section
variable {X:Cx}{CX:CXT}{k:Nat}{f C:Addr}{fd:FuncData}{ps ks:List Str}{sp:Sp}{E:XK}{x m:Str}{p pos apos kpos:Pos}{e o:Expr}{es:List Expr}{kws:List Keyword}{te ta:TE}{t tk:TA}{nm:Option Str}
variable {g:List Value→List Value→List Value}{gV:List V→List V→List V}
end
structure FnScope (N P:List Str)(sc:Scope):Prop where
 kind:sc.kind=.function
 co:sc.isCoroutine=false
 gen:sc.isGenerator=false
 nd:N.Nodup
 pre:N.take P.length=P
 par:∀ x∈P,sc.names.lookup x=some .local∨sc.names.lookup x=some .cell
 nofree:∀ y∈sc.names,y.2≠.free
theorem a7S {kindOf:Str→Option NameKind}{x:Str}:∀{binds:List (Str×Value)} {m:Str→Option Value},(∀ v,(x,v)∉binds)→bindL kindOf binds m x=m x
 | [],_,_=>rfl
 | (n,v)::r,m,h=>by
  unfold bindL;rw[a7S fun w hw=>h w (List.mem_cons_of_mem _ hw)]
  split
  ·have:x≠n:=by rintro rfl; exact h v List.mem_cons_self
   simp[this]
  ·rfl
theorem a7L {kindOf:Str→Option NameKind}{x:Str}:∀{binds:List (Str×Value)} {m:Str→Option Value},(∀ v,(x,v)∉binds)→bindC kindOf binds m x=m x
 | [],_,_=>rfl
 | (n,v)::r,m,h=>by
  unfold bindC;rw[a7L fun w hw=>h w (List.mem_cons_of_mem _ hw)]
  split
  ·rfl
  ·have:x≠n:=by rintro rfl; exact h v List.mem_cons_self
   simp[this]
theorem a6S {kindOf:Str→Option NameKind}{x:Str}{v:Value}:∀{P:List Str} {vs:List Value} {i:Nat} {m:Str→Option Value},P.Nodup→P[i]?=some x→vs[i]?=some v→kindOf x=some .local →
  bindL kindOf (P.zip vs) m x=some v
 | [],_,_,_,_,h,_,_=>by simp at h
 | _::_,[],_,_,_,_,h,_=>by simp at h
 | p::P,w::vs,0,m,nd,h1,h2,hk=>by
  simp at h1 h2; subst h1; subst h2;show bindL kindOf ((p,w)::P.zip vs) m p=_;unfold bindL;rw[a7S fun v hv=>(List.nodup_cons.mp nd).1 (List.of_mem_zip hv).1,if_pos hk];simp
 | p::P,w::vs,i+1,m,nd,h1,h2,hk=>by
  show bindL kindOf ((p,w)::P.zip vs) m x=_;unfold bindL;exact a6S (i:=i) (List.nodup_cons.mp nd).2 (by simpa using h1) (by simpa using h2) hk
theorem a6B {kindOf:Str→Option NameKind}{x:Str}{v:Value}:∀{P:List Str} {vs:List Value} {i:Nat} {m:Str→Option Value},P.Nodup→P[i]?=some x→vs[i]?=some v→kindOf x≠some .local →
  bindC kindOf (P.zip vs) m x=some v
 | [],_,_,_,_,h,_,_=>by simp at h
 | _::_,[],_,_,_,_,h,_=>by simp at h
 | p::P,w::vs,0,m,nd,h1,h2,hk=>by
  simp at h1 h2; subst h1; subst h2;show bindC kindOf ((p,w)::P.zip vs) m p=_;unfold bindC;rw[a7L fun v hv=>(List.nodup_cons.mp nd).1 (List.of_mem_zip hv).1,if_neg hk];simp
 | p::P,w::vs,i+1,m,nd,h1,h2,hk=>by
  show bindC kindOf ((p,w)::P.zip vs) m x=_;unfold bindC;exact a6B (i:=i) (List.nodup_cons.mp nd).2 (by simpa using h1) (by simpa using h2) hk
noncomputable def start (N:List Str)(vs:List V):St:=vs.map some++List.replicate (N.length-vs.length) none
noncomputable def aHZ (CX:CXT)(P:Program)(w:World)(K:PySem.W.Frag)(mg:Str→Option Value)(base:Heap)(N:List Str)(qual:Str)(scope:Scope)(f:Addr)(cd:Value)(A:Around)(outer:List Env)(s:Shared)(H:Hp)(E:XK):Cx where
 prog:=P
 w:=w
 K:=K
 mg:=mg
 base:=base
 A:=A.deeper (envOfC qual scope s.heap.objs.size f cd)
 N:=N
 s₀:=s
 H₀:=H
 env:=envOfC qual scope s.heap.objs.size f cd
 outer:=outer
 stack:=envOfC qual scope s.heap.objs.size f cd::outer
 ex:=[]
 calm:=true
 fn:=fun _=>true
 pn:=[]
 xe:=fun e s'=>wpAny (model P w) (A.deeper (envOfC qual scope s.heap.objs.size f cd)) (leaving (envOfC qual scope s.heap.objs.size f cd) e) (fun _ s''=>CX outer H s E e s'') (fun e' s''=>CX outer H s E e' s'') s'
theorem aBY {sc:Scope}{n:Nat}{x:Str}(h:sc.names.lookup x=some .cell):∃ c,(cellsFrom n sc.names []).lookup x=some c:=by
 have q:=PySem.W.cellsFrom_some sc.names n [] (.inl h);exact Option.isSome_iff_exists.mp q
theorem aGY {CX:CXT}{P:Program}{w:World}{K:PySem.W.Frag}{mg:Str→Option Value}{base:Heap}{N ps:List Str}{qual:Str}{scope:Scope}{f:Addr}{cd:Value}{A:Around}{outer:List Env}{s s1:Shared}{H:Hp}{E:XK}{us:List Value}{vs:List V}
  (S:FnScope N ps scope) (hd:A.handled=none) (e0:Env0 P w K mg base A outer s H) (hl:vs.length=ps.length) (r:Vals vs us)
  (x:InCallC s s.heap.objs.size (bindL (envOfC qual scope s.heap.objs.size f cd).kindOf (ps.zip us) fun _=>none) (cellsFrom (s.heap.objs.size+1) scope.names []) (bindC (envOfC qual scope s.heap.objs.size f cd).kindOf (ps.zip us) fun _=>none) s1) :
  Inv (aHZ CX P w K mg base N qual scope f cd A outer s H E) [] (start N vs) H s1:=by
 have hpl:ps.length≤N.length:=by have:=congrArg List.length S.pre; rw[List.length_take] at this; omega
 obtain⟨h1,tk,rfl,hk⟩:=x.done;have noA:∀ b:Addr,b∉(aHZ CX P w K mg base N qual scope f cd A outer s H E).ex:=fun b z=>absurd (show b∈([]:List Addr) from z) (by simp);refine⟨⟨e0.mod,S.kind,rfl,rfl,Nat.le_refl _,fun y z c h1 h2=>?_,fun y hy=>?_,fun y c _ h=>?_,fun _=>hd,Around.frames_deeper e0.frames,.inr ⟨rfl,rfl⟩,fun b z=>absurd z (noA b),e0.bs,e0.bsz,fun b _ _=>noA b,fun b z=>absurd z (noA b),e0.funs,e0.frf⟩,
  rfl,e0.bare,Un.kept hk,⟨_,x.toInCall.ns,fun i y v h1 h2 h3=>?_⟩,fun y c h=>⟨_,x.cell y c h⟩,e0.hok.fresh (Nat.le_refl _),fun y c h=>?_,fun p hp=>absurd (show p∈([]:List (Addr×Obj)) from hp) (by simp),e0.hok.kept hk,?_⟩
 ·exact name_of_addr x.apart (PySem.mem_of_lookup h1) (PySem.mem_of_lookup h2)
 ·have hy:scope.names.lookup y=some .cell∨scope.names.lookup y=some .free:=hy;rcases hy with hy|hy
  ·exact aBY hy
  ·exact absurd rfl (S.nofree _ (PySem.mem_of_lookup hy))
 ·exact Nat.le_of_lt (x.above y c (PySem.mem_of_lookup h))
 ·have hi:i<vs.length:=by
   unfold start at h2
   by_cases hi:i<vs.length
   ·exact hi
   ·rw[List.getElem?_append_right (by simpa using hi)] at h2;rw[List.getElem?_replicate] at h2
    split at h2<;>cases h2
  have ha:vs[i]?=some v:=by
   unfold start at h2;rw[List.getElem?_append_left (by simpa using hi),List.getElem?_map] at h2
   cases e:vs[i]? with
   | none=>rw[e] at h2; cases h2
   | some a=>rw[e] at h2; cases h2; rfl
  obtain⟨u,hu,rv⟩:=r.get ha;have hp:ps[i]?=some y:=by
   rw[← S.pre,List.getElem?_take_of_lt (by omega)]; exact h1
  have ndP:ps.Nodup:=by rw[← S.pre]; exact S.nd.sublist (List.take_sublist _ _)
  refine⟨u,rv,?_⟩;rcases S.par y (List.mem_of_getElem? hp) with k|k
  ·exact .inl ⟨k,a6S ndP hp hu k⟩
  ·obtain⟨c,e⟩:=aBY (n:=s.heap.objs.size+1) k;refine .inr ⟨.inl k,c,e,?_⟩;have q:=x.cell y c e;rw[a6B ndP hp hu (by show scope.names.lookup y≠_; rw[k]; decide)] at q;exact q
 ·exact e0.hok.fresh (Nat.le_of_lt (x.above y c (PySem.mem_of_lookup h)))
 ·unfold start;show _=N.length;rw[List.length_append,List.length_map,List.length_replicate];omega
theorem aRN {CX:CXT}{P:Program}{w:World}{K:PySem.W.Frag}{mg:Str→Option Value}{base:Heap}{k:Nat}{f:Addr}{name qual:Str}{params:Arguments}{body:List Stmt}{scope:Scope}{dV kV doc pm cdv ct oc:Value}{an od:Option Addr}
  {osl:Array (Option Value)} {N ps:List Str} {sp:Sp} (lk:K.lookup f=some ⟨oc,od,.func (PySem.W.fnOf name qual params body scope dV kV doc pm an cdv ct),osl⟩) (hcd:PySem.W.codeIn K cdv qual=true) (S:FnScope N ps scope)
  (len:∀ vs H Q E,sp vs H Q E→vs.length=ps.length)
  (hbody:∀(A:Around) (outer:List Env) (s:Shared) (H:Hp) (vs:List V) (Q:VK) (E:XK),Room k (A.deeper (envOfC qual scope s.heap.objs.size f cdv))→sp vs H Q E →
   ∃ t,PSs (aHZ CX P w K mg base N qual scope f cdv A outer s H E) body t∧t { nx:=fun _ H'=>Q .non H',rt:=Q } (start N vs) H) :
  FnOk P w K mg base CX (k+1) f (PySem.W.fnOf name qual params body scope dV kV doc pm an cdv ct) ps sp:=by
 refine⟨len,fun A outer s H args us vs Q E hr e0 hb r hsp=>?_⟩;have hl:=len _ _ _ _ hsp;have KX:K.In s.heap:=e0.mod.kin.keeps fun b o e=>(e0.bs b o e).1;have lim:s.heap.NoLimit:=e0.mod.nolimit.keeps fun b o e=>(e0.bs b o e).1;have hkind:∀ y∈ps.zip us,scope.names.lookup y.1=some .local∨(scope.names.lookup y.1=some .cell∧((cellsFrom (s.heap.objs.size+1) scope.names []).lookup y.1).isSome=true):=fun⟨n,v⟩ hy=>by
  rcases S.par n (List.of_mem_zip hy).1 with q|q
  ·exact .inl q
  ·exact .inr ⟨q,PySem.W.cellsFrom_some _ _ _ (.inl q)⟩
 refine codeAny_call_function hr.depth (KX _ _ lk) rfl S.co S.gen rfl (PySem.W.codeRec_of KX hcd) (hb _ _ _ _ ?_);refine wpAny_newFunctionEnv_cells S.kind hkind fun env he s1 x=>?_;subst he;refine⟨lim.keeps x.toInCall.keep,codeAny_func ?_⟩;obtain⟨t,ht,hq⟩:=hbody A outer s H vs Q E (hr.deeper _) hsp;have I:Inv (aHZ CX P w K mg base N qual scope f cdv A outer s H E) [] (start N vs) H s1:=aGY S hr.hd e0 hl r x;refine wpAny_mono (ht [] s1 (start N vs) H _ I hq) (fun fl s' hs=>?_) fun e s' hs=>hs;have fin:∀{σ':St} {H':Hp} {v:V} {u:Value},Inv (aHZ CX P w K mg base N qual scope f cdv A outer s H E) [] σ' H' s'→RelV v u→Q v H'→CE outer P w H s Q u s':=
  fun{σ' H' v u} J rv q=>⟨v,H',J.os,J.bare,J.base,J.hok,rv,q⟩
 cases fl with
 | ret u=>
  obtain⟨v,σ',H',J,rv,q⟩:=hs;exact fin J rv q
 | next=>
  obtain⟨σ',H',J,q⟩:=hs;exact fin (v:=V.non) (u:=Value.none) J rfl q
 | brk=>
  obtain⟨_,_,_,q⟩:=hs;exact False.elim q
 | cont=>
  obtain⟨_,_,_,q⟩:=hs;exact False.elim q
end L2
namespace L2
open PySem PySem.Spec PyProof.Rows
section
variable {X:Cx}{x:Str}{p pos:Pos}{e:Expr}{es:List Expr}{t:TA}{id T:String}{r:List V→Hp→VK→Prop}
noncomputable def tCB (r:List V→Hp→VK→Prop)(t:TA):TE:=fun σ H Q=>t σ H fun vs H1=>r vs H1 Q
theorem bJ (hc:wI X (.builtin id) r)(hg:Gl X x)(hm:X.mg x=none)(hv:bootBuiltins x=some (.builtin id))(ha:PA X (e::es) t)(hn:x ≠ "__name__" := by decide)(hdb:(x==("__debug__" : Str))=false:=by decide)
  (he:starEach (e::es) X.env=(false,eval e X.env)::starEach es X.env:=by rfl) (hpl:(backTo pos (starEach es X.env)).any (·.1)=false:=by rfl):PE X (.Call (.Name x p) (e::es) [] pos) (tCB r t):=by
 intro pins s σ H Q I h;refine wpAny_Call_Name_kw (xZ I hg hm hv ?_ hn hdb);exact PyProof.Rows.callWith_builtin1 (thn (ha pos pins s σ H _ I h) fun us s1 ⟨vs,H1,I1,r1,q1⟩=>hc pins s1 σ H1 vs us Q I1 r1 q1) he hpl
theorem gH (hc:wI X (.type T) r)(hg:Gl X x)(hm:X.mg x=none)(hv:bootBuiltins x=some (.type T))(ha:PA X (e::es) t)(hn:x ≠ "__name__" := by decide)(hdb:(x==("__debug__" : Str))=false:=by decide)
  (he:starEach (e::es) X.env=(false,eval e X.env)::starEach es X.env:=by rfl) (hpl:(backTo pos (starEach es X.env)).any (·.1)=false:=by rfl):PE X (.Call (.Name x p) (e::es) [] pos) (tCB r t):=by
 intro pins s σ H Q I h;refine wpAny_Call_Name_kw (xZ I hg hm hv ?_ hn hdb);exact PyProof.Rows.callWith_type1 (thn (ha pos pins s σ H _ I h) fun us s1 ⟨vs,H1,I1,r1,q1⟩=>hc pins s1 σ H1 vs us Q I1 r1 q1) he hpl
end
end L2
namespace HT
open PySem PyProof.Rows
section
open PySem.SeqAt
open PySem.AutoSeq1 (wpAny_loadPart')
open PySem.MeetsSeq PySem.MeetsSeq2 PySem.MeetsSeq3
end
section
variable {prog:Program}{w:World}{A:Around}{E:Value→Shared→Prop}{s:Shared}
noncomputable def sIx (n d:Nat):Option Int→Nat
 | none=>d
 | some v=>if v<0 then(v+(n:Int)).toNat else min v.toNat n
theorem aQ7 (n d:Nat)(hd:d≤n)(o:Option Int):sIx n d o≤n:=by
 cases o with
 | none=>exact hd
 | some v=>
  show(if v<0 then(v+(n:Int)).toNat else min v.toNat n)≤n
  by_cases hv:v<0
  ·rw[if_pos hv]; omega
  ·rw[if_neg hv]; exact Nat.min_le_right _ _
theorem aF6 (v:Int)(n d:Nat):(if v<0 then max (v+(n:Int)) 0 else min v (n:Int))=((sIx n d (some v):Nat):Int):=by
 show(if v<0 then max (v+(n:Int)) 0 else min v (n:Int))=(((if v<0 then(v+(n:Int)).toNat else min v.toNat n):Nat):Int)
 by_cases hv:v<0
 ·simp only[if_pos hv]; omega
 ·simp only[if_neg hv]; omega
theorem aDB (lo hi:Option Int)(n:Nat):Builtin.Slice.sliceAdjust lo hi 1 (n:Int)=(((sIx n 0 lo:Nat):Int),((sIx n n hi:Nat):Int)):=by
 have h1:¬((1:Int)<0):=by omega
 unfold Builtin.Slice.sliceAdjust;simp only[h1,if_false];refine Prod.ext ?_ ?_
 ·cases lo with
  | none=>rfl
  | some v=>exact aF6 v n 0
 ·cases hi with
  | none=>rfl
  | some v=>exact aF6 v n n
theorem aCT (i j:Nat):Builtin.Slice.slicePlaces (i:Int) (j:Int) 1=j-i:=by
 unfold Builtin.Slice.slicePlaces;have h1:(1:Int)>0:=by omega
 simp only[h1,if_true,Int.ediv_one]
 split<;>omega
theorem a2J {v:Value}{o:Option Int}{Q:Option Int→Shared→Prop}(p:IsPart v o)(h:Q o s):wpAny (model prog w) A (Builtin.Slice.slicePartIndex v) Q E s:=by
 cases p with
 | none=>exact slicePart_none h
 | int i t=>exact slicePart_int h
theorem yL {sl:Addr}{vl vu:Value}{lo hi:Option Int}{n:Nat}{Q:Int×Int×Nat→Shared→Prop}(hs:s.heap.IsSliceOf sl vl vu .none)(pl:IsPart vl lo)(pu:IsPart vu hi)
  (h:Q (((sIx n 0 lo:Nat):Int),1,sIx n n hi-sIx n 0 lo) s):wpAny (model prog w) A (Builtin.Slice.sliceApplied (.ref sl) (pure (n:Int))) Q E s:=by
 obtain⟨os,hos,hcs,hds⟩:=id hs;unfold Builtin.Slice.sliceApplied Builtin.Slice.sliceFields;refine wpAny_bind (wpAny_bind (wpAny_field hos hds (x:=vl) rfl (wpAny_bind (wpAny_field hos hds (x:=vu) rfl (wpAny_bind (wpAny_field hos hds (x:=.none) rfl (wpAny_pure ?_)))))));refine wpAny_bind (slicePart_none ?_);show wpAny _ _ (if ((1:Int)==0)=true then _ else _) _ _ s;rw[if_neg (by decide)];refine wpAny_bind (a2J pl (wpAny_bind (a2J pu (wpAny_bind (wpAny_pure ?_)))));show wpAny _ _ (match Builtin.Slice.sliceAdjust lo hi 1 (n:Int) with|(lo,hi)=>pure (lo,(1:Int),Builtin.Slice.slicePlaces lo hi 1)) _ _ s;rw[aDB lo hi n];show wpAny _ _ (pure (((sIx n 0 lo:Nat):Int),(1:Int),Builtin.Slice.slicePlaces ((sIx n 0 lo:Nat):Int) ((sIx n n hi:Nat):Int) 1)) _ _ s;rw[aCT];exact wpAny_pure h
theorem aJG (xs:Array Value)(i k:Nat):((List.range k).filterMap fun(m:Nat)=>xs[((i:Int)+(m:Int)*1).toNat]?).toArray=((xs.toList.drop i).take k).toArray:=by
 have e:(fun(m:Nat)=>xs[((i:Int)+(m:Int)*1).toNat]?)=fun m=>xs[i+m]?:=by
  funext m
  have:((i:Int)+(m:Int)*1).toNat=i+m:=by omega
  rw[this]
 rw[e];have:=pick_run xs i k;rw[List.filterMap_map] at this;have e2:((fun x=>xs[x]?)∘fun x=>i+x)=fun m=>xs[i+m]?:=rfl;rw[e2] at this;rw[this]
theorem getItem_tuple_cut {t sl:Addr}{items:Array Value}{vl vu:Value}{lo hi:Option Int}{Q:Value→Shared→Prop}(ht:IsTup s.heap t items)(hs:s.heap.IsSliceOf sl vl vu .none)(pl:IsPart vl lo)(pu:IsPart vu hi)
  (hw:¬(sIx items.size 0 lo=0∧sIx items.size items.size hi=items.size))
  (h:Q (.ref s.heap.objs.size) { s with heap:=s.heap.push { cls:=.type "tuple", data:=.seq ((items.toList.drop (sIx items.size 0 lo)).take (sIx items.size items.size hi-sIx items.size 0 lo)).toArray } })
  (hsz:items.size≤sizeLine):wpAny (model prog w) A (getItem (.ref t) (.ref sl)) Q E s:=by
 have htake:sizeOk (.seq ((items.toList.drop (sIx items.size 0 lo)).take (sIx items.size items.size hi-sIx items.size 0 lo)).toArray):=by
  show((items.toList.drop (sIx items.size 0 lo)).take (sIx items.size items.size hi-sIx items.size 0 lo)).toArray.size≤sizeLine
  rw[List.size_toArray,List.length_take,List.length_drop,Array.length_toList];omega
 have hj:sIx items.size items.size hi≤items.size:=aQ7 _ _ (Nat.le_refl _) hi;obtain⟨os,hos,hcs,hds⟩:=id hs;have hTs:s.TypeIs (.ref sl) "slice" := ⟨os,hos,hcs⟩;unfold getItem
 try with_reducible refine wpAny_holding ?_
 first|refine wpAny_bind (wpAny_pure ?_)|skip
 refine wpAny_bind (wpAny_sequenceKey ht.typeIs (by decide) ?_);refine wpAny_bind (wpAny_callSpecial?_slot (name:=Str.ofString "__getitem__") ht.typeIs PyProof.Rows.slot_tuple_getitem
  (wpAny_call_entry PyProof.Rows.slot_tuple_getitem ht.typeIs entry_tuple_getitem ?_ (args_tuple_getitem _ _)))
 show wpAny _ _ (Builtin.Tuple.tupleItemsOf (.ref t) >>= _) _ _ s;refine wpAny_bind (tupleItemsOf_ ht ?_);refine wpAny_bind (wpAny_typeOf hTs ?_);rw[if_pos (by decide)];refine wpAny_bind (yL hs pl pu ?_);have hno:¬((((sIx items.size 0 lo:Nat):Int)==0&&(1:Int)==1&&(sIx items.size items.size hi-sIx items.size 0 lo)==items.size)=true):=by
  intro q;rw[Bool.and_eq_true,Bool.and_eq_true] at q;have q1:((sIx items.size 0 lo:Nat):Int)=0:=eq_of_beq q.1.1;have q2:sIx items.size items.size hi-sIx items.size 0 lo=items.size:=eq_of_beq q.2;exact hw ⟨by omega,by omega⟩
 show wpAny _ _ (if (((sIx items.size 0 lo:Nat):Int)==0&&(1:Int)==1&&(sIx items.size items.size hi-sIx items.size 0 lo)==items.size)=true then _ else _) _ _ s;rw[if_neg hno,aJG]
 first
  | exact wpAny_bind (m:=Builtin.Tuple.tupleExact _) (wpAny_newObj_type (wpAny_pure ⟨_,rfl,wpAny_pure h⟩) htake)
  | exact wpAny_bind (m:=Builtin.Tuple.tupleExact _) (wpAny_newObj_type (wpAny_bind (wpAny_pure (wpAny_pure ⟨_,rfl,wpAny_pure h⟩))) htake)
  | exact wpAny_bind (wpAny_bind (m:=Builtin.Tuple.tupleExact _) (wpAny_newObj_type (wpAny_pure (wpAny_pure ⟨_,rfl,wpAny_pure h⟩)) htake))
  | exact wpAny_bind (wpAny_bind (m:=Builtin.Tuple.tupleExact _) (wpAny_newObj_type (wpAny_pure ⟨_,rfl,wpAny_pure h⟩) htake))
end
end HT
namespace L2
open PySem PySem.Spec PyProof.Rows
abbrev TO:=St→Hp→(Option Int→Hp→Prop)→Prop
noncomputable def PO (X:Cx)(e:Option Expr)(t:TO):Prop:=
 ∀(pins:List (Addr×Obj)) (s:Shared) (σ:St) (H:Hp) (Q:Option Int→Hp→Prop),Inv X pins σ H s→t σ H Q →
  wpAny (model X.prog X.w) X.A (evalPart e X.env) (fun u s'=>∃ o H',Inv X pins σ H' s'∧IsPart u o∧Q o H') X.xe s
noncomputable def aGV:TO:=fun _ H Q=>Q none H
noncomputable def aOG (t:TE):TO:=fun σ H Q=>t σ H fun x H1=>∃ i,x=.int i∧Q (some i) H1
section
variable {X:Cx}{e:Expr}{te:TE}{lo hi:Option Expr}{tl th:TO}{pos p2:Pos}
theorem a94:PO X none aGV:=by
 intro pins s σ H Q I h;rw[evalPart_none];exact wpAny_pure ⟨none,H,I,.none,h⟩
theorem a96 (h:PE X e te):PO X (some e) (aOG te):=by
 intro pins s σ H Q I hw;rw[evalPart_some];refine thn (h pins s σ H _ I hw) fun u s1 ⟨x,H1,I1,r1,q1⟩=>?_;obtain⟨i,rfl,q⟩:=q1;obtain⟨t,rfl⟩:=r1;exact⟨some i,H1,I1,.int i t,q⟩
noncomputable def SlR (X:Cx)(r:V→Option Int→Option Int→Hp→VK→Prop):Prop:=
 ∀(pins:List (Addr×Obj)) (s:Shared) (σ:St) (H:Hp) (x:V) (v vl vu:Value) (lo hi:Option Int) (sl:Addr) (Q:VK),Inv X pins σ H s→RelV x v→s.heap.IsSliceOf sl vl vu .none→IsPart vl lo→IsPart vu hi→r x lo hi H Q →
  ∃ T id,typeLookup (.type T) "__getitem__" = pure (some (.builtin id))∧s.TypeIs v T∧wpAny (model X.prog X.w) X.A (getItem v (.ref sl)) (EP X pins σ Q) X.xe s
noncomputable def tSl (r:V→Option Int→Option Int→Hp→VK→Prop)(te:TE)(tl th:TO):TE:=fun σ H Q=>te σ H fun x H1=>tl σ H1 fun l H2=>th σ H2 fun u H3=>r x l u H3 Q
theorem a5B {r:V→Option Int→Option Int→Hp→VK→Prop}(hr:SlR X r)(he:PE X e te)(hl:PO X lo tl)(hu:PO X hi th):PE X (.Subscript e (.Slice lo hi none p2) pos) (tSl r te tl th):=by
 intro pins s σ H Q I h;refine Subscript_ (thn (he pins s σ H _ I h) fun v s1 ⟨x,H1,I1,r1,q1⟩=>?_);refine wpAny_Slice (thn (hl pins s1 σ H1 _ I1 q1) fun vl s2 ⟨l,H2,I2,pl,q2⟩=>thn (hu pins s2 σ H2 _ I2 q2) fun vu s3 ⟨u,H3,I3,pu,q3⟩=>?_);rw[evalPart_none];refine wpAny_pure ?_;have I4:Inv X pins σ H3 { s3 with heap:=s3.heap.push { cls:=.type "slice", data:=.fields #[vl,vu,.none] } }:=I3.kept (t':=s3.toks) fun b ob q=>Heap.get?_push_of_some _ q;obtain⟨T,id,hT,ht,hg⟩:=hr pins { s3 with heap:=s3.heap.push { cls:=.type "slice", data:=.fields #[vl,vu,.none] } } σ H3 x v vl vu l u s3.heap.objs.size Q I4 r1 (Heap.IsSliceOf.new ..) pl pu q3;show wpAny (model X.prog X.w) X.A (subscriptTail e (.Slice lo hi none p2) v (.ref s3.heap.objs.size)) (EP X pins σ Q) X.xe { s3 with heap:=s3.heap.push { cls:=.type "slice", data:=.fields #[vl,vu,.none] } };exact tail_any (ops:=[.ref s3.heap.objs.size,v]) ht hT hg (by with_unfolding_all rfl)
noncomputable def aI8 (xs:List V)(lo hi:Option Int):List V:=(xs.drop (HT.sIx xs.length 0 lo)).take (HT.sIx xs.length xs.length hi-HT.sIx xs.length 0 lo)
theorem a06 (xs:List V)(lo hi:Option Int):(aI8 xs lo hi).length≤xs.length:=by
 unfold aI8;rw[List.length_take,List.length_drop];omega
noncomputable def aTT (K:PySem.W.Frag):V→Option Int→Option Int→Hp→VK→Prop:=fun x lo hi H Q=>∃ a xs,x=.ref a∧SqT K H a xs ∧
 ¬(HT.sIx xs.length 0 lo=0∧HT.sIx xs.length xs.length hi=xs.length)∧∀ p,H p=none→Q (.ref p) (upd H p (.tup (aI8 xs lo hi)))
theorem aOX:SlR X (aTT X.K):=by
 intro pins s σ H x v vl vu lo hi sl Q I rx hs pl pu h;obtain⟨a,xs,rfl,hx,hw,q⟩:=h
 cases rx
 obtain⟨its,r,ht,hz⟩:=I.tuple hx;have hlen:its.toArray.size=xs.length:=by rw[List.size_toArray]; exact r.length.symm
 refine⟨"tuple", _,PyProof.Rows.slot_tuple_getitem.lookup,ht.typeIs,?_⟩;refine HT.getItem_tuple_cut ht hs pl pu (by rw[hlen]; exact hw) ?_ (by rw[hlen]; exact hz);rw[hlen];refine⟨.ref s.heap.objs.size,_,I.laid (t':=s.toks) (o:=.tup (aI8 xs lo hi)) (fun b ob q=>Heap.get?_push_of_some _ q) (Nat.le_refl _) ?_,rfl,q _ (I.hok.fresh (Nat.le_refl _))⟩;exact⟨Nat.le_trans (a06 xs lo hi) hz,_,(r.drop (HT.sIx xs.length 0 lo)).take (HT.sIx xs.length xs.length hi-HT.sIx xs.length 0 lo),IsTup.new _ _⟩
end
end L2
namespace L2
open PySem PySem.Spec PyProof.Rows
noncomputable def ixN (n:Nat)(i:Int):Option Nat:=if 0≤i then(if i<n then some i.toNat else none) else if -(n:Int)≤i then some (i+n).toNat else none
noncomputable def atI {α:Type}(xs:List α)(i:Int):Option α:=(ixN xs.length i).bind fun j=>xs[j]?
theorem aFW {n:Nat}{i:Int}{j:Nat}(h:ixN n i=some j):seqIndex? i n=some j∧j<n ∧ -(n:Int)≤i∧i<n:=by
 unfold ixN at h
 by_cases h0:0≤i
 ·rw[if_pos h0] at h
  by_cases h1:i<n
  ·rw[if_pos h1] at h;have e:i.toNat=j:=Option.some.inj h;exact⟨by rw[seqIndex_of h0 h1,e],by omega,by omega,h1⟩
  ·rw[if_neg h1] at h; cases h
 ·rw[if_neg h0] at h
  by_cases h1 : -(n:Int)≤i
  ·rw[if_pos h1] at h;have e:(i+n).toNat=j:=Option.some.inj h;exact⟨by rw[seqIndex_neg (by omega) h1,e],by omega,h1,by omega⟩
  ·rw[if_neg h1] at h; cases h
theorem a9Y {α:Type}{xs:List α}{i:Int}{v:α}(h:atI xs i=some v):∃ j,seqIndex? i xs.length=some j∧xs[j]?=some v∧j<xs.length ∧ -(xs.length:Int)≤i∧i<xs.length:=by
 unfold atI at h
 cases e:ixN xs.length i with
 | none=>rw[e] at h; cases h
 | some j=>
  rw[e] at h;obtain⟨h1,h2,h3,h4⟩:=aFW e;exact⟨j,h1,h,h2,h3,h4⟩
theorem a9G {α:Type}{xs:List α}{j:Nat}{v:α}(h:xs[j]?=some v):atI xs (j:Int)=some v:=by
 have hj:j<xs.length:=(List.getElem?_eq_some_iff.mp h).1;have e:ixN xs.length (j:Int)=some j:=by
  unfold ixN;rw[if_pos (by omega),if_pos (by omega)]; simp
 unfold atI; rw[e]; exact h
noncomputable def aMF (b:Expr):Prop:=∀ o i,subscripted b false o i=operate [o,i] (getItem o i)
noncomputable def IxR (X:Cx)(r:R2):Prop:=
 ∀(value slice:Expr) (pins:List (Addr×Obj)) (s:Shared) (σ:St) (H:Hp) (x y:V) (v u:Value) (Q:VK),Inv X pins σ H s→RelV x v→RelV y u→r x y H Q →
  subscripted slice false v u=operate [v,u] (getItem v u)→wpAny (model X.prog X.w) X.A (subscriptTail value slice v u) (EP X pins σ Q) X.xe s
noncomputable def MtR (X:Cx)(id:String)(r:V→List V→Hp→VK→Prop):Prop:=
 ∀(pins:List (Addr×Obj)) (s:Shared) (σ:St) (H:Hp) (x:V) (xs:List V) (v:Value) (us:List Value) (Q:VK),Inv X pins σ H s→RelV x v→Vals xs us→r x xs H Q →
  wpAny (model X.prog X.w) X.A (call (.builtin id) (v::us)) (EP X pins σ Q) X.xe s
section
variable {X:Cx}{a b:Expr}{ta tb:TE}{pos:Pos}
theorem IxR.or {r r':R2}(h:IxR X r)(h':IxR X r'):IxR X (fun x y H Q=>r x y H Q∨r' x y H Q):=by
 intro value slice pins s σ H x y v u Q I rx ry q hs;rcases q with q|q
 ·exact h value slice pins s σ H x y v u Q I rx ry q hs
 ·exact h' value slice pins s σ H x y v u Q I rx ry q hs
theorem aU {r:R2}(hr:IxR X r)(ha:PE X a ta)(hb:PE X b tb)(hs:aMF b):PE X (.Subscript a b pos) (tOp r ta tb):=by
 intro pins s σ H Q I h;exact Subscript_ (aRH ha hb I h fun v u s2 x y H2 I2 rx ry q=>hr a b pins s2 σ H2 x y v u Q I2 rx ry q (hs _ _))
noncomputable def aUF (K:PySem.W.Frag):R2:=fun x y H Q=>∃ p xs i v,x=.ref p∧y=.int i∧SqL K H p xs∧atI xs i=some v∧Q v H
noncomputable def aTJ (K:PySem.W.Frag):R2:=fun x y H Q=>∃ p xs i v,x=.ref p∧y=.int i∧SqT K H p xs∧atI xs i=some v∧Q v H
noncomputable def aUH:R2:=fun x y H Q=>∃ z i c,x=.str z∧y=.int i∧z.length≤sizeLine∧atI z.cps.toList i=some c∧Q (.str ⟨#[c]⟩) H
theorem ix_list:IxR X (aUF X.K):=by
 intro value slice pins s σ H x y v u Q I rx ry h hs;obtain⟨p,xs,i,z,rfl,rfl,hq,he,q⟩:=h
 cases rx
 obtain⟨t,rfl⟩:=ry;obtain⟨its,r,pl,hz⟩:=I.list hq;obtain⟨j,h1,h2,h3,h4,h5⟩:=a9Y he;obtain⟨w,ew,rw'⟩:=r.get h2;have hl:=r.length;have hn:=a6C;have fin:EP X pins σ Q w s:=⟨z,H,I,rw',q⟩
 by_cases h0:0≤i
 ·have hj:i.toNat=j:=by
   rw[seqIndex_of h0 h5] at h1;exact Option.some.inj h1
  exact item_listR pl.isList h0 (by omega) (by rw[hj]; simpa using ew) fin hs
 ·have hj:(i+(its.toArray.size:Int)).toNat=j:=by
   rw[seqIndex_neg (by omega) h4] at h1;rw[List.size_toArray,←hl];exact Option.some.inj h1
  exact subscriptTail_builtinR (x:=w) pl.isList.typeIs slot_list_getitem.lookup
   (wpAny_getItem_list_neg (Q:=fun r s'=>r=w∧EP X pins σ Q r s') pl.isList (by omega) (by rw[List.size_toArray]<;>omega) (by omega) (by rw[hj]; simpa using ew) ⟨rfl,fin⟩) hs
theorem ix_tup:IxR X (aTJ X.K):=by
 intro value slice pins s σ H x y v u Q I rx ry h hs;obtain⟨p,xs,i,z,rfl,rfl,hq,he,q⟩:=h
 cases rx
 obtain⟨t,rfl⟩:=ry;obtain⟨its,r,pl,hz⟩:=I.tuple hq;obtain⟨j,h1,h2,h3,h4,h5⟩:=a9Y he;obtain⟨w,ew,rw'⟩:=r.get h2;have hl:=r.length;have hn:=a6C;have fin:EP X pins σ Q w s:=⟨z,H,I,rw',q⟩;exact subscriptTail_builtinR (x:=w) pl.typeIs slot_tuple_getitem.lookup
  (getItem_tuple (j:=j) (Q:=fun r s'=>r=w∧EP X pins σ Q r s') pl (by omega) (by omega) (by rw[List.size_toArray,←hl]; exact h1) (by simpa using ew) ⟨rfl,fin⟩) hs
theorem aPK:IxR X aUH:=by
 intro value slice pins s σ H x y v u Q I rx ry h hs;obtain⟨z,i,c,rfl,rfl,hz,he,q⟩:=h;obtain⟨t,rfl⟩:=rx;obtain⟨t',rfl⟩:=ry;obtain⟨j,h1,h2,h3,h4,h5⟩:=a9Y he;have hl:z.cps.toList.length=z.length:=by simp[Str.length]
 rw[hl] at h1 h4 h5;have hn:=a6C;exact tail_any (typeIs_str s z t) slot_str_getitem.lookup (getItem_str (c:=c) (by
  have e1:decide (i < -(2^63:Int))=false:=decide_eq_false (by omega);have e2:decide (i≥2^63)=false:=decide_eq_false (by omega);rw[e1,e2,Bool.or_false]) (by rw[h1]; simpa using h2) ⟨.str ⟨#[c]⟩,H,I.tok _,⟨_,rfl⟩,q⟩) hs
noncomputable def rIx (K:PySem.W.Frag):R2:=fun x y H Q=>aUF K x y H Q∨aTJ K x y H Q∨aUH x y H Q
theorem aK:IxR X (rIx X.K):=ix_list.or (ix_tup.or aPK)
theorem aDN (its:List Value)(n j:Nat)(u:Value):Obj.mapSeq (·.setIfInBounds j u) { cls:=.type "list", data:=.seq its.toArray n }={ cls:=.type "list", data:=.seq (its.set j u).toArray n }:=by
 simp[Obj.mapSeq]
theorem Inv.lst {pins:List (Addr×Obj)}{σ:St}{H:Hp}{s:Shared}{p:Addr}{xs:List V}(I:Inv X pins σ H s)(h:H p=some (.lst xs)) :
  ∃(its:List Value) (n:Nat),Vals xs its∧s.heap.get? p=some { cls:=.type "list", data:=.seq its.toArray n }∧xs.length≤sizeLine:=by
 obtain⟨z,its,n,r,e⟩:=I.hok p _ h;exact⟨its,n,r,e,z⟩
theorem Inv.lstUpd {pins:List (Addr×Obj)}{σ:St}{H:Hp}{s:Shared}{p:Addr}{xs ys:List V}{its its':List Value}{n n':Nat}{f:Obj→Obj}(I:Inv X pins σ H s)(h:H p=some (.lst xs))
  (ho:s.heap.get? p=some { cls:=.type "list", data:=.seq its.toArray n }) (hf:f { cls:=.type "list", data:=.seq its.toArray n }={ cls:=.type "list", data:=.seq its'.toArray n' }) (r:Vals ys its') (hz:ys.length≤sizeLine) (t:Nat) :
  Inv X pins σ (upd H p (.lst ys)) { s with heap:=s.heap.update p f,toks:=t }:=by
 have e:(s.heap.update p f).get? p=some { cls:=.type "list", data:=.seq its'.toArray n' }:=by
  rw[Heap.get?_update_self f ho (by rw[hf]<;>rfl),hf]
 refine I.write (x:=p) (e:=p) (by rw[h]; trivial) (.inl rfl) (fun b u hb q=>(Heap.get?_update_other _ _ (Ne.symm hb)).trans q) ⟨_,e⟩ ?_;exact⟨hz,its',n',r,e⟩
noncomputable def aQI:V→V→V→Hp→(Hp→Prop)→Prop:=fun o i v H Q=>∃ p xs k j,o=.ref p∧i=.int k∧H p=some (.lst xs)∧ixN xs.length k=some j∧Q (upd H p (.lst (xs.set j v)))
theorem set_list:aTG X aQI:=by
 intro pins s σ H o i v ov iv u Q I ro ri rv h;obtain⟨p,xs,k,j,rfl,rfl,hp,hj,q⟩:=h
 cases ro
 obtain⟨t,rfl⟩:=ri;obtain⟨its,n,r,ho,hz⟩:=I.lst hp;obtain⟨h1,h2,h3,h4⟩:=aFW hj;have hl:=r.length;have hn:=a6C;have I':Inv X pins σ (upd H p (.lst (xs.set j v))) { s with heap:=s.heap.update p (Obj.mapSeq (·.setIfInBounds j u)) }:=
  I.lstUpd hp ho (aDN its n j u) (r.set rv j) (by rw[List.length_set]; exact hz) s.toks
 by_cases h0:0≤k
 ·have hk:k.toNat=j:=by
   rw[seqIndex_of h0 h4] at h1;exact Option.some.inj h1
  exact PySem.W.ki_setAt ho h0 (by omega) (by rw[List.size_toArray,←hl]; exact h4) (by rw[hk]; exact⟨_,I',q⟩)
 ·have hk:(k+(its.toArray.size:Int)).toNat=j:=by
   rw[seqIndex_neg (by omega) h3] at h1;rw[List.size_toArray,←hl];exact Option.some.inj h1
  exact PySem.W.ki_setBack ho (by omega) (by rw[List.size_toArray,←hl]; exact h3) (by omega) (by rw[hk]; exact⟨_,I',q⟩)
theorem a6J (lo hi:Option Int)(n:Nat):(sliceBounds lo hi none n).1=((HT.sIx n 0 lo:Nat):Int)∧(sliceBounds lo hi none n).2.1=((HT.sIx n n hi:Nat):Int)∧(sliceBounds lo hi none n).2.2=1:=by
 refine⟨?_,?_,rfl⟩
 ·cases lo with
  | none=>simp[sliceBounds,HT.sIx]
  | some i=>
   simp only[sliceBounds,HT.sIx,Option.getD_none,show(1:Int)>0 by decide,if_true]
   by_cases h:i<0
   ·simp only[h,if_true]<;>omega
   ·simp only[h,if_false]<;>omega
 ·cases hi with
  | none=>simp[sliceBounds,HT.sIx]
  | some i=>
   simp only[sliceBounds,HT.sIx,Option.getD_none,show(1:Int)>0 by decide,if_true]
   by_cases h:i<0
   ·simp only[h,if_true]<;>omega
   ·simp only[h,if_false]<;>omega
theorem a5R (its:List Value)(lo hi:Option Int):slicePick its.toArray lo hi none=((its.drop (HT.sIx its.length 0 lo)).take (HT.sIx its.length its.length hi-HT.sIx its.length 0 lo)).toArray:=by
 obtain⟨h1,h2,h3⟩:=a6J lo hi its.toArray.size;unfold slicePick;rw[h1,h2,h3];simp only[sliceRange_one,pick_run,List.size_toArray]<;>rfl
noncomputable def aU3 (K:PySem.W.Frag):V→Option Int→Option Int→Hp→VK→Prop:=fun x lo hi H Q=>∃ a xs,x=.ref a∧SqL K H a xs∧∀ p,H p=none→Q (.ref p) (upd H p (.lst (aI8 xs lo hi)))
theorem aGO:SlR X (aU3 X.K):=by
 intro pins s σ H x v vl vu lo hi sl Q I rx hs pl pu h;obtain⟨a,xs,rfl,hx,q⟩:=h
 cases rx
 obtain⟨its,r,ht,hz⟩:=I.list hx;have hlen:=r.length;refine⟨"list", _,slot_list_getitem.lookup,ht.isList.typeIs,?_⟩;refine wpAny_getItem_list_slice ht.isList hs pl pu .none (by simp) ?_ (by rw[List.size_toArray]<;>omega);rw[a5R,←hlen];refine⟨.ref s.heap.objs.size,_,I.laid (t':=s.toks) (o:=.lst (aI8 xs lo hi)) (fun b ob q=>Heap.get?_push_of_some _ q) (Nat.le_refl _) ?_,rfl,q _ (I.hok.fresh (Nat.le_refl _))⟩;exact⟨Nat.le_trans (a06 xs lo hi) hz,_,0,(r.drop (HT.sIx xs.length 0 lo)).take (HT.sIx xs.length xs.length hi-HT.sIx xs.length 0 lo),Heap.get?_push_size _ rfl⟩
theorem bU:wI X (.builtin "len") (fun xs H Q=>∃ p ys,xs=[.ref p]∧(SqL X.K H p ys∨SqT X.K H p ys)∧Q (.int ys.length) H):=by
 intro pins s σ H xs us Q I r h;obtain⟨p,ys,rfl,hq,q⟩:=h;obtain⟨u,rfl,rx⟩:=vals1 r
 cases rx
 have hn:=a6C;rcases hq with hq|hq
 ·obtain⟨its,r',pl,hz⟩:=I.list hq;have hlen:=r'.length;exact Calls.call_len_list pl.isList (by simp only[List.size_toArray]<;>omega) ⟨.int ys.length,H,I.tok _,⟨s.toks+1,by rw[List.size_toArray,hlen]⟩,q⟩
 ·obtain⟨its,r',pl,hz⟩:=I.tuple hq;have hlen:=r'.length;exact len_tuple pl (by simp only[List.size_toArray]<;>omega) ⟨.int ys.length,H,I.tok _,⟨s.toks+1,by rw[List.size_toArray,hlen]⟩,q⟩
theorem lR:wI X (.type "list") (fun xs H Q=>∃ p ys,xs=[.ref p]∧(SqL X.K H p ys∨SqT X.K H p ys)∧∀ l,H l=none→Q (.ref l) (upd H l (.lst ys))):=by
 intro pins s σ H xs us Q I r h;obtain⟨p,ys,rfl,hq,q⟩:=h;obtain⟨u,rfl,rx⟩:=vals1 r
 cases rx
 have fin:∀(its:List Value),Vals ys its→ys.length≤sizeLine→∀(h':Heap) (c':Nat),(∀ b o',s.heap.get? b=some o'→h'.get? b=some o') →
   h'.get? s.heap.objs.size=some { cls:=.type "list", dict:=none,data:=.seq its.toArray c',slots:=#[] }→EP X pins σ Q (.ref s.heap.objs.size) { s with heap:=h' }:=fun its r' hz h' c' kp e=>
  ⟨.ref s.heap.objs.size,_,I.laid (t':=s.toks) kp (Nat.le_refl _) (show ObjOk X.prog X.w _ h' _ (.lst ys) from⟨hz,its,c',r',e⟩),rfl,q _ (I.hok.fresh (Nat.le_refl _))⟩
 rcases hq with hq|hq
 ·obtain⟨its,r',pl,hz⟩:=I.list hq;have hlen:=r'.length;obtain⟨o,ho,hc,n,hd⟩:=pl.isList;exact call_list_seq p (.inl rfl) ho hc hd (fun h' c' kp e=>fin its r' hz h' c' kp e) (by simp only[List.size_toArray]<;>omega)
 ·obtain⟨its,r',pl,hz⟩:=I.tuple hq;have hlen:=r'.length;obtain⟨o,ho,hc,n,hd⟩:=pl;exact call_list_seq p (.inr rfl) ho hc hd (fun h' c' kp e=>fin its r' hz h' c' kp e) (by simp only[List.size_toArray]<;>omega)
noncomputable def tyV (K:PySem.W.Frag)(T:String)(x:V)(H:Hp):Prop:=match x with
 | .str _=>T = "str"
 | .int _=>T = "int"
 | .ref p=>(T = "list" ∧ ∃ xs,SqL K H p xs)∨(T = "tuple" ∧ ∃ o,K.lookup p=some o∧o.cls=.type "tuple" ∧ o.dict=none) ∨
   (T = "dict" ∧ ((∃ kvs,H p=some (.dK kvs))∨∃ kvs,H p=some (.dT kvs)))∨(T = "set" ∧ ∃ S n,H p=some (.set S n))
 | _=>False
theorem aOI {pins:List (Addr×Obj)}{σ:St}{H:Hp}{s:Shared}{T:String}{x:V}{v:Value}(I:Inv X pins σ H s)(r:RelV x v)(ty:tyV X.K T x H) :
  s.TypeIs v T∧∀ a,v=.ref a→∃ ob,s.heap.get? a=some ob∧ob.dict=none:=by
 cases x with
 | str z=>
  obtain⟨t,rfl⟩:=r
  cases(show T = "str" from ty)
  exact⟨typeIs_str s z t,fun _ e=>nomatch e⟩
 | int i=>
  obtain⟨t,rfl⟩:=r
  cases(show T = "int" from ty)
  exact⟨typeIs_int s i t,fun _ e=>nomatch e⟩
 | ref p=>
  cases r
  rcases ty with⟨rfl,xs,hq⟩|⟨rfl,o,hk,hc,hd⟩|⟨rfl,hk⟩|⟨rfl,S,n,hk⟩
  ·obtain⟨its,_,pl,_⟩:=I.list hq;refine⟨pl.isList.typeIs,fun a e=>?_⟩
   cases e
   obtain⟨o,n,e,c,hd,_⟩:=pl;exact⟨o,e,hd⟩
  ·refine⟨⟨o,I.kIn p o hk,hc⟩,fun a e=>?_⟩
   cases e
   exact⟨o,I.kIn _ o hk,hd⟩
  ·have z:∃ o,s.heap.get? p=some o∧o.ExactDict:=by
    rcases hk with⟨kvs,hk⟩|⟨kvs,hk⟩
    ·obtain⟨_,_,_,_,o,_,_,e,ex,_⟩:=I.hok p _ hk;exact⟨o,e,ex⟩
    ·obtain⟨_,_,_,_,o,_,_,e,ex,_⟩:=I.hok p _ hk;exact⟨o,e,ex⟩
   obtain⟨o,e,ex⟩:=z;refine⟨⟨o,e,ex.1⟩,fun a e2=>?_⟩
   cases e2
   exact⟨o,e,ex.2.1⟩
  ·obtain⟨o,_,_,_,e,ex,_⟩:=I.hok p _ hk;refine⟨⟨o,e,ex.1⟩,fun a e2=>?_⟩
   cases e2
   exact⟨o,e,ex.2.1⟩
 | _=>exact False.elim ty
noncomputable def tBM (K:PySem.W.Frag)(T:String)(r:V→List V→Hp→VK→Prop)(to:TE)(t:TA):TE:=fun σ H Q=>to σ H fun x H1=>tyV K T x H1∧t σ H1 fun xs H2=>r x xs H2 Q
variable {o e:Expr}{es:List Expr}{to:TE}{t:TA}{name:Str}{apos cpos:Pos}{T id:String}{r:V→List V→Hp→VK→Prop}
theorem aIC (pa:PlainAttrs T)(slot:Slot T name id)(hty:typeOf (.builtin id)=pure (.type "method_descriptor"))(hm:MtR X id r)(ho:PE X o to)(ha:PA X (e::es) t)
  (hbase:attributeBase o name X.env (eval o X.env)=eval o X.env:=by rfl)
  (hfew:((backTo cpos (starEach (e::es) X.env)).all (fun x => !x.1)&&(backToKw cpos (keywordEach [] X.env)).all (fun x=>x.1.isSome)
   && decide ((e::es).length+([]:List Keyword).length+(if ([]:List Keyword).isEmpty then 0 else 1)<30))=true:=by rfl)
  (hline:(apos.endLine==cpos.line)=true:=by rfl) (hs:starEach (e::es) X.env=(false,eval e X.env)::starEach es X.env:=by rfl) (hplain:(backTo cpos (starEach es X.env)).any (·.1)=false:=by rfl) :
  PE X (.Call (.Attribute o name apos) (e::es) [] cpos) (tBM X.K T r to t):=by
 intro pins s σ H Q I h;refine wpAny_Call_method_late hbase hfew hline rfl (thn (ho pins s σ H _ I h) fun v s1 ⟨x,H1,I1,r1,ty,q1⟩=>?_);obtain⟨h1,h2⟩:=aOI I1 r1 ty;refine⟨T,id,pa,slot,hty,h1,h2,?_⟩;have hA:=ha cpos pins s1 σ H1 _ I1 q1;rw[hs] at hA ⊢;refine Calls.callWith_builtin (by show(false||(backTo cpos (starEach es X.env)).any (·.1))=false; rw[hplain]<;>rfl) (Calls.evalArgs_plain ?_);exact thn hA fun us s2 ⟨vs,H2,I2,r2,q2⟩=>hm pins s2 σ H2 x vs v us Q I2 r1 r2 q2
end
end L2
namespace L2
open PySem PySem.Spec PyProof.Rows
noncomputable def MtM (X:Cx)(id:String)(r:V→List V→Hp→VK→Prop):Prop:=
 ∀(pins:List (Addr×Obj)) (s:Shared) (σ:St) (H:Hp) (x:V) (xs:List V) (v:Value) (us:List Value) (Q:VK),Inv X pins σ H s→RelV x v→Vals xs us→r x xs H Q →
  wpAny (model X.prog X.w) X.A (call (.builtin id) (v::us)) (EP X pins σ Q) X.xe s
theorem Vals.one:∀{x:V} {us:List Value},Vals [x] us→∃ u,us=[u]∧RelV x u:=by
 intro x us h
 cases h with
 | cons r t=>cases t; exact⟨_,rfl,r⟩
theorem Vals.two:∀{x y:V} {us:List Value},Vals [x,y] us→∃ u v,us=[u,v]∧RelV x u∧RelV y v:=by
 intro x y us h
 cases h with
 | cons r t=>
  obtain⟨v,rfl,q⟩:=Vals.one t;exact⟨_,_,rfl,r,q⟩
section
variable {X:Cx}{pins:List (Addr×Obj)}{σ:St}{H:Hp}{s:Shared}{l b:Addr}{xs ys zs:List V}
theorem Inv.lset {its its':List Value}{n:Nat}{f:Array Value→Array Value}{t':Nat}(I:Inv X pins σ H s)(hH:H l=some (.lst xs))
  (e:s.heap.get? l=some { cls:=.type "list", data:=.seq its.toArray n }) (hf:f its.toArray=its'.toArray) (hv:Vals ys its') (hz:ys.length≤sizeLine) :
  Inv X pins σ (upd H l (.lst ys)) { s with heap:=s.heap.update l (Obj.mapSeq f),toks:=t' }:=by
 have q:=PySem.IsL.update e f;rw[hf] at q;refine I.write (x:=l) (e:=l) (by rw[hH]; exact trivial) (.inl rfl) (fun b' u hb hu=>(Heap.get?_update_other s.heap (Obj.mapSeq f) (Ne.symm hb)).trans hu) ⟨_,q⟩ ?_;exact⟨hz,its',_,hv,q⟩
theorem Inv.lnew {its:List Value}{t':Nat}(I:Inv X pins σ H s)(hv:Vals ys its)(hz:ys.length≤sizeLine) :
  Inv X pins σ (upd H s.heap.objs.size (.lst ys)) { s with heap:=s.heap.push { cls:=.type "list", data:=.seq its.toArray },toks:=t' }:=
 I.laid (fun _ _ q=>Heap.get?_push_of_some _ q) (Nat.le_refl _) ⟨hz,its,0,hv,Heap.get?_push_size _ rfl⟩
theorem Inv.fresh (I:Inv X pins σ H s):H s.heap.objs.size=none:=I.hok.fresh (Nat.le_refl _)
theorem Inv.lstM (I:Inv X pins σ H s)(hH:H l=some (.lst xs)):xs.length≤sizeLine∧∃(its:List Value) (n:Nat),Vals xs its∧xs.length=its.length∧s.heap.get? l=some { cls:=.type "list", data:=.seq its.toArray n }:=by
 obtain⟨z,its,n,r,e⟩:=I.hok l _ hH;exact⟨z,its,n,r,r.length,e⟩
end
section
variable {X:Cx}
noncomputable def aF0:V→List V→Hp→VK→Prop:=fun x vs H Q=>∃ l xs y,x=.ref l∧vs=[y]∧H l=some (.lst xs)∧xs.length<sizeLine∧Q .non (upd H l (.lst (xs++[y])))
theorem a85:MtM X "list.append" aF0:=by
 intro pins s σ H x vs v us Q I rx rv h;obtain⟨l,xs,y,rfl,rfl,hH,hz,q⟩:=h
 cases rx
 obtain⟨u,rfl,ru⟩:=rv.one;obtain⟨z,its,n,r,hl,e⟩:=I.lstM hH;refine call_meets F.slot_list_append ⟨_,e,rfl⟩ F.entry_list_append (F.args_list_append_2 _ _) (PySem.list_append l its.toArray n u (by rw[List.size_toArray]; omega)) ⟨e,?_⟩;refine⟨.non,_,I.lset (its':=its++[u]) hH e (by simp) (r.append (.cons ru .nil)) ?_,rfl,q⟩;rw[List.length_append,List.length_singleton];omega
noncomputable def aUC:R2:=fun x y H Q=>∃ l b xs zs,x=.ref l∧y=.ref b∧H l=some (.lst xs)∧H b=some (.lst zs)∧xs.length+zs.length≤sizeLine∧∀ p,H p=none→Q (.ref p) (upd H p (.lst (xs++zs)))
theorem aOK:OpR X (binaryOp .Add) aUC:=by
 intro pins s σ H x y v u Q I rx ry h;obtain⟨l,b,xs,zs,rfl,rfl,hH,hB,hz,q⟩:=h
 cases rx
 cases ry
 obtain⟨z,its,n,r,hl,e⟩:=I.lstM hH;obtain⟨z2,its2,n2,r2,hl2,e2⟩:=I.lstM hB;refine PySem.P.add_list e e2 ?_ (by rw[List.size_toArray,List.size_toArray]; omega);have ea:its.toArray++its2.toArray=(its++its2).toArray:=by simp
 rw[ea];exact⟨.ref _,_,I.lnew (t':=s.toks) (r.append r2) (by rw[List.length_append]; omega),rfl,q _ I.fresh⟩
end
section
variable {prog:Program}{w:World}{A:Around}{E:Value→Shared→Prop}{s:Shared}
end
section
variable {X:Cx}
end
end L2
namespace Att
open PySem PySem.W PySem.Calls PyProof.Rows
theorem a0G {P:Params}{h:Heap}:∀(ns:List Int) (vs:List Value),WellAll P h vs (ns.map WData.int)→IntsAre vs ns:=by
 intro ns
 induction ns with
 | nil=>
  intro vs w;rw[List.map_nil] at w
  cases w
  exact .nil
 | cons n ns ih=>
  intro vs w;rw[List.map_cons] at w
  cases w with
  | cons a b=>
   cases a
   exact .cons _ _ (ih _ b)
theorem aE2 {l:OpenLaw}{n:Nat}(hn:l.most=some n){P:Params}{h:Heap}{args:List WData}{vals:List Value}
  (hpre:l.row.toRowW.claim.pre args=true) (hwl:WellAll P h vals args) :
  ∃ a vs ns,vals=[Value.ref a]∧args=[WData.list (ns.map WData.int)]∧h.get? a=some { cls:=.type "list", data:=.seq vs.toArray }∧IntsAre vs ns∧ns.length≤n:=by
 have hsh:WShape.hasAll [] args [.list .int]=true:=(pre_splitW hpre).1;have hc:l.pre.holds [] { args:=args }=true:=(pre_splitW hpre).2;obtain⟨d,r,rfl,h1,h2⟩:=hasAllW_cons hsh;obtain rfl:=hasAllW_nil h2;obtain⟨xs,rfl,h3⟩:=hasW_list h1;obtain⟨ns,rfl⟩:=items_int h3;have hlen:ns.length≤n:=by
  unfold OpenLaw.pre at hc;have h4:(WTm.not (.lt (.lit (.int (n:Int))) (.len (.arg 0)))).holds [] { args:=[.list (ns.map .int)] }=true:=by
   have h4:=(holds_andW hc).1;rw[hn] at h4;exact h4
  have h5:=condW_of h4 (w_not (w_lt w_lit (w_len_list (w_arg rfl))));rw[List.length_map] at h5;refine Nat.le_of_not_lt fun q=>?_;have q':(n:Int)<((ns.length:Nat):Int):=by omega
  first
   | (rw[decide_eq_true q'] at h5; exact absurd h5 (by decide))
   | (simp at h5; omega)
 cases hwl with
 | cons w1 w2=>
  cases w2
  cases w1 with
  | list ho hall=>exact⟨_,_,ns,rfl,rfl,ho,a0G ns _ hall,hlen⟩
theorem aE1 (l:OpenLaw)(args:List WData):l.row.toRowW.claim.post args (.bool true) args=true:=
 postW_of (r:=l.row.toRowW) (X:=(true==true))
  (show WShape.has [] (.bool true) .bool=true by first|rfl|decide|simp[WShape.has,WShape.arms,WShape.armsAll])
  (show(WTm.eq .res (.lit (.bool true))).value [] { args:=args,res:=some (.bool true),after:=args }=some (.bool (true==true)) from w_eq_bool (w_res rfl) w_lit) rfl
theorem attach_call {l:OpenLaw}{n:Nat}{q:Program}{loose:List Str}{XP:(Str→Option Value)→Heap→Prop}{YP:World→Heap→Prop}{d:DefRec}
  (hn:l.most=some n) (hdf:d.params.defaults=[])
  (call:∀(w:World) (s₀ s₁:Shared) (mg mb:Str→Option Value) (fa:Addr) (o:Obj) (pm cd doc:Value) (a:Addr) (vs:List Value) (ns:List Int),
   Ground q loose [] XP w s₀ mg mb s₁.heap→YP w s₁.heap →
   s₁.heap.get? fa=some o→o.data=.func (docDef d.name d.params d.body d.scope pm cd doc)→s₁.heap.CodeRec cd d.name→mg d.name=some (.ref fa) →
   s₁.heap.get? a=some { cls:=.type "list", data:=.seq vs.toArray }→IntsAre vs ns→ns.length≤n→s₁.gens=#[] →
   codeAny (model l.prog w) callerA (.call (.ref fa) ⟨[.ref a],[]⟩) (fun r s'=>r=.ok (.ret (.bool true))∧OldK s₁.heap s'.heap∧s'.os=s₁.os∧AllBare s'.gens) s₁) :
  WalkO q loose XP YP l.row.toRowW d [] (fun f vs=>PySem.call f vs):=by
 intro w s₀ s₁ mg mb G Y fa o pm cd doc dV kV ho hd hcd hD hmg hg args vals as hpre hlay hrd hwl hlo;obtain rfl:dV=.none:=Dflts.none hD hdf;obtain rfl:kV=.none:=Dflts.noKw hD;obtain⟨a,vs,ns,rfl,rfl,hobj,hints,hlen⟩:=aE2 hn hpre hwl;refine enter_call (codeAny_mono (call w s₀ s₁ mg mb fa o pm cd doc a vs ns G Y ho (fd_plain hd) hcd hmg hobj hints hlen hg) fun r s' hq=>?_);obtain⟨rfl,h2,h3,h4⟩:=hq;exact⟨.inl ⟨.bool true,.bool true,[],rfl,fun _=>rfl,.bool true,aE1 l _,fun _=>⟨List.Pairwise.nil,fun _ hm=>(nomatch hm)⟩⟩,h2,h3,h4⟩
section
variable {prog:Program}{w:World}{A:Around}{E:Value→Shared→Prop}{s:Shared}{K:Frag}
end
end Att
namespace L2
open PySem PySem.Spec PyProof.Rows
theorem aEL:∀{vs:List Value} {ns:List Int},IntsAre vs ns→Vals (ns.map V.int) vs:=by
 intro vs ns h
 induction h with
 | nil=>exact .nil
 | cons n t h ih=>exact .cons ⟨t,rfl⟩ ih
noncomputable def Only (H:Hp):Prop:=∀ b,H b=none∨∃ o xs,H b=some (.frz o (.lst xs))
theorem law_call {P:Program}{w:World}{K:PySem.W.Frag}{mg mb:Str→Option Value}{CX:CXT}{k:Nat}{fa a:Addr}{fd:FuncData}{x:Str}{sp:Sp}{s₁:Shared}{vs:List Value}{ns:List Int}
  (KX:K.In s₁.heap) (hns:s₁.heap.Ns mainGlobals mg) (hb:s₁.heap.Ns builtinsNs mb) (hbb:∀ x:Str,x ≠ "__name__" → mb x=bootBuiltins x) (hlim:s₁.heap.NoLimit) (hg:s₁.gens=#[])
  (ha:s₁.heap.get? a=some { cls:=.type "list", data:=.seq vs.toArray }) (hi:IntsAre vs ns) (hl:ns.length≤sizeLine) (hr:Room k callerA)
  (F:∀ base:Heap,K.In base→base.Ns mainGlobals mg→FnOk P w K mg base CX k fa fd [x] sp) (hbind:∀(s:Shared) (u:Value),BindsTo s fd ⟨[u],[]⟩ [(x,u)])
  (hsp:∀ H:Hp,Only H→SqL K H a (ns.map V.int)→sp [.ref a] H (fun v _=>v=.bl true) fun _ _ _=>False)
  (hCX:∀ H e s',CX [] H s₁ (fun _ _ _=>False) e s'→False) :
  codeAny (model P w) callerA (.call (.ref fa) ⟨[.ref a],[]⟩) (fun r s'=>r=.ok (.ret (.bool true))∧OldK s₁.heap s'.heap∧s'.os=s₁.os∧AllBare s'.gens) s₁:=by
 have rv:=aEL hi;have lenV:=hi.length;have core:∀ H:Hp,Only H→SqL K H a (ns.map V.int)→HOk P w H s₁.heap→(∀ b,H b≠none→b=a)→(H a≠none→K.lookup a=none) →
   codeAny (model P w) callerA (.call (.ref fa) ⟨[.ref a],[]⟩) (fun r s'=>r=.ok (.ret (.bool true))∧OldK s₁.heap s'.heap∧s'.os=s₁.os∧AllBare s'.gens) s₁:=by
  intro H hO hS hok hA hK;have base_of:∀{b:Addr} {o:Obj},s₁.heap.get? b=some o→H b=none→(aJB s₁.heap H).get? b=some o:=fun e n=>aJ0 e n;have noA:∀{b:Addr} {o:Obj} {es:Array DictEntry} {ep:Nat},s₁.heap.get? b=some o→o.data=.dict es ep→H b=none:=fun{b o es ep} e d=>by
   cases q:H b with
   | none=>rfl
   | some u=>
    have e':b=a:=hA b (by rw[q]; simp);subst e';rw[ha] at e; cases e;have d':Data.seq vs.toArray _=Data.dict es ep:=d
    cases d'
  have nsK:∀{b:Addr} {m:Str→Option Value},s₁.heap.Ns b m→(aJB s₁.heap H).Ns b m:=fun{b m} ⟨o,es,ep,e,d,r⟩=>⟨o,es,ep,base_of e (noA e d),d,r⟩;have hKb:K.In (aJB s₁.heap H):=fun b o e=>base_of (KX b o e) (by
   cases q:H b with
   | none=>rfl
   | some u=>
    have e':b=a:=hA b (by rw[q]; simp);subst e';rw[hK (by rw[q]; simp)] at e; cases e)
  have hM:Mod K mg (aJB s₁.heap H):=⟨hKb,nsK hns,⟨mb,nsK hb,hbb⟩,let ⟨mc,h1,h2⟩:=hlim; ⟨mc,nsK h1,h2⟩⟩;have e0:Env0 P w K mg (aJB s₁.heap H) callerA [] s₁ H:=⟨rfl,hM,fun b o e=>aLV e,Nat.le_of_eq (aG4 _ _),trivial,fun b hb=>absurd (show b∈([]:List Addr) from hb) (by simp),hok,.of_eq hg⟩;refine codeAny_mono ((F _ hKb (nsK hns)).run callerA [] s₁ H ⟨[.ref a],[]⟩ [.ref a] [.ref a] _ _ hr e0 (hbind s₁ (.ref a)) (.cons rfl .nil) (hsp H hO hS)) fun r s' h=>?_
  cases r with
  | error e=>exact(hCX H e s' h).elim
  | ok fl=>
   cases fl with
   | next=>exact False.elim h
   | brk=>exact False.elim h
   | cont=>exact False.elim h
   | ret u=>
    obtain⟨v,H',os,bare,un,hok',r',q⟩:=h;have q':v=.bl true:=q;subst q';obtain rfl:u=Value.bool true:=r';refine⟨rfl,OldK.of_keep fun b o e=>?_,os,bare⟩
    cases q:H b with
    | none=>exact un.keep b o e q (by intro z; exact absurd (show b∈([]:List Addr) from z) (by simp)) (by simp)
    | some u=>
     rcases hO b with z|⟨ob,xs,z⟩
     ·rw[q] at z; cases z
     ·have z2:=un.frzs b ob _ z;obtain⟨e1,_⟩:=hok b _ z;obtain⟨e2,_⟩:=hok' b _ z2;rw[e] at e1; cases e1;exact e2
 cases hk:K.lookup a with
 | some o=>
  have e:=KX a o hk;rw[ha] at e
  cases e
  refine core (fun _=>none) (fun _=>.inl rfl) (.inr ⟨_,vs.toArray,_,hk,rfl,rfl,rfl,by rw[List.size_toArray,lenV]; exact hl,by simpa using rv⟩) (fun b u z=>by have z':(none:Option HO)=some u:=z; cases z') (fun b z=>absurd rfl z) fun z=>absurd rfl z
 | none=>
  refine core (fun b=>if b=a then some (.frz { cls:=.type "list", data:=.seq vs.toArray } (.lst (ns.map V.int))) else none) (fun b=>?_) (.inl (.inr ⟨{ cls:=.type "list", data:=.seq vs.toArray },if_pos rfl⟩)) (fun b u z=>?_) (fun b z=>?_) fun _=>hk
  ·by_cases hb:b=a
   ·exact .inr ⟨_,_,if_pos hb⟩
   ·exact .inl (if_neg hb)
  ·by_cases hb:b=a
   ·have z':=(if_pos hb).symm.trans z
    cases z'
    subst hb;exact⟨ha,by rw[List.length_map]; exact hl,vs,_,rv,ha⟩
   ·have z':=(if_neg hb).symm.trans z
    cases z'
  ·by_cases hb:b=a
   ·exact hb
   ·exact absurd (if_neg hb) z
end L2
namespace L2
open PySem PySem.Spec PyProof.Rows
theorem aMN {l:PySem.W.OpenLaw}{n k:Nat}{q:Program}{loose:List Str}{XP:(Str→Option Value)→Heap→Prop}{YP:World→Heap→Prop}{d:DefRec}{K:Params→PySem.W.Frag}{CX:World→CXT}{sp:World→Sp}{x:Str}
  (hn:l.most=some n) (hn2:n≤sizeLine) (hdf:d.params.defaults=[]) (hr:Room k callerA)
  (hY:∀(w:World) (h:Heap),YP w h→(K w.params).In h)
  (F:∀(w:World) (mg:Str→Option Value) (fa:Addr) (h:Heap),(K w.params).In h→h.Ns mainGlobals mg→mg d.name=some (.ref fa) →
   ∃ fd:FuncData,(∀(s:Shared) (u:Value),BindsTo s fd ⟨[u],[]⟩ [(x,u)]) ∧
    ∀ base:Heap,(K w.params).In base→base.Ns mainGlobals mg→FnOk l.prog w (K w.params) mg base (CX w) k fa fd [x] (sp w))
  (hsp:∀(w:World) (H:Hp) (a:Addr) (ns:List Int),ns.length≤n→Only H→SqL (K w.params) H a (ns.map V.int)→sp w [.ref a] H (fun v _=>v=.bl true) fun _ _ _=>False)
  (hCX:∀(w:World) (H:Hp) (s:Shared) (e:Value) (s':Shared),CX w [] H s (fun _ _ _=>False) e s'→False) :
  PySem.W.WalkO q loose XP YP l.row.toRowW d [] (fun f vs=>PySem.call f vs):=by
 refine Att.attach_call hn hdf fun w s₀ s₁ mg mb fa o pm cd doc a vs ns G Y ho hd hcd hmg hobj hints hlen hg=>?_;have KX:=hY w _ Y;obtain⟨fd,hb,hF⟩:=F w mg fa _ KX G.T.g hmg;exact law_call KX G.T.g G.T.b G.T.builtins G.T.nolimit hg hobj hints (Nat.le_trans hlen hn2) hr hF hb (fun H hO hS=>hsp w H a ns hlen hO hS) fun H e s'=>hCX w H s₁ e s'
end L2
namespace L2
open PySem PySem.Spec PyProof.Rows
noncomputable def inClass (s:Stmt)(j:Nat):Stmt:=match s with
 | .ClassDef _ _ _ body _ _ _ _ _ _ _=>body.getD j (.Pass ⟨0,0,0,0⟩)
 | _=>.Pass ⟨0,0,0,0⟩
noncomputable def tM (s:Stmt):Arguments:=match s with
 | .FunctionDef _ a _ _ _ _ _ _ _ _=>a
 | _=>{ posonlyargs:=[],args:=[],vararg:=none,kwonlyargs:=[],kw_defaults:=[],kwarg:=none,defaults:=[] }
noncomputable def lE (s:Stmt):List Stmt:=match s with
 | .FunctionDef _ _ b _ _ _ _ _ _ _=>b
 | _=>[]
noncomputable def aN (s:Stmt):Scope:=match s with
 | .FunctionDef _ _ _ _ _ _ sc _ _ _=>sc
 | _=>{ kind:=.function,names:=[],isGenerator:=false,isCoroutine:=false }
abbrev CX0:CXT:=fun _ _ _ _ _ _=>False
abbrev E0:XK:=fun _ _ _=>False
theorem iD {X:Cx}:xV CX0 X E0:=fun _ _ _ _ _ _ _ h=>h.elim
structure Fun (K:PySem.W.Frag)(x qual:Str)(st:Stmt)(f:Addr)(fd:FuncData):Prop where
 ex:∃(oc:Value) (od:Option Addr) (kV doc pm:Value) (an:Option Addr) (cdv ct:Value) (osl:Array (Option Value)),
  fd=PySem.W.fnOf x qual (tM st) (lE st) (aN st) .none kV doc pm an cdv ct∧K.lookup f=some ⟨oc,od,.func fd,osl⟩∧PySem.W.codeIn K cdv qual=true
 kp:PySem.W.keepIn K (.ref f)=true
section
variable {P:Program}{w:World}{K:PySem.W.Frag}{mg:Str→Option Value}{base:Heap}
theorem Fun.ok {x qual:Str}{st:Stmt}{f:Addr}{fd:FuncData}{N ps:List Str}{k:Nat}{sp:Sp}(F:Fun K x qual st f fd)(S:FnScope N ps (aN st))(len:∀ vs H Q E,sp vs H Q E→vs.length=ps.length)
  (hbody:∀(cdv:Value) (A:Around) (outer:List Env) (s:Shared) (H:Hp) (vs:List V) (Q:VK) (E:XK),Room k (A.deeper (envOfC qual (aN st) s.heap.objs.size f cdv))→sp vs H Q E →
   ∃ t,PSs (aHZ CX0 P w K mg base N qual (aN st) f cdv A outer s H E).nox (lE st) t∧t { nx:=fun _ H'=>Q .non H',rt:=Q } (start N vs) H):FnOk P w K mg base CX0 (k+1) f fd ps sp:=by
 obtain⟨oc,od,kV,doc,pm,an,cdv,ct,osl,rfl,lk,hcd⟩:=F.ex;refine aRN lk hcd S len fun A outer s H vs Q E hr hsp=>?_;obtain⟨t,h,q⟩:=hbody cdv A outer s H vs Q E hr hsp;exact⟨t,h.nox,q⟩
theorem Fun.binds {x qual:Str}{st:Stmt}{f:Addr}{fd:FuncData}{ps:List Str}(F:Fun K x qual st f fd)
  (h:∀(kV doc pm:Value) (an:Option Addr) (cdv ct:Value) (us:List Value),us.length=ps.length→bindArgs (PySem.W.fnOf x qual (tM st) (lE st) (aN st) .none kV doc pm an cdv ct) ⟨us,[]⟩=pure (ps.zip us)):Binds K fd ps []:=by
 obtain⟨oc,od,kV,doc,pm,an,cdv,ct,osl,rfl,lk,hcd⟩:=F.ex;exact .all (h kV doc pm an cdv ct)
theorem aF3 {x qual:Str}{st:Stmt}{f:Addr}{oc:Value}{od an:Option Addr}{osl:Array (Option Value)}{kV doc pm cdv ct:Value}(l:K.lookup f=some ⟨oc,od,.func (PySem.W.fnOf x qual (tM st) (lE st) (aN st) .none kV doc pm an cdv ct),osl⟩)
  (c:PySem.W.codeIn K cdv qual=true) (k:PySem.W.keepIn K (.ref f)=true):Fun K x qual st f (PySem.W.fnOf x qual (tM st) (lE st) (aN st) .none kV doc pm an cdv ct):=⟨⟨oc,od,kV,doc,pm,an,cdv,ct,osl,rfl,l,c⟩,k⟩
end
theorem zX {n:Nat}(h:n≤1000):n<sizeLine:=Nat.lt_of_le_of_lt h (by decide)
section
variable {X:Cx}
theorem pv (i:Nat){x:Str}{pos:Pos}(hN:X.N[i]?=some x:=by rfl)(hv:Vis X.env.scope x:=by first|exact Or.inl rfl|exact Or.inr (Or.inl rfl)|exact Or.inr (Or.inr rfl))(hd:(x==("__debug__" : Str))=false:=by decide)
  (hcd:(x==("__classdict__" : Str))=false:=by decide):PE X (.Name x pos) (jZ i):=aQE hN hv hd hcd
end
theorem a2W {A B:Prop}(h:B):if false=true then A else B:=by
 rw[if_neg Bool.false_ne_true];exact h
theorem a5U {A B:Prop}(h:A):if true=true then A else B:=by
 rw[if_pos rfl];exact h
theorem aSV {c A B:Prop}[Decidable c](hc:c)(h:B):if (!decide c)=true then A else B:=by
 rw[decide_eq_true hc];exact a2W h
noncomputable def Same (H H':Hp):Prop:=∀ b o,H b=some o→H' b=some o
theorem Same.refl (H:Hp):Same H H:=fun _ _ h=>h
theorem Same.trans {H H1 H2:Hp}(a:Same H H1)(b:Same H1 H2):Same H H2:=fun c o h=>b c o (a c o h)
theorem Same.free {H H':Hp}(e:Same H H'){l:Addr}(h:H' l=Option.none):H l=Option.none:=by
 cases q:H l with
 | none=>rfl
 | some o=>
  rw[e l o q] at h
  cases h
end L2
set_option maxHeartbeats 4000000
namespace LT
theorem dO (a:Rat):(a.den:Int)≠0:=by have:=a.den_nz; omega
theorem aGP (a b:Rat):Rat.divInt (a.num*b.den+b.num*a.den) (a.den*b.den)=a+b:=by
 rw[← Rat.divInt_add_divInt _ _ (dO a) (dO b),Rat.num_divInt_den,Rat.num_divInt_den]
theorem aK2 (a b:Rat):Rat.divInt (a.num*b.den-b.num*a.den) (a.den*b.den)=a-b:=by
 rw[Rat.sub_eq_add_neg,←aGP a (-b),Rat.neg_num,Rat.neg_den,Int.neg_mul,Int.sub_eq_add_neg]
theorem aDZ (a b:Rat):Rat.divInt (a.num*b.num) (a.den*b.den)=a*b:=by
 rw[← Rat.divInt_mul_divInt,Rat.num_divInt_den,Rat.num_divInt_den]
theorem a6K {b:Rat}(h:b≠0):b.num≠0:=fun e=>h (by rw[← Rat.num_divInt_den b,e,Rat.zero_divInt])
theorem aQC {b:Rat}(h:b≠0):Rat.divInt b.den b.num=b⁻¹:=by
 have e:b*Rat.divInt b.den b.num=1:=by
  conv=>lhs; arg 1; rw[← Rat.num_divInt_den b]
  rw[Rat.divInt_mul_divInt,Int.mul_comm b.num];exact Rat.divInt_self' (Int.mul_ne_zero (dO b) (a6K h))
 grind
theorem aE4 (a:Rat){b:Rat}(h:b≠0):Rat.divInt (a.num*b.den) (a.den*b.num)=a/b:=by
 rw[← Rat.divInt_mul_divInt,Rat.num_divInt_den,aQC h,Rat.div_def]
theorem num_zero {b:Rat}:b.num=0↔b=0:=⟨fun e=>Classical.byContradiction fun h=>a6K h e,fun e=>by rw[e]; rfl⟩
theorem aQM (a b:Rat):decide (a.num*b.den<b.num*a.den)=decide (a<b):=by
 rw[decide_eq_decide,Rat.lt_iff]
theorem fd (t:Int)(g:Nat):t.fdiv (g:Int)=t/(g:Int):=Int.fdiv_eq_ediv_of_nonneg t (by omega)
theorem rD {t b:Int}(h:0<b):t.fdiv (Int.gcd t b:Nat)=(Rat.divInt t b).num∧b.fdiv (Int.gcd t b:Nat)=((Rat.divInt t b).den:Int):=by
 rw[Rat.num_divInt,Rat.den_divInt,fd,fd,if_neg (by omega),Int.sign_eq_one_of_pos h,Int.one_mul,Int.gcd_comm b t];refine⟨rfl,?_⟩;obtain⟨n,rfl⟩:∃ n:Nat,b=(n:Int):=⟨b.toNat,by omega⟩;rw[← Int.natCast_ediv,Int.natAbs_natCast]
theorem aC4 {t b:Int}(h:b<0):t.fdiv (-(Int.gcd t b:Nat))=(Rat.divInt t b).num∧b.fdiv (-(Int.gcd t b:Nat))=((Rat.divInt t b).den:Int):=by
 have h1:=rD (t := -t) (b := -b) (by omega);have e:Rat.divInt (-t) (-b)=Rat.divInt t b:=by
  have:=Rat.divInt_mul_right (n:=t) (d:=b) (a := -1) (by decide);rw[← this]; congr 1<;>omega
 rw[e,Int.gcd_neg,Int.neg_gcd] at h1;rw[← h1.1,←h1.2];constructor
 ·rw[← Int.neg_neg t,Int.neg_fdiv_neg]; simp
 ·rw[← Int.neg_neg b,Int.neg_fdiv_neg]; simp
theorem aC7 {d r:Int}(hd:0≤d)(h:0<r):Int.gcd r (d%r)=Int.gcd d r:=by
 obtain⟨m,rfl⟩:∃ n:Nat,d=(n:Int):=⟨d.toNat,by omega⟩;obtain⟨n,rfl⟩:∃ n:Nat,r=(n:Int):=⟨r.toNat,by omega⟩;rw[← Int.natCast_emod];show Nat.gcd n (m%n)=Nat.gcd m n;rw[Nat.gcd_comm n,←Nat.gcd_rec,Nat.gcd_comm]
theorem aDX {d:Int}(h:0≤d):(Int.gcd d 0:Int)=d:=by
 rw[Int.gcd_zero_right]; omega
theorem aBI (i:Int):0≤(if i<0 then -i else i):=by split<;>omega
theorem aF7 (i j:Int):Int.gcd (if i<0 then -i else i) (if j<0 then -j else j)=Int.gcd i j:=by
 split<;>split<;>simp only[Int.gcd_neg,Int.neg_gcd]
noncomputable def Bt (k:Nat)(i:Int):Prop:=i.natAbs<2^k
noncomputable def Sz (k:Nat)(q:Rat):Prop:=Bt k q.num∧Bt k q.den
theorem Bt.mono {k m:Nat}{i:Int}(h:Bt k i)(l:k≤m):Bt m i:=Nat.lt_of_lt_of_le h (Nat.pow_le_pow_right (by decide) l)
theorem Sz.mono {k m:Nat}{q:Rat}(h:Sz k q)(l:k≤m):Sz m q:=⟨h.1.mono l,h.2.mono l⟩
theorem Bt.mul {k m:Nat}{i j:Int}(h:Bt k i)(g:Bt m j):Bt (k+m) (i*j):=by
 unfold Bt at *; rw[Int.natAbs_mul,Nat.pow_add];exact Nat.mul_lt_mul'' h g
theorem Bt.add {k:Nat}{i j:Int}(h:Bt k i)(g:Bt k j):Bt (k+1) (i+j):=by
 unfold Bt at *; have:=Int.natAbs_add_le i j; rw[Nat.pow_succ]; omega
theorem Bt.neg {k:Nat}{i:Int}(h:Bt k i):Bt k (-i):=by unfold Bt at *; omega
theorem Bt.sub {k:Nat}{i j:Int}(h:Bt k i)(g:Bt k j):Bt (k+1) (i-j):=by
 rw[Int.sub_eq_add_neg]; exact h.add g.neg
theorem Bt.ediv {k:Nat}{i:Int}(h:Bt k i)(g:Nat):Bt k (i/(g:Int)):=by
 unfold Bt at *;exact Nat.lt_of_le_of_lt (by exact Int.natAbs_ediv_le_natAbs _ _) h
theorem Sz.divInt {k:Nat}{t b:Int}(h:Bt k t)(g:Bt k b)(h0:b≠0):Sz k (Rat.divInt t b):=by
 rcases Int.lt_or_gt_of_ne h0 with hb|hb
 ·have e:Rat.divInt (-t) (-b)=Rat.divInt t b:=by
   have:=Rat.divInt_mul_right (n:=t) (d:=b) (a := -1) (by decide);rw[← this]; congr 1<;>omega
  rw[← e];have n:=rD (t := -t) (b := -b) (by omega);rw[fd,fd] at n;exact⟨by rw[← n.1]; exact h.neg.ediv _,by rw[← n.2]; exact g.neg.ediv _⟩
 ·have n:=rD (t:=t) (b:=b) hb;rw[fd,fd] at n;exact⟨by rw[← n.1]; exact h.ediv _,by rw[← n.2]; exact g.ediv _⟩
theorem Sz.add {k m:Nat}{a b:Rat}(h:Sz k a)(g:Sz m b):Sz (k+m+1) (a+b):=by
 rw[← aGP];refine Sz.divInt (Bt.add (h.1.mul g.2) ?_) ((h.2.mul g.2).mono (by omega)) (Int.mul_ne_zero (dO a) (dO b));exact(g.1.mul h.2).mono (by omega)
theorem Sz.sub {k m:Nat}{a b:Rat}(h:Sz k a)(g:Sz m b):Sz (k+m+1) (a-b):=by
 rw[← aK2];refine Sz.divInt (Bt.sub (h.1.mul g.2) ?_) ((h.2.mul g.2).mono (by omega)) (Int.mul_ne_zero (dO a) (dO b));exact(g.1.mul h.2).mono (by omega)
theorem Sz.mul {k m:Nat}{a b:Rat}(h:Sz k a)(g:Sz m b):Sz (k+m) (a*b):=by
 rw[← aDZ];exact Sz.divInt (h.1.mul g.1) (h.2.mul g.2) (Int.mul_ne_zero (dO a) (dO b))
theorem Sz.div {k m:Nat}{a b:Rat}(h:Sz k a)(g:Sz m b)(b0:b≠0):Sz (k+m) (a/b):=by
 rw[← aE4 a b0];exact Sz.divInt (h.1.mul g.2) (h.2.mul g.1) (Int.mul_ne_zero (dO a) (a6K b0))
end LT
namespace LT
theorem aTY (q:Rat):(q.num:Rat)=q*((q.den:Int):Rat):=by
 have h:((q.den:Int):Rat)≠0:=by
  have:=dO q;exact fun e=>this (by exact_mod_cast e)
 have e:=Rat.num_divInt_den q;rw[Rat.divInt_eq_div] at e;grind
theorem dI {t b:Int}{q:Rat}(hb:b≠0)(h:(t:Rat)=q*(b:Rat)):Rat.divInt t b=q:=by
 have h0:(b:Rat)≠0:=fun e=>hb (by exact_mod_cast e);rw[Rat.divInt_eq_div,h];grind
end LT
namespace LT
noncomputable def pm (s:Int)(a b:Rat):Rat:=a+(s:Rat)*b
theorem aNM (a b:Rat):pm 1 a b=a+b:=by show a+((1:Int):Rat)*b=a+b; grind
theorem aAM (a b:Rat):pm (-1) a b=a-b:=by show a+((-1:Int):Rat)*b=a-b; grind
theorem aR9 (a b:Rat)(s:Int):Rat.divInt (a.num*b.den+s*b.num*a.den) (a.den*b.den)=pm s a b:=by
 refine dI (Int.mul_ne_zero (dO a) (dO b)) ?_;simp only[Rat.intCast_add,Rat.intCast_mul];rw[aTY a,aTY b];unfold pm;grind
theorem aMO {s:Int}(h:s=1∨s = -1):Bt 1 s:=by
 show s.natAbs<2^1;omega
end LT
namespace L2
open PySem PySem.Spec PyProof.Rows
mutual
inductive Dt (H:Hp):V→PyData→Prop
 | non:Dt H .non .none
 | bl (b:Bool):Dt H (.bl b) (.bool b)
 | int (i:Int):Dt H (.int i) (.int i)
 | str (x:Str):Dt H (.str x) (.str x)
 | tup {p:Addr} {xs:List V} {ds:List PyData}:H p=some (.tup xs)→Dts H xs ds→Dt H (.ref p) (.tuple ds)
 | lst {p:Addr} {xs:List V} {ds:List PyData}:H p=some (.lst xs)→Dts H xs ds→Dt H (.ref p) (.list ds)
 | dic {p:Addr} {kvs:List (Key×V)} {kds:List (PyData×PyData)}:H p=some (.dK kvs)→Dtk H kvs kds→Dt H (.ref p) (.dict kds)
inductive Dts (H:Hp):List V→List PyData→Prop
 | nil:Dts H [] []
 | cons {x:V} {xs:List V} {d:PyData} {ds:List PyData}:Dt H x d→Dts H xs ds→Dts H (x::xs) (d::ds)
inductive Dtk (H:Hp):List (Key×V)→List (PyData×PyData)→Prop
 | nil:Dtk H [] []
 | cons {n:Int} {x:V} {d:PyData} {kvs:List (Key×V)} {kds:List (PyData×PyData)}:Dt H x d→Dtk H kvs kds→Dtk H ((Sum.inl n,x)::kvs) ((.int n,d)::kds)
end
mutual
theorem Dt.reads {P:Program}{w:World}{H:Hp}{h:Heap}(ok:HOk P w H h):∀(d:PyData) (x:V) (v:Value),Dt H x d→RelV x v→∃ as,Reads h v d as
 | .none,_,_,e,r=>by cases e; cases r; exact⟨_,.none⟩
 | .bool _,_,_,e,r=>by cases e; cases r; exact⟨_,.bool _⟩
 | .int _,_,_,e,r=>by cases e; obtain⟨t,rfl⟩:=r; exact⟨_,.int _ _⟩
 | .str _,_,_,e,r=>by cases e; obtain⟨t,rfl⟩:=r; exact⟨_,.str _ _⟩
 | .list ds,_,_,e,r=>by
  cases e with
  | @lst p xs _ hp rs=>
   cases r
   obtain⟨_,its,n,r',hg⟩:=(show ObjOk P w H h p (.lst xs) from ok p _ hp);obtain⟨as,q⟩:=Dts.reads ok ds xs its rs r';exact⟨_,.list hg rfl rfl (by simpa using q)⟩
 | .tuple ds,_,_,e,r=>by
  cases e with
  | @tup p xs _ hp rs=>
   cases r
   obtain⟨_,its,r',o,h1,h2,n,h3⟩:=(show ObjOk P w H h p (.tup xs) from ok p _ hp);obtain⟨as,q⟩:=Dts.reads ok ds xs its rs r';exact⟨_,.tuple h1 h2 h3 (by simpa using q)⟩
 | .dict kds,_,_,e,r=>by
  cases e with
  | @dic p kvs _ hp rs=>
   cases r
   obtain⟨_,_,vs,kv,o,es,ep,h1,h2,h3,_,h4,_⟩:=(show ObjOk P w H h p (.dK kvs) from ok p _ hp);obtain⟨as,bs,q1,q2⟩:=Dtk.reads ok kds kvs vs es.toList rs kv h4;exact⟨_,.dict h1 h2.1 h3 q1 q2⟩
theorem Dts.reads {P:Program}{w:World}{H:Hp}{h:Heap}(ok:HOk P w H h):∀(ds:List PyData) (xs:List V) (vs:List Value),Dts H xs ds→Vals xs vs→∃ as,ReadsAll h vs ds as
 | [],_,_,e,r=>by cases e; cases r; exact⟨_,.nil⟩
 | d::ds,_,_,e,r=>by
  cases e with
  | cons e1 e2=>
   cases r with
   | cons r1 r2=>
    obtain⟨as,q1⟩:=Dt.reads ok d _ _ e1 r1;obtain⟨bs,q2⟩:=Dts.reads ok ds _ _ e2 r2;exact⟨_,.cons q1 q2⟩
theorem Dtk.reads {P:Program}{w:World}{H:Hp}{h:Heap}(ok:HOk P w H h):∀(kds:List (PyData×PyData)) (kvs:List (Key×V)) (vs:List (Key×Value)) (es:List DictEntry),Dtk H kvs kds→KV kvs vs→Pairs (eX P w) es vs →
  ∃ as bs,ReadsAll h (es.map (·.key)) (kds.map (·.1)) as∧ReadsAll h (es.map (·.val)) (kds.map (·.2)) bs
 | [],_,_,_,e,r,z=>by cases e; cases r; cases z; exact⟨_,_,.nil,.nil⟩
 | (k,d)::kds,_,_,_,e,r,z=>by
  cases e with
  | @cons n _ _ _ _ e1 e2=>
   cases r with
   | cons r1 r2=>
    cases z with
    | @cons en kv _ _ z1 z2 z3=>
     obtain⟨k1,rv⟩:=r1;obtain⟨as,q1⟩:=Dt.reads ok d _ _ e1 rv;obtain⟨as2,bs2,q3,q4⟩:=Dtk.reads ok kds _ _ _ e2 r2 z3;have kr:∃ cs,Reads h en.key (.int n) cs:=by
      rcases cO ((a3L P w _ _).symm.trans z1) with⟨i,t,a,b⟩|⟨_,_,a,_⟩
      ·rw[← k1] at a
       cases a
       rw[b];exact⟨_,.int _ _⟩
      ·rw[← k1] at a
       cases a
     obtain⟨cs,kr⟩:=kr;exact⟨_,_,.cons kr q3,.cons (z2▸q1:Reads h en.val d as) q4⟩
end
mutual
theorem Dt.same {H H':Hp}(g:Same H H'):∀(d:PyData) (x:V),Dt H x d→Dt H' x d
 | .none,_,e=>by cases e; exact .non
 | .bool _,_,e=>by cases e; exact .bl _
 | .int _,_,e=>by cases e; exact .int _
 | .str _,_,e=>by cases e; exact .str _
 | .list ds,_,e=>by
  cases e with
  | lst hp rs=>exact .lst (g _ _ hp) (Dts.same g ds _ rs)
 | .tuple ds,_,e=>by
  cases e with
  | tup hp rs=>exact .tup (g _ _ hp) (Dts.same g ds _ rs)
 | .dict kds,_,e=>by
  cases e with
  | dic hp rs=>exact .dic (g _ _ hp) (Dtk.same g kds _ rs)
theorem Dts.same {H H':Hp}(g:Same H H'):∀(ds:List PyData) (xs:List V),Dts H xs ds→Dts H' xs ds
 | [],_,e=>by cases e; exact .nil
 | d::ds,_,e=>by
  cases e with
  | cons e1 e2=>exact .cons (Dt.same g d _ e1) (Dts.same g ds _ e2)
theorem Dtk.same {H H':Hp}(g:Same H H'):∀(kds:List (PyData×PyData)) (kvs:List (Key×V)),Dtk H kvs kds→Dtk H' kvs kds
 | [],_,e=>by cases e; exact .nil
 | (_,d)::kds,_,e=>by
  cases e with
  | cons e1 e2=>exact .cons (Dt.same g d _ e1) (Dtk.same g kds _ e2)
end
mutual
noncomputable def eN:PyData→Bool
 | .list _=>false
 | .dict _=>false
 | .tuple ds=>bV ds
 | _=>true
noncomputable def bV:List PyData→Bool
 | []=>true
 | d::ds=>eN d&&bV ds
end
noncomputable def aOA (x:Addr)(H H':Hp):Prop:=∀ b o,b≠x→H b=some o→H' b=some o
theorem jO {H:Hp}{p:Addr}(h:H p=none)(o:HO):Same H (upd H p o):=fun b u q=>by rw[aM (b7 q h)]; exact q
theorem a6Q {H:Hp}{p:Addr}(o:HO):aOA p H (upd H p o):=fun b u n q=>by rw[aM n]; exact q
structure Good (d:PyData):Prop where
 lay:d.canLay0=true
 dep:d.depth≤60
section
variable {X:Cx}
theorem aPX {u a b:Nat}(h:u+64<cLine)(ha:a≤60):u+min a b<cLine:=by
 have:min a b≤a:=Nat.min_le_left _ _;omega
noncomputable def aTP:R2:=fun x y H Q=>∃ dx dy,Dt H x dx∧Dt H y dy∧Good dx∧Good dy∧Q (.bl (PyData.eqv dx dy)) H
noncomputable def aU4:R2:=fun x y H Q=>∃ dx dy,Dt H x dx∧Dt H y dy∧Good dx∧Good dy∧Q (.bl (!PyData.eqv dx dy)) H
theorem dR (hu:X.A.units+64<cLine):OpR X (compareOp .Eq) aTP:=by
 intro pins s σ H x y v u Q I rx ry h;obtain⟨dx,dy,ex,ey,gx,gy,q⟩:=h;obtain⟨as,r1⟩:=Dt.reads I.hok dx x v ex rx;obtain⟨bs,r2⟩:=Dt.reads I.hok dy y u ey ry;exact SeqAt.compareEq_reads r1 r2 gx.lay gy.lay (aPX hu gx.dep) ⟨.bl _,H,I,rfl,q⟩
theorem vV (hu:X.A.units+64<cLine):OpR X (compareOp .NotEq) aU4:=by
 intro pins s σ H x y v u Q I rx ry h;obtain⟨dx,dy,ex,ey,gx,gy,q⟩:=h;obtain⟨as,r1⟩:=Dt.reads I.hok dx x v ex rx;obtain⟨bs,r2⟩:=Dt.reads I.hok dy y u ey ry;exact SeqAt.compareNe_reads r1 r2 gx.lay gy.lay (aPX hu gx.dep) ⟨.bl _,H,I,rfl,q⟩
theorem bY:OpR X (binaryOp .Mult) (rI IntMulOk fun i j=>.int (i*j)):=opI fun _ _ _ _ _ _ _ hc q=>mul_int q hc
noncomputable def aJO (_ j:Int):Prop:=j≠0∧LT.Bt 9000 j
theorem aUO {i j:Int}(h:aJO i j):Builtin.divisionGoesByPylong i j=false:=by
 refine PyProof.noPylong_of_log2 ((Nat.log2_lt ?_).mpr h.2);have:=h.1;omega
theorem z8:OpR X (binaryOp .FloorDiv) (rI aJO fun i j=>.int (i.fdiv j)):=opI fun _ _ _ _ _ _ _ hc q=>floordiv_int hc.1 q (.inl (aUO hc))
theorem bits_le {k:Nat}{i:Int}(h:LT.Bt k i):Builtin.Int.intBits i≤k:=by
 unfold Builtin.Int.intBits
 split
 ·exact Nat.zero_le _
 ·rename_i h0
  have:i.natAbs≠0:=by
   intro e;exact h0 (by simpa using e)
  exact(Nat.log2_lt this).mpr h
theorem aSQ {k m:Nat}{i j:Int}(h:LT.Bt k i)(g:LT.Bt m j)(hk:k≤1048576:=by decide)(hm:m≤1048576:=by decide):IntMulOk i j:=
 IntMulOk.of_bits (Nat.le_trans (bits_le h) hk) (Nat.le_trans (bits_le g) hm)
theorem a4D {a b v:Int}{j j':Nat}{p p' pos:Pos}(h:a^b.toNat=v)(hc:aU7 a b):PE X (.BinOp (.Constant (.int a) j p) .Pow (.Constant (.int b) j' p') pos) (tC (.int v)):=by
 intro pins s σ H Q I hq;subst h;exact bQ aNU aC aC pins s σ H Q I ⟨_,_,rfl,rfl,hc,hq⟩
noncomputable def aUX:V→Option Value
 | .ty n=>some (.type n)
 | .ref a=>some (.ref a)
 | _=>none
noncomputable def aTU (K:PySem.W.Frag):List V→Hp→VK→Prop:=fun xs H Q=>∃ x c cv t b,xs=[x,c]∧aUX c=some cv∧TyOf K H x t∧PySem.W.kitOne K t cv=some b∧Q (.bl b) H
theorem jN:wI X (.builtin "isinstance") (aTU X.K):=by
 intro pins s σ H xs us Q I r h;obtain⟨x,c,cv,t,b,rfl,ec,ty,e,q⟩:=h;obtain⟨u,v,rfl,rx,rc⟩:=vals2 r;have ev:v=cv:=by
  cases c<;>first
   | (cases ec; exact rc)
   | cases ec
 subst ev;exact aFU I rx ty e fun tk=>⟨.bl b,H,I.tok tk,rfl,q⟩
structure Cal (P:Program)(w:World)(K:PySem.W.Frag)(mg:Str→Option Value)(base:Heap)(k:Nat)(x:Str)(ps:List Str)(sp:Sp):Prop where
 ex:∃(f:Addr) (fd:FuncData),FnOk P w K mg base CX0 k f fd ps sp∧mg x=some (.ref f)∧PySem.W.keepIn K (.ref f)=true∧Binds K fd ps []
variable {j k:Nat}{x:Str}{ps:List Str}{sp:Sp}{e:Expr}{es:List Expr}{t:TA}{p pos:Pos}
theorem aJ (c:Cal X.prog X.w X.K X.mg X.base j x ps sp)(hr:Room k X.A)(hg:Gl X x)(ha:PA X (e::es) t)(hjk:j≤k:=by decide)
  (hdb:(x==("__debug__" : Str))=false:=by decide) (he:starEach (e::es) X.env=(false,eval e X.env)::starEach es X.env:=by rfl) (hpl:(backTo pos (starEach es X.env)).any (·.1)=false:=by rfl) :
  PE X (.Call (.Name x p) (e::es) [] pos) (a9A sp [] E0 t):=by
 obtain⟨f,fd,F,hm,hk,hb⟩:=c.ex;exact aMA F (hr.mono hjk) hg hm hk hb .nil iD ha hdb he hpl
end
structure Bl (K:PySem.W.Frag)(mg:Str→Option Value):Prop where
 len_:mg "len" = none
 abs_:mg "abs" = none
 range_:mg "range" = none
 isinstance_:mg "isinstance" = none
 int_:mg "int" = none
 bool_:mg "bool" = none
 tuple_:mg "tuple" = none
 max_:mg "max" = none
 min_:mg "min" = none
 list_:mg "list" = none
 all_:mg "all" = none
 any_:mg "any" = none
 sorted_:mg "sorted" = none
 zip_:mg "zip" = none
 set_:mg "set" = none
 sum_:mg "sum" = none
 str_:mg "str" = none
 enumerate_:mg "enumerate" = none
 kib:PySem.W.kitOne K (.type "int") (.type "bool")=some false
 kbi:PySem.W.kitOne K (.type "bool") (.type "int")=some true
theorem aJE (K:PySem.W.Frag)(t:Value):PySem.W.kitOne K t t=some true:=by
 unfold PySem.W.kitOne;rw[if_pos (beq_self_eq_true t)]
end L2
namespace L2
open PySem PySem.Spec PyProof.Rows LT
theorem aRX {c A B:Prop}[Decidable c](h:c)(a:A):if decide c=true then A else B:=by rw[decide_eq_true h]; exact a5U a
theorem aNX {c A B:Prop}[Decidable c](h:¬c)(b:B):if decide c=true then A else B:=by rw[decide_eq_false h]; exact a2W b
theorem aTF {c A B:Prop}[Decidable c](h:¬c)(a:A):if (!decide c)=true then A else B:=by rw[decide_eq_false h]; exact a5U a
theorem iC {c A B:Prop}[Decidable c](h1:c→A)(h2:¬c→B):if decide c=true then A else B:=by
 by_cases h:c
 ·exact aRX h (h1 h)
 ·exact aNX h (h2 h)
theorem a9V {c A B:Prop}[Decidable c](h1:¬c→A)(h2:c→B):if (!decide c)=true then A else B:=by
 by_cases h:c
 ·exact aSV h (h2 h)
 ·exact aTF h (h1 h)
theorem jX {n:Nat}(h:n≤1000):n≤sizeLine:=Nat.le_of_lt (zX h)
theorem u9 {n:Nat}(h:Nat.ble n 1000=true):n≤sizeLine:=jX (Nat.le_of_ble_eq_true h)
noncomputable def bO (q:Rat):PyData:=.tuple [.int q.num,.int (q.den:Int)]
theorem qY (q:Rat):Good (bO q):=⟨rfl,by show 1≤60; decide⟩
theorem aLP (a b:Rat):PyData.eqv (bO a) (bO b)=decide (a=b):=by
 show((a.num==b.num)&&(((a.den:Int)==(b.den:Int))&&true))=decide (a=b)
 rw[Bool.and_true]
 by_cases e:a=b
 ·subst e; simp
 ·rw[decide_eq_false e];refine Bool.eq_false_iff.mpr fun h=>e ?_;rw[Bool.and_eq_true] at h;have h1:a.num=b.num:=beq_iff_eq.mp h.1;have h2:(a.den:Int)=(b.den:Int):=beq_iff_eq.mp h.2;exact Rat.ext h1 (by omega)
noncomputable def fX (l:Rat×Rat):PyData:=.tuple [bO l.1,bO l.2]
noncomputable def aIO (K:PySem.W.Frag):Sp:=fun vs H Q _=>∃(a:Addr) (ns:List Int),vs=[.ref a]∧SqL K H a (ns.map V.int)∧ns.length≤63∧∀ H',Q (.bl true) H'
theorem aJT {k:Nat}{t b:Int}(h:Bt k b)(h0:b≠0):Bt k (Int.gcd t b:Nat):=by
 unfold Bt at *;refine Nat.lt_of_le_of_lt ?_ h;show Int.gcd t b≤b.natAbs;exact Nat.le_of_dvd (by omega) (Nat.gcd_dvd_right _ _)
theorem aJR {t b:Int}(h0:b≠0):((Int.gcd t b:Nat):Int)≠0:=by
 have:=Int.gcd_pos_of_ne_zero_right t h0;omega
end L2
namespace L2
open PySem PySem.Spec PyProof.Rows
section
variable {κ:Type}[DecidableEq κ]
noncomputable def a84 (kvs:List (κ×V))(k:κ):Option V:=(kvs.find? fun kv=>decide (kv.1=k)).map (·.2)
noncomputable def putK (kvs:List (κ×V))(k:κ)(v:V):List (κ×V):=
 if (kvs.any fun kv=>decide (kv.1=k))=true then kvs.map (fun kv=>if kv.1=k then(kv.1,v) else kv) else kvs++[(k,v)]
noncomputable def yP (kvs:List (κ×V))(k:κ):List (κ×V):=kvs.filter fun kv=>decide (kv.1≠k)
theorem yV {p:κ×V}{r:List (κ×V)}{k:κ}(e:p.1=k):a84 (p::r) k=some p.2:=by simp[a84,List.find?_cons,e]
theorem yZ {p:κ×V}{r:List (κ×V)}{k:κ}(e:¬p.1=k):a84 (p::r) k=a84 r k:=by simp[a84,List.find?_cons,e]
theorem a4C (k:κ):∀ kvs:List (κ×V),(kvs.any fun kv=>decide (kv.1=k))=(a84 kvs k).isSome
 | []=>rfl
 | p::r=>by
  rw[List.any_cons]
  by_cases e:p.1=k
  ·simp only[yV e,decide_eq_true e,Bool.true_or,Option.isSome_some]
  ·rw[yZ e,decide_eq_false e,Bool.false_or]; exact a4C k r
theorem a1F (kvs:List (κ×V))(k:κ)(v:V):(putK kvs k v).length≤kvs.length+1:=by
 unfold putK
 split
 ·rw[List.length_map]; omega
 ·rw[List.length_append,List.length_cons,List.length_nil]; omega
theorem RelO.isSome_eq {o:Option V}{u:Option Value}(r:RelO o u):o.isSome=u.isSome:=by
 cases o with
 | none=>cases u with
  | none=>rfl
  | some _=>exact(show False from r).elim
 | some _=>cases u with
  | none=>exact(show False from r).elim
  | some _=>rfl
theorem KV.val {kvs:List (κ×V)}{vs:List (κ×Value)}(r:KV kvs vs)(k:κ):RelO (a84 kvs k) (valueAt vs k):=by
 unfold KV at r
 induction r with
 | nil=>exact True.intro
 | @cons p q ps qs h t ih=>
  obtain⟨h1,h2⟩:=h
  by_cases e:p.1=k
  ·have e':q.1=k:=h1.symm.trans e;have b:valueAt (q::qs) k=some q.2:=by simp[valueAt,List.find?_cons,e']
   rw[yV e,b]; exact h2
  ·have e':¬q.1=k:=fun z=>e (h1.trans z);have b:valueAt (q::qs) k=valueAt qs k:=by simp[valueAt,List.find?_cons,e']
   rw[yZ e,b]; exact ih
theorem KV.any {kvs:List (κ×V)}{vs:List (κ×Value)}(r:KV kvs vs)(k:κ):(kvs.any fun kv=>decide (kv.1=k))=vs.any fun kv=>decide (kv.1=k):=by
 unfold KV at r
 induction r with
 | nil=>rfl
 | cons h t ih=>rw[List.any_cons,List.any_cons,ih,h.1]
theorem KV.repl {kvs:List (κ×V)}{vs:List (κ×Value)}(r:KV kvs vs)(k:κ){y:V}{u:Value}(ry:RelV y u) :
  KV (kvs.map fun kv=>if kv.1=k then(kv.1,y) else kv) (vs.map fun kv=>if kv.1=k then(kv.1,u) else kv):=by
 unfold KV at r ⊢
 induction r with
 | nil=>exact .nil
 | @cons p q ps qs h t ih=>
  rw[List.map_cons,List.map_cons];refine .cons ?_ ih;obtain⟨h1,h2⟩:=h
  by_cases e:p.1=k
  ·rw[if_pos e,if_pos (h1.symm.trans e)]; exact⟨h1,ry⟩
  ·rw[if_neg e,if_neg (fun z=>e (h1.trans z))]; exact⟨h1,h2⟩
theorem KV.put {kvs:List (κ×V)}{vs:List (κ×Value)}(r:KV kvs vs)(k:κ){y:V}{u:Value}(ry:RelV y u):KV (putK kvs k y) (stored vs k u):=by
 unfold putK stored;rw[r.any k]
 by_cases e:(vs.any fun kv=>decide (kv.1=k))=true
 ·rw[if_pos e,if_pos e]; exact r.repl k ry
 ·rw[if_neg e,if_neg e]; exact Paired.snoc r ⟨rfl,ry⟩
theorem KV.drop {kvs:List (κ×V)}{vs:List (κ×Value)}(r:KV kvs vs)(k:κ):KV (yP kvs k) (without vs k):=by
 unfold KV at r ⊢;unfold yP without
 induction r with
 | nil=>exact .nil
 | @cons p q ps qs h t ih=>
  obtain⟨h1,h2⟩:=h;rw[List.filter_cons,List.filter_cons]
  by_cases e:p.1=k
  ·have a:¬decide (p.1≠k)=true:=by simp[e]
   have b:¬decide (q.1≠k)=true:=by simp[h1.symm.trans e]
   rw[if_neg a,if_neg b]; exact ih
  ·have e':¬q.1=k:=fun z=>e (h1.trans z);have a:decide (p.1≠k)=true:=by simp[e]
   have b:decide (q.1≠k)=true:=by simp[e']
   rw[if_pos a,if_pos b]; exact .cons ⟨h1,h2⟩ ih
theorem KV.keys {kvs:List (κ×V)}{vs:List (κ×Value)}(r:KV kvs vs):kvs.map (·.1)=vs.map (·.1):=by
 unfold KV at r
 induction r with
 | nil=>rfl
 | cons h t ih=>rw[List.map_cons,List.map_cons,ih,h.1]
theorem KV.length {kvs:List (κ×V)}{vs:List (κ×Value)}(r:KV kvs vs):kvs.length=vs.length:=Paired.length r
theorem aIR (kvs:List (κ×V))(k:κ):(yP kvs k).length≤kvs.length:=List.length_filter_le _ _
end
theorem aGM {P:Program}{w:World}{k:Key}{u:Value}(r:RelV (kV k) u):(eX P w).is k u=true:=by
 cases k with
 | inl i=>obtain⟨t,e⟩:=(show ∃ t,u=Value.int i t from r); subst e; exact a8K P w i t
 | inr x=>obtain⟨t,e⟩:=(show ∃ t,u=Value.str x t from r); subst e; exact a97 P w x t
theorem a6D {P:Program}{w:World}:∀{ks:List Key} {us:List Value},Vals (ks.map kV) us→ItemsAre (eX P w) ks us
 | [],_,r=>by rw[List.map_nil] at r; cases r; exact .nil
 | k::ks,_,r=>by
  rw[List.map_cons] at r
  cases r with
  | cons h t=>exact .cons (aGM h) (a6D t)
abbrev KT (H:Hp):List (List Key×V)→List (List Key×Addr×Value)→Prop:=Paired fun p q=>p.1=q.1∧H q.2.1=some (.tup (p.1.map kV))∧RelV p.2 q.2.2
theorem KT.val {H:Hp}{kvs:List (List Key×V)}{xs:List (List Key×Addr×Value)}(r:KT H kvs xs)(k:List Key):RelO (a84 kvs k) ((atKey xs k).map (·.2)):=by
 induction r with
 | nil=>exact True.intro
 | @cons p q ps qs h t ih=>
  obtain⟨h1,_,h2⟩:=h
  by_cases e:p.1=k
  ·have e':q.1=k:=h1.symm.trans e;have b:atKey (q::qs) k=some q.2:=by simp[atKey,List.find?_cons,e']
   rw[yV e,b]; exact h2
  ·have e':¬q.1=k:=fun z=>e (h1.trans z);have b:atKey (q::qs) k=atKey qs k:=by simp[atKey,List.find?_cons,e']
   rw[yZ e,b]; exact ih
theorem KT.repl {H:Hp}{kvs:List (List Key×V)}{xs:List (List Key×Addr×Value)}(r:KT H kvs xs)(k:List Key){y:V}{u:Value}(ry:RelV y u) :
  KT H (kvs.map fun kv=>if kv.1=k then(kv.1,y) else kv) (xs.map (putAt k u)):=by
 induction r with
 | nil=>exact .nil
 | @cons p q ps qs h t ih=>
  rw[List.map_cons,List.map_cons];refine .cons ?_ ih;obtain⟨h1,h2,h3⟩:=h;unfold putAt
  by_cases e:p.1=k
  ·rw[if_pos e,if_pos (h1.symm.trans e)]; exact⟨h1,h2,ry⟩
  ·rw[if_neg e,if_neg (fun z=>e (h1.trans z))]; exact⟨h1,h2,h3⟩
theorem KT.put {H:Hp}{kvs:List (List Key×V)}{xs:List (List Key×Addr×Value)}(r:KT H kvs xs)(k:List Key){b:Addr}{y:V}{u:Value}(hb:H b=some (.tup (k.map kV)))(ry:RelV y u) :
  KT H (putK kvs k y) (storedH xs k b u):=by
 have e:(kvs.any fun kv=>decide (kv.1=k))=(atKey xs k).isSome:=by
  rw[a4C,(r.val k).isSome_eq,Option.isSome_map]
 unfold putK storedH;rw[e]
 by_cases q:(atKey xs k).isSome=true
 ·rw[if_pos q,if_pos q]; exact r.repl k ry
 ·rw[if_neg q,if_neg q]; exact Paired.snoc r ⟨rfl,hb,ry⟩
theorem KT.keeps {H H':Hp}{kvs:List (List Key×V)}{xs:List (List Key×Addr×Value)}(r:KT H kvs xs)(ht:∀ b ys,H b=some (.tup ys)→H' b=some (.tup ys)):KT H' kvs xs:=
 Paired.mapP r fun _ _ z=>⟨z.1,ht _ _ z.2.1,z.2.2⟩
section
variable {P:Program}{w:World}{H:Hp}{h:Heap}{a:Addr}
theorem aNO {u:HO}(ok:HOk P w H h)(e:Rd H a u):ObjOk P w H h a u:=e.ok ok
theorem aA5 {kvs:List (Key×V)}(ok:HOk P w H h)(e:Rd H a (.dK kvs)):kvs.length≤sizeLine∧(a==sysModules)=false∧∃ vs,KV kvs vs∧h.DictOf (eX P w) a vs:=
 show ObjOk P w H h a (.dK kvs) from aNO ok e
theorem aLN {kvs:List (Key×V)}(ok:HOk P w H h)(e:H a=some (.dK kvs)):kvs.length≤sizeLine∧(a==sysModules)=false∧∃ vs,KV kvs vs∧h.DictOf (eX P w) a vs:=aA5 ok (.inl e)
theorem aAP {ks:List Key}(ok:HOk P w H h)(e:H a=some (.tup (ks.map kV))):(tupleKind (eX P w)).is h ks a:=by
 obtain⟨_,its,r,o,h1,h2,n,h3⟩:=(show ObjOk P w H h a (.tup (ks.map kV)) from ok a _ e);exact⟨o,its.toArray,n,h1,h2,h3,by simpa using a6D r⟩
theorem aGT {kvs:List (List Key×V)}(ok:HOk P w H h)(e:Rd H a (.dT kvs)):kvs.length≤sizeLine∧(a==sysModules)=false ∧
  ∃ xs,KT H kvs xs∧h.DictOfH (tupleKind (eX P w)) a xs:=by
 obtain⟨z,y,xs,r,o,es,ep,h1,h2,h3,h4,h5⟩:=(show ObjOk P w H h a (.dT kvs) from aNO ok e);refine⟨z,y,xs,r,o,es,ep,h1,h2,h3,h4,fun x hx=>?_,h5⟩;have all:∀{l:List (List Key×V)} {m:List (List Key×Addr×Value)},KT H l m→∀ x∈m,(tupleKind (eX P w)).is h x.1 x.2.1:=by
  intro l m q
  induction q with
  | nil=>intro x hx; exact nomatch hx
  | @cons p q ps qs hq t ih=>
   intro x hx;rcases List.mem_cons.mp hx with e|hx
   ·subst e;exact aAP ok (by rw[← hq.1]; exact hq.2.1)
   ·exact ih x hx
 exact all r x hx
theorem aSA {kvs:List (List Key×V)}(ok:HOk P w H h)(e:H a=some (.dT kvs)):kvs.length≤sizeLine∧(a==sysModules)=false ∧
  ∃ xs,KT H kvs xs∧h.DictOfH (tupleKind (eX P w)) a xs:=aGT ok (.inl e)
end
noncomputable def DGet (H:Hp)(a:Addr)(y:V)(r:Option V):Prop:=
 (∃ kvs k,Rd H a (.dK kvs)∧y=kV k∧r=a84 kvs k)∨∃ kvs k b,Rd H a (.dT kvs)∧y=.ref b∧H b=some (.tup (k.map kV))∧r=a84 kvs k
noncomputable def DPut (H:Hp)(a:Addr)(y v:V)(H':Hp):Prop:=
 (∃ kvs k,H a=some (.dK kvs)∧y=kV k∧kvs.length<sizeLine∧H'=upd H a (.dK (putK kvs k v))) ∨
 ∃ kvs k b,H a=some (.dT kvs)∧y=.ref b∧H b=some (.tup (k.map kV))∧kvs.length<sizeLine∧H'=upd H a (.dT (putK kvs k v))
theorem DGet.k {H:Hp}{a:Addr}{kvs:List (Key×V)}{k:Key}(e:H a=some (.dK kvs)):DGet H a (kV k) (a84 kvs k):=.inl ⟨kvs,k,.inl e,rfl,rfl⟩
theorem DPut.k {H:Hp}{a:Addr}{kvs:List (Key×V)}{k:Key}{v:V}(e:H a=some (.dK kvs))(hl:kvs.length<sizeLine):DPut H a (kV k) v (upd H a (.dK (putK kvs k v))):=.inl ⟨kvs,k,e,rfl,hl,rfl⟩
section
variable {X:Cx}{pins:List (Addr×Obj)}{σ:St}{H:Hp}{s:Shared}{a:Addr}{y v:V}{u r:Value}{o:Option V}{A:Around}{E:Value→Shared→Prop}
theorem Inv.big (I:Inv X pins σ H s):sysModules<s.heap.objs.size:=by
 have h:mainGlobals<s.heap.objs.size:=(I.mod.glob.keeps I.bk).lt;exact Nat.lt_trans (by decide) h
theorem aEO {Q:Value→Shared→Prop}(hu:A.units+1<cLine)(I:Inv X pins σ H s)(g:DGet H a y (some v))(ry:RelV y u)(h:∀ w' s',Inv X pins σ H s'→RelV v w'→Q w' s') :
  wpAny (model X.prog X.w) A (getItem (.ref a) u) Q E s:=by
 rcases g with⟨kvs,k,e,ey,l⟩|⟨kvs,k,b,e,ey,eb,l⟩
 ·subst ey;obtain⟨z,hd,vs,rel,dd⟩:=aA5 I.hok e;obtain⟨w',hw,rw'⟩:=RelO.some_of (v:=v) (o:=valueAt vs k) (by rw[l]; exact rel.val k);exact wpAny_getItem_of (aGM ry) dd.mapOf hw (h w' _ (I.tok _) rw')
 ·subst ey
  cases(show u=Value.ref b from ry)
  obtain⟨z,hd,xs,rel,dd⟩:=aGT I.hok e;obtain⟨w',hw,rw'⟩:=RelO.some_of (v:=v) (o:=(atKey xs k).map (·.2)) (by rw[l]; exact rel.val k);obtain⟨p,hp,hp2⟩:=Option.map_eq_some_iff.mp hw;refine wpAny_getItem_heap (tupleKind_room_in1 hu) (aAP I.hok eb) dd hp ?_;rw[hp2];exact h w' _ (I.tok _) rw'
theorem aUQ {Q:Value→Shared→Prop}(hu:A.units+1<cLine)(I:Inv X pins σ H s)(g:DGet H a y o)(ry:RelV y u)(h:∀ s',Inv X pins σ H s'→Q (.bool o.isSome) s') :
  wpAny (model X.prog X.w) A (compareOp .In u (.ref a)) Q E s:=by
 rcases g with⟨kvs,k,e,ey,l⟩|⟨kvs,k,b,e,ey,eb,l⟩
 ·subst ey;obtain⟨z,hd,vs,rel,dd⟩:=aA5 I.hok e;refine wpAny_in_of (aGM ry) hd dd.mapOf ?_;rw[← (rel.val k).isSome_eq,←l];exact h _ (I.tok _)
 ·subst ey
  cases(show u=Value.ref b from ry)
  obtain⟨z,hd,xs,rel,dd⟩:=aGT I.hok e;refine wpAny_in_heap (tupleKind_room_in1 hu) (aAP I.hok eb) hd dd ?_;have q:=(rel.val k).isSome_eq;rw[Option.isSome_map] at q;rw[← q,←l];exact h _ (I.tok _)
theorem a9U {h':Heap}{t':Nat}{ob:HO}(I:Inv X pins σ H s)(mu:Mut (H a))(hs:Heap.SameBut a s.heap h')(he:∃ q,h'.get? a=some q)(new:ObjOk X.prog X.w (upd H a ob) h' a ob) :
  Inv X pins σ (upd H a ob) { s with heap:=h',toks:=t' }:=
 I.write (x:=a) (e:=a) mu (.inl rfl) (fun b q hb z=>(hs.2 b hb).trans z) he new
theorem aEN {P:Program}{w:World}{H':Hp}{h':Heap}{kvs:List (Key×V)}{vs:List (Key×Value)}(z:kvs.length≤sizeLine)(hd:(a==sysModules)=false)(rel:KV kvs vs)(dd:h'.DictOf (eX P w) a vs) :
  ObjOk P w H' h' a (.dK kvs):=⟨z,hd,vs,rel,dd⟩
theorem aFA {H':Hp}{Q:Unit→Shared→Prop}(hu:A.units+1<cLine)(I:Inv X pins σ H s)(g:DPut H a y v H')(ry:RelV y u)(rv:RelV v r)(h:∀ s',Inv X pins σ H' s'→Q () s') :
  wpAny (model X.prog X.w) A (setItem (.ref a) u r) Q E s:=by
 rcases g with⟨kvs,k,e,ey,l,eH⟩|⟨kvs,k,b,e,ey,eb,l,eH⟩
 ·subst ey eH;obtain⟨z,hd,vs,rel,dd⟩:=aLN I.hok e;have hz:vs.length≤sizeLine:=by rw[← rel.length]; exact z
  have hl:(putK kvs k v).length≤sizeLine:=by have:=a1F kvs k v; omega
  refine wpAny_setItem_pairs (hsz:=hz) (aGM ry) dd fun h' dd' hs=>h _ ?_;have he:∃ q,h'.get? a=some q:=let ⟨q,_,_,hq,_⟩:=dd'; ⟨q,hq⟩;exact a9U I (by rw[e]; exact True.intro) hs he (aEN hl hd (rel.put k rv) dd')
 ·subst ey eH
  cases(show u=Value.ref b from ry)
  obtain⟨z,hd,xs,rel,dd⟩:=aSA I.hok e;have hz:xs.length≤sizeLine:=by rw[← Paired.length rel]; exact z
  have hl:(putK kvs k v).length≤sizeLine:=by have:=a1F kvs k v; omega
  refine wpAny_setItem_heap (hsz:=hz) (tupleKind_room_in1 hu) (aAP I.hok eb) dd fun h' dd' hs=>h _ ?_;obtain⟨q,es,ep,hq,h2,h3,h4,_,h5⟩:=dd';refine a9U I (by rw[e]; exact True.intro) hs ⟨q,hq⟩ ⟨hl,hd,_,(rel.put k eb rv).keeps fun c ys ec=>?_,q,es,ep,hq,h2,h3,h4,h5⟩;rw[aM (gD ec e (fun z=>nomatch z))];exact ec
end
section
variable {X:Cx}{pins:List (Addr×Obj)}{σ:St}{H:Hp}{s:Shared}{a:Addr}{kvs:List (Key×V)}{k:Key}{u:Value}{A:Around}{E:Value→Shared→Prop}
theorem aST {v:V}{more:List Value}{Q:Value→Shared→Prop}(I:Inv X pins σ H s)(e:H a=some (.dK kvs))(ry:RelV (kV k) u)(l:a84 kvs k=some v)(hm:more=[]∨∃ x,more=[x])
  (h:∀ w' s',Inv X pins σ (upd H a (.dK (yP kvs k))) s'→RelV v w'→Q w' s'):wpAny (model X.prog X.w) A (call (.builtin "dict.pop") (.ref a::u::more)) Q E s:=by
 obtain⟨z,hd,vs,rel,dd⟩:=aLN I.hok e;obtain⟨w',hw,rw'⟩:=RelO.some_of (v:=v) (o:=valueAt vs k) (by rw[← l]; exact rel.val k);have hp:(keyPart u).isSome=true:=by
  cases k with
  | inl i=>obtain⟨t,q⟩:=(show ∃ t,u=Value.int i t from ry); subst q; rfl
  | inr x=>obtain⟨t,q⟩:=(show ∃ t,u=Value.str x t from ry); subst q; rfl
 have ha:argsOk "dict.pop" ⟨.ref a::u::more,[]⟩:=by
  rcases hm with q|⟨x,q⟩
  ·subst q; exact PySem.F.args_dict_pop_2 _ _
  ·subst q; exact PySem.F.args_dict_pop_3 _ _ _
 refine call_meetsIn PySem.F.slot_dict_pop dd.typeIs PySem.F.entry_dict_pop ha (meets_dict_pop_there (eX X.prog X.w) a (aGM ry) more hm hp)
  ⟨vs,w',dd,by rw[← rel.length]; exact z,hw,fun h' dd' hs=>h w' _ ?_ rw'⟩
 have he:∃ q,h'.get? a=some q:=let ⟨q,_,_,hq,_⟩:=dd'; ⟨q,hq⟩;exact a9U I (by rw[e]; exact True.intro) hs he (aEN (Nat.le_trans (aIR kvs k) z) hd (rel.drop k) dd')
theorem aR7 {Q:Value→Shared→Prop}(I:Inv X pins σ H s)(e:Rd H a (.dK kvs))(h:∀ t s',Inv X pins σ H s'→Q (.int kvs.length t) s'):wpAny (model X.prog X.w) A (call (.builtin "len") [.ref a]) Q E s:=by
 obtain⟨z,hd,vs,rel,dd⟩:=aA5 I.hok e;refine call_len_dict hd dd (by rw[← rel.length]; rw[sizeLine_eq] at z; omega) ?_;rw[← rel.length];exact h _ _ (I.tok _)
end
noncomputable def aU2 (i:Expr):Prop:=∀ ov iv,subscripted i false ov iv=operate [ov,iv] (getItem ov iv)
theorem aLM {prog:Program}{w:World}{A:Around}{E:Value→Shared→Prop}{s:Shared}{env:Env}{value slice:Expr}{pos:Pos}{T id:String}{Q:Value→Shared→Prop}
  (hl:typeLookup (.type T) "__getitem__" = pure (some (.builtin id))) (hs:aU2 slice)
  (h:wpAny (model prog w) A (eval value env) (fun o s₁=>wpAny (model prog w) A (eval slice env) (fun i s₂=>s₂.TypeIs o T∧wpAny (model prog w) A (getItem o i) Q E s₂) E s₁) E s) :
  wpAny (model prog w) A (eval (.Subscript value slice pos) env) Q E s:=by
 refine Subscript_ (wpAny_mono h (fun o s₁ h₁=>wpAny_mono h₁ (fun i s₂ h₂=>?_) fun _ _ x=>x) fun _ _ x=>x);obtain⟨hT,h₂⟩:=h₂;unfold subscriptTail;refine wpAny_bind ?_;rw[getitemInPython_of_ne hT.not_modules];refine wpAny_bind (wpAny_specialOf hT hl ?_);have fin:wpAny (model prog w) A (subscripted slice false o i) (fun r s₃=>wpAny (model prog w) A (letTemporaryGo value o r >>= fun _=>pure r) Q E s₃) E s₂:=by
  rw[hs o i];exact wpAny_operating (wpAny_mono h₂ (fun r s₃ h₃=>wpAny_bind (wpAny_letTemporaryGo (wpAny_pure h₃))) fun _ _ x=>x)
 first
  | exact wpAny_pure (wpAny_bind fin)
  | exact wpAny_bind (wpAny_pure (wpAny_bind fin))
  | exact wpAny_bind fin
theorem a92 {X:Cx}{pins:List (Addr×Obj)}{σ:St}{H:Hp}{s:Shared}{a:Addr}{y:V}{o:Option V}(I:Inv X pins σ H s)(g:DGet H a y o):s.TypeIs (.ref a) "dict" := by
 rcases g with⟨kvs,k,e,_,_⟩|⟨kvs,k,b,e,_,_,_⟩
 ·obtain⟨_,_,vs,_,dd⟩:=aA5 I.hok e;exact dd.typeIs
 ·obtain⟨_,_,xs,_,dd⟩:=aGT I.hok e;exact dd.typeIs
noncomputable def aIU (td ty:TE):TE:=fun σ H Q=>td σ H fun x H1=>ty σ H1 fun y H2=>∃ a v,x=.ref a∧DGet H2 a y (some v)∧Q v H2
noncomputable def aUJ (ty td:TE):TE:=fun σ H Q=>ty σ H fun y H1=>td σ H1 fun x H2=>∃ a o,x=.ref a∧DGet H2 a y o∧Q (.bl o.isSome) H2
noncomputable def aKG (td ty tv:TE):TS:=fun D σ H=>tv σ H fun v H1=>td σ H1 fun x H2=>ty σ H2 fun y H3=>∃ a H4,x=.ref a∧DPut H3 a y v H4∧D.nx σ H4
section
variable {X:Cx}{o i e value:Expr}{pos pos' tpos:Pos}{td ty tv:TE}
theorem dW (hu:X.A.units+1<cLine)(ho:PE X o td)(hi:PE X i ty)(hs:aU2 i):PE X (.Subscript o i pos) (aIU td ty):=by
 intro pins s σ H Q I h;refine aLM PySem.F.slot_dict_getitem.lookup hs (thn (ho pins s σ H _ I h) fun u s1 ⟨x,H1,I1,rx,q1⟩=>thn (hi pins s1 σ H1 _ I1 q1) fun iv s2 ⟨y,H2,I2,ry,a,v,ex,g,q2⟩=>?_);subst ex;obtain rfl:u=Value.ref a:=rx;exact⟨a92 I2 g,aEO hu I2 g ry fun w' s3 I3 rw'=>⟨v,H2,I3,rw',q2⟩⟩
theorem aQN (hu:X.A.units+1<cLine)(hi:PE X i ty)(ho:PE X o td):PC X .In i o (aUJ ty td):=by
 intro pins s σ H Q I h;refine thn (hi pins s σ H _ I h) fun iv s1 ⟨y,H1,I1,ry,q1⟩=>thn (ho pins s1 σ H1 _ I1 q1) fun u s2 ⟨x,H2,I2,rx,a,ov,ex,g,q2⟩=>?_;subst ex;obtain rfl:u=Value.ref a:=rx;exact aUQ hu I2 g ry fun s3 I3=>⟨.bl ov.isSome,H2,I3,rfl,q2⟩
theorem a4Y (hu:X.A.units+1<cLine)(ho:PE X o td)(hi:PE X i ty)(hv:PE X value tv)(hs:swapsWith value (some (.Subscript o i pos')) pos.line X.env=pure false) :
  PS X (.Assign [.Subscript o i pos'] value pos) (aKG td ty tv):=by
 intro pins s σ H D I h;refine wpAny_Assign_Subscript (thn (hv pins s σ H _ I h) fun r s1 ⟨v,H1,I1,rv,q1⟩=>thn (ho pins s1 σ H1 _ I1 q1) fun u s2 ⟨x,H2,I2,rx,q2⟩=>thn (hi pins s2 σ H2 _ I2 q2) fun iv s3 ⟨y,H3,I3,ry,a,H4,ex,g,q3⟩=>?_) hs;subst ex;obtain rfl:u=Value.ref a:=rx;exact aFA hu I3 g ry rv fun s4 I4=>⟨σ,H4,I4,q3⟩
end
theorem aJ3 {P:Program}{w:World}{H:Hp}(h:Heap)(hb:sysModules<h.objs.size):ObjOk P w H (h.push { cls:=.type "dict", data:=.dict #[] }) h.objs.size (.dK []):=
 ⟨Nat.zero_le _,beq_eq_false_iff_ne.mpr (Ne.symm (Nat.ne_of_lt hb)),[],.nil,Heap.DictOf.new h⟩
noncomputable def aNW:TE:=fun _ H Q=>∀ p,H p=none→Q (.ref p) (upd H p (.dK []))
section
variable {X:Cx}{pos:Pos}
theorem aJD:PE X (.Dict [] [] pos) aNW:=fun pins s σ H Q I h=>
 wpAny_Dict_empty ⟨.ref s.heap.objs.size,_,I.laid (a:=s.heap.objs.size) (o:=.dK []) (t':=s.toks) (fun _ _ q=>Heap.get?_push_of_some _ q) (Nat.le_refl _) (aJ3 s.heap I.big),rfl,h _ (I.hok.fresh (Nat.le_refl _))⟩
end
structure M1 (X:Cx)(o:Expr)(m:Str)(apos:Pos)(e:Expr)(cpos:Pos):Prop where
 base:attributeBase o m X.env (eval o X.env)=eval o X.env
 few:((backTo cpos (starEach [e] X.env)).all (fun x => !x.1)&&(backToKw cpos (keywordEach [] X.env)).all (fun x=>x.1.isSome)
  && decide (([e]:List Expr).length+([]:List Keyword).length+(if ([]:List Keyword).isEmpty then 0 else 1)<30))=true
 line:(apos.endLine==cpos.line)=true
 trees:backTo cpos (starEach [e] X.env)=[(false,eval e X.env)]
noncomputable def IsD (H:Hp)(a:Addr):Prop:=(∃ kvs,Rd H a (.dK kvs))∨∃ kvs,Rd H a (.dT kvs)
theorem aO8 {X:Cx}{pins:List (Addr×Obj)}{σ:St}{H:Hp}{s:Shared}{a:Addr}(I:Inv X pins σ H s)(d:IsD H a) :
  s.TypeIs (.ref a) "dict" ∧ (∀ b,Value.ref a=.ref b→∃ ob,s.heap.get? b=some ob∧ob.dict=none)∧(a==sysModules)=false:=by
 rcases d with⟨kvs,e⟩|⟨kvs,e⟩
 ·obtain⟨_,hd,vs,_,dd⟩:=aA5 I.hok e;refine⟨dd.typeIs,fun b q=>?_,hd⟩
  cases q
  obtain⟨ob,_,_,h1,h2,_⟩:=dd;exact⟨ob,h1,h2.2.1⟩
 ·obtain⟨_,hd,xs,_,dd⟩:=aGT I.hok e;refine⟨dd.typeIs,fun b q=>?_,hd⟩
  cases q
  obtain⟨ob,_,_,h1,h2,_⟩:=dd;exact⟨ob,h1,h2.2.1⟩
section
variable {X:Cx}{pins:List (Addr×Obj)}{σ:St}{H:Hp}{s:Shared}{a:Addr}{y d:V}{u r:Value}{o:Option V}{A:Around}{E:Value→Shared→Prop}
end
noncomputable def aG7 (td ty:TE):TE:=fun σ H Q=>td σ H fun x H1=>∃ a,x=.ref a∧IsD H1 a∧ty σ H1 fun y H2=>∃ kvs k v,H2 a=some (.dK kvs)∧y=kV k∧a84 kvs k=some v∧Q v (upd H2 a (.dK (yP kvs k)))
section
variable {X:Cx}{o e f:Expr}{apos cpos:Pos}{td ty tx:TE}
theorem aC9 (ho:PE X o td)(he:PE X e ty)(m:M1 X o "pop" apos e cpos):PE X (.Call (.Attribute o "pop" apos) [e] [] cpos) (aG7 td ty):=by
 intro pins s σ H Q I h;refine wpAny_Call_method m.base m.few m.line PySem.F.plainAttrs_dict PySem.F.slot_dict_pop PySem.F.type_dict_pop (thn (ho pins s σ H _ I h) fun u s1 ⟨x,H1,I1,rx,a,ex,d,q1⟩=>?_);subst ex;obtain rfl:u=Value.ref a:=rx;obtain⟨t1,t2,_⟩:=aO8 I1 d;refine⟨t1,t2,?_⟩;rw[m.trees];refine Calls.callWith_builtin rfl (Calls.evalArgs_plain (Calls.spliced_cons (thn (he pins s1 σ H1 _ I1 q1) fun iv s2 ⟨y,H2,I2,ry,kvs,k,v,ea,ey,l,q2⟩=>Calls.spliced_nil ?_)));subst ey;exact aST I2 ea ry l (.inl rfl) fun w' s3 I3 rw'=>⟨v,_,I3,rw',q2⟩
end
section
variable {X:Cx}{pins:List (Addr×Obj)}{σ:St}{H:Hp}{s:Shared}{a:Addr}{kvs:List (Key×V)}{A:Around}{E:Value→Shared→Prop}
theorem aHR {Q:Value→Shared→Prop}(I:Inv X pins σ H s)(e:Rd H a (.dK kvs))(h:∀ p s',H p=none→Inv X pins σ (upd H p (.dK kvs)) s'→Q (.ref p) s'):wpAny (model X.prog X.w) A (call (.type "dict") [.ref a]) Q E s:=by
 obtain⟨z,hd,vs,rel,dd⟩:=aA5 I.hok e;refine kt_call_dict hd dd (by rw[← rel.length]; exact z) fun h' dd' hs=>?_;refine h _ _ (I.hok.fresh (Nat.le_refl _)) (I.laid (a:=s.heap.objs.size) (o:=.dK kvs) (t':=s.toks) (fun b q hq=>?_) (Nat.le_refl _) (aEN z (beq_eq_false_iff_ne.mpr (Ne.symm (Nat.ne_of_lt I.big))) rel dd'));exact(hs.2 b (Nat.ne_of_lt (Heap.lt_size hq))).trans (Heap.get?_push_of_some _ hq)
end
section
variable {X:Cx}{pins:List (Addr×Obj)}{σ:St}{H:Hp}{s:Shared}{a:Addr}{y:V}{u:Value}{A:Around}{E:Value→Shared→Prop}
end
end L2
namespace L2
open PySem PySem.Spec PyProof.Rows
section
variable {κ:Type}[DecidableEq κ]
theorem aFE {p:κ×V}{r:List (κ×V)}{k:κ}(e:p.1=k):yP (p::r) k=yP r k:=by
 unfold yP;rw[List.filter_cons,if_neg (by simp[e])]
theorem aGB {p:κ×V}{r:List (κ×V)}{k:κ}(e:¬p.1=k):yP (p::r) k=p::yP r k:=by
 unfold yP;rw[List.filter_cons,if_pos (by simp[e])]
end
end L2
abbrev Fg:=PySem.W.Frag
abbrev Mg:=PySem.Str→Option PySem.Value
namespace L2.VS
open PySem PySem.Spec PyProof.Rows
section
abbrev D:=PyData
structure Pb where
 P:V→Hp→Prop
 mono:∀{v G G'},Same G G'→P v G→P v G'
structure Bx where
 P:V→List Addr→Hp→Hp→Prop
 mono:∀{v fp G G' H},Same G G'→P v fp G H→P v fp G' H
 loc:∀{v fp G H H'},(∀ b∈fp,H' b=H b)→P v fp G H→P v fp G H'
 dom:∀{v fp G H},P v fp G H→∀ b∈fp,∃ o,H b=some o
 uniq:∀{v fp fp' G H},P v fp G H→P v fp' G H→fp=fp'
 nt:∀{v fp G H},P v fp G H→∀ b∈fp,∀ xs,H b=some (.tup xs)→∃ q∈fp,V.ref q∈xs∧∃ vs,H q=some (.lst vs)
 view:Option D
 vok:∀{v fp G H G' d},P v fp G H→view=some d→Same G G'→(∀ b∈fp,G' b=H b)→Dt G' v d
 pv:Option Pb:=none
 pok:∀{v fp G H G' B},P v fp G H→pv=some B→Same G G'→(∀ b∈fp,G' b=H b)→B.P v G':=by intro _ _ _ _ _ _ _ z; cases z
inductive Sl where
 | no|val (d:D)|own (ds:List D)|pen|con (p:Addr)|box (B:Bx)|pub (B:Pb)
abbrev En:=List Sl
inductive Rv where
 | val (d:D)|own (ds:List D)|box (B:Bx)
def Rv.d:Rv→D
 | .val d=>d
 | .own ds=>.list ds
 | .box B=>B.view.getD .none
def Rv.sl:Rv→Sl
 | .val d=>.val d
 | .own ds=>.own ds
 | .box B=>.box B
inductive Fl where
 | nx (Γ:En)|rt (r:Rv)|bk (Γ:En)|ct (Γ:En)
variable {P0:Addr→Hp→Prop}
structure Fra (P0:Addr→Hp→Prop) where
 H0:Hp
 G0:Hp
 pen:Option Addr
 stab:∀ p,pen=some p→∀ H H',(∀ b o,H0 b=some o→H' b=H b)→P0 p H→P0 p H'
 pin:∀ p,pen=some p→∀ H,P0 p H→∃ o,H p=some o
 pin0:∀ p,pen=some p→∃ o,H0 p=some o
 pg:∀ p,pen=some p→G0 p=none
def Fra.PI (F:Fra P0)(H:Hp):Prop:=∀ p,F.pen=some p→P0 p H
theorem Fra.stab' (F:Fra P0):∀ H H',(∀ b o,F.H0 b=some o→H' b=H b)→F.PI H→F.PI H':=fun H H' h pi p e=>F.stab p e H H' h (pi p e)
structure Rf (F:Fra P0)(G H:Hp):Prop where
 sub:Same G H
 g0:∀ b o,F.H0 b=some o→G b=F.G0 b
 h0:∀ b o,F.H0 b=some o→F.pen≠some b→H b=some o
 pn:F.PI H
def SlF (F:Fra P0)(G H:Hp)(x:Option (Option V))(fp:List Addr):Sl→Prop
 | .no=>fp=[]
 | .val d=>fp=[]∧∃ v,x=some (some v)∧Dt G v d
 | .own ds=>∃ p vs,fp=[p]∧x=some (some (.ref p))∧F.H0 p=none∧G p=none∧H p=some (.lst vs)∧Dts G vs ds
 | .pen=>fp=[]∧∃ p,x=some (some (.ref p))∧F.pen=some p
 | .con p=>fp=[]∧x=some (some (.ref p))
 | .pub B=>fp=[]∧∃ v,x=some (some v)∧B.P v G
 | .box B=>∃ v,x=some (some v)∧B.P v fp G H∧∀ b∈fp,F.H0 b=none∧G b=none
def aT5 (F:Fra P0)(G H:Hp)(x:Option (Option V)):Sl→Prop
 | .no=>True
 | .val d=>∃ v,x=some (some v)∧Dt G v d
 | .own ds=>∃ p vs,x=some (some (.ref p))∧F.H0 p=none∧G p=none∧H p=some (.lst vs)∧Dts G vs ds
 | .pen=>∃ p,x=some (some (.ref p))∧F.pen=some p
 | .con p=>x=some (some (.ref p))
 | .pub B=>∃ v,x=some (some v)∧B.P v G
 | .box B=>∃ v fp,x=some (some v)∧B.P v fp G H∧∀ b∈fp,F.H0 b=none∧G b=none
theorem SlF.ok {F:Fra P0}{G H:Hp}{x:Option (Option V)}{fp:List Addr}:∀{s:Sl},SlF F G H x fp s→aT5 F G H x s
 | .no,_=>trivial
 | .val _,h=>h.2
 | .own _,h=>let ⟨p,vs,_,r⟩:=h; ⟨p,vs,r⟩
 | .pen,h=>h.2
 | .con _,h=>h.2
 | .pub _,h=>h.2
 | .box _,h=>let ⟨v,r⟩:=h; ⟨v,fp,r⟩
theorem SlF.mine {F:Fra P0}{G H:Hp}{x:Option (Option V)}{fp:List Addr}{b:Addr}(hb:b∈fp):∀{s:Sl},SlF F G H x fp s→F.H0 b=none∧G b=none∧∃ o,H b=some o
 | .no,h=>by rw[show fp=[] from h] at hb; cases hb
 | .val _,h=>by rw[h.1] at hb; cases hb
 | .own _,h=>by
  obtain⟨p,vs,e,_,h1,h2,h3,_⟩:=h;rw[e] at hb;rw[List.mem_singleton.mp hb];exact⟨h1,h2,_,h3⟩
 | .pen,h=>by rw[h.1] at hb; cases hb
 | .con _,h=>by rw[h.1] at hb; cases hb
 | .pub _,h=>by rw[h.1] at hb; cases hb
 | .box B,h=>by
  obtain⟨v,_,h2,h3⟩:=h;exact⟨(h3 b hb).1,(h3 b hb).2,B.dom h2 b hb⟩
theorem SlF.go {F:Fra P0}{G H G' H':Hp}{x:Option (Option V)}{fp:List Addr}(g:Same G G')(k:∀ b∈fp,G' b=none∧H' b=H b):∀{s:Sl},SlF F G H x fp s→SlF F G' H' x fp s
 | .no,h=>h
 | .val _,h=>let ⟨e,v,e1,d1⟩:=h; ⟨e,v,e1,Dt.same g _ _ d1⟩
 | .own _,h=>by
  obtain⟨p,vs,e,e1,e2,e3,e4,e5⟩:=h;have:=k p (by rw[e]; exact List.mem_singleton.mpr rfl);exact⟨p,vs,e,e1,e2,this.1,this.2.trans e4,Dts.same g _ _ e5⟩
 | .pen,h=>h
 | .con _,h=>h
 | .pub B,h=>let ⟨e,v,e1,d1⟩:=h; ⟨e,v,e1,B.mono g d1⟩
 | .box B,h=>by
  obtain⟨v,h1,h2,h3⟩:=h;exact⟨v,h1,B.loc (fun b hb=>(k b hb).2) (B.mono g h2),fun b hb=>⟨(h3 b hb).1,(k b hb).1⟩⟩
structure R (F:Fra P0)(Γ:En)(σ:St)(G H:Hp):Prop where
 fr:Rf F G H
 len:Γ.length=σ.length
 fps:∃ fps:Nat→List Addr,(∀(i:Nat) s,Γ[i]?=some s→SlF F G H σ[i]? (fps i) s)∧∀(i j:Nat) (s t:Sl),Γ[i]?=some s→Γ[j]?=some t→i≠j→∀ b∈fps i,b∉fps j
theorem R.sl {F:Fra P0}{Γ:En}{σ:St}{G H:Hp}(r:R F Γ σ G H)(i:Nat)(s:Sl)(e:Γ[i]?=some s):aT5 F G H σ[i]? s:=
 let ⟨_,h,_⟩:=r.fps; (h i s e).ok
theorem R.of {F:Fra P0}{Γ:En}{σ:St}{G H:Hp}(fr:Rf F G H)(len:Γ.length=σ.length)(sl:∀(i:Nat) s,Γ[i]?=some s→aT5 F G H σ[i]? s)(nb:∀(i:Nat) B,Γ[i]?≠some (.box B))
  (ap:∀(i j:Nat) x y,i≠j→Γ[i]?=some (.own x)→Γ[j]?=some (.own y)→σ[i]?≠σ[j]?):R F Γ σ G H:=by
 refine⟨fr,len,fun i=>match Γ[i]?,σ[i]? with|some (.own _),some (some (.ref p))=>[p]|_,_=>[],fun i s e=>?_,fun i j s t ei ej hij b hb hc=>?_⟩
 ·have h:=sl i s e
  cases s with
  | no=>simp only[e]; rfl
  | val d=>simp only[e]; exact⟨rfl,h⟩
  | own ds=>
   obtain⟨p,vs,e1,r⟩:=h;simp only[e,e1];exact⟨p,vs,rfl,rfl,r⟩
  | pen=>simp only[e]; exact⟨rfl,h⟩
  | con q=>simp only[e]; exact⟨rfl,h⟩
  | pub B=>simp only[e]; exact⟨rfl,h⟩
  | box B=>exact absurd e (nb i B)
 ·simp only[ei] at hb;simp only[ej] at hc
  cases s with
  | own x=>
   cases t with
   | own y=>
    split at hb
    ·rename_i p _ e1
     split at hc
     ·rename_i q _ e2
      have e1:=List.mem_singleton.mp hb;have e2:=List.mem_singleton.mp hc;exact ap i j x y hij ei ej (by simp_all)
     ·cases hc
    ·cases hb
   | _=>simp at hc
  | _=>simp at hb
section
variable {F:Fra P0}{Γ:En}{σ:St}{G H G' H':Hp}{p:Addr}{o:HO}
theorem Rf.dom (h:Rf F G H){b:Addr}(e:F.H0 b=some o):∃ o',H b=some o':=by
 by_cases hb:F.pen=some b
 ·exact F.pin b hb H (h.pn b hb)
 ·exact⟨o,h.h0 b o e hb⟩
theorem Rf.fresh (h:Rf F G H)(hp:H p=none):F.H0 p=none:=by
 cases e:F.H0 p with
 | none=>rfl
 | some o=>
  obtain⟨o',e'⟩:=h.dom e;rw[hp] at e'; cases e'
theorem Rf.gfresh (h:Rf F G H)(hp:H p=none):G p=none:=h.sub.free hp
theorem Rf.pub (h:Rf F G H)(hp:H p=none):Rf F (upd G p o) (upd H p o):=by
 have hf:=h.fresh hp;have hn:∀ b u,F.H0 b=some u→b≠p:=fun b u e z=>by rw[z,hf] at e; cases e
 refine⟨fun b u e=>?_,fun b u e=>?_,fun b u e hb=>?_,F.stab' H _ (fun b u e=>aM (hn b u e)) h.pn⟩
 ·by_cases hb:b=p
  ·subst hb; rw[aV] at e; cases e; exact aV
  ·rw[aM hb] at e ⊢; exact h.sub b u e
 ·rw[aM (hn b u e)]; exact h.g0 b u e
 ·rw[aM (hn b u e)]; exact h.h0 b u e hb
theorem Rf.priv (h:Rf F G H)(hp:F.H0 p=none)(hg:G p=none):Rf F G (upd H p o):=by
 have hn:∀ b u,F.H0 b=some u→b≠p:=fun b u e z=>by rw[z,hp] at e; cases e
 refine⟨fun b u e=>?_,h.g0,fun b u e hb=>?_,F.stab' H _ (fun b u e=>aM (hn b u e)) h.pn⟩
 ·rw[aM (b7 e hg)]; exact h.sub b u e
 ·rw[aM (hn b u e)]; exact h.h0 b u e hb
theorem Rf.give (h:Rf F G H)(hp:F.H0 p=none)(hH:H p=some o):Rf F (upd G p o) H:=by
 have hn:∀ b u,F.H0 b=some u→b≠p:=fun b u e z=>by rw[z,hp] at e; cases e
 refine⟨fun b u e=>?_,fun b u e=>?_,h.h0,h.pn⟩
 ·by_cases hb:b=p
  ·subst hb; rw[aV] at e; cases e; exact hH
  ·rw[aM hb] at e; exact h.sub b u e
 ·rw[aM (hn b u e)]; exact h.g0 b u e
def R.Has (_:R F Γ σ G H)(b:Addr):Prop:=∃(i:Nat) (s:Sl) (fp:List Addr),Γ[i]?=some s∧SlF F G H σ[i]? fp s∧b∈fp
theorem R.keep (r:R F Γ σ G H)(f:Rf F G' H')(g:Same G G')
  (k:∀ b o,r.Has b→F.H0 b=none→G b=none→H b=some o→G' b=none∧H' b=some o):R F Γ σ G' H':=by
 obtain⟨fps,h1,h2⟩:=r.fps;refine⟨f,r.len,fps,fun i s e=>(h1 i s e).go g fun b hb=>?_,h2⟩;obtain⟨m1,m2,o,m3⟩:=(h1 i s e).mine hb;obtain⟨k1,k2⟩:=k b o ⟨i,s,fps i,e,h1 i s e,hb⟩ m1 m2 m3;exact⟨k1,k2.trans m3.symm⟩
theorem R.new (r:R F Γ σ G H)(hp:H p=none):R F Γ σ (upd G p o) (upd H p o):=by
 refine r.keep (r.fr.pub hp) (jO (r.fr.gfresh hp) o) fun q u _ _ g h=>?_;have hq:q≠p:=b7 h hp;rw[aM hq,aM hq];exact⟨g,h⟩
theorem R.newP (r:R F Γ σ G H)(hp:H p=none):R F Γ σ G (upd H p o):=by
 refine r.keep (r.fr.priv (r.fr.fresh hp) (r.fr.gfresh hp)) (Same.refl _) fun q u _ _ g h=>?_;have hq:q≠p:=b7 h hp;rw[aM hq];exact⟨g,h⟩
def RvO (F:Fra P0)(G H:Hp)(r:V):Rv→Prop
 | .val d=>Dt G r d
 | .own ds=>∃ p vs,r=.ref p∧F.H0 p=none∧G p=none∧H p=some (.lst vs)∧Dts G vs ds
 | .box B=>∃ fp,B.P r fp G H∧∀ b∈fp,F.H0 b=none∧G b=none
def Apart (F:Fra P0)(Γ:En)(σ:St)(G H:Hp)(r:V):Rv→Prop
 | .val _=>True
 | .own _=>∀(i:Nat) s fp,Γ[i]?=some s→SlF F G H σ[i]? fp s→∀ p,r=.ref p→p∉fp
 | .box B=>∀(i:Nat) s fp f,Γ[i]?=some s→SlF F G H σ[i]? fp s→B.P r f G H→∀ b∈f,b∉fp
theorem R.give (r:R F Γ σ G H){v:V}{ds:List D}(h:RvO F G H v (.own ds))(ha:Apart F Γ σ G H v (.own ds)):∃ G',Same G G'∧R F Γ σ G' H∧Dt G' v (.list ds):=by
 obtain⟨p,vs,rfl,e1,e2,e3,e4⟩:=h;have g:=jO e2 (.lst vs);refine⟨upd G p (.lst vs),g,r.keep (r.fr.give e1 e3) g fun q u hq _ eg eh=>⟨?_,eh⟩,.lst aV (Dts.same g _ _ e4)⟩;have hqp:q≠p:=fun z=>by
  obtain⟨i,s,fp,a1,a2,a3⟩:=hq;rw[z] at a3;exact ha i s fp a1 a2 p rfl a3
 rw[aM hqp];exact eg
theorem R.giveB (r:R F Γ σ G H){v:V}{B:Bx}{d:D}(h:RvO F G H v (.box B))(ha:Apart F Γ σ G H v (.box B))(hv:B.view=some d):∃ G',Same G G'∧R F Γ σ G' H∧Dt G' v d:=by
 obtain⟨fp,e1,e2⟩:=h;have g:Same G (fun b=>if b∈fp then H b else G b):=fun b o e=>by
  show(if b∈fp then H b else G b)=some o
  rw[if_neg (fun z=>by rw[(e2 b z).2] at e; cases e)];exact e
 refine⟨fun b=>if b∈fp then H b else G b,g,r.keep ⟨fun b o e=>?_,fun b o e=>?_,r.fr.h0,r.fr.pn⟩ g fun q u hq _ eg eh=>⟨?_,eh⟩,B.vok e1 hv g fun b hb=>if_pos hb⟩
 ·have e:(if b∈fp then H b else G b)=some o:=e
  split at e
  ·exact e
  ·exact r.fr.sub b o e
 ·show(if b∈fp then H b else G b)=_
  rw[if_neg (fun z=>by rw[(e2 b z).1] at e; cases e)];exact r.fr.g0 b o e
 ·obtain⟨i,s,f,a1,a2,a3⟩:=hq
  show(if q∈fp then H q else G q)=none
  rw[if_neg fun z=>ha i s f fp a1 a2 e1 q z a3];exact eg
theorem R.set (r:R F Γ σ G H){i:Nat}{v:V}{rv:Rv}(h:RvO F G H v rv)(ha:Apart F Γ σ G H v rv):R F (Γ.set i rv.sl) (σ.set i (some v)) G H:=by
 obtain⟨fps,h1,h2⟩:=r.fps;obtain⟨fp,hf,hd⟩:∃ fp,SlF F G H (some (some v)) fp rv.sl∧∀(j:Nat) s,Γ[j]?=some s→∀ b∈fp,b∉fps j:=by
  cases rv with
  | val d=>exact⟨[],⟨rfl,v,rfl,h⟩,fun j s _ b hb=>nomatch hb⟩
  | own ds=>
   obtain⟨p,vs,rfl,q⟩:=h;exact⟨[p],⟨p,vs,rfl,rfl,q⟩,fun j s ej b hb=>by rw[List.mem_singleton.mp hb]; exact ha j s (fps j) ej (h1 j s ej) p rfl⟩
  | box B=>
   obtain⟨fp,q1,q2⟩:=h;exact⟨fp,⟨v,rfl,q1,q2⟩,fun j s ej b hb=>ha j s (fps j) fp ej (h1 j s ej) q1 b hb⟩
 have lt:∀{m:Nat} {z},(Γ.set i rv.sl)[m]?=some z→m<Γ.length:=fun e=>by
  have:=(List.getElem?_eq_some_iff.mp e).1;simpa using this
 have old:∀{m:Nat} {z},m≠i→(Γ.set i rv.sl)[m]?=some z→Γ[m]?=some z:=fun hm e=>by rw[List.getElem?_set_ne (Ne.symm hm)] at e; exact e
 refine⟨r.fr,by rw[List.length_set,List.length_set]; exact r.len,fun j=>if j=i then fp else fps j,fun j s e=>?_,fun j k s t ej ek hjk b hb hc=>?_⟩
 ·dsimp only
  by_cases hj:j=i
  ·subst hj;have hi:=lt e;rw[List.getElem?_set_self hi] at e;rw[if_pos rfl,List.getElem?_set_self (by rw[← r.len]; exact hi)]
   cases e
   exact hf
  ·rw[if_neg hj,List.getElem?_set_ne (Ne.symm hj)];exact h1 j s (old hj e)
 ·dsimp only at hb hc
  by_cases hj:j=i
  ·have hk:k≠i:=fun z=>hjk (hj.trans z.symm);rw[if_pos hj] at hb;rw[if_neg hk] at hc;exact hd k t (old hk ek) b hb hc
  ·rw[if_neg hj] at hb
   by_cases hk:k=i
   ·rw[if_pos hk] at hc;exact hd j s (old hj ej) b hc hb
   ·rw[if_neg hk] at hc;exact h2 j k s t (old hj ej) (old hk ek) hjk b hb hc
theorem R.setV (r:R F Γ σ G H){i:Nat}{v:V}{d:D}(h:Dt G v d):R F (Γ.set i (.val d)) (σ.set i (some v)) G H:=r.set (rv:=.val d) h trivial
theorem R.drop (r:R F Γ σ G H)(i:Nat):R F (Γ.set i .no) σ G H:=by
 obtain⟨fps,h1,h2⟩:=r.fps;have back:∀{m z},m≠i→(Γ.set i .no)[m]?=some z→Γ[m]?=some z:=fun{m z} hm e=>by rw[List.getElem?_set_ne (Ne.symm hm)] at e; exact e
 refine⟨r.fr,by rw[List.length_set]; exact r.len,fun j=>if j=i then[] else fps j,fun j s e=>?_,fun j k s t ej ek hjk b hb hc=>?_⟩
 ·dsimp only
  by_cases hj:j=i
  ·subst hj;have hi:j<Γ.length:=by
    have:=(List.getElem?_eq_some_iff.mp e).1;simpa using this
   rw[List.getElem?_set_self hi] at e
   cases e
   rw[if_pos rfl];rfl
  ·rw[if_neg hj];exact h1 j s (back hj e)
 ·dsimp only at hb hc
  by_cases hj:j=i
  ·rw[if_pos hj] at hb; cases hb
  ·rw[if_neg hj] at hb
   by_cases hk:k=i
   ·rw[if_pos hk] at hc; cases hc
   ·rw[if_neg hk] at hc;exact h2 j k s t (back hj ej) (back hk ek) hjk b hb hc
theorem R.writeF (r:R F Γ σ G H){i:Nat}{s0 s1:Sl}{H':Hp}(e:Γ[i]?=some s0)(fr:Rf F G H')(h:∀ fp,SlF F G H σ[i]? fp s0→∃ fp',SlF F G H' σ[i]? fp' s1∧(∀ b,b∉fp→(∃ o,H b=some o)→H' b=H b∧b∉fp')):R F (Γ.set i s1) σ G H':=by
 obtain⟨fps,h1,h2⟩:=r.fps;obtain⟨fp',w1,w2⟩:=h (fps i) (h1 i s0 e);have hi:i<Γ.length:=(List.getElem?_eq_some_iff.mp e).1;have back:∀{m z},m≠i→(Γ.set i s1)[m]?=some z→Γ[m]?=some z:=fun{m z} hm e=>by rw[List.getElem?_set_ne (Ne.symm hm)] at e; exact e
 have away:∀{j:Nat} {s:Sl},j≠i→Γ[j]?=some s→∀ b∈fps j,H' b=H b∧b∉fp':=fun hj ej b hb=>
  w2 b (fun z=>h2 _ i _ s0 ej e hj b hb z) ((h1 _ _ ej).mine hb).2.2
 refine⟨fr,by rw[List.length_set]; exact r.len,fun j=>if j=i then fp' else fps j,fun j s ej=>?_,fun j k s t ej ek hjk b hb hc=>?_⟩
 ·dsimp only
  by_cases hj:j=i
  ·subst hj;rw[List.getElem?_set_self hi] at ej
   cases ej
   rw[if_pos rfl];exact w1
  ·rw[if_neg hj];have e0:=back hj ej;exact(h1 j s e0).go (Same.refl _) fun b hb=>⟨((h1 j s e0).mine hb).2.1,(away hj e0 b hb).1⟩
 ·dsimp only at hb hc
  by_cases hj:j=i
  ·have hk:k≠i:=fun z=>hjk (hj.trans z.symm);rw[if_pos hj] at hb;rw[if_neg hk] at hc;exact(away hk (back hk ek) b hc).2 hb
  ·rw[if_neg hj] at hb
   by_cases hk:k=i
   ·rw[if_pos hk] at hc;exact(away hj (back hj ej) b hb).2 hc
   ·rw[if_neg hk] at hc;exact h2 j k s t (back hj ej) (back hk ek) hjk b hb hc
theorem R.write (r:R F Γ σ G H){i:Nat}{ds es:List D}{p:Addr}{ws:List V}(e:Γ[i]?=some (.own ds))(ep:σ[i]?=some (some (.ref p)))(hw:Dts G ws es):R F (Γ.set i (.own es)) σ G (upd H p (.lst ws)):=by
 obtain⟨p',vs,e1,e2,e3,e4,e5⟩:=r.sl i _ e;rw[ep] at e1; cases e1;refine r.writeF e (r.fr.priv e2 e3) fun fp h=>?_;obtain⟨q,us,f0,f1,f2,f3,f4,f5⟩:=h;rw[ep] at f1; cases f1;refine⟨[p],⟨p,ws,rfl,ep,e2,e3,aV,hw⟩,fun b hb _=>?_⟩;have hbp:b≠p:=fun z=>hb (by rw[f0,z]; exact List.mem_singleton.mpr rfl);exact⟨aM hbp,fun z=>hbp (List.mem_singleton.mp z)⟩
end
abbrev ME:=En→(D→En→Prop)→Prop
abbrev MO:=En→(Rv→En→Prop)→Prop
abbrev MT:=En→(Bool→En→Prop)→Prop
abbrev MA:=En→(List Sl→En→Prop)→Prop
abbrev MD:=En→(List D→En→Prop)→Prop
abbrev MG:=D→En→(En→Prop)→Prop
abbrev MGs:=List D→En→(En→Prop)→Prop
abbrev MS:=En→(Fl→Prop)→Prop
abbrev Fm:=List Sl→(Rv→Prop)→Prop
def VT (P0:Addr→Hp→Prop)(t:TE)(m:ME):Prop:=∀(F:Fra P0) (Γ:En) (σ:St) (G H:Hp) (Q:VK) (Qm:D→En→Prop),R F Γ σ G H→m Γ Qm →
 (∀ d Γ' r G' H',Qm d Γ'→Same G G'→R F Γ' σ G' H'→Dt G' r d→Q r H')→t σ H Q
def VO (P0:Addr→Hp→Prop)(t:TE)(m:MO):Prop:=∀(F:Fra P0) (Γ:En) (σ:St) (G H:Hp) (Q:VK) (Qm:Rv→En→Prop),R F Γ σ G H→m Γ Qm →
 (∀ rv Γ' r G' H',Qm rv Γ'→Same G G'→R F Γ' σ G' H'→RvO F G' H' r rv→Apart F Γ' σ G' H' r rv→Q r H')→t σ H Q
def VTT (P0:Addr→Hp→Prop)(t:TT)(m:MT):Prop:=∀(F:Fra P0) (Γ:En) (σ:St) (G H:Hp) (Q:Bool→Hp→Prop) (Qm:Bool→En→Prop),R F Γ σ G H→m Γ Qm →
 (∀ b Γ' G' H',Qm b Γ'→Same G G'→R F Γ' σ G' H'→Q b H')→t σ H Q
def VD (P0:Addr→Hp→Prop)(t:TA)(m:MD):Prop:=∀(F:Fra P0) (Γ:En) (σ:St) (G H:Hp) (Q:List V→Hp→Prop) (Qm:List D→En→Prop),R F Γ σ G H→m Γ Qm →
 (∀ ds Γ' rs G' H',Qm ds Γ'→Same G G'→R F Γ' σ G' H'→Dts G' rs ds→Q rs H')→t σ H Q
def qF (F:Fra P0)(G:Hp)(r:V):Sl→Prop
 | .val d=>Dt G r d
 | .pen=>∃ p,r=.ref p∧F.pen=some p
 | .con p=>r=.ref p
 | .pub B=>B.P r G
 | _=>False
def VA (P0:Addr→Hp→Prop)(t:TA)(m:MA):Prop:=∀(F:Fra P0) (Γ:En) (σ:St) (G H:Hp) (Q:List V→Hp→Prop) (Qm:List Sl→En→Prop),R F Γ σ G H→m Γ Qm →
 (∀ as Γ' rs G' H',Qm as Γ'→Same G G'→R F Γ' σ G' H'→Paired (qF F G') rs as→Q rs H')→t σ H Q
def VG (P0:Addr→Hp→Prop)(A:Nat→Bool)(g:TG)(m:MG):Prop:=∀(F:Fra P0) (Γ:En) (σ:St) (G H:Hp) (v:V) (d:D) (Q:St→Hp→Prop) (Qm:En→Prop),R F Γ σ G H→Dt G v d→m d Γ Qm →
 (∀ Γ' σ',Qm Γ'→R F Γ' σ' G H→(∀ i,A i=false→σ'[i]?=σ[i]?)→Q σ' H)→g v σ H Q
def VGs (P0:Addr→Hp→Prop)(A:Nat→Bool)(g:TGs)(m:MGs):Prop:=∀(F:Fra P0) (Γ:En) (σ:St) (G H:Hp) (vs:List V) (ds:List D) (Q:St→Hp→Prop) (Qm:En→Prop),R F Γ σ G H→Dts G vs ds→m ds Γ Qm →
 (∀ Γ' σ',Qm Γ'→R F Γ' σ' G H→(∀ i,A i=false→σ'[i]?=σ[i]?)→Q σ' H)→g vs σ H Q
def Post (F:Fra P0)(A:Nat→Bool)(σ0:St)(G:Hp)(E:Ends):Fl→Prop
 | .nx Γ=>∀ σ G' H',Same G G'→R F Γ σ G' H'→(∀ i,A i=false→σ[i]?=σ0[i]?)→E.nx σ H'
 | .rt rv=>∀ r G' H',Same G G'→Rf F G' H'→RvO F G' H' r rv→E.rt r H'
 | .bk Γ=>∀ σ G' H',Same G G'→R F Γ σ G' H'→(∀ i,A i=false→σ[i]?=σ0[i]?)→E.bk σ H'
 | .ct Γ=>∀ σ G' H',Same G G'→R F Γ σ G' H'→(∀ i,A i=false→σ[i]?=σ0[i]?)→E.ct σ H'
def VSA (P0:Addr→Hp→Prop)(A:Nat→Bool)(t:TS)(m:MS):Prop:=∀(F:Fra P0) (Γ:En) (σ:St) (G H:Hp) (E:Ends) (Qm:Fl→Prop),R F Γ σ G H→m Γ Qm→(∀ fl,Qm fl→Post F A σ G E fl)→t E σ H
abbrev aUU:Nat→Bool:=fun _=>true
abbrev VS (P0:Addr→Hp→Prop)(t:TS)(m:MS):Prop:=VSA P0 aUU t m
theorem Post.same {F:Fra P0}{A:Nat→Bool}{σ0 σ1:St}{G G':Hp}{E:Ends}(g:Same G G')(hσ:∀ i,A i=false→σ1[i]?=σ0[i]?):∀{fl:Fl},Post F A σ0 G E fl→Post F A σ1 G' E fl
 | .nx _,h=>fun σ G2 H2 s r e=>h σ G2 H2 (g.trans s) r fun i hi=>(e i hi).trans (hσ i hi)
 | .rt _,h=>fun r G2 H2 s=>h r G2 H2 (g.trans s)
 | .bk _,h=>fun σ G2 H2 s r e=>h σ G2 H2 (g.trans s) r fun i hi=>(e i hi).trans (hσ i hi)
 | .ct _,h=>fun σ G2 H2 s r e=>h σ G2 H2 (g.trans s) r fun i hi=>(e i hi).trans (hσ i hi)
def SsX (P0:Addr→Hp→Prop)(X:Cx)(sts:List Stmt)(m:MS):Prop:=∃ t,PSs X sts t∧VS P0 t m
end
section
variable {P0:Addr→Hp→Prop}
theorem _root_.L2.Dts.get {G:Hp}:∀{vs:List V} {ds:List D} {i:Nat} {d:D},Dts G vs ds→ds[i]?=some d→∃ v,vs[i]?=some v∧Dt G v d
 := by
  intro vs ds i d h e
  induction ds generalizing vs i with
  | nil=>cases e
  | cons x ds ih=>
    cases h with
    | cons a b=>
      cases i with
      | zero=>cases e; exact⟨_,rfl,a⟩
      | succ i=>
        have q:=ih b (show ds[i]?=some d from e);exact q
theorem _root_.L2.Dts.len {G:Hp}:∀{vs:List V} {ds:List D},Dts G vs ds→vs.length=ds.length
 := by
  intro vs ds h
  induction ds generalizing vs with
  | nil=>cases h; rfl
  | cons x ds ih=>cases h with|cons a b=>exact congrArg Nat.succ (ih b)
theorem _root_.L2.Dts.app {G:Hp}:∀{vs ws:List V} {ds es:List D},Dts G vs ds→Dts G ws es→Dts G (vs++ws) (ds++es)
 := by
  intro vs ws ds es h g
  induction ds generalizing vs with
  | nil=>cases h; exact g
  | cons x ds ih=>cases h with|cons a b=>exact .cons a (ih b)
theorem _root_.L2.Dts.drp {G:Hp}:∀{vs:List V} {ds:List D} (n:Nat),Dts G vs ds→Dts G (vs.drop n) (ds.drop n)
 | _,_,0,h=>h
 | _,_,_+1,.nil=>.nil
 | _,_,n+1,.cons _ b=>Dts.drp n b
theorem _root_.L2.Dts.tak {G:Hp}:∀{vs:List V} {ds:List D} (n:Nat),Dts G vs ds→Dts G (vs.take n) (ds.take n)
 | _,_,0,_=>.nil
 | _,_,_+1,.nil=>.nil
 | _,_,n+1,.cons a b=>.cons a (Dts.tak n b)
theorem _root_.L2.Dts.sets {G:Hp}{v:V}{d:D}(h:Dt G v d):∀{vs:List V} {ds:List D} (n:Nat),Dts G vs ds→Dts G (vs.set n v) (ds.set n d)
 | _,_,_,.nil=>.nil
 | _,_,0,.cons _ b=>.cons h b
 | _,_,n+1,.cons a b=>.cons a (Dts.sets h n b)
def oQ (o:Option D)(k:D→Prop):Prop:=match o with
 | some d=>k d
 | none=>False
theorem aE7 {o:Option D}{k:D→Prop}(h:oQ o k):∃ d,o=some d∧k d:=by
 cases o with
 | none=>exact h.elim
 | some d=>exact⟨d,rfl,h⟩
def mC (d:D):ME:=fun Γ Q=>Q d Γ
def aO (i:Nat):ME:=fun Γ Q=>match Γ[i]? with
 | some (.val d)=>Q d Γ
 | _=>False
def mI0 (g:Int→Int→D)(ma mb:ME):ME:=fun Γ Q=>ma Γ fun x Γ1=>mb Γ1 fun y Γ2=>match x,y with
 | .int i,.int j=>Q (g i j) Γ2
 | _,_=>False
def mI (C:Int→Int→Prop)(g:Int→Int→D)(ma mb:ME):ME:=fun Γ Q=>ma Γ fun x Γ1=>mb Γ1 fun y Γ2=>match x,y with
 | .int i,.int j=>C i j∧Q (g i j) Γ2
 | _,_=>False
def mU (g:Int→D)(ma:ME):ME:=fun Γ Q=>ma Γ fun x Γ1=>match x with
 | .int i=>Q (g i) Γ1
 | _=>False
def mEq (ma mb:ME):ME:=fun Γ Q=>ma Γ fun x Γ1=>mb Γ1 fun y Γ2=>Good x∧Good y∧Q (.bool (PyData.eqv x y)) Γ2
def mNe (ma mb:ME):ME:=fun Γ Q=>ma Γ fun x Γ1=>mb Γ1 fun y Γ2=>Good x∧Good y∧Q (.bool (!PyData.eqv x y)) Γ2
def isN:D→Bool
 | .none=>true
 | _=>false
def aN4 (ma:ME):ME:=fun Γ Q=>ma Γ fun x Γ1=>Q (.bool (isN x)) Γ1
def a7Z (ma:ME):ME:=fun Γ Q=>ma Γ fun x Γ1=>Q (.bool (!isN x)) Γ1
def yQ (ma mb:ME):ME:=fun Γ Q=>ma Γ fun x Γ1=>match x with
 | .bool c=>if c=true then mb Γ1 Q else Q (.bool false) Γ1
 | _=>False
def aL9 (ma:ME):ME:=fun Γ Q=>ma Γ fun x Γ1=>match x with
 | .bool c=>Q (.bool (!c)) Γ1
 | _=>False
def dF (ma:ME):MT:=fun Γ Q=>ma Γ fun x Γ1=>match x with
 | .bool c=>Q c Γ1
 | _=>False
def aG5 (ma mb:MT):MT:=fun Γ Q=>ma Γ fun c Γ1=>if c=true then mb Γ1 Q else Q false Γ1
def mOr (ma mb:MT):MT:=fun Γ Q=>ma Γ fun c Γ1=>if c=true then Q true Γ1 else mb Γ1 Q
def a5S (ma:MT):MT:=fun Γ Q=>ma Γ fun c Γ1=>Q (!c) Γ1
def aS8 (mc:MT)(ma mb:ME):ME:=fun Γ Q=>mc Γ fun c Γ1=>if c=true then ma Γ1 Q else mb Γ1 Q
def aRP (mc:MT)(ma mb:MO):MO:=fun Γ Q=>mc Γ fun c Γ1=>if c=true then ma Γ1 Q else mb Γ1 Q
def lO:MD:=fun Γ Q=>Q [] Γ
def bN (ma:ME)(mr:MD):MD:=fun Γ Q=>ma Γ fun x Γ1=>mr Γ1 fun xs Γ2=>Q (x::xs) Γ2
def cB:MA:=fun Γ Q=>Q [] Γ
def bC (ma:ME)(mr:MA):MA:=fun Γ Q=>ma Γ fun x Γ1=>mr Γ1 fun xs Γ2=>Q (.val x::xs) Γ2
def yG (md:MD):ME:=fun Γ Q=>md Γ fun ds Γ1=>ds.length≤1000∧Q (.tuple ds) Γ1
def a4L (md:MD):MO:=fun Γ Q=>md Γ fun ds Γ1=>ds.length≤1000∧Q (.own ds) Γ1
def ixD:D→D→Option D
 | .tuple ds,.int i=>atI ds i
 | .list ds,.int i=>atI ds i
 | _,_=>none
def mIx (ma mb:ME):ME:=fun Γ Q=>ma Γ fun x Γ1=>mb Γ1 fun y Γ2=>oQ (ixD x y) fun d=>Q d Γ2
def nbQ:Rv→Prop→Prop
 | .box B,p=>B.view.isSome=true∧p
 | _,p=>p
def c7 (mo:MO):ME:=fun Γ Q=>mo Γ fun rv Γ1=>nbQ rv (Q rv.d Γ1)
def cG (m:ME):MO:=fun Γ Q=>m Γ fun d Γ1=>Q (.val d) Γ1
def a9M (i:Nat):MO:=fun Γ Q=>match Γ[i]? with
 | some (.val d)=>Q (.val d) Γ
 | some (.own ds)=>Q (.own ds) (Γ.set i .no)
 | some (.box B)=>Q (.box B) (Γ.set i .no)
 | _=>False
def bM (n:Nat)(f:Fm)(ma:MA):MO:=fun Γ Q=>ma Γ fun as Γ1=>as.length=n∧f as fun rv=>Q rv Γ1
def aN2:D→Option D
 | .tuple ds=>some (.int ds.length)
 | .list ds=>some (.int ds.length)
 | _=>none
def aAO (ma:ME):ME:=fun Γ Q=>ma Γ fun x Γ1=>oQ (aN2 x) fun d=>Q d Γ1
def xT:D→Option (List D)
 | .tuple ds=>some ds
 | .list ds=>some ds
 | _=>none
def zL (ma:ME):MO:=fun Γ Q=>ma Γ fun x Γ1=>match xT x with
 | some ds=>Q (.own ds) Γ1
 | none=>False
def cutD (xs:List D)(lo hi:Option Int):List D:=(xs.drop (HT.sIx xs.length 0 lo)).take (HT.sIx xs.length xs.length hi-HT.sIx xs.length 0 lo)
abbrev MP:=En→(Option Int→En→Prop)→Prop
def pNo:MP:=fun Γ Q=>Q none Γ
def pSo (m:ME):MP:=fun Γ Q=>m Γ fun x Γ1=>match x with
 | .int i=>Q (some i) Γ1
 | _=>False
def aQS (ma:ME)(ml mh:MP):MO:=fun Γ Q=>ma Γ fun x Γ1=>ml Γ1 fun lo Γ2=>mh Γ2 fun hi Γ3=>match x with
 | .list ds=>Q (.own (cutD ds lo hi)) Γ3
 | _=>False
def aRL (ma mb:ME):MO:=fun Γ Q=>ma Γ fun x Γ1=>mb Γ1 fun y Γ2=>match x,y with
 | .list ds,.list es=>ds.length+es.length≤1000∧Q (.own (ds++es)) Γ2
 | _,_=>False
def VP (P0:Addr→Hp→Prop)(t:TO)(m:MP):Prop:=∀(F:Fra P0) (Γ:En) (σ:St) (G H:Hp) (Q:Option Int→Hp→Prop) (Qm:Option Int→En→Prop),R F Γ σ G H→m Γ Qm →
 (∀ d Γ' G' H',Qm d Γ'→Same G G'→R F Γ' σ G' H'→Q d H')→t σ H Q
section
variable {ta tb tc:TE}{ma mb:ME}{tA tB':TT}{mA mB:MT}{K:Fg}
theorem aQV {v:V}{d:D}(h:∀ G,Dt G v d):VT P0 (tC v) (mC d):=fun _ _ _ G _ _ _ r m k=>k _ _ _ _ _ m (Same.refl _) r (h G)
theorem aB {i:Nat}:VT P0 (jZ i) (aO i):=by
 intro F Γ σ G H Q Qm r m k;unfold aO at m
 split at m
 ·rename_i d e
  obtain⟨v,e1,d1⟩:=r.sl i _ e;exact⟨v,e1,k _ _ _ _ _ m (Same.refl _) r d1⟩
 ·exact m.elim
theorem aN3 {r2:R2}{m2:D→D→(D→Prop)→Prop}(ha:VT P0 ta ma)(hb:VT P0 tb mb)
  (h:∀(F:Fra P0) (Γ:En) (σ:St) (G H:Hp) (x y:V) (d e:D) (Q:VK) (Qm:D→Prop),R F Γ σ G H→Dt G x d→Dt G y e→m2 d e Qm→(∀ u r G' H',Qm u→Same G G'→R F Γ σ G' H'→Dt G' r u→Q r H')→r2 x y H Q) :
  VT P0 (tOp r2 ta tb) (fun Γ Q=>ma Γ fun x Γ1=>mb Γ1 fun y Γ2=>m2 x y fun d=>Q d Γ2):=by
 intro F Γ σ G H Q Qm r m k;refine ha F Γ σ G H _ _ r m fun d Γ1 x G1 H1 m1 s1 r1 d1=>?_;refine hb F Γ1 σ G1 H1 _ _ r1 m1 fun e Γ2 y G2 H2 m2 s2 r2 d2=>?_;exact h F Γ2 σ G2 H2 x y d e _ _ r2 (Dt.same s2 _ _ d1) d2 m2 fun u w G3 H3 q s3 r3 d3=>k _ _ _ _ _ q ((s1.trans s2).trans s3) r3 d3
theorem aCE {gv:Int→Int→V}{g:Int→Int→D}(hg:∀ G i j,Dt G (gv i j) (g i j))(ha:VT P0 ta ma)(hb:VT P0 tb mb):VT P0 (tOp (rI0 gv) ta tb) (mI0 g ma mb):=by
 refine aN3 (m2:=fun x y Q=>match x,y with|.int i,.int j=>Q (g i j)|_,_=>False) ha hb fun F Γ σ G H x y d e Q Qm r d1 d2 m k=>?_
 split at m
 ·cases d1; cases d2
  exact⟨_,_,rfl,rfl,k _ _ _ _ m (Same.refl _) r (hg _ _ _)⟩
 ·exact m.elim
theorem aQU {C:Int→Int→Prop}{gv:Int→Int→V}{g:Int→Int→D}(hg:∀ G i j,Dt G (gv i j) (g i j))(ha:VT P0 ta ma)(hb:VT P0 tb mb):VT P0 (tOp (rI C gv) ta tb) (mI C g ma mb):=by
 refine aN3 (m2:=fun x y Q=>match x,y with|.int i,.int j=>C i j∧Q (g i j)|_,_=>False) ha hb fun F Γ σ G H x y d e Q Qm r d1 d2 m k=>?_
 split at m
 ·cases d1; cases d2
  exact⟨_,_,rfl,rfl,m.1,k _ _ _ _ m.2 (Same.refl _) r (hg _ _ _)⟩
 ·exact m.elim
theorem aV0 {gv:Int→V}{g:Int→D}(hg:∀ G i,Dt G (gv i) (g i))(ha:VT P0 ta ma):VT P0 (tUn (rU gv) ta) (mU g ma):=by
 intro F Γ σ G H Q Qm r m k;refine ha F Γ σ G H _ _ r m fun d Γ1 x G1 H1 m1 s1 r1 d1=>?_
 split at m1
 ·cases d1
  exact⟨_,rfl,k _ _ _ _ _ m1 s1 r1 (hg _ _)⟩
 ·exact m1.elim
theorem jH (ha:VT P0 ta ma)(hb:VT P0 tb mb):VT P0 (tOp aTP ta tb) (mEq ma mb):=by
 refine aN3 (m2:=fun x y Q=>Good x∧Good y∧Q (.bool (PyData.eqv x y))) ha hb fun F Γ σ G H x y d e Q Qm r d1 d2 m k=>?_;exact⟨d,e,Dt.same r.fr.sub _ _ d1,Dt.same r.fr.sub _ _ d2,m.1,m.2.1,k _ _ _ _ m.2.2 (Same.refl _) r (.bl _)⟩
theorem a3Y (ha:VT P0 ta ma)(hb:VT P0 tb mb):VT P0 (tOp aU4 ta tb) (mNe ma mb):=by
 refine aN3 (m2:=fun x y Q=>Good x∧Good y∧Q (.bool (!PyData.eqv x y))) ha hb fun F Γ σ G H x y d e Q Qm r d1 d2 m k=>?_;exact⟨d,e,Dt.same r.fr.sub _ _ d1,Dt.same r.fr.sub _ _ d2,m.1,m.2.1,k _ _ _ _ m.2.2 (Same.refl _) r (.bl _)⟩
theorem aK9 {G:Hp}{x:V}{d:D}(h:Dt G x d):decide (x=V.non)=isN d:=by
 cases h<;>first|rfl|exact decide_eq_false (by intro z; cases z)
theorem aBS (ha:VT P0 ta ma):VT P0 (tOp (fun x y H Q=>y=.non∧Q (.bl (decide (x=.non))) H) ta (tC .non)) (aN4 ma):=by
 intro F Γ σ G H Q Qm r m k;refine ha F Γ σ G H _ _ r m fun d Γ1 x G1 H1 m1 s1 r1 d1=>⟨rfl,?_⟩;rw[aK9 d1];exact k _ _ _ _ _ m1 s1 r1 (.bl _)
theorem a1M (ha:VT P0 ta ma):VT P0 (tOp (fun x y H Q=>y=.non∧Q (.bl (!decide (x=.non))) H) ta (tC .non)) (a7Z ma):=by
 intro F Γ σ G H Q Qm r m k;refine ha F Γ σ G H _ _ r m fun d Γ1 x G1 H1 m1 s1 r1 d1=>⟨rfl,?_⟩;rw[aK9 d1];exact k _ _ _ _ _ m1 s1 r1 (.bl _)
theorem sE (ha:VT P0 ta ma)(hb:VT P0 tb mb):VT P0 (aOM ta tb) (yQ ma mb):=by
 intro F Γ σ G H Q Qm r m k;refine ha F Γ σ G H _ _ r m fun d Γ1 x G1 H1 m1 s1 r1 d1=>?_
 split at m1
 ·rename_i c
  cases d1
  refine⟨c,rfl,?_⟩
  cases c with
  | true=>exact a5U (hb F Γ1 σ G1 H1 _ _ r1 m1 fun e Γ2 y G2 H2 m2 s2 r2 d2=>k _ _ _ _ _ m2 (s1.trans s2) r2 d2)
  | false=>exact a2W (k _ _ _ _ _ m1 s1 r1 (.bl _))
 ·exact m1.elim
theorem aQJ (ha:VT P0 ta ma):VT P0 (aPH ta) (aL9 ma):=by
 intro F Γ σ G H Q Qm r m k;refine ha F Γ σ G H _ _ r m fun d Γ1 x G1 H1 m1 s1 r1 d1=>?_
 split at m1
 ·cases d1
  exact⟨_,rfl,k _ _ _ _ _ m1 s1 r1 (.bl _)⟩
 ·exact m1.elim
theorem bF (ha:VT P0 ta ma):VTT P0 (aQ5 ta) (dF ma):=by
 intro F Γ σ G H Q Qm r m k;refine ha F Γ σ G H _ _ r m fun d Γ1 x G1 H1 m1 s1 r1 d1=>?_
 split at m1
 ·cases d1
  exact⟨_,rfl,k _ _ _ _ m1 s1 r1⟩
 ·exact m1.elim
theorem jB (ha:VT P0 ta ma):VTT P0 (tB ta) (dF ma):=bF ha
theorem oF (ha:VTT P0 tA mA)(hb:VTT P0 tB' mB):VTT P0 (aUG tA tB') (aG5 mA mB):=by
 intro F Γ σ G H Q Qm r m k;refine ha F Γ σ G H _ _ r m fun c Γ1 G1 H1 m1 s1 r1=>?_
 cases c with
 | true=>exact a5U (hb F Γ1 σ G1 H1 _ _ r1 m1 fun e Γ2 G2 H2 m2 s2 r2=>k _ _ _ _ m2 (s1.trans s2) r2)
 | false=>exact a2W (k _ _ _ _ m1 s1 r1)
theorem lX (ha:VTT P0 tA mA)(hb:VTT P0 tB' mB):VTT P0 (tOr tA tB') (mOr mA mB):=by
 intro F Γ σ G H Q Qm r m k;refine ha F Γ σ G H _ _ r m fun c Γ1 G1 H1 m1 s1 r1=>?_
 cases c with
 | true=>exact a5U (k _ _ _ _ m1 s1 r1)
 | false=>exact a2W (hb F Γ1 σ G1 H1 _ _ r1 m1 fun e Γ2 G2 H2 m2 s2 r2=>k _ _ _ _ m2 (s1.trans s2) r2)
theorem eO (ha:VTT P0 tA mA):VTT P0 (aUE tA) (a5S mA):=by
 intro F Γ σ G H Q Qm r m k;exact ha F Γ σ G H _ _ r m fun c Γ1 G1 H1 m1 s1 r1=>k _ _ _ _ m1 s1 r1
theorem aPL (hc:VTT P0 tA mA)(ha:VT P0 ta ma)(hb:VT P0 tb mb):VT P0 (tIf tA ta tb) (aS8 mA ma mb):=by
 intro F Γ σ G H Q Qm r m k;refine hc F Γ σ G H _ _ r m fun c Γ1 G1 H1 m1 s1 r1=>?_
 cases c with
 | true=>exact a5U (ha F Γ1 σ G1 H1 _ _ r1 m1 fun e Γ2 y G2 H2 m2 s2 r2 d2=>k _ _ _ _ _ m2 (s1.trans s2) r2 d2)
 | false=>exact a2W (hb F Γ1 σ G1 H1 _ _ r1 m1 fun e Γ2 y G2 H2 m2 s2 r2 d2=>k _ _ _ _ _ m2 (s1.trans s2) r2 d2)
theorem aPS {oa ob:MO}(hc:VTT P0 tA mA)(ha:VO P0 ta oa)(hb:VO P0 tb ob):VO P0 (tIf tA ta tb) (aRP mA oa ob):=by
 intro F Γ σ G H Q Qm r m k;refine hc F Γ σ G H _ _ r m fun c Γ1 G1 H1 m1 s1 r1=>?_
 cases c with
 | true=>exact a5U (ha F Γ1 σ G1 H1 _ _ r1 m1 fun e Γ2 y G2 H2 m2 s2 r2 d2 a2=>k _ _ _ _ _ m2 (s1.trans s2) r2 d2 a2)
 | false=>exact a2W (hb F Γ1 σ G1 H1 _ _ r1 m1 fun e Γ2 y G2 H2 m2 s2 r2 d2 a2=>k _ _ _ _ _ m2 (s1.trans s2) r2 d2 a2)
theorem cA:VD P0 rB lO:=fun _ _ _ _ _ _ _ r m k=>k _ _ _ _ _ m (Same.refl _) r .nil
theorem aZ {tr:TA}{mr:MD}(ha:VT P0 ta ma)(hr:VD P0 tr mr):VD P0 (dD ta tr) (bN ma mr):=by
 intro F Γ σ G H Q Qm r m k;refine ha F Γ σ G H _ _ r m fun d Γ1 x G1 H1 m1 s1 r1 d1=>?_;exact hr F Γ1 σ G1 H1 _ _ r1 m1 fun e Γ2 y G2 H2 m2 s2 r2 d2=>k _ _ _ _ _ m2 (s1.trans s2) r2 (.cons (Dt.same s2 _ _ d1) d2)
theorem aR:VA P0 rB cB:=fun _ _ _ _ _ _ _ r m k=>k _ _ _ _ _ m (Same.refl _) r .nil
theorem aH {tr:TA}{mr:MA}(ha:VT P0 ta ma)(hr:VA P0 tr mr):VA P0 (dD ta tr) (bC ma mr):=by
 intro F Γ σ G H Q Qm r m k;refine ha F Γ σ G H _ _ r m fun d Γ1 x G1 H1 m1 s1 r1 d1=>?_;exact hr F Γ1 σ G1 H1 _ _ r1 m1 fun e Γ2 y G2 H2 m2 s2 r2 d2=>k _ _ _ _ _ m2 (s1.trans s2) r2 (.cons (Dt.same s2 _ _ d1) d2)
theorem eU {t:TA}{md:MD}(h:VD P0 t md):VT P0 (aT3 t) (yG md):=by
 intro F Γ σ G H Q Qm r m k;refine h F Γ σ G H _ _ r m fun ds Γ1 xs G1 H1 m1 s1 r1 d1=>⟨jX (by rw[d1.len]; exact m1.1),fun p hp=>?_⟩;have g:=jO (r1.fr.gfresh hp) (.tup xs);exact k _ _ _ _ _ m1.2 (s1.trans g) (r1.new hp) (.tup aV (Dts.same g _ _ d1))
theorem SlF.det {F:Fra P0}{G H:Hp}{x:Option (Option V)}{fp fp':List Addr}:∀{s:Sl},SlF F G H x fp s→SlF F G H x fp' s→fp=fp'
 | .no,h,g=>(show fp=[] from h).trans (show fp'=[] from g).symm
 | .val _,h,g=>h.1.trans g.1.symm
 | .pen,h,g=>h.1.trans g.1.symm
 | .con _,h,g=>h.1.trans g.1.symm
 | .pub _,h,g=>h.1.trans g.1.symm
 | .own _,h,g=>by
  obtain⟨p,vs,e,e1,_⟩:=h;obtain⟨q,ws,f,f1,_⟩:=g;rw[e1] at f1; cases f1;rw[e,f]
 | .box B,h,g=>by
  obtain⟨v,e1,e2,_⟩:=h;obtain⟨v',f1,f2,_⟩:=g;rw[e1] at f1; cases f1;exact B.uniq e2 f2
theorem R.before {F:Fra P0}{Γ:En}{σ:St}{G H G' H':Hp}(r:R F Γ σ G H)(g:Same G G')(k:∀ b o,F.H0 b=none→G b=none→H b=some o→G' b=none∧H' b=some o){i:Nat}{s:Sl}{fp:List Addr}(e:Γ[i]?=some s)(h:SlF F G' H' σ[i]? fp s):∀ b∈fp,∃ o,H b=some o:=by
 obtain⟨fps,h1,h2⟩:=r.fps;have h0:=h1 i s e;have h3:SlF F G' H' σ[i]? (fps i) s:=h0.go g fun b hb=>by
  obtain⟨m1,m2,o,m3⟩:=h0.mine hb;obtain⟨k1,k2⟩:=k b o m1 m2 m3;exact⟨k1,k2.trans m3.symm⟩
 rw[h.det h3];exact fun b hb=>(h0.mine hb).2.2
theorem Apart.new {F:Fra P0}{Γ:En}{σ:St}{G H G' H':Hp}(r:R F Γ σ G H){p:Addr}(hp:H p=none){ds:List D}(g:Same G G')(k:∀ b o,F.H0 b=none→G b=none→H b=some o→G' b=none∧H' b=some o):Apart F Γ σ G' H' (.ref p) (.own ds):=by
 intro i s fp e h q eq hq
 cases eq
 obtain⟨o,eo⟩:=r.before g k e h p hq;rw[hp] at eo; cases eo
theorem Apart.newB {F:Fra P0}{Γ:En}{σ:St}{G H G' H':Hp}(r:R F Γ σ G H){v:V}{B:Bx}(hp:∀ fp,B.P v fp G' H'→∀ b∈fp,H b=none)(g:Same G G')(k:∀ b o,F.H0 b=none→G b=none→H b=some o→G' b=none∧H' b=some o):Apart F Γ σ G' H' v (.box B):=by
 intro i s fp f e h hf b hb hc;obtain⟨o,eo⟩:=r.before g k e h b hc;rw[hp f hf b hb] at eo; cases eo
theorem m7 {F:Fra P0}{Γ:En}{σ:St}{G H:Hp}(r:R F Γ σ G H){p:Addr}{xs:List V}{ds:List D}(hp:H p=none)(d:Dts G xs ds) :
  R F Γ σ G (upd H p (.lst xs))∧RvO F G (upd H p (.lst xs)) (.ref p) (.own ds)∧Apart F Γ σ G (upd H p (.lst xs)) (.ref p) (.own ds):=
 ⟨r.newP hp,⟨p,xs,rfl,r.fr.fresh hp,r.fr.gfresh hp,aV,d⟩,Apart.new r hp (Same.refl _) fun b o _ g e=>⟨g,by rw[aM (b7 e hp)]; exact e⟩⟩
theorem jA {t:TA}{md:MD}(h:VD P0 t md):VO P0 (aSH t) (a4L md):=by
 intro F Γ σ G H Q Qm r m k;refine h F Γ σ G H _ _ r m fun ds Γ1 xs G1 H1 m1 s1 r1 d1=>⟨jX (by rw[d1.len]; exact m1.1),fun p hp=>?_⟩;obtain⟨a,b,c⟩:=m7 r1 hp d1;exact k _ _ _ _ _ m1.2 s1 a b c
theorem aP {mo:MO}(h:VO P0 ta mo):VT P0 ta (c7 mo):=by
 intro F Γ σ G H Q Qm r m k;refine h F Γ σ G H _ _ r m fun rv Γ1 x G1 H1 m1 s1 r1 d1 a1=>?_
 cases rv with
 | val d=>exact k _ _ _ _ _ m1 s1 r1 d1
 | own ds=>
  obtain⟨G2,s2,r2,d2⟩:=r1.give d1 a1;exact k _ _ _ _ _ m1 (s1.trans s2) r2 d2
 | box B=>
  obtain⟨hv,m1⟩:=m1;obtain⟨d,hd⟩:=Option.isSome_iff_exists.mp hv;obtain⟨G2,s2,r2,d2⟩:=r1.giveB d1 a1 hd;have m1:Qm (B.view.getD .none) Γ1:=m1;rw[hd] at m1;exact k _ _ _ _ _ m1 (s1.trans s2) r2 d2
theorem aW (h:VT P0 ta ma):VO P0 ta (cG ma):=by
 intro F Γ σ G H Q Qm r m k;exact h F Γ σ G H _ _ r m fun d Γ1 x G1 H1 m1 s1 r1 d1=>k _ _ _ _ _ m1 s1 r1 d1 trivial
theorem R.apart {F:Fra P0}{Γ:En}{σ:St}{G H:Hp}(r:R F Γ σ G H){i j:Nat}{s t:Sl}{fp fq:List Addr}(hij:i≠j)(ei:Γ[i]?=some s)(ej:Γ[j]?=some t)(hi:SlF F G H σ[i]? fp s)(hj:SlF F G H σ[j]? fq t):∀ b∈fp,b∉fq:=by
 obtain⟨fps,h1,h2⟩:=r.fps;rw[hi.det (h1 i s ei),hj.det (h1 j t ej)];exact h2 i j s t ei ej hij
theorem a98 {i:Nat}:VO P0 (jZ i) (a9M i):=by
 intro F Γ σ G H Q Qm r m k;have other:∀{j:Nat} {s s0:Sl} {fp fq:List Addr},Γ[i]?=some s0→SlF F G H σ[i]? fp s0→(Γ.set i .no)[j]?=some s→SlF F G H σ[j]? fq s→∀ b∈fp,b∉fq:=by
  intro j s s0 fp fq e h ej hj b hb hc
  by_cases hij:i=j
  ·subst hij;have hi:i<Γ.length:=(List.getElem?_eq_some_iff.mp e).1;rw[List.getElem?_set_self hi] at ej
   cases ej
   rw[show fq=[] from hj] at hc; cases hc
  ·rw[List.getElem?_set_ne hij] at ej;exact r.apart hij e ej h hj b hb hc
 unfold a9M at m
 split at m
 ·rename_i d e
  obtain⟨v,e1,d1⟩:=r.sl i _ e;exact⟨v,e1,k _ _ _ _ _ m (Same.refl _) r d1 trivial⟩
 ·rename_i ds e
  obtain⟨p,vs,e1,e2⟩:=r.sl i _ e;refine⟨_,e1,k _ _ _ _ _ m (Same.refl _) (r.drop i) ⟨p,vs,rfl,e2⟩ fun j s fp ej hj q eq hq=>?_⟩
  cases eq
  exact other e (fp:=[p]) ⟨p,vs,rfl,e1,e2⟩ ej hj p (List.mem_singleton.mpr rfl) hq
 ·rename_i B e
  obtain⟨v,fp,e1,e2,e3⟩:=r.sl i _ e;refine⟨_,e1,k _ _ _ _ _ m (Same.refl _) (r.drop i) ⟨fp,e2,e3⟩ fun j s fq f ej hj hf b hb=>?_⟩;rw[B.uniq hf e2] at hb;exact other e (fp:=fp) ⟨v,e1,e2,e3⟩ ej hj b hb
 ·exact m.elim
theorem aY (ha:VT P0 ta ma)(hb:VT P0 tb mb):VT P0 (tOp (rIx K) ta tb) (mIx ma mb):=by
 refine aN3 (m2:=fun x y Q=>oQ (ixD x y) Q) ha hb fun F Γ σ G H x y d e Q Qm r d1 d2 m k=>?_;obtain⟨u,hu,q⟩:=aE7 m;unfold ixD at hu
 split at hu
 ·rename_i ds i
  cases d2
  cases d1 with
  | @tup p xs _ hp rs=>
   obtain⟨j,h1,h2⟩:∃ j,ixN ds.length i=some j∧ds[j]?=some u:=by
    unfold atI at hu
    cases e:ixN ds.length i with
    | none=>rw[e] at hu; cases hu
    | some j=>rw[e] at hu; exact⟨j,rfl,hu⟩
   obtain⟨v,hv,dv⟩:=Dts.get rs h2;refine .inr (.inl ⟨p,xs,i,v,rfl,rfl,SqT.of (r.fr.sub _ _ hp),?_,k _ _ _ _ q (Same.refl _) r dv⟩);unfold atI;rw[rs.len,h1];exact hv
 ·rename_i ds i
  cases d2
  cases d1 with
  | @lst p xs _ hp rs=>
   obtain⟨j,h1,h2⟩:∃ j,ixN ds.length i=some j∧ds[j]?=some u:=by
    unfold atI at hu
    cases e:ixN ds.length i with
    | none=>rw[e] at hu; cases hu
    | some j=>rw[e] at hu; exact⟨j,rfl,hu⟩
   obtain⟨v,hv,dv⟩:=Dts.get rs h2;refine .inl ⟨p,xs,i,v,rfl,rfl,SqL.of (r.fr.sub _ _ hp),?_,k _ _ _ _ q (Same.refl _) r dv⟩;unfold atI;rw[rs.len,h1];exact hv
 ·cases hu
theorem aEQ {rr:List V→Hp→VK→Prop}{m1:D→(D→Prop)→Prop}(ha:VT P0 ta ma)
  (h:∀(F:Fra P0) (Γ:En) (σ:St) (G H:Hp) (x:V) (d:D) (Q:VK) (Qm:D→Prop),R F Γ σ G H→Dt G x d→m1 d Qm→(∀ u r G' H',Qm u→Same G G'→R F Γ σ G' H'→Dt G' r u→Q r H')→rr [x] H Q) :
  VT P0 (tCB rr (dD ta rB)) (fun Γ Q=>ma Γ fun x Γ1=>m1 x fun d=>Q d Γ1):=by
 intro F Γ σ G H Q Qm r m k;refine ha F Γ σ G H _ _ r m fun d Γ1 x G1 H1 m1 s1 r1 d1=>?_;exact h F Γ1 σ G1 H1 x d _ _ r1 d1 m1 fun u w G3 H3 q s3 r3 d3=>k _ _ _ _ _ q (s1.trans s3) r3 d3
theorem p7 (ha:VT P0 ta ma):VT P0 (tCB (fun xs H Q=>∃ p ys,xs=[.ref p]∧(SqL K H p ys∨SqT K H p ys)∧Q (.int ys.length) H) (dD ta rB)) (aAO ma):=by
 refine aEQ (m1:=fun x Q=>oQ (aN2 x) Q) ha fun F Γ σ G H x d Q Qm r d1 m k=>?_;obtain⟨u,hu,q⟩:=aE7 m;unfold aN2 at hu
 split at hu
 ·cases hu
  cases d1 with
  | @tup p xs _ hp rs=>exact⟨p,xs,rfl,.inr (SqT.of (r.fr.sub _ _ hp)),by rw[rs.len]; exact k _ _ _ _ q (Same.refl _) r (.int _)⟩
 ·cases hu
  cases d1 with
  | @lst p xs _ hp rs=>exact⟨p,xs,rfl,.inl (SqL.of (r.fr.sub _ _ hp)),by rw[rs.len]; exact k _ _ _ _ q (Same.refl _) r (.int _)⟩
 ·cases hu
def aKD (ma:ME):ME:=fun Γ Q=>ma Γ fun x Γ1=>match x with
 | .int i=>Q (.int (if i<0 then -i else i)) Γ1
 | _=>False
theorem a2I (ha:VT P0 ta ma):VT P0 (tCB (fun xs H Q=>∃ i,xs=[.int i]∧Q (.int (if i<0 then -i else i)) H) (dD ta rB)) (aKD ma):=by
 refine aEQ (m1:=fun x Q=>match x with|.int i=>Q (.int (if i<0 then -i else i))|_=>False) ha fun F Γ σ G H x d Q Qm r d1 m k=>?_
 split at m
 ·cases d1
  exact⟨_,rfl,k _ _ _ _ m (Same.refl _) r (.int _)⟩
 ·exact m.elim
def aJJ (ma:ME):ME:=fun Γ Q=>ma Γ fun x Γ1=>match x with
 | .int i=>Q (.int i) Γ1
 | .bool b=>Q (.int (if b then 1 else 0)) Γ1
 | _=>False
theorem aEB (ha:VT P0 ta ma):VT P0 (tCB (fun xs H Q=>(∃ i,xs=[.int i]∧Q (.int i) H)∨∃ k,xs=[.bl k]∧Q (.int (if k then 1 else 0)) H) (dD ta rB)) (aJJ ma):=by
 refine aEQ (m1:=fun x Q=>match x with|.int i=>Q (.int i)|.bool b=>Q (.int (if b then 1 else 0))|_=>False) ha fun F Γ σ G H x d Q Qm r d1 m k=>?_
 split at m
 ·cases d1
  exact .inl ⟨_,rfl,k _ _ _ _ m (Same.refl _) r (.int _)⟩
 ·cases d1
  exact .inr ⟨_,rfl,k _ _ _ _ m (Same.refl _) r (.int _)⟩
 ·exact m.elim
theorem zM (ha:VT P0 ta ma):VO P0 (tCB (fun xs H Q=>∃ p ys,xs=[.ref p]∧(SqL K H p ys∨SqT K H p ys)∧∀ l,H l=none→Q (.ref l) (upd H l (.lst ys))) (dD ta rB)) (zL ma):=by
 intro F Γ σ G H Q Qm r m k;refine ha F Γ σ G H _ _ r m fun d Γ1 x G1 H1 m1 s1 r1 d1=>?_
 split at m1
 ·rename_i ds e
  cases d1<;>simp only[xT] at e<;>try (cases e)
  ·rename_i p xs hp rs
   refine⟨p,xs,rfl,.inr (SqT.of (r1.fr.sub _ _ hp)),fun l hl=>?_⟩;obtain⟨a,b,c⟩:=m7 r1 hl rs;exact k _ _ _ _ _ m1 s1 a b c
  ·rename_i p xs hp rs
   refine⟨p,xs,rfl,.inl (SqL.of (r1.fr.sub _ _ hp)),fun l hl=>?_⟩;obtain⟨a,b,c⟩:=m7 r1 hl rs;exact k _ _ _ _ _ m1 s1 a b c
 ·exact m1.elim
theorem aMH:VP P0 aGV pNo:=fun _ _ _ _ _ _ _ r m k=>k _ _ _ _ m (Same.refl _) r
theorem aMB (ha:VT P0 ta ma):VP P0 (aOG ta) (pSo ma):=by
 intro F Γ σ G H Q Qm r m k;refine ha F Γ σ G H _ _ r m fun d Γ1 x G1 H1 m1 s1 r1 d1=>?_
 split at m1
 ·cases d1
  exact⟨_,rfl,k _ _ _ _ m1 s1 r1⟩
 ·exact m1.elim
theorem _root_.L2.Dts.cut {G:Hp}{vs:List V}{ds:List D}(h:Dts G vs ds)(lo hi:Option Int):Dts G (aI8 vs lo hi) (cutD ds lo hi):=by
 unfold aI8 cutD;rw[h.len];exact Dts.tak _ (Dts.drp _ h)
theorem aK0 {tl th:TO}{ml mh:MP}(ha:VT P0 ta ma)(hl:VP P0 tl ml)(hh:VP P0 th mh):VO P0 (tSl (aU3 K) ta tl th) (aQS ma ml mh):=by
 intro F Γ σ G H Q Qm r m k;refine ha F Γ σ G H _ _ r m fun d Γ1 x G1 H1 m1 s1 r1 d1=>?_;refine hl F Γ1 σ G1 H1 _ _ r1 m1 fun lo Γ2 G2 H2 m2 s2 r2=>?_;refine hh F Γ2 σ G2 H2 _ _ r2 m2 fun hi Γ3 G3 H3 m3 s3 r3=>?_
 split at m3
 ·have d1:=Dt.same (s2.trans s3) _ _ d1
  cases d1 with
  | @lst p xs _ hp rs=>
   refine⟨p,xs,rfl,SqL.of (r3.fr.sub _ _ hp),fun l hl=>?_⟩;obtain⟨a,b,c⟩:=m7 r3 hl (rs.cut lo hi);exact k _ _ _ _ _ m3 ((s1.trans s2).trans s3) a b c
 ·exact m3.elim
theorem aP9 (ha:VT P0 ta ma)(hb:VT P0 tb mb):VO P0 (tOp aUC ta tb) (aRL ma mb):=by
 intro F Γ σ G H Q Qm r m k;refine ha F Γ σ G H _ _ r m fun d Γ1 x G1 H1 m1 s1 r1 d1=>?_;refine hb F Γ1 σ G1 H1 _ _ r1 m1 fun e Γ2 y G2 H2 m2 s2 r2 d2=>?_;have d1:=Dt.same s2 _ _ d1
 split at m2
 ·cases d1 with
  | @lst p xs _ hp rs=>
   cases d2 with
   | @lst q ys _ hq ss=>
    refine⟨p,q,xs,ys,rfl,rfl,r2.fr.sub _ _ hp,r2.fr.sub _ _ hq,jX (by rw[rs.len,ss.len]; exact m2.1),fun l hl=>?_⟩;obtain⟨a,b,c⟩:=m7 r2 hl (rs.app ss);exact k _ _ _ _ _ m2.2 (s1.trans s2) a b c
 ·exact m2.elim
def spM (P0:Addr→Hp→Prop)(n:Nat)(f:Fm):Sp:=fun vs H Q _=>∃(F:Fra P0) (as:List Sl) (Qm:Rv→Prop),F.H0=H∧Rf F F.G0 H∧Paired (qF F F.G0) vs as∧as.length=n∧f as Qm ∧
 ∀ rv r G' H',Qm rv→Rf F G' H'→RvO F G' H' r rv→Q r H'
def Fra.sub (F:Fra P0){G H:Hp}(r:Rf F G H):Fra P0 where
 H0:=H
 G0:=G
 pen:=F.pen
 stab:=fun p e H1 H2 h=>F.stab p e H1 H2 fun b o e=>let ⟨o',e'⟩:=r.dom e; h b o' e'
 pin:=F.pin
 pin0:=fun p e=>F.pin p e H (r.pn p e)
 pg:=fun p e=>by
  obtain⟨o,e0⟩:=F.pin0 p e;rw[r.g0 p o e0];exact F.pg p e
theorem Fra.subRf (F:Fra P0){G H:Hp}(r:Rf F G H):Rf (F.sub r) G H:=⟨r.sub,fun _ _ _=>rfl,fun _ _ e _=>e,r.pn⟩
theorem Rf.back {F:Fra P0}{G H G' H':Hp}(r:Rf F G H)(h:Rf (F.sub r) G' H'):Rf F G' H'∧Same G G':=by
 refine⟨⟨h.sub,fun b o e=>?_,fun b o e hb=>?_,h.pn⟩,fun b o e=>?_⟩
 ·obtain⟨o',e'⟩:=r.dom e;exact(h.g0 b o' e').trans (r.g0 b o e)
 ·exact h.h0 b o (r.h0 b o e hb) hb
 ·exact(h.g0 b o (r.sub b o e)).trans e
theorem Fra.pen_ne (F:Fra P0){p:Addr}(h:F.H0 p=none):F.pen≠some p:=fun e=>by
 obtain⟨o,e0⟩:=F.pin0 p e;rw[h] at e0; cases e0
theorem R.after {F:Fra P0}{Γ:En}{σ:St}{G H G' H':Hp}(r:R F Γ σ G H)(h:Rf (F.sub r.fr) G' H'):R F Γ σ G' H'∧Same G G':=by
 obtain⟨a,b⟩:=r.fr.back h;refine⟨r.keep a b fun p u _ e1 e2 e3=>⟨(h.g0 p _ e3).trans e2,h.h0 p _ e3 (F.pen_ne e1)⟩,b⟩
theorem aX {n:Nat}{f:Fm}{t:TA}{m:MA}{E:XK}(h:VA P0 t m):VO P0 (a9A (spM P0 n f) [] E t) (bM n f m):=by
 intro F Γ σ G H Q Qm r hm k;refine h F Γ σ G H _ _ r hm fun as Γ1 rs G1 H1 m1 s1 r1 d1=>?_;refine⟨F.sub r1.fr,as,fun rv=>Qm rv Γ1,rfl,F.subRf r1.fr,?_,m1.1,m1.2,fun rv v G2 H2 q f2 v2=>?_⟩
 ·rw[List.append_nil];exact Paired.imp' (fun a s h=>by cases s<;>exact h) d1
 ·obtain⟨r2,s2⟩:=r1.after f2;refine k _ _ _ _ _ q (s1.trans s2) r2 ?_ ?_
  ·cases rv with
   | val d=>exact v2
   | own ds=>
    obtain⟨p,vs,e,e1,e2,e3,e4⟩:=v2;exact⟨p,vs,e,r1.fr.fresh e1,e2,e3,e4⟩
   | box B=>
    obtain⟨fp,e1,e2⟩:=v2;exact⟨fp,e1,fun b hb=>⟨r1.fr.fresh (e2 b hb).1,(e2 b hb).2⟩⟩
  ·have kp:∀ b o,F.H0 b=none→G1 b=none→H1 b=some o→G2 b=none∧H2 b=some o:=fun b o h1 h2 h3=>⟨(f2.g0 b _ h3).trans h2,f2.h0 b _ h3 (F.pen_ne h1)⟩
   cases rv with
   | val d=>trivial
   | own ds=>
    obtain⟨p,vs,rfl,e1,e2,e3,e4⟩:=v2;exact Apart.new r1 e1 s2 kp
   | box B=>
    obtain⟨fp,e1,e2⟩:=v2;exact Apart.newB r1 (fun f hf b hb=>by rw[B.uniq hf e1] at hb; exact(e2 b hb).1) s2 kp
end
end
section
variable {P0:Addr→Hp→Prop}{A:Nat→Bool}
def gN (i:Nat):MG:=fun d Γ Q=>Q (Γ.set i (.val d))
def aHK:MGs:=fun ds Γ Q=>match ds with
 | []=>Q Γ
 | _=>False
def yC (g:MG)(gs:MGs):MGs:=fun ds Γ Q=>match ds with
 | d::r=>g d Γ fun Γ1=>gs r Γ1 Q
 | []=>False
def gT (n:Nat)(gs:MGs):MG:=fun d Γ Q=>match d with
 | .tuple ds=>ds.length=n∧gs ds Γ Q
 | _=>False
theorem u6 {i:Nat}{v:Option V}{σ:St}(hA:A i=true):∀ j,A j=false→(σ.set i v)[j]?=σ[j]?:=fun j hj=>List.getElem?_set_ne (fun z=>by rw[z,hj] at hA; cases hA)
theorem dJ {i:Nat}(hA:A i=true:=by rfl):VG P0 A (aD0 i) (gN i):=fun _ _ _ _ _ _ _ _ _ r h m k=>k _ _ m (r.setV h) (u6 hA)
theorem aA0:VGs P0 A aTS aHK:=by
 intro F Γ σ G H vs ds Q Qm r h m k
 cases h with
 | nil=>exact⟨rfl,k _ _ m r fun _ _=>rfl⟩
 | cons _ _=>exact m.elim
theorem rH {g:TG}{gs:TGs}{m:MG}{ms:MGs}(h1:VG P0 A g m)(h2:VGs P0 A gs ms):VGs P0 A (aPP g gs) (yC m ms):=by
 intro F Γ σ G H vs ds Q Qm r h hm k
 cases h with
 | nil=>exact hm.elim
 | cons a b=>exact⟨_,_,rfl,h1 F Γ σ G H _ _ _ _ r a hm fun Γ1 σ1 m1 r1 e1=>h2 F Γ1 σ1 G H _ _ _ _ r1 b m1 fun Γ2 σ2 m2 r2 e2=>k _ _ m2 r2 fun i hi=>(e2 i hi).trans (e1 i hi)⟩
theorem aGU {K:Fg}{n:Nat}{gs:TGs}{ms:MGs}(h:VGs P0 A gs ms):VG P0 A (aU0 K n gs) (gT n ms):=by
 intro F Γ σ G H v d Q Qm r hd m k;unfold gT at m
 split at m
 ·cases hd with
  | @tup p xs _ hp rs=>exact⟨p,xs,rfl,SqT.of (r.fr.sub _ _ hp),by rw[rs.len]; exact m.1,h F Γ σ G H _ _ _ _ r rs m.2 k⟩
 ·exact m.elim
def Walk (P0:Addr→Hp→Prop)(J:It)(G0:Hp)(ds:List D):Prop:=∀(F:Fra P0) (Γ:En) (σ:St) (G H:Hp),Same G0 G→R F Γ σ G H →
 (∀ i d,ds[i]?=some d→J.go i H∧∀ x H',J.yld i H x H'→∃ G',Same G G'∧R F Γ σ G' H'∧Dt G' x d)∧J.stop ds.length H
def VI (P0:Addr→Hp→Prop)(wi:TI)(m:MD):Prop:=∀(F:Fra P0) (Γ:En) (σ:St) (G H:Hp) (Q:It→Hp→Prop) (Qm:List D→En→Prop),R F Γ σ G H→m Γ Qm →
 (∀ ds Γ' J G' H',Qm ds Γ'→Same G G'→R F Γ' σ G' H'→Walk P0 J G' ds→Q J H')→wi σ H Q
def aCW (ma:ME):MD:=fun Γ Q=>ma Γ fun x Γ1=>match x with
 | .list ds=>Q ds Γ1
 | _=>False
def aRU (ma:ME):MD:=fun Γ Q=>ma Γ fun x Γ1=>match x with
 | .tuple ds=>Q ds Γ1
 | _=>False
def jK (lo:Int)(n:Nat):List D:=(List.range n).map fun(k:Nat)=>PyData.int (lo+k)
def aMS (md:MD):MD:=fun Γ Q=>md Γ fun ds Γ1=>match ds with
 | [.int j] => -(2^62)≤j∧j<2^62∧Q (jK 0 j.toNat) Γ1
 | _=>False
theorem lG {K:Fg}{ta:TE}{ma:ME}(ha:VT P0 ta ma):VI P0 (aPV K ta) (aCW ma):=by
 intro F Γ σ G H Q Qm r m k;refine ha F Γ σ G H _ _ r m fun d Γ1 x G1 H1 m1 s1 r1 d1=>?_
 split at m1
 ·cases d1 with
  | @lst p xs ds hp rs=>
   refine⟨p,rfl,⟨xs,SqL.of (r1.fr.sub _ _ hp)⟩,k _ _ _ _ _ m1 s1 r1 fun F2 Γ2 σ2 G2 H2 s2 r2=>⟨fun i d e=>?_,?_⟩⟩
   ·have hq:H2 p=some (.lst xs):=r2.fr.sub _ _ (s2 _ _ hp);obtain⟨v,ev,dv⟩:=Dts.get rs e;refine⟨⟨xs,v,SqL.of hq,ev⟩,fun y H3 hy=>⟨G2,Same.refl _,?_⟩⟩;obtain⟨rfl,hy⟩:=hy;have:=hy xs (SqL.of hq);rw[ev] at this
    cases this
    exact⟨r2,Dt.same s2 _ _ dv⟩
   ·exact⟨xs,SqL.of (r2.fr.sub _ _ (s2 _ _ hp)),by rw[rs.len]; exact Nat.le_refl _⟩
 ·exact m1.elim
theorem aNG {K:Fg}{ta:TE}{ma:ME}(ha:VT P0 ta ma):VI P0 (aT6 K ta) (aRU ma):=by
 intro F Γ σ G H Q Qm r m k;refine ha F Γ σ G H _ _ r m fun d Γ1 x G1 H1 m1 s1 r1 d1=>?_
 split at m1
 ·cases d1 with
  | @tup p xs ds hp rs=>
   refine⟨p,rfl,⟨xs,SqT.of (r1.fr.sub _ _ hp)⟩,k _ _ _ _ _ m1 s1 r1 fun F2 Γ2 σ2 G2 H2 s2 r2=>⟨fun i d e=>?_,?_⟩⟩
   ·have hq:H2 p=some (.tup xs):=r2.fr.sub _ _ (s2 _ _ hp);obtain⟨v,ev,dv⟩:=Dts.get rs e;refine⟨⟨xs,v,SqT.of hq,ev⟩,fun y H3 hy=>⟨G2,Same.refl _,?_⟩⟩;obtain⟨rfl,hy⟩:=hy;have:=hy xs (SqT.of hq);rw[ev] at this
    cases this
    exact⟨r2,Dt.same s2 _ _ dv⟩
   ·exact⟨xs,SqT.of (r2.fr.sub _ _ (s2 _ _ hp)),by rw[rs.len]; exact Nat.le_refl _⟩
 ·exact m1.elim
theorem aCC {G:Hp}(lo:Int)(n:Nat):Walk P0 (Itr lo n) G (jK lo n):=by
 intro F Γ σ G2 H2 _ r;have hl:(jK lo n).length=n:=by simp[jK]
 refine⟨fun i d e=>?_,by rw[hl]; exact Nat.le_refl _⟩;have hi:i<n:=by have:=(List.getElem?_eq_some_iff.mp e).1; omega
 refine⟨hi,fun x H' hy=>?_⟩;obtain⟨rfl,rfl⟩:=hy;refine⟨G2,Same.refl _,r,?_⟩;unfold jK at e;rw[List.getElem?_map,List.getElem?_range hi] at e
 cases e
 exact .int _
theorem aM8 {t:TA}{md:MD}(h:VD P0 t md):VI P0 (aNI t) (aMS md):=by
 intro F Γ σ G H Q Qm r m k;refine h F Γ σ G H _ _ r m fun ds Γ1 xs G1 H1 m1 s1 r1 d1=>?_
 split at m1
 ·rename_i j
  cases d1 with
  | cons a b=>
   cases a; cases b
   exact⟨j,rfl,m1.1,m1.2.1,k _ _ _ _ _ m1.2.2 s1 r1 (aCC _ _)⟩
 ·exact m1.elim
def mNx:MS:=fun Γ Q=>Q (.nx Γ)
def bZ (a b:MS):MS:=fun Γ Q=>a Γ fun fl=>match fl with
 | .nx Γ1=>b Γ1 Q
 | fl=>Q fl
def a0A (m:ME):MS:=fun Γ Q=>m Γ fun _ Γ1=>Q (.nx Γ1)
def eV (i:Nat)(m:MO):MS:=fun Γ Q=>m Γ fun rv Γ1=>Q (.nx (Γ1.set i rv.sl))
def aRJ (i j:Nat)(m:MD):MS:=fun Γ Q=>m Γ fun ds Γ1=>match ds with
 | [d,e]=>Q (.nx ((Γ1.set i (.val d)).set j (.val e)))
 | _=>False
def gQ (m:MO):MS:=fun Γ Q=>m Γ fun rv _=>Q (.rt rv)
def mIf (c:MT)(a b:MS):MS:=fun Γ Q=>c Γ fun k Γ1=>if k=true then a Γ1 Q else b Γ1 Q
def a3E:MS:=fun _ _=>False
def forL (g:MG)(b:MS):List D→En→(Fl→Prop)→Prop
 | [],Γ,Q=>Q (.nx Γ)
 | d::ds,Γ,Q=>g d Γ fun Γ1=>b Γ1 fun fl=>match fl with
  | .nx Γ2=>forL g b ds Γ2 Q
  | .ct Γ2=>forL g b ds Γ2 Q
  | .bk Γ2=>Q (.nx Γ2)
  | .rt rv=>Q (.rt rv)
def aM2 (mi:MD)(g:MG)(b:MS):MS:=fun Γ Q=>mi Γ fun ds Γ1=>forL g b ds Γ1 Q
def a0R (c:MT)(b:MS):MS:=fun Γ Q=>∃ W:Nat→En→Prop,(∃ n,W n Γ)∧∀ n Γ,W n Γ→c Γ fun k Γ1=>if k=true then b Γ1 fun fl=>match fl with
  | .nx Γ2=>∃ n',n'<n∧W n' Γ2
  | .ct Γ2=>∃ n',n'<n∧W n' Γ2
  | .bk Γ2=>Q (.nx Γ2)
  | .rt rv=>Q (.rt rv)
 else Q (.nx Γ1)
def wV (i:Nat)(m:ME):MS:=fun Γ Q=>match Γ[i]? with
 | some (.own _)=>m Γ fun d Γ1=>match Γ1[i]? with
  | some (.own ds)=>ds.length<1000∧Q (.nx (Γ1.set i (.own (ds++[d]))))
  | _=>False
 | _=>False
def aCP (i:Nat)(m:MS):MS:=fun Γ Q=>match Γ[i]? with
 | some (.own ds)=>m (Γ.set i (.val (.list ds))) Q
 | _=>m Γ Q
theorem dM:VSA P0 A aOZ mNx:=fun _ _ _ _ _ _ _ r m k=>k _ m _ _ _ (Same.refl _) r fun _ _=>rfl
theorem vM:VSA P0 A aK4 a3E:=fun _ _ _ _ _ _ _ _ m _=>m.elim
theorem aQ {t u:TS}{a b:MS}(ha:VSA P0 A t a)(hb:VSA P0 A u b):VSA P0 A (aU1 t u) (bZ a b):=by
 intro F Γ σ G H E Qm r m k;refine ha F Γ σ G H _ _ r m fun fl q=>?_
 cases fl with
 | nx Γ1=>exact fun σ1 G1 H1 s1 r1 e1=>hb F Γ1 σ1 G1 H1 E Qm r1 q fun fl q=>(k fl q).same s1 e1
 | rt rv=>exact k _ q
 | bk Γ1=>exact k _ q
 | ct Γ1=>exact k _ q
theorem o7 {t:TE}{m:ME}(h:VT P0 t m):VSA P0 A (aIE t) (a0A m):=by
 intro F Γ σ G H E Qm r hm k;exact h F Γ σ G H _ _ r hm fun d Γ1 x G1 H1 m1 s1 r1 d1=>k _ m1 _ _ _ s1 r1 fun _ _=>rfl
theorem bD {i:Nat}{t:TE}{m:MO}(h:VO P0 t m)(hA:A i=true:=by rfl):VSA P0 A (aPT t (aD0 i)) (eV i m):=by
 intro F Γ σ G H E Qm r hm k;exact h F Γ σ G H _ _ r hm fun rv Γ1 x G1 H1 m1 s1 r1 d1 a1=>k _ m1 _ _ _ s1 (r1.set d1 a1) (u6 hA)
theorem aNA {i j:Nat}{t:TA}{m:MD}(h:VD P0 t m)(hA:A i=true:=by rfl)(hB:A j=true:=by rfl):VSA P0 A (aTL i j t) (aRJ i j m):=by
 intro F Γ σ G H E Qm r hm k;refine h F Γ σ G H _ _ r hm fun ds Γ1 x G1 H1 m1 s1 r1 d1=>?_
 split at m1
 ·cases d1 with
  | cons a b=>
   cases b with
   | cons b c=>
    cases c
    exact⟨_,_,rfl,k _ m1 _ _ _ s1 ((r1.setV a).setV b) fun q hq=>(u6 hB q hq).trans (u6 hA q hq)⟩
 ·exact m1.elim
theorem bK {t:TE}{m:MO}(h:VO P0 t m):VSA P0 A (aQW t) (gQ m):=by
 intro F Γ σ G H E Qm r hm k;exact h F Γ σ G H _ _ r hm fun rv Γ1 x G1 H1 m1 s1 r1 d1 _=>k _ m1 _ _ _ s1 r1.fr d1
theorem cX {c:TT}{t u:TS}{mc:MT}{a b:MS}(hc:VTT P0 c mc)(ha:VSA P0 A t a)(hb:VSA P0 A u b):VSA P0 A (aUB c t u) (mIf mc a b):=by
 intro F Γ σ G H E Qm r m k;refine hc F Γ σ G H _ _ r m fun k1 Γ1 G1 H1 m1 s1 r1=>?_
 cases k1 with
 | true=>exact a5U (ha F Γ1 σ G1 H1 E Qm r1 m1 fun fl q=>(k fl q).same s1 fun _ _=>rfl)
 | false=>exact a2W (hb F Γ1 σ G1 H1 E Qm r1 m1 fun fl q=>(k fl q).same s1 fun _ _=>rfl)
theorem zG {c:TT}{t:TS}{mc:MT}{b:MS}(hc:VTT P0 c mc)(hb:VSA P0 A t b):VSA P0 A (aKB c t) (a0R mc b):=by
 intro F Γ σ G H E Qm r m k;obtain⟨W,⟨n0,w0⟩,turn⟩:=m;refine⟨fun n σ1 H1=>∃ Γ1 G1,Same G G1∧R F Γ1 σ1 G1 H1∧W n Γ1∧∀ i,A i=false→σ1[i]?=σ[i]?,⟨n0,Γ,G,Same.refl _,r,w0,fun _ _=>rfl⟩,?_⟩;rintro n σ1 H1 ⟨Γ1,G1,s1,r1,w1,e1⟩;refine hc F Γ1 σ1 G1 H1 _ _ r1 (turn n Γ1 w1) fun k2 Γ2 G2 H2 m2 s2 r2=>?_
 cases k2 with
 | true=>
  refine a5U ⟨_,fun _ _ h=>h,?_⟩;refine hb F Γ2 σ1 G2 H2 _ _ r2 m2 fun fl q=>?_
  cases fl with
  | nx Γ3=>
   obtain⟨n',hn,w3⟩:=q;exact fun σ3 G3 H3 s3 r3 e3=>⟨n',hn,Γ3,G3,(s1.trans s2).trans s3,r3,w3,fun i hi=>(e3 i hi).trans (e1 i hi)⟩
  | ct Γ3=>
   obtain⟨n',hn,w3⟩:=q;exact fun σ3 G3 H3 s3 r3 e3=>⟨n',hn,Γ3,G3,(s1.trans s2).trans s3,r3,w3,fun i hi=>(e3 i hi).trans (e1 i hi)⟩
  | bk Γ3=>exact fun σ3 G3 H3 s3 r3 e3=>k _ q _ _ _ ((s1.trans s2).trans s3) r3 fun i hi=>(e3 i hi).trans (e1 i hi)
  | rt rv=>exact fun v G3 H3 s3 r3=>k _ q _ _ _ ((s1.trans s2).trans s3) r3
 | false=>exact a2W (k _ m2 _ _ _ (s1.trans s2) r2 e1)
theorem a82 {wi:TI}{g:TG}{t:TS}{mi:MD}{mg:MG}{b:MS}(hi:VI P0 wi mi)(hg:VG P0 A g mg)(hb:VSA P0 A t b):VSA P0 A (aSP wi g t) (aM2 mi mg b):=by
 intro F Γ σ G H E Qm r m k;refine hi F Γ σ G H _ _ r m fun ds Γ1 J G1 H1 m1 s1 r1 wk=>?_;refine⟨fun i n σ2 H2=>n=ds.length-i∧i≤ds.length∧∃ Γ2 G2,Same G1 G2∧R F Γ2 σ2 G2 H2∧forL mg b (ds.drop i) Γ2 Qm∧∀ i,A i=false→σ2[i]?=σ[i]?,⟨ds.length,by simp,Nat.zero_le _,Γ1,G1,Same.refl _,r1,m1,fun _ _=>rfl⟩,?_⟩;rintro i n σ2 H2 ⟨rfl,hle,Γ2,G2,s2,r2,m2,e2⟩;obtain⟨go,stop⟩:=wk F Γ2 σ2 G2 H2 s2 r2
 by_cases hlt:i<ds.length
 ·refine .inr ⟨(go i ds[i] (by simp[hlt])).1,fun σ' H'=>ds.length-(i+1)<ds.length-i∧i+1≤ds.length∧∃ Γ3 G3,Same G1 G3∧R F Γ3 σ' G3 H'∧forL mg b (ds.drop (i+1)) Γ3 Qm∧∀ i,A i=false→σ'[i]?=σ[i]?,fun σ' H' h=>⟨_,h.1,rfl,h.2⟩,fun x H' hy=>?_⟩;obtain⟨G3,s3,r3,d3⟩:=(go i ds[i] (by simp[hlt])).2 x H' hy;rw[List.drop_eq_getElem_cons hlt] at m2;refine hg F Γ2 σ2 G3 H' x _ _ _ r3 d3 m2 fun Γ4 σ4 m4 r4 e4=>?_;refine hb F Γ4 σ4 G3 H' _ _ r4 m4 fun fl q=>?_
  cases fl with
  | nx Γ5=>exact fun σ5 G5 H5 s5 r5 e5=>⟨by omega,hlt,Γ5,G5,(s2.trans s3).trans s5,r5,q,fun i hi=>((e5 i hi).trans (e4 i hi)).trans (e2 i hi)⟩
  | ct Γ5=>exact fun σ5 G5 H5 s5 r5 e5=>⟨by omega,hlt,Γ5,G5,(s2.trans s3).trans s5,r5,q,fun i hi=>((e5 i hi).trans (e4 i hi)).trans (e2 i hi)⟩
  | bk Γ5=>exact fun σ5 G5 H5 s5 r5 e5=>k _ q _ _ _ ((s1.trans s2).trans (s3.trans s5)) r5 fun i hi=>((e5 i hi).trans (e4 i hi)).trans (e2 i hi)
  | rt rv=>exact fun v G5 H5 s5 r5=>k _ q _ _ _ ((s1.trans s2).trans (s3.trans s5)) r5
 ·have e:i=ds.length:=by omega
  subst e;rw[List.drop_length] at m2;exact .inl ⟨stop,k _ m2 _ _ _ (s1.trans s2) r2 e2⟩
theorem a7E {K:Fg}{i:Nat}{t:TE}{m:ME}(h:VT P0 t m):VSA P0 A (aIE (tBM K "list" aF0 (jZ i) (dD t rB))) (wV i m):=by
 intro F Γ σ G H E Qm r hm k;unfold wV at hm
 split at hm
 ·rename_i ds0 e0
  obtain⟨p,vs,e1,e2,e3,e4,e5⟩:=r.sl i _ e0;refine⟨_,e1,.inl ⟨rfl,_,SqL.of e4⟩,?_⟩;refine h F Γ σ G H _ _ r hm fun d Γ1 x G1 H1 m1 s1 r1 d1=>?_
  split at m1
  ·rename_i ds e
   obtain⟨p',ws,f1,f2,f3,f4,f5⟩:=r1.sl i _ e;rw[e1] at f1; cases f1;refine⟨p,ws,x,rfl,rfl,f4,zX (by rw[f5.len]; exact Nat.le_of_lt m1.1),?_⟩;exact k _ m1.2 _ _ _ s1 (r1.write e e1 (f5.app (.cons d1 .nil))) fun _ _=>rfl
  ·exact m1.elim
 ·exact hm.elim
theorem R.pub1 {F:Fra P0}{Γ:En}{σ:St}{G H:Hp}(r:R F Γ σ G H){i:Nat}{ds:List D}(e:Γ[i]?=some (.own ds)):∃ G',Same G G'∧R F (Γ.set i (.val (.list ds))) σ G' H:=by
 obtain⟨p,vs,e1,e2,e3,e4,e5⟩:=r.sl i _ e;have hap:Apart F (Γ.set i .no) σ G H (.ref p) (.own ds):=fun j s fp ej hj q eq hq=>by
  cases eq
  by_cases hji:i=j
  ·subst hji;have hi:i<Γ.length:=(List.getElem?_eq_some_iff.mp e).1;rw[List.getElem?_set_self hi] at ej
   cases ej
   rw[show fp=[] from hj] at hq; cases hq
  ·rw[List.getElem?_set_ne hji] at ej;exact r.apart hji e ej (fp:=[p]) ⟨p,vs,rfl,e1,e2,e3,e4,e5⟩ hj p (List.mem_singleton.mpr rfl) hq
 obtain⟨G',s,r',d'⟩:=(r.drop i).give (ds:=ds) ⟨p,vs,rfl,e2,e3,e4,e5⟩ hap;refine⟨G',s,?_⟩;have q:=r'.setV (i:=i) d';rw[List.set_set] at q;have hs:σ.set i (some (.ref p))=σ:=by
  apply List.ext_getElem?;intro j
  by_cases hj:i=j
  ·subst hj;have hi:i<σ.length:=(List.getElem?_eq_some_iff.mp e1).1;rw[List.getElem?_set_self hi,e1]
  ·rw[List.getElem?_set_ne hj]
 rw[hs] at q;exact q
theorem aK1 {i:Nat}{t:TS}{m:MS}(h:VSA P0 A t m):VSA P0 A t (aCP i m):=by
 intro F Γ σ G H E Qm r hm k;unfold aCP at hm
 split at hm
 ·rename_i ds e
  obtain⟨G',s,r'⟩:=r.pub1 e;exact h F _ σ G' H E Qm r' hm fun fl q=>(k fl q).same s fun _ _=>rfl
 ·exact h F Γ σ G H E Qm r hm k
def mFn (n:Nat)(b:MS):Fm:=fun as Q=>b (as++List.replicate n .no) fun fl=>match fl with
 | .rt rv=>Q rv
 | .nx _=>Q (.val .none)
 | _=>False
theorem aHT {n k:Nat}{N:List Str}{t:TS}{b:MS}(h:VS P0 t b)(hN:N.length=n+k){vs:List V}{H:Hp}{Q:VK}{E:XK}(hs:spM P0 n (mFn k b) vs H Q E) :
  t { nx:=fun _ H'=>Q .non H',rt:=Q } (start N vs) H:=by
 obtain⟨F,as,Qm,rfl,rf,pr,hl,hm,q⟩:=hs;have hlen:vs.length=as.length:=Paired.length pr;have get:∀{vs:List V} {as:List Sl} {i:Nat} {s:Sl},Paired (qF F F.G0) vs as→as[i]?=some s→∃ v,vs[i]?=some v∧qF F F.G0 v s:=by
  intro vs as i s pr
  induction pr generalizing i with
  | nil=>intro e; simp at e
  | cons a b ih=>
   cases i with
   | zero=>intro e; simp at e; subst e; exact⟨_,rfl,a⟩
   | succ i=>intro e; simpa using ih (i:=i) (by simpa using e)
 have at_:∀{i:Nat} {s:Sl},(as++List.replicate k Sl.no)[i]?=some s→s≠.no→∃ v,(start N vs)[i]?=some (some v)∧qF F F.G0 v s:=by
  intro i s e hne
  by_cases hi:i<as.length
  ·rw[List.getElem?_append_left hi] at e;obtain⟨v,ev,av⟩:=get pr e;refine⟨v,?_,av⟩;unfold start;rw[List.getElem?_append_left (by rw[List.length_map]; omega),List.getElem?_map,ev];rfl
  ·rw[List.getElem?_append_right (by omega),List.getElem?_replicate] at e
   split at e
   ·cases e; exact absurd rfl hne
   ·cases e
 have r:R F (as++List.replicate k .no) (start N vs) F.G0 F.H0:=by
  refine R.of rf ?_ (fun i s e=>?_) (fun i B e=>?_) (fun i j x y _ e _=>?_)
  ·unfold start;simp only[List.length_append,List.length_replicate,List.length_map];omega
  ·cases s with
   | no=>trivial
   | val d=>
    obtain⟨v,ev,av⟩:=at_ e (by intro z; cases z)
    exact⟨v,ev,av⟩
   | own ds=>
    obtain⟨v,ev,av⟩:=at_ e (by intro z; cases z)
    exact av.elim
   | pen=>
    obtain⟨v,ev,p,rfl,ep⟩:=at_ e (by intro z; cases z)
    exact⟨p,ev,ep⟩
   | con q=>
    obtain⟨v,ev,av⟩:=at_ e (by intro z; cases z)
    have av:v=.ref q:=av;rw[av] at ev;exact ev
   | pub B=>
    obtain⟨v,ev,av⟩:=at_ e (by intro z; cases z)
    exact⟨v,ev,av⟩
   | box B=>
    obtain⟨v,ev,av⟩:=at_ e (by intro z; cases z)
    exact av.elim
  ·obtain⟨v,ev,av⟩:=at_ e (by intro z; cases z)
   exact av.elim
  ·obtain⟨v,ev,av⟩:=at_ e (by intro z; cases z)
   exact av.elim
 refine h F _ _ _ _ _ _ r hm fun fl hq=>?_
 cases fl with
 | nx Γ=>exact fun σ G' H' _ r' _=>q _ _ _ _ hq r'.fr .non
 | rt rv=>exact fun v G' H' _ f' v'=>q _ _ _ _ hq f' v'
 | bk Γ=>exact hq.elim
 | ct Γ=>exact hq.elim
theorem aMV {n:Nat}{f:Fm}{ps:List Str}(h:ps.length=n):∀ vs H Q E,spM P0 n f vs H Q E→vs.length=ps.length:=by
 rintro vs H Q E ⟨F,as,Qm,_,_,pr,hl,_⟩;rw[Paired.length pr,hl,h]
theorem _root_.L2.Fun.okV {P:Program}{w:World}{K:Fg}{mg:Mg}{base:Heap}{x qual:Str}{st:Stmt}{f:Addr}{fd:FuncData}{N ps:List Str}{k n j:Nat}{b:MS}
  (F:Fun K x qual st f fd) (S:FnScope N ps (aN st)) (hn:ps.length=n) (hN:N.length=n+j)
  (hbody:∀(cdv:Value) (A:Around) (outer:List Env) (s:Shared) (H:Hp) (E:XK),Room k (A.deeper (envOfC qual (aN st) s.heap.objs.size f cdv)) →
   SsX P0 (aHZ CX0 P w K mg base N qual (aN st) f cdv A outer s H E).nox (lE st) b):FnOk P w K mg base CX0 (k+1) f fd ps (spM P0 n (mFn j b)):=by
 refine F.ok S (aMV hn) fun cdv A outer s H vs Q E hr hs=>?_;obtain⟨t,h1,h2⟩:=hbody cdv A outer s H E hr;exact⟨t,h1,aHT h2 hN hs⟩
end
section
variable {P0:Addr→Hp→Prop}
def pZ:D→String
 | .none => "NoneType"
 | .bool _ => "bool"
 | .int _ => "int"
 | .str _ => "str"
 | .list _ => "list"
 | .tuple _ => "tuple"
 | .dict _ => "dict"
def aET (a b:String):Bool:=a==b||(a == "bool" && b == "int")
def tyL:List String:=["NoneType", "bool", "int", "str", "list", "tuple", "dict"]
def Kit (K:Fg):Prop:=∀ a∈tyL,∀ b∈tyL,PySem.W.kitOne K (.type a) (.type b)=some (aET a b)
theorem Kit.mk' {K:Fg}(h:∀ a∈tyL,∀ b∈tyL,(a==b)=false→PySem.W.kitOne K (.type a) (.type b)=some (a == "bool" && b == "int")):Kit K:=by
 intro a ha b hb
 by_cases e:a=b
 ·subst e;rw[aJE];simp[aET]
 ·have e':(a==b)=false:=by simpa using e
  rw[h a ha b hb e'];simp[aET,e']
theorem aMI {K:Fg}{H:Hp}{x:V}{d:D}(h:Dt H x d):TyOf K H x (.type (pZ d))∧pZ d∈tyL:=by
 cases h with
 | non=>exact⟨.non,by simp[pZ,tyL]⟩
 | bl b=>exact⟨.bl b,by simp[pZ,tyL]⟩
 | int i=>exact⟨.int i,by simp[pZ,tyL]⟩
 | str x=>exact⟨.str x,by simp[pZ,tyL]⟩
 | tup hp _=>exact⟨.tup hp,by simp[pZ,tyL]⟩
 | lst hp _=>exact⟨.lst hp,by simp[pZ,tyL]⟩
 | dic hp _=>exact⟨.dK hp,by simp[pZ,tyL]⟩
def aCO (n:String)(ma:ME):ME:=fun Γ Q=>ma Γ fun x Γ1=>Q (.bool (aET (pZ x) n)) Γ1
theorem vD {K:Fg}{n:String}{ta:TE}{ma:ME}(hk:Kit K)(hn:n∈tyL)(ha:VT P0 ta ma):VT P0 (tCB (aTU K) (dD ta (dD (tC (.ty n)) rB))) (aCO n ma):=by
 intro F Γ σ G H Q Qm r m k;refine ha F Γ σ G H _ _ r m fun d Γ1 x G1 H1 m1 s1 r1 d1=>?_;obtain⟨h1,h2⟩:=aMI (K:=K) (Dt.same r1.fr.sub _ _ d1);exact⟨x,.ty n,.type n,_,_,rfl,rfl,h1,hk _ h2 _ hn,k _ _ _ _ _ m1 s1 r1 (.bl _)⟩
section
variable {X:Cx}
structure Goods (ds:List D):Prop where
 lay:PyData.canLayAll0 ds=true
 dep:PyData.depthAll ds≤59
def aU8 (neg:Bool):R2:=fun x y H Q=>∃ dx ds,Dt H x dx∧(Dt H y (.list ds)∨Dt H y (.tuple ds))∧Good dx∧Goods ds∧Q (.bl (if neg then !(ds.any fun e=>PyData.eqv e dx) else ds.any fun e=>PyData.eqv e dx)) H
theorem aNJ {u a b:Nat}(h:u+64<cLine)(ha:a≤59):u+1+min a b<cLine:=by
 have:min a b≤a:=Nat.min_le_left _ _;omega
theorem a0E (hu:X.A.units+64<cLine):OpR X (compareOp .NotIn) (aU8 true):=by
 intro pins s σ H x y v u Q I rx ry h;obtain⟨dx,ds,ex,ey,gx,gs,q⟩:=h;obtain⟨as,r1⟩:=Dt.reads I.hok dx x v ex rx;rcases ey with ey|ey
 ·obtain⟨bs,r2⟩:=Dt.reads I.hok _ y u ey ry;exact SeqAt.notIn_list_reads r2 r1 gs.lay gx.lay (aNJ hu gs.dep) ⟨.bl _,H,I,rfl,q⟩
 ·obtain⟨bs,r2⟩:=Dt.reads I.hok _ y u ey ry;exact SeqAt.notIn_tuple_reads r2 r1 gs.lay gx.lay (aNJ hu gs.dep) ⟨.bl _,H,I,rfl,q⟩
def mIn (neg:Bool)(ma mb:ME):ME:=fun Γ Q=>ma Γ fun x Γ1=>mb Γ1 fun y Γ2=>match xT y with
 | some ds=>Good x∧Goods ds∧Q (.bool (if neg then !(ds.any fun e=>PyData.eqv e x) else ds.any fun e=>PyData.eqv e x)) Γ2
 | none=>False
theorem aMX {neg:Bool}{ta tb:TE}{ma mb:ME}(ha:VT P0 ta ma)(hb:VT P0 tb mb):VT P0 (tOp (aU8 neg) ta tb) (mIn neg ma mb):=by
 refine aN3 (m2:=fun x y Q=>match xT y with|some ds=>Good x∧Goods ds∧Q (.bool (if neg then !(ds.any fun e=>PyData.eqv e x) else ds.any fun e=>PyData.eqv e x))|none=>False) ha hb fun F Γ σ G H x y d e Q Qm r d1 d2 m k=>?_
 split at m
 ·rename_i ds hds
  refine⟨d,ds,Dt.same r.fr.sub _ _ d1,?_,m.1,m.2.1,k _ _ _ _ m.2.2 (Same.refl _) r (.bl _)⟩;have d2:=Dt.same r.fr.sub _ _ d2
  cases d2<;>simp only[xT] at hds<;>try (cases hds)
  ·exact .inr (.tup (by assumption) (by assumption))
  ·exact .inl (.lst (by assumption) (by assumption))
 ·exact m.elim
end
def aDA (H H':Hp):Prop:=∀ b xs,H b=some (.tup xs)→H' b=some (.tup xs)∨∃ q vs,V.ref q∈xs∧H q=some (.lst vs)
theorem no_ref {H:Hp}{q:Addr}{vs:List V}(hq:H q=some (.lst vs)):∀(ds:List D) (xs:List V),bV ds=true→Dts H xs ds→V.ref q∉xs
 | [],xs,_,e,h=>by cases e; cases h
 | d::ds,xs,z,e,h=>by
  have z':eN d=true∧bV ds=true:=by simpa [bV] using z
  cases e with
  | cons e1 e2=>
   rcases List.mem_cons.mp h with e|e
   ·subst e
    cases e1 with
    | tup hp _=>rw[hq] at hp; cases hp
    | lst hp _=>exact absurd z'.1 (by simp[eN])
    | dic hp _=>exact absurd z'.1 (by simp[eN])
   ·exact no_ref hq ds _ z'.2 e2 e
mutual
theorem Dt.sameU {H H':Hp}(g:aDA H H'):∀(d:PyData) (x:V),eN d=true→Dt H x d→Dt H' x d
 | .none,_,_,e=>by cases e; exact .non
 | .bool _,_,_,e=>by cases e; exact .bl _
 | .int _,_,_,e=>by cases e; exact .int _
 | .str _,_,_,e=>by cases e; exact .str _
 | .list _,_,z,_=>absurd z (by simp[eN])
 | .tuple ds,_,z,e=>by
  have z':bV ds=true:=by simpa [eN] using z
  cases e with
  | tup hp rs=>
   rcases g _ _ hp with h|⟨q,vs,h1,h2⟩
   ·exact .tup h (Dts.sameU g ds _ z' rs)
   ·exact absurd h1 (no_ref h2 ds _ z' rs)
 | .dict _,_,z,_=>absurd z (by simp[eN])
theorem Dts.sameU {H H':Hp}(g:aDA H H'):∀(ds:List PyData) (xs:List V),bV ds=true→Dts H xs ds→Dts H' xs ds
 | [],_,_,e=>by cases e; exact .nil
 | d::ds,_,z,e=>by
  have z':eN d=true∧bV ds=true:=by simpa [bV] using z
  cases e with
  | cons e1 e2=>exact .cons (Dt.sameU g d _ z'.1 e1) (Dts.sameU g ds _ z'.2 e2)
end
def a0O:En→En:=List.map fun s=>match s with
 | .own ds=>.val (.list ds)
 | .box B=>match B.view with
  | some d=>.val d
  | none=>match B.pv with
   | some b=>.pub b
   | none=>.no
 | s=>s
def aHA (m:ME):ME:=fun Γ Q=>m (a0O Γ) fun d Γ1=>eN d=true∧Γ1=a0O Γ∧Q d Γ
def a7O (m:MT):MT:=fun Γ Q=>m (a0O Γ) fun b Γ1=>Γ1=a0O Γ∧Q b Γ
def zW (m:MO):MO:=fun Γ Q=>m (a0O Γ) fun rv Γ1=>bV (match rv with|.val d=>[d]|.own ds=>ds|.box _=>[.list []])=true∧Γ1=a0O Γ∧Q rv Γ
def OwnA (F:Fra P0)(Γ:En)(σ:St)(G H:Hp)(b:Addr):Prop:=∃(i:Nat) (s:Sl) (fp:List Addr),Γ[i]?=some s∧SlF F G H σ[i]? fp s∧b∈fp
section
variable {F:Fra P0}{Γ:En}{σ:St}{G H:Hp}
open Classical in
noncomputable def aCZ (F:Fra P0)(Γ:En)(σ:St)(G H:Hp):Hp:=fun b=>if OwnA F Γ σ G H b then H b else G b
noncomputable def qG (F:Fra P0)(Γ:En)(σ:St)(G H:Hp)(G1:Hp):Hp:=fun b=>open Classical in if OwnA F Γ σ G H b then none else G1 b
theorem OwnA.at {b:Addr}(h:OwnA F Γ σ G H b):F.H0 b=none∧G b=none∧∃ o,H b=some o:=by
 obtain⟨i,s,fp,_,e,hb⟩:=h;exact e.mine hb
theorem OwnA.tup {b:Addr}(h:OwnA F Γ σ G H b){xs:List V}(e:H b=some (.tup xs)):∃ q vs,V.ref q∈xs∧OwnA F Γ σ G H q∧H q=some (.lst vs):=by
 obtain⟨i,s,fp,e0,e1,hb⟩:=h
 cases s with
 | no=>rw[show fp=[] from e1] at hb; cases hb
 | val d=>rw[e1.1] at hb; cases hb
 | pen=>rw[e1.1] at hb; cases hb
 | con q=>rw[e1.1] at hb; cases hb
 | pub B=>rw[e1.1] at hb; cases hb
 | own ds=>
  obtain⟨p,vs,f0,_,_,_,f3,_⟩:=e1;rw[f0] at hb;rw[List.mem_singleton.mp hb,f3] at e
  cases e
 | box B=>
  have e1':=e1;obtain⟨v,_,h2,_⟩:=e1;obtain⟨q,q1,q2,vs,q3⟩:=B.nt h2 b hb xs e;exact⟨q,vs,q2,⟨i,_,fp,e0,e1',q1⟩,q3⟩
theorem R.pubAll (r:R F Γ σ G H):Same G (aCZ F Γ σ G H)∧R F (a0O Γ) σ (aCZ F Γ σ G H) H:=by
 have g:Same G (aCZ F Γ σ G H):=fun b o e=>by
  unfold aCZ
  by_cases h:OwnA F Γ σ G H b
  ·have:=h.at.2.1;rw[e] at this; cases this
  ·rw[if_neg h]; exact e
 have nob:∀(i:Nat) s,(a0O Γ)[i]?=some s→(∀ x,s≠.own x)∧∀ B,s≠.box B:=by
  intro i s e;unfold a0O at e;rw[List.getElem?_map] at e
  cases e0:Γ[i]? with
  | none=>rw[e0] at e; cases e
  | some s0=>
   rw[e0] at e
   cases s0 with
   | box B=>
    have e:(match B.view with|some d=>Sl.val d|none=>match B.pv with|some b=>Sl.pub b|none=>Sl.no)=s:=Option.some.inj e
    cases hv:B.view with
    | none=>
     cases hw:B.pv with
     | none=>rw[hv,hw] at e; subst e; exact⟨fun x z=>(nomatch z),fun x z=>(nomatch z)⟩
     | some b=>rw[hv,hw] at e; subst e; exact⟨fun x z=>(nomatch z),fun x z=>(nomatch z)⟩
    | some d=>rw[hv] at e; subst e; exact⟨fun x z=>(nomatch z),fun x z=>(nomatch z)⟩
   | _=>cases e; exact⟨fun x z=>(nomatch z),fun x z=>(nomatch z)⟩
 refine⟨g,R.of ⟨fun b o e=>?_,fun b o e=>?_,r.fr.h0,r.fr.pn⟩ ?_ (fun i s e=>?_) (fun i B e=>(nob i _ e).2 B rfl) (fun i j x y _ e=>((nob i _ e).1 x rfl).elim)⟩
 ·unfold aCZ at e
  split at e
  ·exact e
  ·exact r.fr.sub b o e
 ·have h:¬OwnA F Γ σ G H b:=fun h=>by
   have:=h.at.1;rw[e] at this; cases this
  unfold aCZ;rw[if_neg h];exact r.fr.g0 b o e
 ·unfold a0O;rw[List.length_map];exact r.len
 ·unfold a0O at e;rw[List.getElem?_map] at e
  cases e0:Γ[i]? with
  | none=>rw[e0] at e; cases e
  | some s0=>
   rw[e0] at e;have h:=r.sl i s0 e0
   cases s0 with
   | no=>cases e; trivial
   | val d=>cases e; obtain⟨v,e1,d1⟩:=h; exact⟨v,e1,Dt.same g _ _ d1⟩
   | own ds=>
    cases e
    obtain⟨p,vs,e1,e2,e3,e4,e5⟩:=h;refine⟨_,e1,.lst ?_ (Dts.same g _ _ e5)⟩;unfold aCZ;rw[if_pos ⟨i,_,[p],e0,⟨p,vs,rfl,e1,e2,e3,e4,e5⟩,List.mem_singleton.mpr rfl⟩];exact e4
   | pen=>cases e; exact h
   | con q=>cases e; exact h
   | pub B=>cases e; obtain⟨v,e1,e2⟩:=h; exact⟨v,e1,B.mono g e2⟩
   | box B=>
    have e:(match B.view with|some d=>Sl.val d|none=>match B.pv with|some b=>Sl.pub b|none=>Sl.no)=s:=Option.some.inj e;obtain⟨v,fp,e1,e2,e3⟩:=h
    cases hv:B.view with
    | none=>
     cases hw:B.pv with
     | none=>rw[hv,hw] at e; subst e; trivial
     | some b0=>
      rw[hv,hw] at e;subst e;refine⟨v,e1,B.pok e2 hw g fun b hb=>?_⟩;unfold aCZ;rw[if_pos ⟨i,_,fp,e0,⟨v,e1,e2,e3⟩,hb⟩]
    | some d=>
     rw[hv] at e;subst e;refine⟨v,e1,B.vok e2 hv g fun b hb=>?_⟩;unfold aCZ;rw[if_pos ⟨i,_,fp,e0,⟨v,e1,e2,e3⟩,hb⟩]
theorem R.backG (r:R F Γ σ G H){G1 H1:Hp}(s:Same (aCZ F Γ σ G H) G1)(f1:Rf F G1 H1) :
  (∀ b,OwnA F Γ σ G H b→G1 b=H b∧H1 b=H b)∧Same G (qG F Γ σ G H G1)∧Rf F (qG F Γ σ G H G1) H1∧aDA G1 (qG F Γ σ G H G1):=by
 have s0:=(r.pubAll).1;have own:∀ b,OwnA F Γ σ G H b→G1 b=H b∧H1 b=H b:=fun b h=>by
  obtain⟨_,_,o,e⟩:=h.at;have q:aCZ F Γ σ G H b=H b:=by unfold aCZ; rw[if_pos h]
  rw[e] at q ⊢;exact⟨s b _ q,f1.sub b _ (s b _ q)⟩
 have g:Same G (qG F Γ σ G H G1):=fun b o e=>by
  have h:¬OwnA F Γ σ G H b:=fun h=>by
   have:=h.at.2.1;rw[e] at this; cases this
  unfold qG;rw[if_neg h];exact s b o (s0 b o e)
 refine⟨own,g,⟨fun b o e=>?_,fun b o e=>?_,f1.h0,f1.pn⟩,fun b xs e=>?_⟩
 ·unfold qG at e
  split at e
  ·cases e
  ·exact f1.sub b o e
 ·have h:¬OwnA F Γ σ G H b:=fun h=>by
   have:=h.at.1;rw[e] at this; cases this
  unfold qG;rw[if_neg h];exact f1.g0 b o e
 ·by_cases h:OwnA F Γ σ G H b
  ·have e':H b=some (.tup xs):=by rw[← (own b h).1]; exact e
   obtain⟨q,vs,q1,q2,q3⟩:=h.tup e';exact .inr ⟨q,vs,q1,by rw[(own q q2).1]; exact q3⟩
  ·refine .inl ?_;unfold qG;rw[if_neg h];exact e
theorem zO {G1:Hp}{b:Addr}(h:OwnA F Γ σ G H b):qG F Γ σ G H G1 b=none:=by
 unfold qG;rw[if_pos h]
theorem R.back (r:R F Γ σ G H){G' H':Hp}(s:Same (aCZ F Γ σ G H) G')(r':R F (a0O Γ) σ G' H'):Same G (qG F Γ σ G H G')∧R F Γ σ (qG F Γ σ G H G') H'∧aDA G' (qG F Γ σ G H G'):=by
 obtain⟨own,g,f,t⟩:=r.backG s r'.fr;obtain⟨fps,h1,h2⟩:=r.fps;refine⟨g,⟨f,r.len,fps,fun i sl e=>(h1 i sl e).go g fun b hb=>?_,h2⟩,t⟩;have ho:OwnA F Γ σ G H b:=⟨i,sl,fps i,e,h1 i sl e,hb⟩;exact⟨zO ho,(own b ho).2⟩
end
theorem aAG {t:TE}{m:ME}(h:VT P0 t m):VT P0 t (aHA m):=by
 intro F Γ σ G H Q Qm r hm k;obtain⟨s0,r0⟩:=r.pubAll;refine h F _ σ _ H _ _ r0 hm fun d Γ1 x G1 H1 m1 s1 r1 d1=>?_;obtain⟨hd,rfl,q⟩:=m1;obtain⟨s2,r2,t2⟩:=r.back s1 r1;exact k _ _ _ _ _ q s2 r2 (Dt.sameU t2 _ _ hd d1)
theorem a4R {t:TT}{m:MT}(h:VTT P0 t m):VTT P0 t (a7O m):=by
 intro F Γ σ G H Q Qm r hm k;obtain⟨s0,r0⟩:=r.pubAll;refine h F _ σ _ H _ _ r0 hm fun b Γ1 G1 H1 m1 s1 r1=>?_;obtain⟨rfl,q⟩:=m1;obtain⟨s2,r2,t2⟩:=r.back s1 r1;exact k _ _ _ _ q s2 r2
theorem a0T {t:TE}{m:MO}(h:VO P0 t m):VO P0 t (zW m):=by
 intro F Γ σ G H Q Qm r hm k;obtain⟨s0,r0⟩:=r.pubAll;refine h F _ σ _ H _ _ r0 hm fun rv Γ1 x G1 H1 m1 s1 r1 d1 a1=>?_;obtain⟨hd,rfl,q⟩:=m1;obtain⟨s2,r2,t2⟩:=r.back s1 r1
 cases rv with
 | val d=>
  have hd':eN d=true:=by simpa [bV] using hd
  exact k _ _ _ _ _ q s2 r2 (Dt.sameU t2 _ _ hd' d1) trivial
 | box B=>exact absurd hd (by simp[bV,eN])
 | own ds=>
  obtain⟨p,vs,rfl,e1,e2,e3,e4⟩:=d1;refine k _ _ _ _ _ q s2 r2 ⟨p,vs,rfl,e1,?_,e3,Dts.sameU t2 _ _ hd e4⟩ fun i s fp ei hf q' eq hq=>?_
  ·unfold qG
   split
   ·rfl
   ·exact e2
  ·cases eq
   obtain⟨fps,f1,f2⟩:=r.fps;have h0:=f1 i s ei;have own:=(r.backG s1 r1.fr).1;have h3:SlF F (qG F Γ σ G H G1) H1 σ[i]? (fps i) s:=h0.go s2 fun b hb=>by
    have ho:OwnA F Γ σ G H b:=⟨i,s,fps i,ei,h0,hb⟩;exact⟨zO ho,(own b ho).2⟩
   rw[hf.det h3] at hq;have ho:OwnA F Γ σ G H p:=⟨i,s,fps i,ei,h0,hq⟩;obtain⟨_,_,o,e'⟩:=ho.at;have:=(own p ho).1;rw[e2,e'] at this; cases this
section
variable {ta tb:TE}{ma mb:ME}
abbrev aJ5:=mI0 fun i j=>PyData.int (i+j)
abbrev aN5:=mI0 fun i j=>PyData.int (i-j)
abbrev zR:=mI IntMulOk fun i j=>PyData.int (i*j)
abbrev aH3:=mI aJO fun i j=>PyData.int (i.fdiv j)
abbrev aU6:=mI aQR fun i j=>PyData.int (i/j)
abbrev aSW:=mI (fun _ j=>0<j) fun i j=>PyData.int (i%j)
abbrev aN0:=mU fun i=>PyData.int (-i)
abbrev mLt:=mI0 fun i j=>PyData.bool (decide (i<j))
abbrev mLe:=mI0 fun i j=>PyData.bool (decide (i≤j))
abbrev mGt:=mI0 fun i j=>PyData.bool (decide (j<i))
abbrev mGe:=mI0 fun i j=>PyData.bool (decide (j≤i))
theorem xY (ha:VT P0 ta ma)(hb:VT P0 tb mb):VT P0 (tOp (rI0 fun i j=>.int (i+j)) ta tb) (aJ5 ma mb):=aCE (fun _ _ _=>.int _) ha hb
theorem a74 (ha:VT P0 ta ma)(hb:VT P0 tb mb):VT P0 (tOp (rI0 fun i j=>.int (i-j)) ta tb) (aN5 ma mb):=aCE (fun _ _ _=>.int _) ha hb
theorem f9 (ha:VT P0 ta ma)(hb:VT P0 tb mb):VT P0 (tOp (rI IntMulOk fun i j=>.int (i*j)) ta tb) (zR ma mb):=aQU (fun _ _ _=>.int _) ha hb
theorem a5H (ha:VT P0 ta ma)(hb:VT P0 tb mb):VT P0 (tOp (rI aJO fun i j=>.int (i.fdiv j)) ta tb) (aH3 ma mb):=aQU (fun _ _ _=>.int _) ha hb
theorem aOF (ha:VT P0 ta ma)(hb:VT P0 tb mb):VT P0 (tOp (rI aQR fun i j=>.int (i/j)) ta tb) (aU6 ma mb):=aQU (fun _ _ _=>.int _) ha hb
theorem aKE (ha:VT P0 ta ma)(hb:VT P0 tb mb):VT P0 (tOp (rI (fun _ j=>0<j) fun i j=>.int (i%j)) ta tb) (aSW ma mb):=aQU (fun _ _ _=>.int _) ha hb
theorem a72 (ha:VT P0 ta ma):VT P0 (tUn (rU fun i=>.int (-i)) ta) (aN0 ma):=aV0 (fun _ _=>.int _) ha
theorem wQ (ha:VT P0 ta ma)(hb:VT P0 tb mb):VT P0 (tOp (rI0 fun i j=>.bl (decide (i<j))) ta tb) (mLt ma mb):=aCE (fun _ _ _=>.bl _) ha hb
theorem aQ3 (ha:VT P0 ta ma)(hb:VT P0 tb mb):VT P0 (tOp (rI0 fun i j=>.bl (decide (i≤j))) ta tb) (mLe ma mb):=aCE (fun _ _ _=>.bl _) ha hb
theorem aRW (ha:VT P0 ta ma)(hb:VT P0 tb mb):VT P0 (tOp (rI0 fun i j=>.bl (decide (j<i))) ta tb) (mGt ma mb):=aCE (fun _ _ _=>.bl _) ha hb
theorem aTC (ha:VT P0 ta ma)(hb:VT P0 tb mb):VT P0 (tOp (rI0 fun i j=>.bl (decide (j≤i))) ta tb) (mGe ma mb):=aCE (fun _ _ _=>.bl _) ha hb
theorem aF {i:Int}:VT P0 (tC (.int i)) (mC (.int i)):=aQV fun _=>.int i
theorem a1U {b:Bool}:VT P0 (tC (.bl b)) (mC (.bool b)):=aQV fun _=>.bl b
theorem jL {s:Str}:VT P0 (tC (.str s)) (mC (.str s)):=aQV fun _=>.str s
theorem vQ:VT P0 (tC .non) (mC .none):=aQV fun _=>.non
end
end
section
def uA:Fl→Prop:=fun fl=>fl=.rt (.val (.bool true))
end
end L2.VS
namespace L2.VS
open PySem PySem.Spec PyProof.Rows LT
section
variable {Γ:En}{i j n:Nat}{d e x y:D}{ma mb:ME}{oa ob:MO}{ta tb:MT}{md:MD}{aa:MA}{sa sb:MS}{g:MG}{gs:MGs}{mp mq:MP}
theorem aSR {Q:Fl→Prop}(h:sa Γ fun fl=>match fl with|.nx Γ1=>sb Γ1 Q|fl=>Q fl):bZ sa sb Γ Q:=h
theorem aQP {Q:Fl→Prop}(h:Q (.nx Γ)):mNx Γ Q:=h
theorem aQK {Q:Fl→Prop}(h:ma Γ fun _ Γ1=>Q (.nx Γ1)):a0A ma Γ Q:=h
theorem aP0 {Q:Fl→Prop}(h:oa Γ fun rv Γ1=>Q (.nx (Γ1.set i rv.sl))):eV i oa Γ Q:=h
theorem aR3 {Q:Fl→Prop}(h:md Γ fun ds Γ1=>match ds with|[d,e]=>Q (.nx ((Γ1.set i (.val d)).set j (.val e)))|_=>False):aRJ i j md Γ Q:=h
theorem aS0 {Q:Fl→Prop}(h:oa Γ fun rv _=>Q (.rt rv)):gQ oa Γ Q:=h
theorem aUM {Q:Fl→Prop}(h:ta Γ fun k Γ1=>if k=true then sa Γ1 Q else sb Γ1 Q):mIf ta sa sb Γ Q:=h
theorem aT7 {Q:Fl→Prop}(h:md Γ fun ds Γ1=>forL g sa ds Γ1 Q):aM2 md g sa Γ Q:=h
def aT2 (i:Nat)(d:D)(Γ1:En)(Q:Fl→Prop):Prop:=match Γ1[i]? with
 | some (.own ds)=>ds.length<1000∧Q (.nx (Γ1.set i (.own (ds++[d]))))
 | _=>False
theorem aJ9 {Q:Fl→Prop}{ds:List D}(h0:Γ[i]?=some (.own ds))(h:ma Γ fun d Γ1=>aT2 i d Γ1 Q):wV i ma Γ Q:=by
 unfold wV;rw[h0];exact h
theorem aFN {Q:Fl→Prop}{Γ1:En}{ds:List D}(h0:Γ1[i]?=some (.own ds))(h1:ds.length<1000)(h:Q (.nx (Γ1.set i (.own (ds++[d]))))):aT2 i d Γ1 Q:=by
 unfold aT2;rw[h0];exact⟨h1,h⟩
theorem aNT {Q:Fl→Prop}{ds:List D}(h0:Γ[i]?=some (.own ds))(h:sa (Γ.set i (.val (.list ds))) Q):aCP i sa Γ Q:=by
 unfold aCP;rw[h0];exact h
theorem i_c {Q:D→En→Prop}(h:Q d Γ):mC d Γ Q:=h
theorem a8S {Q:D→En→Prop}(h0:Γ[i]?=some (.val d))(h:Q d Γ):aO i Γ Q:=by
 unfold aO;rw[h0];exact h
theorem aV4 {f:Int→Int→D}{Q:D→En→Prop}(h:ma Γ fun x Γ1=>mb Γ1 fun y Γ2=>match x,y with|.int i,.int j=>Q (f i j) Γ2|_,_=>False):mI0 f ma mb Γ Q:=h
theorem i_I {C:Int→Int→Prop}{f:Int→Int→D}{Q:D→En→Prop}(h:ma Γ fun x Γ1=>mb Γ1 fun y Γ2=>match x,y with|.int i,.int j=>C i j∧Q (f i j) Γ2|_,_=>False):mI C f ma mb Γ Q:=h
theorem i_U {f:Int→D}{Q:D→En→Prop}(h:ma Γ fun x Γ1=>match x with|.int i=>Q (f i) Γ1|_=>False):mU f ma Γ Q:=h
theorem aRQ {Q:D→En→Prop}(h:ma Γ fun x Γ1=>match x with|.int i=>Q (.int (if i<0 then -i else i)) Γ1|_=>False):aKD ma Γ Q:=h
theorem aNK {Q:D→En→Prop}(h:ma Γ fun x Γ1=>match x with|.int i=>Q (.int i) Γ1|.bool b=>Q (.int (if b then 1 else 0)) Γ1|_=>False):aJJ ma Γ Q:=h
theorem aUP {Q:D→En→Prop}(h:ma Γ fun x Γ1=>mb Γ1 fun y Γ2=>Good x∧Good y∧Q (.bool (PyData.eqv x y)) Γ2):mEq ma mb Γ Q:=h
theorem aUT {Q:D→En→Prop}(h:ma Γ fun x Γ1=>mb Γ1 fun y Γ2=>Good x∧Good y∧Q (.bool (!PyData.eqv x y)) Γ2):mNe ma mb Γ Q:=h
theorem aRC {Q:D→En→Prop}(h:ma Γ fun x Γ1=>Q (.bool (isN x)) Γ1):aN4 ma Γ Q:=h
theorem aO6 {Q:D→En→Prop}(h:ma Γ fun x Γ1=>Q (.bool (!isN x)) Γ1):a7Z ma Γ Q:=h
theorem aP6 {Q:D→En→Prop}(h:ma Γ fun x Γ1=>match x with|.bool c=>if c=true then mb Γ1 Q else Q (.bool false) Γ1|_=>False):yQ ma mb Γ Q:=h
theorem aOJ {Q:D→En→Prop}(h:ma Γ fun x Γ1=>match x with|.bool c=>Q (.bool (!c)) Γ1|_=>False):aL9 ma Γ Q:=h
theorem aSN {Q:Bool→En→Prop}(h:ma Γ fun x Γ1=>match x with|.bool c=>Q c Γ1|_=>False):dF ma Γ Q:=h
theorem aSO {Q:Bool→En→Prop}(h:ta Γ fun c Γ1=>if c=true then tb Γ1 Q else Q false Γ1):aG5 ta tb Γ Q:=h
theorem aUR {Q:Bool→En→Prop}(h:ta Γ fun c Γ1=>if c=true then Q true Γ1 else tb Γ1 Q):mOr ta tb Γ Q:=h
theorem aSX {Q:Bool→En→Prop}(h:ta Γ fun c Γ1=>Q (!c) Γ1):a5S ta Γ Q:=h
theorem aS2 {Q:D→En→Prop}(h:ta Γ fun c Γ1=>if c=true then ma Γ1 Q else mb Γ1 Q):aS8 ta ma mb Γ Q:=h
theorem aRG {Q:Rv→En→Prop}(h:ta Γ fun c Γ1=>if c=true then oa Γ1 Q else ob Γ1 Q):aRP ta oa ob Γ Q:=h
theorem aS1 {Q:List D→En→Prop}(h:Q [] Γ):lO Γ Q:=h
theorem aP3 {Q:List D→En→Prop}(h:ma Γ fun x Γ1=>md Γ1 fun xs Γ2=>Q (x::xs) Γ2):bN ma md Γ Q:=h
theorem aO7 {Q:List Sl→En→Prop}(h:Q [] Γ):cB Γ Q:=h
theorem aP5 {Q:List Sl→En→Prop}(h:ma Γ fun x Γ1=>aa Γ1 fun xs Γ2=>Q (.val x::xs) Γ2):bC ma aa Γ Q:=h
theorem aQZ {Q:D→En→Prop}(h:md Γ fun ds Γ1=>ds.length≤1000∧Q (.tuple ds) Γ1):yG md Γ Q:=h
theorem aQY {Q:Rv→En→Prop}(h:md Γ fun ds Γ1=>ds.length≤1000∧Q (.own ds) Γ1):a4L md Γ Q:=h
theorem aTW {Q:D→En→Prop}(h:ma Γ fun x Γ1=>mb Γ1 fun y Γ2=>oQ (ixD x y) fun d=>Q d Γ2):mIx ma mb Γ Q:=h
theorem aSS {Q:D→En→Prop}(h:ma Γ fun x Γ1=>oQ (aN2 x) fun d=>Q d Γ1):aAO ma Γ Q:=h
theorem aR4 {s:String}{Q:D→En→Prop}(h:ma Γ fun x Γ1=>Q (.bool (aET (pZ x) s)) Γ1):aCO s ma Γ Q:=h
theorem aS7 {Q:D→En→Prop}(h:oa Γ fun rv Γ1=>nbQ rv (Q rv.d Γ1)):c7 oa Γ Q:=h
theorem aQA {Q:Rv→En→Prop}(h:ma Γ fun d Γ1=>Q (.val d) Γ1):cG ma Γ Q:=h
theorem aPF {Q:Rv→En→Prop}{ds:List D}(h0:Γ[i]?=some (.own ds))(h:Q (.own ds) (Γ.set i .no)):a9M i Γ Q:=by
 unfold a9M;rw[h0];exact h
theorem aON {f:Fm}{Q:Rv→En→Prop}(h:aa Γ fun as Γ1=>as.length=n∧f as fun rv=>Q rv Γ1):bM n f aa Γ Q:=h
theorem aIT {Q:Rv→En→Prop}(h:ma Γ fun x Γ1=>match xT x with|some ds=>Q (.own ds) Γ1|none=>False):zL ma Γ Q:=h
theorem aT0 {Q:Rv→En→Prop}(h:ma Γ fun x Γ1=>mp Γ1 fun lo Γ2=>mq Γ2 fun hi Γ3=>match x with|.list ds=>Q (.own (cutD ds lo hi)) Γ3|_=>False):aQS ma mp mq Γ Q:=h
theorem aRA {Q:Option Int→En→Prop}(h:Q none Γ):pNo Γ Q:=h
theorem aSM {Q:Option Int→En→Prop}(h:ma Γ fun x Γ1=>match x with|.int i=>Q (some i) Γ1|_=>False):pSo ma Γ Q:=h
theorem aS4 {Q:Rv→En→Prop}(h:ma Γ fun x Γ1=>mb Γ1 fun y Γ2=>match x,y with|.list ds,.list es=>ds.length+es.length≤1000∧Q (.own (ds++es)) Γ2|_,_=>False):aRL ma mb Γ Q:=h
theorem aUS {neg:Bool}{Q:D→En→Prop}(h:ma Γ fun x Γ1=>mb Γ1 fun y Γ2=>match xT y with|some ds=>Good x∧Goods ds∧Q (.bool (if neg then !(ds.any fun e=>PyData.eqv e x) else ds.any fun e=>PyData.eqv e x)) Γ2|none=>False):mIn neg ma mb Γ Q:=h
theorem aP7 {Q:D→En→Prop}(h:ma (a0O Γ) fun d Γ1=>eN d=true∧Γ1=a0O Γ∧Q d Γ):aHA ma Γ Q:=h
theorem aKL {Q:Bool→En→Prop}(h:ta (a0O Γ) fun b Γ1=>Γ1=a0O Γ∧Q b Γ):a7O ta Γ Q:=h
theorem aMK {Q:Rv→En→Prop}(h:oa (a0O Γ) fun rv Γ1=>bV (match rv with|.val d=>[d]|.own ds=>ds|.box _=>[.list []])=true∧Γ1=a0O Γ∧Q rv Γ):zW oa Γ Q:=h
theorem aR1 {Q:List D→En→Prop}(h:ma Γ fun x Γ1=>match x with|.list ds=>Q ds Γ1|_=>False):aCW ma Γ Q:=h
theorem aRS {Q:List D→En→Prop}(h:ma Γ fun x Γ1=>match x with|.tuple ds=>Q ds Γ1|_=>False):aRU ma Γ Q:=h
theorem aNL {Q:List D→En→Prop}(h:md Γ fun ds Γ1=>match ds with|[.int j] => -(2^62)≤j∧j<2^62∧Q (jK 0 j.toNat) Γ1|_=>False):aMS md Γ Q:=h
theorem aV1 {Q:En→Prop}(h:Q (Γ.set i (.val d))):gN i d Γ Q:=h
theorem aV3 {Q:En→Prop}{ds:List D}(hl:ds.length=n)(h:gs ds Γ Q):gT n gs (.tuple ds) Γ Q:=⟨hl,h⟩
theorem aM6 {Q:En→Prop}(h:Q Γ):aHK [] Γ Q:=h
theorem aIL {Q:En→Prop}{ds:List D}(h:g d Γ fun Γ1=>gs ds Γ1 Q):yC g gs (d::ds) Γ Q:=h
theorem nD {k:Nat}{as:List Sl}{Q:Rv→Prop}(h:sa (as++List.replicate k .no) fun fl=>match fl with|.rt rv=>Q rv|.nx _=>Q (.val .none)|_=>False):mFn k sa as Q:=h
theorem cC {o:Option D}{k:D→Prop}(h0:o=some d)(h:k d):oQ o k:=by rw[h0]; exact h
structure KOk (I:En→Prop)(Q K:Fl→Prop):Prop where
 nx:∀ Γ,I Γ→K (.nx Γ)
 ct:∀ Γ,I Γ→K (.ct Γ)
 bk:∀ Γ,Q (.nx Γ)→K (.bk Γ)
 rt:∀ rv,Q (.rt rv)→K (.rt rv)
theorem a0M {ds:List D}{Q:Fl→Prop}(I:Nat→En→Prop)(h0:I 0 Γ)(hs:∀ i d Γ K,ds[i]?=some d→I i Γ→KOk (I (i+1)) Q K→g d Γ fun Γ1=>sa Γ1 K)(he:∀ Γ,I ds.length Γ→Q (.nx Γ)):forL g sa ds Γ Q:=by
 have aux:∀(es:List D) (k:Nat) (Γ:En),(∀ i d,es[i]?=some d→ds[k+i]?=some d)→k+es.length=ds.length→I k Γ→forL g sa es Γ Q:=by
  intro es
  induction es with
  | nil=>intro k Γ _ hl hi; exact he Γ (by rw[← hl]; simpa using hi)
  | cons d es ih=>
   intro k Γ hd hl hi;have next:∀ Γ2,I (k+1) Γ2→forL g sa es Γ2 Q:=fun Γ2 h3=>ih (k+1) Γ2 (fun i e he'=>by
    have:=hd (i+1) e (by simpa using he');rw[show k+1+i=k+(i+1) by omega]; exact this) (by rw[← hl,List.length_cons]; omega) h3
   exact hs k d Γ _ (by simpa using hd 0 d rfl) hi ⟨next,next,fun _ h=>h,fun _ h=>h⟩
 exact aux ds 0 Γ (fun i d h=>by simpa using h) (by simp) h0
theorem aEZ {lo:Int}{n:Nat}{Q:Fl→Prop}(I:Nat→En→Prop)(h0:I 0 Γ)(hs:∀ i Γ K,i<n→I i Γ→KOk (I (i+1)) Q K→g (.int (lo+i)) Γ fun Γ1=>sa Γ1 K)(he:∀ Γ,I n Γ→Q (.nx Γ)):forL g sa (jK lo n) Γ Q:=by
 have hl:(jK lo n).length=n:=by simp[jK]
 refine a0M I h0 (fun i d Γ K e hi hk=>?_) (by rw[hl]; exact he);have hi':i<n:=by have:=(List.getElem?_eq_some_iff.mp e).1; omega
 unfold jK at e;rw[List.getElem?_map,List.getElem?_range hi'] at e
 cases e
 exact hs i Γ K hi' hi hk
theorem vR {Q:Fl→Prop}(I:Nat→En→Prop)(m0:Nat)(h0:I m0 Γ)(hs:∀ m Γ,I m Γ→ta Γ fun k Γ1=>if k=true then sa Γ1 fun fl=>match fl with
  | .nx Γ2=>∃ n',n'<m∧I n' Γ2
  | .ct Γ2=>∃ n',n'<m∧I n' Γ2
  | .bk Γ2=>Q (.nx Γ2)
  | .rt rv=>Q (.rt rv)
 else Q (.nx Γ1)):a0R ta sa Γ Q:=⟨I,⟨m0,h0⟩,hs⟩
end
theorem aRK {A B:Prop}(h:B):if (!true)=true then A else B:=a2W h
theorem aSE {A B:Prop}(h:A):if (!false)=true then A else B:=a5U h
theorem good_int (i:Int):Good (.int i):=⟨rfl,by show 0≤60; decide⟩
theorem aKY (i j:Int):PyData.eqv (.int i) (.int j)=decide (i=j):=by
 show(i==j)=_
 exact Bool.beq_eq_decide_eq i j
section
variable {P:D→Prop}{Γ:En}{Q:D→En→Prop}
end
def Gd (n:Nat)(d:D):Prop:=d.canLay0=true∧d.depth≤n
theorem Gd.good {n:Nat}{d:D}(h:Gd n d)(hn:n≤60:=by decide):Good d:=⟨h.1,Nat.le_trans h.2 hn⟩
theorem Gd.mono {n m:Nat}{d:D}(h:Gd n d)(hn:n≤m:=by decide):Gd m d:=⟨h.1,Nat.le_trans h.2 hn⟩
theorem gds {n:Nat}:∀{ds:List D},(∀ d∈ds,Gd n d)→PyData.canLayAll0 ds=true∧PyData.depthAll ds≤n
 | [],_=>⟨rfl,Nat.zero_le _⟩
 | d::ds,h=>by
  have h1:=h d List.mem_cons_self;have h2:=gds (ds:=ds) fun e he=>h e (List.mem_cons_of_mem _ he);refine⟨by show(d.canLay0&&PyData.canLayAll0 ds)=true; rw[h1.1,h2.1]; rfl,?_⟩;show max d.depth (PyData.depthAll ds)≤n;exact Nat.max_le.mpr ⟨h1.2,h2.2⟩
theorem aEF {n:Nat}{ds:List D}(h:∀ d∈ds,Gd n d):Gd (n+1) (.tuple ds):=⟨(gds h).1,Nat.succ_le_succ (gds h).2⟩
theorem aB4 {n:Nat}{ds:List D}(h:∀ d∈ds,Gd n d):Gd (n+1) (.list ds):=⟨(gds h).1,Nat.succ_le_succ (gds h).2⟩
theorem aBD {n:Nat}{ds:List D}(h:∀ d∈ds,Gd n d)(hn:n≤59:=by decide):Goods ds:=⟨(gds h).1,Nat.le_trans (gds h).2 hn⟩
theorem a6W (i:Int):Gd 0 (.int i):=⟨rfl,Nat.le_refl _⟩
theorem gd_none:Gd 0 .none:=⟨rfl,Nat.le_refl _⟩
theorem aQL (s:Str)(h:(PyData.str s).canLay0=true:=by decide +kernel):Gd 0 (.str s):=⟨h,Nat.le_refl _⟩
theorem good_str (s:Str)(h:(PyData.str s).canLay0=true:=by decide +kernel):Good (.str s):=(aQL s h).good
theorem aP8 (q:Rat):Gd 1 (bO q):=aEF (n:=0) fun d h=>by
 rcases List.mem_cons.mp h with rfl|h
 ·exact a6W _
 ·rw[List.mem_singleton.mp h]; exact a6W _
theorem yX {d:D}(h:Good d):PyData.eqv d d=true:=SeqAt.eqv_refl d h.lay
theorem isT {d:D}{n:String}{A B:Prop}(h:aET (pZ d) n=true)(a:A):if aET (pZ d) n=true then A else B:=by rw[h]; exact a5U a
theorem aUL {d:D}{n:String}{A B:Prop}(h:aET (pZ d) n=true)(b:B):if (!aET (pZ d) n)=true then A else B:=by rw[h]; exact a2W b
theorem aL5 (q:Rat):ixD (bO q) (.int 0)=some (.int q.num):=rfl
theorem aKM (q:Rat):ixD (bO q) (.int 1)=some (.int (q.den:Int)):=rfl
theorem aI4 (l:Rat×Rat):ixD (fX l) (.int 0)=some (bO l.1):=rfl
theorem aJ6 (l:Rat×Rat):ixD (fX l) (.int 1)=some (bO l.2):=rfl
end L2.VS
namespace L2
open PySem PySem.Spec PyProof.Rows
def aA2 (env:Env):List (Str×NameKind)→List (Str×Addr)→List (Str×Addr)
 | [],cs=>cs
 | (n,k)::r,cs=>if (k==.free)=true then aA2 env r ((n,(env.cells.lookup n).getD 0)::cs) else aA2 env r cs
theorem aE6 {env:Env}:∀(names:List (Str×NameKind)) (cs:List (Str×Addr)),(∀ y∈names,y.2=.free→∃ c,env.cells.lookup y.1=some c) →
  (forIn names cs fun(x:Str×NameKind) (r:List (Str×Addr))=>(do
   if (x.2==NameKind.free)=true then do
    let a←cellOf env x.1
    pure (ForInStep.yield ((x.1,a)::r))
   else pure (ForInStep.yield r):Sem (ForInStep (List (Str×Addr)))))=pure (aA2 env names cs)
 | [],cs,_=>rfl
 | (n,k)::r,cs,h=>by
  have ih:=fun cs=>aE6 (env:=env) r cs fun y hy=>h y (List.mem_cons_of_mem _ hy);rw[List.forIn_cons];unfold aA2
  by_cases hk:(k==NameKind.free)=true
  ·obtain⟨c,hc⟩:=h (n,k) List.mem_cons_self (by simpa using hk);have hc':env.cells.lookup n=some c:=hc;have e:cellOf env n=pure c:=by unfold cellOf; rw[hc']
   simp only[hk,if_true,e,hc',Option.getD_some];simp only[pure_bind];exact ih _
  ·have hk':(k==NameKind.free)=false:=by simpa using hk
   simp only[hk',Bool.false_eq_true,if_false,pure_bind];exact ih _
theorem aL3 {scope:Scope}{env:Env}(h:∀ y∈scope.names,y.2=.free→∃ c,env.cells.lookup y.1=some c):closureFor scope env=pure (aA2 env scope.names []):=by
 have e:=aE6 (env:=env) scope.names [] h;unfold closureFor;rw[← e];simp only[bind_pure]
theorem uT {env:Env}:∀(names:List (Str×NameKind)) (cs:List (Str×Addr)),(∀ y∈names,y.2=.free→∃ c,env.cells.lookup y.1=some c)→(∀ x c,cs.lookup x=some c→env.cells.lookup x=some c) →
  ∀ x c,(aA2 env names cs).lookup x=some c→env.cells.lookup x=some c
 | [],cs,_,h=>h
 | (n,k)::r,cs,hf,h=>by
  have ih:=fun cs=>uT (env:=env) r cs fun y hy=>hf y (List.mem_cons_of_mem _ hy);unfold aA2
  by_cases hk:(k==NameKind.free)=true
  ·rw[if_pos hk];obtain⟨c0,hc⟩:=hf (n,k) List.mem_cons_self (by simpa using hk);have hc':env.cells.lookup n=some c0:=hc;refine ih _ fun x c e=>?_;rw[List.lookup_cons] at e
   cases hx:x==n with
   | true=>
    rw[hx,hc'] at e;have:x=n:=by simpa using hx
    rw[this,hc'];exact e
   | false=>rw[hx] at e; exact h x c e
  ·rw[if_neg hk];exact ih _ h
theorem yS {env:Env}:∀(names:List (Str×NameKind)) (cs:List (Str×Addr)) (x:Str),((∃ k,(x,k)∈names∧k=.free)∨(cs.lookup x).isSome=true)→((aA2 env names cs).lookup x).isSome=true
 | [],cs,x,h=>by
  rcases h with⟨k,hm,_⟩|h
  ·cases hm
  ·exact h
 | (n,k)::r,cs,x,h=>by
  unfold aA2
  by_cases hk:(k==NameKind.free)=true
  ·rw[if_pos hk];refine yS r _ x ?_
   by_cases hx:x=n
   ·right
    rw[List.lookup_cons,hx];simp
   ·rcases h with⟨k',hm,hf⟩|h
    ·rcases List.mem_cons.mp hm with e|hm
     ·cases e; exact absurd rfl hx
     ·exact .inl ⟨k',hm,hf⟩
    ·right
     rw[List.lookup_cons];have:(x==n)=false:=by simpa using hx
     rw[this];exact h
  ·rw[if_neg hk];refine yS r _ x ?_;rcases h with⟨k',hm,hf⟩|h
   ·rcases List.mem_cons.mp hm with e|hm
    ·cases e; subst hf; exact absurd rfl hk
    ·exact .inl ⟨k',hm,hf⟩
   ·exact .inr h
theorem qH {env:Env}:∀{names:List (Str×NameKind)} {x:Str},(∀ y∈names,y.2≠.cell) →
    ((names.map fun(n,k)=>if (k==NameKind.free&&env.scope.kind==.function&&env.kindOf n==some .cell) then(n,NameKind.cell) else(n,k)).lookup x=some .cell ∨
     (names.map fun(n,k)=>if (k==NameKind.free&&env.scope.kind==.function&&env.kindOf n==some .cell) then(n,NameKind.cell) else(n,k)).lookup x=some .free)→(x,NameKind.free)∈names
  | [],_,_,h=>by simp at h
  | (n,k)::r,x,hc,h=>by
    have ih:=@qH env r x (fun y hy=>hc y (List.mem_cons_of_mem _ hy));have hk:k≠.cell:=hc (n,k) List.mem_cons_self;rw[List.map_cons] at h
    by_cases hf:(k==NameKind.free&&env.scope.kind==.function&&env.kindOf n==some .cell)=true
    · have kf:k=.free:=by
        have:=(Bool.and_eq_true _ _▸hf:_∧_).1;have:=(Bool.and_eq_true _ _▸this:_∧_).1;simpa using this
      simp only[hf,if_true] at h;rw[List.lookup_cons] at h
      cases hx:x==n with
      | true=>
        have:x=n:=by simpa using hx
        subst this; subst kf;exact List.mem_cons_self
      | false=>rw[hx] at h; exact List.mem_cons_of_mem _ (ih h)
    · simp only[hf,Bool.false_eq_true,if_false] at h;rw[List.lookup_cons] at h
      cases hx:x==n with
      | true=>
        have:x=n:=by simpa using hx
        subst this;rw[hx] at h;rcases h with h|h
        · exact absurd (Option.some.inj h) hk
        · have:k=.free:=Option.some.inj h;subst this;exact List.mem_cons_self
      | false=>rw[hx] at h; exact List.mem_cons_of_mem _ (ih h)
def oH (X:Cx)(N:List Str)(scope:Scope)(C:Addr)(s₀:Shared)(H₀:Hp)(ex:List Addr):Cx where
 prog:=X.prog
 w:=X.w
 K:=X.K
 mg:=X.mg
 base:=X.base
 A:=X.A
 N:=N
 s₀:=s₀
 H₀:=H₀
 env:=compEnvC scope (aA2 X.env scope.names []) C X.env
 outer:=X.stack
 stack:=X.stack
 ex:=ex
 fn:=fun _=>false
 calm:=X.calm
 pn:=[]
 xe:=fun _ _=>False
def blk (nt:Nat)(fv:List Nat)(σ:St):St:=List.replicate nt none++fv.map fun j=>(σ[j]?).getD none
def aO5 (nt:Nat)(fv:List Nat)(wi:TI)(g:TG)(ti:TT)(te:TE):TE:=fun σ H Q=>wi σ H fun J H1=>∃ W:Nat→Nat→List V→Hp→Prop,(∃ m,W 0 m [] H1)∧∀ i m ys H,W i m ys H →
 (J.stop i H∧ys.length≤sizeLine∧∀ p,H p=none→Q (.ref p) (upd H p (.lst ys))) ∨
 (J.go i H∧ys.length≤sizeLine∧∀ x H',J.yld i H x H'→g x (blk nt fv σ) H' fun σ2 H2=>(∀ i,nt≤i→σ2[i]?=(blk nt fv σ)[i]?)∧ti σ2 H2 fun b H3=>if b=true then te σ2 H3 fun v H4=>∃ m',m'<m∧W (i+1) m' (ys++[v]) H4 else ∃ m',m'<m∧W (i+1) m' ys H3)
def PTs (X:Cx)(cs:List Expr)(t:TT):Prop:=
 ∀(pins:List (Addr×Obj)) (s:Shared) (σ:St) (H:Hp) (Q:Bool→Hp→Prop),Inv X pins σ H s→t σ H Q →
  wpAny (model X.prog X.w) X.A (forIn cs true fun c r=>if r=true then do let ok←isTrue c X.env (eval c X.env); pure (ForInStep.yield ok) else pure (ForInStep.yield r)) (TP X pins σ Q) X.xe s
def aPE:TT:=fun _ H Q=>Q true H
theorem uE {X:Cx}:PTs X [] aPE:=fun _ _ _ H _ I h=>wpAny_tests_nil ⟨H,I,h⟩
theorem a4X {X:Cx}{c:Expr}{t:TT}(h:PT X c t):PTs X [c] t:=fun pins s σ H Q I hq=>wpAny_tests_one (h pins s σ H Q I hq)
structure BlkOk (X:Cx)(N:List Str)(scope:Scope)(nt:Nat)(fv:List Nat):Prop where
 kind:scope.kind=.function
 ncell:∀ y∈scope.names,y.2≠.cell
 names:∀ y∈scope.names,y.2=.local→scope.names.lookup y.1=some .local
 free:∀ y∈scope.names,y.2=.free→X.env.kindOf y.1=some .cell
 len:N.length=nt+fv.length
 fv:∀ i x,N[nt+i]?=some x→∃ j,fv[i]?=some j∧X.N[j]?=some x∧X.env.kindOf x=some .cell∧(relabel scope X.env).names.lookup x=some .cell
section
variable {X:Cx}{N:List Str}{scope:Scope}{nt:Nat}{fv:List Nat}{pins:List (Addr×Obj)}{σ:St}{H:Hp}{s:Shared}
theorem BlkOk.cells (B:BlkOk X N scope nt fv)(I:Inv X pins σ H s):∀ y∈scope.names,y.2=.free→∃ c,X.env.cells.lookup y.1=some c:=fun y hy hf=>I.ok.has y.1 (.inl (B.free y hy hf))
theorem aNY (B:BlkOk X N scope nt fv)(I:Inv X pins σ H s){C:Addr}{fp:List Addr}(hC:s.heap.objs.size≤C)(hf:∀ b∈fp,aDQ X pins H b)(hlt:∀ b∈fp,b<s.heap.objs.size) :
  (oH X N scope C s H fp).Ok:=by
 have sub:∀ x c,(aA2 X.env scope.names []).lookup x=some c→X.env.cells.lookup x=some c:=uT _ _ (B.cells I) (fun x c e=>by simp at e);refine⟨I.ok.mod,B.kind,I.ok.glob,I.ok.blt,hC,fun x y c e1 e2=>I.ok.inj x y c (sub x c e1) (sub y c e2),fun x hx=>?_,fun x c h=>absurd h (by show ¬(false=true); decide),I.ok.hd,I.ok.frames,.inl rfl,fun b hb=>⟨?_,fun x c e=>?_⟩,I.bs,Nat.le_trans I.ok.bsz I.sz,fun b o e hb=>?_,fun b hb z=>?_,I.stack,I.stkFree⟩
 ·have hm:(x,NameKind.free)∈scope.names:=qH B.ncell hx;exact Option.isSome_iff_exists.mp (yS scope.names [] x (.inl ⟨_,hm,rfl⟩))
 ·exact Nat.ne_of_lt (Nat.lt_of_lt_of_le (hlt b hb) hC)
 ·exact(hf b hb).2.2.2.2.1 x c (sub x c e)
 ·rcases(hf b hb).2.2.2.1 with z|z
  ·exact I.ok.noex b o e z
  ·exact absurd (Nat.lt_of_lt_of_le (Heap.lt_size e) (Nat.le_trans I.ok.bsz z)) (Nat.lt_irrefl _)
 ·rcases List.mem_cons.mp (I.stkSub b z) with z|z
  ·exact(hf b hb).2.1 z
  ·exact(hf b hb).2.2.1 z
theorem aH4 (B:BlkOk X N scope nt fv)(I:Inv X pins σ H s){C:Addr}{fp:List Addr}(hC:s.heap.objs.size≤C)(hf:∀ b∈fp,aDQ X pins H b)(hlt:∀ b∈fp,b<s.heap.objs.size){h':Heap}{tk:Nat}
  (k:∀ b o,s.heap.get? b=some o→h'.get? b=some o) (hn:∃ m,h'.Ns C m):Inv (oH X N scope C s H fp) [] (blk nt fv σ) H { s with heap:=h',toks:=tk }:=by
 have sub:∀ x c,(aA2 X.env scope.names []).lookup x=some c→X.env.cells.lookup x=some c:=uT _ _ (B.cells I) (fun x c e=>by simp at e);obtain⟨m,hn⟩:=hn;refine⟨aNY B I hC hf hlt,rfl,I.bare,Un.kept k,⟨m,hn,fun i x v e1 e2 e3=>?_⟩,fun x c e=>?_,I.hok.fresh hC,fun x c e=>I.freeC x c (sub x c e),fun p hp=>(nomatch hp),I.hok.kept k,?_⟩
 ·have hi:nt≤i:=by
   refine Nat.le_of_not_lt fun hlt=>?_;unfold blk at e2;rw[List.getElem?_append_left (by simpa using hlt),List.getElem?_replicate] at e2
   split at e2<;>cases e2
  obtain⟨j,hj⟩:∃ j,i=nt+j:=⟨i-nt,by omega⟩;subst hj;obtain⟨o,f1,f2,f3,f4⟩:=B.fv j x e1;unfold blk at e2;rw[List.getElem?_append_right (by simp),List.length_replicate,Nat.add_sub_cancel_left,List.getElem?_map,f1] at e2;have e2':(σ[o]?).getD none=some v:=Option.some.inj e2;have e4:σ[o]?=some (some v):=by
   cases q:σ[o]? with
   | none=>rw[q] at e2'; cases e2'
   | some z=>rw[q] at e2'; exact congrArg some e2'
  obtain⟨m0,hn0,hl⟩:=I.loc;obtain⟨u,ru,lk⟩:=hl o x v f2 e4 (.inr (.inl f3));refine⟨u,ru,.inr ⟨.inl f4,?_⟩⟩;rcases lk with⟨z,_⟩|⟨_,c,hc,hcell⟩
  ·rw[f3] at z; cases z
  ·have hm:(x,NameKind.free)∈scope.names:=qH B.ncell (.inl f4);obtain⟨c',hc'⟩:=Option.isSome_iff_exists.mp (yS (env:=X.env) scope.names [] x (.inl ⟨_,hm,rfl⟩));have:=sub x c' hc';rw[hc] at this
   cases this
   obtain⟨oc,h1,h2⟩:=hcell;exact⟨c,hc',oc,k c oc h1,h2⟩
 ·obtain⟨v,oc,h1,h2⟩:=I.cell x c (sub x c e);exact⟨v,oc,k c oc h1,h2⟩
 ·show(blk nt fv σ).length=N.length
  unfold blk;rw[List.length_append,List.length_replicate,List.length_map];exact B.len.symm
end
section
variable {prog:Program}{w:World}{A:Around}{R:Result→Shared→Prop}{s:Shared}
theorem a89 {elt target iter:Expr}{ifs:List Expr}{scope:Scope}{pos:Pos}{it acc:Value}{env:Env}(I:Nat→Shared→Prop)
  (turn:∀ n s,I n s→wpAny (model prog w) A (pyNext it) (fun r s₁=>match r with
   | none=>R (.ok .next) s₁
   | some v=>wpAny (model prog w) A (letOwnedTupleGo target it v) (fun _ s₁'=>wpAny (model prog w) A (assign target env v) (fun _ s₂=>
     wpAny (model prog w) A (forIn ifs true fun c r=>if r=true then do let ok←isTrue c env (eval c env); pure (ForInStep.yield ok) else pure (ForInStep.yield r)) (fun ok s₃=>
      if ok=true then wpAny (model prog w) A (eval elt env) (fun x s₄=>
       wpAny (model prog w) A (call (.builtin "list.append") [acc,x]) (fun _ s₅=>∃ m,m<n∧I m s₅) (fun _ _=>False) s₄) (fun _ _=>False) s₃
      else ∃ m,m<n∧I m s₃) (fun _ _=>False) s₂) (fun _ _=>False) s₁') (fun _ _=>False) s₁) (fun _ _=>False) s)
  (n:Nat) (h:I n s) :
  codeAny (model prog w) A (.compLoop (.ListComp elt [⟨target,iter,ifs,0⟩] scope pos) 0 it acc env) R s:=by
 refine codeAny_loop rfl I (fun n s hI=>?_) n h;show wpAny _ A ((compTurn (.ListComp elt [⟨target,iter,ifs,0⟩] scope pos) 0 it acc env).onRaise (fun x=>do noteFrame x env; theTreesLotGoes x)) _ _ s;refine wpAny_noted ?_;rw[compTurn_list];refine wpAny_bind (wpAny_standAt (wpAny_bind (wpAny_mono (turn n s hI) (fun r s₁ h₁=>?_) fun _ _ f=>f.elim)))
 cases r with
 | none=>exact wpAny_pure h₁
 | some v=>
  refine wpAny_bind (wpAny_mono h₁ (fun _ s₁' h₁'=>?_) fun _ _ f=>f.elim);refine wpAny_bind (wpAny_mono h₁' (fun _ s₂ h₂=>wpAny_bind (wpAny_mono h₂ (fun ok s₃ h₃=>?_) fun _ _ f=>f.elim)) fun _ _ f=>f.elim)
  cases ok with
  | false=>exact wpAny_pure ⟨rfl,h₃⟩
  | true=>
   exact wpAny_bind (wpAny_bind (wpAny_mono h₃ (fun x s₄ h₄=>wpAny_bind (wpAny_mono h₄ (fun _ s₅ h₅=>wpAny_pure (wpAny_pure ⟨rfl,h₅⟩)) fun _ _ f=>f.elim)) fun _ _ f=>f.elim))
end
end L2
namespace L2
open PySem PySem.Spec PyProof.Rows
section
variable {X:Cx}{N:List Str}{scope:Scope}{nt:Nat}{fv:List Nat}{elt tg iter:Expr}{ifs:List Expr}{wi:TI}{g:TG}{ti:TT}{te:TE}{pos:Pos}
def a05 (its:List Value)(n:Nat):Obj:={ cls:=.type "list", dict:=none,data:=.seq its.toArray n }
theorem aJK (hc:X.calm=true)(B:BlkOk X N scope nt fv)
  (hg:∀ C s₀ H₀ ex,PG (oH X N scope C s₀ H₀ ex) tg g) (ht:∀ C s₀ H₀ ex,PTs (oH X N scope C s₀ H₀ ex) ifs ti) (he:∀ C s₀ H₀ ex,PE (oH X N scope C s₀ H₀ ex) elt te)
  {pins:List (Addr×Obj)} {σ:St} {s2:Shared} {H2:Hp} {it:Addr} {fp:List Addr} {tn:Nat→Heap→Prop} {J:It} (I2:Inv X pins σ H2 s2) (T:Turn X.prog X.w X.K tg J fp it tn) (st2:tn 0 s2.heap) (f2:∀ b∈fp,aDQ X pins H2 b)
  {W:Nat→Nat→List V→Hp→Prop} {m0:Nat} (w0:W 0 m0 [] H2) {Q:VK}
  (turn:∀ i m ys H,W i m ys H→(J.stop i H∧ys.length≤sizeLine∧∀ p,H p=none→Q (.ref p) (upd H p (.lst ys))) ∨
   (J.go i H∧ys.length≤sizeLine∧∀ x H',J.yld i H x H'→g x (blk nt fv σ) H' fun σ2 H2=>(∀ i,nt≤i→σ2[i]?=(blk nt fv σ)[i]?)∧ti σ2 H2 fun b H3=>if b=true then te σ2 H3 fun v H4=>∃ m',m'<m∧W (i+1) m' (ys++[v]) H4 else ∃ m',m'<m∧W (i+1) m' ys H3))
  {RR:Value→Addr→Result→Shared→Prop}
  (hR:∀ D C s',s2.heap.objs.size≤C→(∃ m,s'.heap.Ns C m)→(∀ h',Heap.SameBut C s'.heap h'→∃ H',Inv X pins σ H' { s' with heap:=h' }∧H' C=none∧Q (.ref D) H')→RR (.ref D) C (.ok .next) s') :
  wpAny (model X.prog X.w) X.A (newList []) (fun acc s₃=>wpAny (model X.prog X.w) X.A (newFunctionEnv scope X.env.globals (aA2 X.env scope.names []) [] X.env.qual none .none (some X.env)) (fun cenv s₄=>
   codeAny (model X.prog X.w) X.A (.compStart (.ListComp elt [⟨tg,iter,ifs,0⟩] scope pos) 0 (.ref it) acc { cenv with scope:=relabel scope X.env }) (RR acc cenv.locals) s₄) X.xe s₃) X.xe s2:=by
 refine wpAny_newObj_type (wpAny_newFunctionEnv B.ncell (by intro y hy; simp at hy) (fun h₁ hns₁ hsb₁=>?_) B.kind);dsimp only at hns₁ hsb₁ ⊢;generalize hH2:s2.heap.push { cls:=.type "list", dict:=none,data:=.seq ([]:List Value).toArray }=Hh at hns₁ hsb₁ ⊢;have hC:Hh.objs.size=s2.heap.objs.size+1:=by rw[← hH2,Heap.size_push]
 have hDC:s2.heap.objs.size≠Hh.objs.size:=by rw[hC]; exact Nat.ne_of_lt (Nat.lt_succ_self _)
 have hCle:s2.heap.objs.size≤Hh.objs.size:=by rw[hC]; exact Nat.le_succ _
 have below:∀ b,b<s2.heap.objs.size→b≠Hh.objs.size∧b≠s2.heap.objs.size:=fun b hb=>⟨by rw[hC]; exact Nat.ne_of_lt (Nat.lt_succ_of_lt hb),Nat.ne_of_lt hb⟩;have old:∀ b o,s2.heap.get? b=some o→h₁.get? b=some o:=fun b o e=>hsb₁.extBut b o (below b (Heap.lt_size e)).1 (Heap.get?_push_of_some _ (hH2▸Heap.get?_push_of_some _ e));have hacc:h₁.get? s2.heap.objs.size=some (a05 [] 0):=hsb₁.extBut _ _ hDC (Heap.get?_push_of_some _ (hH2▸Heap.get?_push_size _ rfl));have flt:∀ b∈fp,b<s2.heap.objs.size:=fun b hb=>by obtain⟨o,e,_⟩:=T.obj 0 _ st2 b hb; exact Heap.lt_size e
 have fresh:∀ a,s2.heap.objs.size≤a→s2.heap.get? a=none:=fun a ha=>by
  cases e:s2.heap.get? a with
  | none=>rfl
  | some o'=>exact absurd (Heap.lt_size e) (Nat.not_lt.mpr ha)
 have ftk:∀{H':Hp} {pl:List (Addr×Obj)},(∀ b∈fp,H' b=none)→(∀ p∈pl,p.1∉fp)→∀ b∈fp,aDQ (oH X N scope Hh.objs.size s2 H2 fp) pl H' b:=fun{H' pl} hn hp b hb=>
  ⟨hn b hb,(below b (flt b hb)).1,fun z=>by
   rcases List.mem_cons.mp (I2.stkSub b z) with z|z
   ·exact(f2 b hb).2.1 z
   ·exact(f2 b hb).2.2.1 z,.inl hb,fun x c e=>(f2 b hb).2.2.2.2.1 x c (uT _ _ (B.cells I2) (fun x c e=>by simp at e) x c e),fun p hp' z=>hp p hp' (z▸hb)⟩
 have Dfp:s2.heap.objs.size∉fp:=fun hm=>Nat.lt_irrefl _ (flt _ hm);have Dfs:s2.heap.objs.size∉frs X.stack:=fun z=>by
  rcases List.mem_cons.mp (I2.stkSub _ z) with z|z
  ·exact Nat.lt_irrefl _ (z▸I2.lt)
  ·exact I2.nofs (Nat.le_refl _) z
 have Dcell:∀ x c,(aA2 X.env scope.names []).lookup x=some c→c≠s2.heap.objs.size:=fun x c e z=>by
  obtain⟨v,q⟩:=I2.cell x c (uT _ _ (B.cells I2) (fun x c e=>by simp at e) x c e);exact Nat.lt_irrefl _ (z▸q.lt)
 have Iblk:Inv (oH X N scope Hh.objs.size s2 H2 fp) [] (blk nt fv σ) H2 { s2 with heap:=h₁,toks:=s2.toks+([]:List (Str×Value)).length }:=aH4 B I2 hCle f2 flt old ⟨_,hns₁⟩;have pinD:∀{s':Shared} {H':Hp} {σ':St} {its:List Value} {n:Nat} {pl:List (Addr×Obj)},Inv (oH X N scope Hh.objs.size s2 H2 fp) pl σ' H' s'→s'.heap.get? s2.heap.objs.size=some (a05 its n)→H' s2.heap.objs.size=none →
   Inv (oH X N scope Hh.objs.size s2 H2 fp) [(s2.heap.objs.size,a05 its n)] σ' H' s':=fun I e hn=>I.pins_of fun p hp=>by
  rw[List.mem_singleton.mp hp];exact⟨e,hn,hDC,Dfs,fun v z=>by cases z⟩
 have loop:∀ s₃:Shared,s₃={ s2 with heap:=h₁,toks:=s2.toks+([]:List (Str×Value)).length } →
   codeAny (model X.prog X.w) X.A (.compLoop (.ListComp elt [⟨tg,iter,ifs,0⟩] scope pos) 0 (.ref it) (.ref s2.heap.objs.size) (compEnvC scope (aA2 X.env scope.names []) Hh.objs.size X.env)) (RR (.ref s2.heap.objs.size) Hh.objs.size) s₃:=by
  rintro s₃ rfl;refine a89 (fun n s'=>∃ i ys its k H',Inv (oH X N scope Hh.objs.size s2 H2 fp) [(s2.heap.objs.size,a05 its k)] (blk nt fv σ) H' s'∧tn i s'.heap∧(∀ b∈fp,H' b=none)∧W i n ys H'∧Vals ys its) ?_ m0
   ⟨0,[],[],0,H2,pinD Iblk hacc (I2.hok.fresh (Nat.le_refl _)),T.keep _ _ _ st2 fun b _ o e=>old b o e,fun b hb=>(f2 b hb).1,w0,.nil⟩
  rintro n s' ⟨i,ys,its,k,H',I',st',fr',w',vs'⟩;obtain⟨pd,pn,_,_,_⟩:=I'.pin (s2.heap.objs.size,a05 its k) (by exact List.mem_cons_self);have pfp:∀{o:Obj},∀ p∈[(s2.heap.objs.size,o)],p.1∉fp:=fun p hp=>by rw[List.mem_singleton.mp hp]; exact Dfp
  rcases turn i n ys H' w' with⟨stop,hz,q⟩|⟨go,hz,step⟩
  ·refine wpAny_mono (T.done (oH X N scope Hh.objs.size s2 H2 fp) rfl rfl rfl hc i _ s' _ H' (fun _ _=>False) I' (ftk fr' pfp) st' stop) (fun r s1 ⟨hr,I1⟩=>?_) fun _ _ f=>f;subst hr;obtain⟨pd1,pn1,_,_,_⟩:=I1.pin (s2.heap.objs.size,a05 its k) (by exact List.mem_cons_self);obtain⟨m,hm,_⟩:=I1.loc;refine hR _ _ s1 hCle ⟨m,hm⟩ fun h' sb=>⟨upd H' s2.heap.objs.size (.lst ys),?_,by rw[aM (Ne.symm hDC)]; exact I1.free,q _ pn1⟩;have keepT:∀ b u,H' b=some u→b≠Hh.objs.size:=fun b u e z=>by
    have e0:H' Hh.objs.size=none:=I1.free;rw[z,e0] at e
    cases e
   have kept:∀ b o,b≠Hh.objs.size→s1.heap.get? b=some o→h'.get? b=some o:=fun b o hb e=>sb.extBut b o hb e;have un:=I1.base;refine I2.call' (s':={ s1 with heap:=h' }) (ch:=fp) I1.os ⟨fun b o e hn hb hx=>?_,fun b o e hn hb hx=>?_,fun b o e hn hx=>?_,fun b o e hx=>?_,fun b xs e=>?_,fun b o u e=>?_,fun b ps e=>?_⟩ ?_ I1.bare fun b hb=>?_
   ·exact kept b o (below b (Heap.lt_size e)).1 (un.keep b o e hn hb hx)
   ·obtain⟨sl,e1⟩:=un.slot b o e hn hb hx;exact⟨sl,kept b _ (below b (Heap.lt_size e)).1 e1⟩
   ·rw[aM (below b (Heap.lt_size e)).2];exact un.free b o e hn hx
   ·obtain⟨o',e1⟩:=un.there b o e hx;exact⟨o',kept b o' (below b (Heap.lt_size e)).1 e1⟩
   ·have e1:=un.tups b xs e;rw[aM (b7 e1 pn1)];exact e1
   ·have e1:=un.frzs b o u e;rw[aM (b7 e1 pn1)];exact e1
   ·obtain⟨mo,e1⟩:=un.tbls b ps e;exact⟨mo,by rw[aM (b7 e1 pn1)]; exact e1⟩
   ·intro b u e
    by_cases hb:b=s2.heap.objs.size
    ·subst hb;rw[aV] at e
     cases e
     exact⟨hz,its,k,vs',kept _ _ hDC pd1⟩
    ·rw[aM hb] at e;refine(I1.hok b u e).stay (fun c v hc' q'=>kept c v ?_ q') (fun c q'=>by rw[aM (b7 q' pn1)]; exact q') fun c xs q'=>by rw[aM (b7 q' pn1)]; exact q'
     rcases hc' with z|z
     ·rw[z]; exact keepT b u e
     ·exact keepT c _ z
   ·exact⟨(f2 b hb).2.2.2.1,(f2 b hb).2.1,(f2 b hb).2.2.2.2.1,(f2 b hb).2.2.2.2.2⟩
  ·refine wpAny_mono (T.item (oH X N scope Hh.objs.size s2 H2 fp) rfl rfl rfl hc i _ s' _ H' (fun _ _=>False) I' (ftk fr' pfp) st' go) (fun r s3 ⟨u,hr,h3⟩=>?_) fun _ _ f=>f;subst hr;refine wpAny_mono h3 (fun _ s4 ⟨x,H4,I4,r4,y4,st4,fr4⟩=>?_) fun _ _ f=>f;have I4':=I4.pinned (ftk fr4 pfp) (T.obj _ _ st4);refine wpAny_mono (hg Hh.objs.size s2 H2 fp _ s4 _ H4 x u _ I4' r4 (step x H4 y4)) (fun _ s5 ⟨σ5,H5,I5,x5,q5⟩=>?_) fun _ _ f=>f;refine wpAny_mono (ht Hh.objs.size s2 H2 fp _ s5 σ5 H5 _ I5 q5) (fun b s6 ⟨H6,I6,q6⟩=>?_) fun _ _ f=>f;have weak:∀{s':Shared} {H':Hp} {pl:List (Addr×Obj)},Inv (oH X N scope Hh.objs.size s2 H2 fp) pl σ5 H' s'→Inv (oH X N scope Hh.objs.size s2 H2 fp) pl (blk nt fv σ) H' s':=by
    intro s' H' pl I;refine I.weak ((aH4 B I2 hCle f2 flt old ⟨_,hns₁⟩ (tk:=0)).len.trans I.len.symm) fun j v e=>?_
    by_cases hj:nt≤j
    ·rw[x5 j hj]; exact e
    ·unfold blk at e;rw[List.getElem?_append_left (by simpa using hj),List.getElem?_replicate] at e
     split at e<;>cases e
   have pnew:∀{s':Shared} {H':Hp} {σ':St},Inv (oH X N scope Hh.objs.size s2 H2 fp) ([(s2.heap.objs.size,a05 its k)]++a6L fp s4.heap) σ' H' s' →
     s'.heap.get? s2.heap.objs.size=some (a05 its k)∧H' s2.heap.objs.size=none∧tn (i+1) s'.heap∧∀ b∈fp,H' b=none:=fun{s' H' σ'} I=>by
    obtain⟨p1,p2,_⟩:=I.pin (s2.heap.objs.size,a05 its k) (by exact List.mem_cons_self);refine⟨p1,p2,T.keep _ _ _ st4 fun b hb o e=>(I.pin (b,o) (List.mem_append_right _ (List.mem_append_right _ (rF hb e)))).1,fun b hb=>?_⟩;obtain⟨o,e,d⟩:=T.obj _ _ st4 b hb;exact(I.pin (b,o) (List.mem_append_right _ (List.mem_append_right _ (rF hb e)))).2.1
   cases b with
   | false=>
    obtain⟨m',hm,w6⟩:=q6;obtain⟨p1,p2,p3,p4⟩:=pnew I6;exact⟨m',hm,i+1,ys,its,k,H6,weak (pinD I6 p1 p2),p3,p4,w6,vs'⟩
   | true=>
    refine wpAny_mono (he Hh.objs.size s2 H2 fp _ s6 σ5 H6 _ I6 q6) (fun v s7 ⟨y,H7,I7,r7,q7⟩=>?_) fun _ _ f=>f;obtain⟨m',hm,w7⟩:=q7;obtain⟨p1,p2,p3,p4⟩:=pnew I7;have hl:=vs'.length;refine wpAny_list_append_plain (l:=s2.heap.objs.size) (items:=its.toArray) ⟨k,p1⟩ (fun h8 pl8 sb8=>?_) (by rw[List.size_toArray]; omega);obtain⟨k8,e8⟩:=pl8;have e8':h8.get? s2.heap.objs.size=some (a05 (its++[v]) k8):=by
     rw[e8];unfold a05;simp
    have I7':=(weak I7).pins_of (pins':=[]) fun p hp=>(nomatch hp);have I8:Inv (oH X N scope Hh.objs.size s2 H2 fp) [] (blk nt fv σ) H7 { s7 with heap:=h8 }:=I7'.turned (t':=s7.toks) (it:=s2.heap.objs.size) (fun b o hb e=>(sb8.2 b hb).trans e) p2 hDC (.inr (Nat.le_refl _)) Dcell (fun p hp=>(nomatch hp));exact⟨m',hm,i+1,ys++[y],its++[v],k8,H7,pinD I8 e8' p2,T.keep _ _ _ p3 fun b hb o e=>(sb8.2 b (fun z=>Dfp (z▸hb))).trans e,p4,w7,vs'.append (.cons r7 .nil)⟩
 exact codeAny_compStart_list (loop _ rfl) (T.self X.A 0 _ _ _ (T.keep _ _ _ st2 fun b _ o e=>old b o e) (loop _ rfl))
theorem gZ (hc:X.calm=true)(B:BlkOk X N scope nt fv)(hi:PI X tg iter wi)
  (hg:∀ C s₀ H₀ ex,PG (oH X N scope C s₀ H₀ ex) tg g) (ht:∀ C s₀ H₀ ex,PTs (oH X N scope C s₀ H₀ ex) ifs ti) (he:∀ C s₀ H₀ ex,PE (oH X N scope C s₀ H₀ ex) elt te)
  (hs:∀ x,foldedSetIterable iter X.env x=pure x:=by intro _; rfl):PE X (.ListComp elt [⟨tg,iter,ifs,0⟩] scope pos) (aO5 nt fv wi g ti te):=by
 intro pins s σ H Q I h;rw[eval_ListComp];refine wpAny_comprehension_free (use:=none) rfl hs (aL3 (B.cells I)) B.kind B.names (thn (hi pins s σ H _ I h) fun xv s1 h1=>thn h1 fun itv s2 h2=>?_);obtain⟨it,fp,tn,J,H2,rfl,I2,T,st2,f2,W,⟨m0,w0⟩,turn⟩:=h2;refine aJK hc B hg ht he I2 T st2 f2 w0 turn (RR:=fun acc C=>compPost (model X.prog X.w) X.A X.xe none (EP X pins σ Q) acc C) fun D C s' hC hn hq=>?_;obtain⟨m,hm⟩:=hn;refine⟨m,hm,fun h' sb=>?_⟩;obtain⟨H',I',_,q'⟩:=hq h' sb;exact⟨.ref D,H',I',rfl,q'⟩
end
end L2
namespace L2
open PySem PySem.Spec PyProof.Rows
def aV2 (scope osc:Scope):List (Str×NameKind):=scope.names.map fun(n,k)=>if (k==.free&&osc.kind==.function&&osc.names.lookup n==some .cell) then(n,.cell) else(n,k)
def aTI (osc:Scope)(ON N:List Str)(scope:Scope)(nt:Nat)(fv:List Nat):Bool:=
 scope.kind==.function&&scope.names.all (fun y=>y.2 != .cell)&&scope.names.all (fun y=>y.2 != .local||scope.names.lookup y.1==some .local) &&
 scope.names.all (fun y=>y.2 != .free||osc.names.lookup y.1==some .cell)&&N.length==nt+fv.length &&
 (List.range fv.length).all fun i=>match N[nt+i]?,fv[i]? with
  | some x,some j=>ON[j]?==some x&&osc.names.lookup x==some .cell&&(aV2 scope osc).lookup x==some .cell
  | _,_=>false
theorem qM {X:Cx}{osc:Scope}{ON N:List Str}{scope:Scope}{nt:Nat}{fv:List Nat}(h:aTI osc ON N scope nt fv=true)(e1:X.env.scope=osc:=by rfl)(e2:X.N=ON:=by rfl):BlkOk X N scope nt fv:=by
 subst e1 e2;unfold aTI at h;simp only[Bool.and_eq_true,List.all_eq_true,Bool.or_eq_true,bne_iff_ne,ne_eq,beq_iff_eq] at h;obtain⟨⟨⟨⟨⟨h1,h2⟩,h3⟩,h4⟩,h5⟩,h6⟩:=h;refine⟨h1,h2,fun y hy e=>?_,fun y hy e=>?_,h5,fun i x e=>?_⟩
 ·rcases h3 y hy with z|z
  ·exact absurd e z
  ·exact z
 ·rcases h4 y hy with z|z
  ·exact absurd e z
  ·exact z
 ·have hi:i<fv.length:=by
   have:=(List.getElem?_eq_some_iff.mp e).1;omega
  have q:=h6 i (List.mem_range.mpr hi);rw[e,List.getElem?_eq_getElem hi] at q;simp only[Bool.and_eq_true,beq_iff_eq] at q;obtain⟨⟨q1,q2⟩,q3⟩:=q;exact⟨fv[i],List.getElem?_eq_getElem hi,q1,q2,q3⟩
end L2
namespace L2.VS
open PySem PySem.Spec PyProof.Rows
section
variable {P0:Addr→Hp→Prop}
def qJ:MT:=fun Γ Q=>Q true Γ
theorem oO:VTT P0 aPE qJ:=fun _ _ _ _ _ _ _ r m k=>k _ _ _ _ m (Same.refl _) r
def aRR:Option Sl→Sl
 | some (.val d)=>.val d
 | some .pen=>.pen
 | some (.pub B)=>.pub B
 | _=>.no
def aJ2 (nt:Nat)(fv:List Nat)(Γ:En):En:=List.replicate nt .no++fv.map fun j=>aRR Γ[j]?
def wX (g:MG)(t:MT)(e:ME)(Γb:En):List D→List D→(List D→Prop)→Prop
 | [],acc,Q=>Q acc
 | d::ds,acc,Q=>g d Γb fun Γ1=>t Γ1 fun b Γ2=>if b=true then e Γ2 fun v _=>wX g t e Γb ds (acc++[v]) Q else wX g t e Γb ds acc Q
def xN (nt:Nat)(fv:List Nat)(mi:MD)(g:MG)(t:MT)(e:ME):MO:=fun Γ Q=>mi Γ fun ds Γ1=>ds.length≤1000∧wX g t e (aJ2 nt fv Γ1) ds [] fun out=>Q (.own out) Γ1
theorem aRD {F:Fra P0}{Γ:En}{σ:St}{G H G' H':Hp}{nt:Nat}{fv:List Nat}(r:R F Γ σ G H)(rf:Rf (F.sub r.fr) G' H')(s:Same G G'):R (F.sub r.fr) (aJ2 nt fv Γ) (blk nt fv σ) G' H':=by
 have at_:∀{i:Nat} {sl:Sl},(aJ2 nt fv Γ)[i]?=some sl→sl≠.no→∃(j:Nat) (s0:Sl),Γ[j]?=some s0∧sl=aRR (some s0)∧(blk nt fv σ)[i]?=some ((σ[j]?).getD none):=by
  intro i sl e hn;unfold aJ2 at e
  by_cases hi:i<nt
  ·rw[List.getElem?_append_left (by simpa using hi),List.getElem?_replicate] at e;rw[if_pos hi] at e
   cases e
   exact absurd rfl hn
  ·rw[List.getElem?_append_right (by simpa using hi),List.length_replicate,List.getElem?_map] at e
   cases ej:fv[i-nt]? with
   | none=>rw[ej] at e; cases e
   | some j=>
    rw[ej] at e;have e':aRR Γ[j]?=sl:=Option.some.inj e
    cases es:Γ[j]? with
    | none=>rw[es] at e'; exact absurd e'.symm hn
    | some s0=>
     rw[es] at e';refine⟨j,s0,es,e'.symm,?_⟩;unfold blk;rw[List.getElem?_append_right (by simpa using hi),List.length_replicate,List.getElem?_map,ej];rfl
 refine R.of rf (by simp[aJ2,blk]) (fun i sl e=>?_) (fun i B e=>?_) (fun i j x y _ e=>?_)
 ·cases sl with
  | no=>trivial
  | val d=>
   obtain⟨j,s0,h1,h2,h3⟩:=at_ e (by intro z; cases z)
   cases s0 with
   | val d0=>
    cases h2
    obtain⟨v,e1,d1⟩:=r.sl j _ h1;rw[e1] at h3;exact⟨v,h3,Dt.same s _ _ d1⟩
   | _=>cases h2
  | own ds=>
   obtain⟨j,s0,h1,h2,h3⟩:=at_ e (by intro z; cases z)
   cases s0<;>cases h2
  | pen=>
   obtain⟨j,s0,h1,h2,h3⟩:=at_ e (by intro z; cases z)
   cases s0 with
   | pen=>
    obtain⟨p,e1,e2⟩:=r.sl j _ h1;rw[e1] at h3;exact⟨p,h3,e2⟩
   | _=>cases h2
  | con q=>
   obtain⟨j,s0,h1,h2,h3⟩:=at_ e (by intro z; cases z)
   cases s0<;>cases h2
  | pub B=>
   obtain⟨j,s0,h1,h2,h3⟩:=at_ e (by intro z; cases z)
   cases s0 with
   | pub B'=>
    cases h2
    obtain⟨v,e1,e2⟩:=r.sl j _ h1;rw[e1] at h3;exact⟨v,h3,B.mono s e2⟩
   | _=>cases h2
  | box B=>
   obtain⟨j,s0,h1,h2,h3⟩:=at_ e (by intro z; cases z)
   cases s0<;>cases h2
 ·obtain⟨j,s0,h1,h2,h3⟩:=at_ e (by intro z; cases z)
  cases s0<;>cases h2
 ·obtain⟨j,s0,h1,h2,h3⟩:=at_ e (by intro z; cases z)
  cases s0<;>cases h2
theorem lA {nt:Nat}{fv:List Nat}{wi:TI}{g:TG}{ti:TT}{te:TE}{mi:MD}{mg:MG}{mt:MT}{me:ME}(hi:VI P0 wi mi)(hg:VG P0 (fun i=>decide (i<nt)) g mg)(ht:VTT P0 ti mt)(he:VT P0 te me) :
  VO P0 (aO5 nt fv wi g ti te) (xN nt fv mi mg mt me):=by
 intro F Γ σ G H Q Qm r m k;refine hi F Γ σ G H _ _ r m fun ds Γ1 J G1 H1 m1 s1 r1 wk=>?_;obtain⟨hsz,m1⟩:=m1;refine⟨fun i n ys H2=>n=ds.length-i∧i≤ds.length∧ys.length≤i∧∃ G2 out,Rf (F.sub r1.fr) G2 H2∧Same G1 G2∧Dts G2 ys out∧wX mg mt me (aJ2 nt fv Γ1) (ds.drop i) out fun out=>Qm (.own out) Γ1,
  ⟨ds.length,by simp,Nat.zero_le _,Nat.zero_le _,G1,[],F.subRf r1.fr,Same.refl _,.nil,by simpa using m1⟩,?_⟩
 rintro i n ys H2 ⟨rfl,hle,hy,G2,out,rf2,s2,d2,m2⟩;have rb:=aRD (nt:=nt) (fv:=fv) r1 rf2 s2;obtain⟨go,stop⟩:=wk (F.sub r1.fr) _ _ G2 H2 s2 rb;have small:ys.length≤sizeLine:=jX (by omega)
 by_cases hlt:i<ds.length
 ·refine .inr ⟨(go i ds[i] (by simp[hlt])).1,small,fun x H' hyl=>?_⟩;obtain⟨G3,s3,r3,d3⟩:=(go i ds[i] (by simp[hlt])).2 x H' hyl;rw[List.drop_eq_getElem_cons hlt] at m2;refine hg (F.sub r1.fr) _ _ G3 H' x _ _ _ r3 d3 m2 fun Γ4 σ4 m4 r4 e4=>⟨fun j hj=>e4 j (decide_eq_false (by omega)),?_⟩;refine ht (F.sub r1.fr) _ _ G3 H' _ _ r4 m4 fun b Γ5 G5 H5 m5 s5 r5=>?_
  cases b with
  | true=>
   refine a5U (he (F.sub r1.fr) _ _ G5 H5 _ _ r5 m5 fun d Γ6 v G6 H6 m6 s6 r6 d6=>?_);refine⟨ds.length-(i+1),by omega,rfl,hlt,by rw[List.length_append,List.length_singleton]; omega,G6,out++[d],r6.fr,((s2.trans s3).trans s5).trans s6,?_,m6⟩;exact(Dts.same ((s3.trans s5).trans s6) _ _ d2).app (.cons d6 .nil)
  | false=>
   refine a2W ?_;exact⟨ds.length-(i+1),by omega,rfl,hlt,by omega,G5,out,r5.fr,(s2.trans s3).trans s5,Dts.same (s3.trans s5) _ _ d2,m5⟩
 ·have e:i=ds.length:=by omega
  subst e;rw[List.drop_length] at m2;refine .inl ⟨stop,small,fun p hp=>?_⟩;obtain⟨r7,s7⟩:=r1.after rf2;obtain⟨a,b,c⟩:=m7 r7 hp d2;exact k _ _ _ _ _ m2 (s1.trans s7) a b c
theorem aOT {nt:Nat}{fv:List Nat}{mi:MD}{mg:MG}{mt:MT}{me:ME}{Γ:En}{Q:Rv→En→Prop}(h:mi Γ fun ds Γ1=>ds.length≤1000∧wX mg mt me (aJ2 nt fv Γ1) ds [] fun out=>Q (.own out) Γ1):xN nt fv mi mg mt me Γ Q:=h
theorem jG {α:Type}{mg:MG}{mt:MT}{me:ME}{Γb:En}(p:α→Bool)(f:α→D)(enc:α→D):∀(xs:List α) (acc:List D) (Q:List D→Prop),
  (∀ x∈xs,∀(K:List D→Prop) (k:D→Prop) (k0:Prop),(p x=true→k (f x))→(p x=false→k0)→mg (enc x) Γb fun Γ1=>mt Γ1 fun b Γ2=>if b=true then me Γ2 fun v _=>k v else k0) →
  Q (acc++(xs.filter p).map f)→wX mg mt me Γb (xs.map enc) acc Q
 | [],acc,Q,_,q=>by simpa [wX] using q
 | x::xs,acc,Q,h,q=>by
  show mg (enc x) Γb fun Γ1=>mt Γ1 fun b Γ2=>if b=true then me Γ2 fun v _=>wX mg mt me Γb (xs.map enc) (acc++[v]) Q else wX mg mt me Γb (xs.map enc) acc Q
  refine h x List.mem_cons_self Q (fun v=>wX mg mt me Γb (xs.map enc) (acc++[v]) Q) _ (fun hp=>?_) fun hp=>?_
  ·refine jG p f enc xs _ Q (fun y hy=>h y (List.mem_cons_of_mem _ hy)) ?_;simpa [List.filter_cons,hp,List.append_assoc] using q
  ·refine jG p f enc xs _ Q (fun y hy=>h y (List.mem_cons_of_mem _ hy)) ?_;simpa [List.filter_cons,hp] using q
end
end L2.VS
namespace L2
open PySem PySem.Spec PyProof.Rows
section
variable {X:Cx}
def aHX (n:Nat)(x:Int):Nat:=if x<0 then(x+(n:Int)).toNat else min x.toNat n
def a2B {α:Type}(xs:List α)(x:Int)(y:α):List α:=xs.take (aHX xs.length x)++y::xs.drop (aHX xs.length x)
theorem aI9 {α:Type}(xs:List α)(x:Int)(y:α):(a2B xs x y).length=xs.length+1:=by
 unfold a2B;rw[List.length_append,List.length_cons,List.length_take,List.length_drop];omega
theorem Vals.ins {xs:List V}{us:List Value}(r:Vals xs us)(x:Int){y:V}{u:Value}(h:RelV y u):Vals (a2B xs x y) (a2B us x u):=by
 unfold a2B;rw[r.length];exact(r.take _).append (.cons h (r.drop _))
def aFM:V→List V→Hp→VK→Prop:=fun x vs H Q=>∃ l xs i y,x=.ref l∧vs=[.int i,y]∧H l=some (.lst xs) ∧ -(2^63)≤i∧i<2^63∧xs.length<sizeLine∧Q .non (upd H l (.lst (a2B xs i y)))
theorem a6I:MtM X "list.insert" aFM:=by
 intro pins s σ H x vs v us Q I rx rv h;obtain⟨l,xs,i,y,rfl,rfl,hH,h1,h2,hz,q⟩:=h
 cases rx
 obtain⟨u0,u,rfl,ru0,ru⟩:=rv.two;obtain⟨t,rfl⟩:=ru0;obtain⟨z,its,n,r,hl,e⟩:=I.lstM hH;have hf:Builtin.List.listFitsIndex i=true:=by
  unfold Builtin.List.listFitsIndex;rw[Bool.and_eq_true];exact⟨decide_eq_true h1,decide_eq_true h2⟩
 refine call_meets F.slot_list_insert ⟨_,e,rfl⟩ F.entry_list_insert (F.args_list_insert_3 _ _ _) (PySem.AutoSeq1.list_insert_list_int_val_1 l its.toArray n i t u (by simp[hf]) (by rw[List.size_toArray]; omega)) ⟨e,?_⟩;refine⟨.non,_,I.lset (its':=a2B its i u) hH e ?_ (r.ins i ru) ?_,rfl,q⟩
 ·show(its.toArray.extract 0 (if i<0 then(i+(its.toArray.size:Int)).toNat else min i.toNat its.toArray.size)).push u++its.toArray.extract (if i<0 then(i+(its.toArray.size:Int)).toNat else min i.toNat its.toArray.size)=(a2B its i u).toArray
  rw[List.size_toArray];unfold a2B aHX;generalize (if i<0 then(i+(its.length:Int)).toNat else min i.toNat its.length)=k;apply Array.toList_inj.mp;simp;exact List.take_of_length_le (by simp)
 ·rw[aI9];omega
end
end L2
namespace L2.VS
open PySem PySem.Spec PyProof.Rows
section
variable {P0:Addr→Hp→Prop}
theorem _root_.L2.Dts.ins {G:Hp}{vs:List V}{ds:List D}(r:Dts G vs ds)(x:Int){y:V}{d:D}(h:Dt G y d):Dts G (a2B vs x y) (a2B ds x d):=by
 unfold a2B;rw[r.len];exact(r.tak _).app (.cons h (r.drp _))
def aNS (i:Nat)(x:D)(d:D)(Γ1:En)(Q:Fl→Prop):Prop:=match Γ1[i]?,x with
 | some (.own ds),.int k => -(2^63)≤k∧k<2^63∧ds.length<1000∧Q (.nx (Γ1.set i (.own (a2B ds k d))))
 | _,_=>False
def wN (i:Nat)(ma mb:ME):MS:=fun Γ Q=>match Γ[i]? with
 | some (.own _)=>ma Γ fun x Γ1=>mb Γ1 fun d Γ2=>aNS i x d Γ2 Q
 | _=>False
theorem a7K {K:Fg}{i:Nat}{ta tb:TE}{ma mb:ME}(ha:VT P0 ta ma)(hb:VT P0 tb mb){A:Nat→Bool}:VSA P0 A (aIE (tBM K "list" aFM (jZ i) (dD ta (dD tb rB)))) (wN i ma mb):=by
 intro F Γ σ G H E Qm r hm k;unfold wN at hm
 split at hm
 ·rename_i ds0 e0
  obtain⟨p,vs,e1,e2,e3,e4,e5⟩:=r.sl i _ e0;refine⟨_,e1,.inl ⟨rfl,_,SqL.of e4⟩,?_⟩;refine ha F Γ σ G H _ _ r hm fun c Γ1 y G1 H1 m1 s1 r1 d1=>?_;refine hb F Γ1 σ G1 H1 _ _ r1 m1 fun d Γ2 x G2 H2 m2 s2 r2 d2=>?_;unfold aNS at m2
  split at m2
  ·rename_i ds j e
   cases d1
   obtain⟨p',ws,f1,f2,f3,f4,f5⟩:=r2.sl i _ e;rw[e1] at f1; cases f1;refine⟨p,ws,j,x,rfl,rfl,f4,m2.1,m2.2.1,zX (by rw[f5.len]; exact Nat.le_of_lt m2.2.2.1),?_⟩;exact k _ m2.2.2.2 _ _ _ (s1.trans s2) (r2.write e e1 (f5.ins j d2)) fun _ _=>rfl
  ·exact m2.elim
 ·exact hm.elim
theorem aIW {i:Nat}{ma mb:ME}{Γ:En}{Q:Fl→Prop}{ds:List D}(h0:Γ[i]?=some (.own ds))(h:ma Γ fun x Γ1=>mb Γ1 fun d Γ2=>aNS i x d Γ2 Q):wN i ma mb Γ Q:=by
 unfold wN;rw[h0];exact h
theorem aKF {i:Nat}{j:Int}{d:D}{Γ:En}{Q:Fl→Prop}{ds:List D}(h0:Γ[i]?=some (.own ds))(h1 : -(2^63)≤j)(h2:j<2^63)(h3:ds.length<1000)(h:Q (.nx (Γ.set i (.own (a2B ds j d))))):aNS i (.int j) d Γ Q:=by
 unfold aNS;rw[h0];exact⟨h1,h2,h3,h⟩
end
end L2.VS
namespace L2
open PySem PySem.Spec PyProof.Rows
section
variable {X:Cx}
def bAt (ys:List V)(i:Nat):Bool:=match ys[i]? with
 | some (.bl b)=>b
 | _=>false
def aSI:V→Bool
 | .bl _=>true
 | _=>false
theorem aJC {A:Around}{ys:List V}{its:List Value}(r:Vals ys its)(hb:ys.all aSI=true):TruthOf X.prog X.w A (fun i v=>its.toArray[i]?=some v) (bAt ys):=by
 intro i v s Q E hP hq;have hv:its[i]?=some v:=by simpa using hP
 have hi:i<ys.length:=by
  have:=(List.getElem?_eq_some_iff.mp hv).1;rw[r.length]; exact this
 obtain⟨u,hu,ru⟩:=r.get (List.getElem?_eq_getElem hi);rw[hv] at hu
 cases hu
 have hbl:=List.all_eq_true.mp hb ys[i] (List.getElem_mem hi);unfold bAt at hq;rw[List.getElem?_eq_getElem hi] at hq
 cases e:ys[i] with
 | bl b=>
  rw[e] at ru hq
  cases ru
  exact wpAny_truthy_bool hq
 | _=>rw[e] at hbl; cases hbl
theorem range_all (ys:List V)(bs:List Bool)(h:ys=bs.map V.bl):(List.range ys.length).all (bAt ys)=bs.all id:=by
 subst h;rw[Bool.eq_iff_iff,List.all_eq_true,List.all_eq_true];constructor
 ·intro h b hb;obtain⟨i,hi,e⟩:=List.mem_iff_getElem.mp hb;have q:=h i (List.mem_range.mpr (by simpa using hi));unfold bAt at q;rw[List.getElem?_map,List.getElem?_eq_getElem hi,e] at q;exact q
 ·intro h i hi;have hi':i<bs.length:=by simpa using List.mem_range.mp hi
  unfold bAt;rw[List.getElem?_map,List.getElem?_eq_getElem hi'];exact h _ (List.getElem_mem hi')
theorem aO0 (bs:List Bool):(bs.map V.bl).all aSI=true:=by simp[aSI]
theorem aLY (hc:X.calm=true){pins:List (Addr×Obj)}{σ:St}{H:Hp}{s:Shared}{p:Addr}{bs:List Bool}{f:(Nat→Bool)→List Nat→Bool}{Q:Value→Shared→Prop}(I:Inv X pins σ H s)(hx:SqL X.K H p (bs.map V.bl))
  (h:∀ s',Inv X pins σ H s'→Q (.bool (f (bAt (bs.map V.bl)) (List.range (bs.map V.bl).length))) s') :
  wpAny (model X.prog X.w) X.A.in1 (pyIter (.ref p)) (fun it s₂=>∃ I fp wr n P St tr,it=.ref I∧Walks X.prog X.w X.A.in1 I fp wr n P St∧St 0 s₂.heap∧TruthOf X.prog X.w X.A.in1 P tr ∧
   ∀ h' tk,(∀ b o,b∉wr→s₂.heap.get? b=some o→h'.get? b=some o)→Q (.bool (f tr (List.range n))) { s₂ with heap:=h',toks:=tk }) X.xe s:=by
 obtain⟨its,r,ht,hz⟩:=I.list hx;have hlt:p<s.heap.objs.size:=by
  obtain⟨o,ho,_⟩:=ht.isList;exact Heap.lt_size ho
 refine wpAny_pyIter_list ht.isList ?_;refine⟨s.heap.objs.size,_,_,_,_,_,bAt (bs.map V.bl),rfl,Walks.list (A:=X.A.in1) (show X.A.in1.handled=none from I.ok.hd hc) s.heap.objs.size p (Nat.ne_of_lt hlt) its.toArray,⟨⟨_,Heap.get?_push_size _ rfl,rfl,rfl⟩,?_⟩,aJC r (aO0 bs),fun h' tk hk=>?_⟩
 ·obtain⟨o,ho,q⟩:=ht.isList;exact⟨o,Heap.get?_push_of_some _ ho,q⟩
 ·have hl:its.toArray.size=(bs.map V.bl).length:=by rw[List.size_toArray]; exact r.length.symm
  rw[hl];refine h _ (I.kept (h':=h') (t':=tk) fun b o e=>hk b o (by simp; exact Nat.ne_of_lt (Heap.lt_size e)) (Heap.get?_push_of_some _ e))
theorem a6Y (hc:X.calm=true):wI X (.builtin "all") (fun xs H Q=>∃(p:Addr) (bs:List Bool),xs=[.ref p]∧SqL X.K H p (bs.map V.bl)∧Q (.bl (bs.all id)) H):=by
 intro pins s σ H xs us Q I r h;obtain⟨p,bs,rfl,hx,q⟩:=h;obtain⟨u,rfl,ru⟩:=vals1 r
 cases ru
 exact call_all_walk (aLY (f:=fun tr l=>l.all tr) hc I hx fun s' I'=>⟨.bl _,H,I',rfl,by rw[range_all _ bs rfl]; exact q⟩)
end
end L2
namespace L2.VS
open PySem PySem.Spec PyProof.Rows
section
variable {P0:Addr→Hp→Prop}
def v8:List D→Option (List Bool)
 | []=>some []
 | .bool b::ds=>(v8 ds).map (b::·)
 | _::_=>none
theorem aDD (bs:List Bool):v8 (bs.map PyData.bool)=some bs:=by
 induction bs with
 | nil=>rfl
 | cons b bs ih=>show(v8 (bs.map PyData.bool)).map (b::·)=_; rw[ih]; rfl
theorem a2E {G:Hp}:∀{vs:List V} {ds:List D} {bs:List Bool},Dts G vs ds→v8 ds=some bs→vs=bs.map V.bl
 | _,_,_,.nil,e=>by cases e; rfl
 | _,d::ds,bs,.cons a b,e=>by
  cases a with
  | bl c=>
   show _;have e':(v8 ds).map (c::·)=some bs:=e
   cases e2:v8 ds with
   | none=>rw[e2] at e'; cases e'
   | some cs=>
    rw[e2] at e'
    cases e'
    rw[a2E b e2];rfl
  | _=>cases e
def mBs (f:List Bool→Bool)(ma:ME):ME:=fun Γ Q=>ma Γ fun x Γ1=>match x with
 | .list ds=>(match v8 ds with
  | some bs=>Q (.bool (f bs)) Γ1
  | none=>False)
 | _=>False
abbrev aSD:=mBs fun bs=>bs.all id
theorem aRT {K:Fg}{f:List Bool→Bool}{ta:TE}{ma:ME}(ha:VT P0 ta ma):VT P0 (tCB (fun xs H Q=>∃(p:Addr) (bs:List Bool),xs=[.ref p]∧SqL K H p (bs.map V.bl)∧Q (.bl (f bs)) H) (dD ta rB)) (mBs f ma):=by
 intro F Γ σ G H Q Qm r m k;refine ha F Γ σ G H _ _ r m fun d Γ1 x G1 H1 m1 s1 r1 d1=>?_
 split at m1
 ·split at m1
  ·rename_i bs e
   cases d1 with
   | @lst p xs _ hp rs=>
    refine⟨p,bs,rfl,SqL.of ?_,k _ _ _ _ _ m1 s1 r1 (.bl _)⟩;rw[← a2E rs e];exact r1.fr.sub _ _ hp
  ·exact m1.elim
 ·exact m1.elim
theorem aK8 {K:Fg}{ta:TE}{ma:ME}(ha:VT P0 ta ma):VT P0 (tCB (fun xs H Q=>∃(p:Addr) (bs:List Bool),xs=[.ref p]∧SqL K H p (bs.map V.bl)∧Q (.bl (bs.all id)) H) (dD ta rB)) (aSD ma):=aRT ha
theorem aUW {f:List Bool→Bool}{ma:ME}{Γ:En}{Q:D→En→Prop}(h:ma Γ fun x Γ1=>match x with|.list ds=>(match v8 ds with|some bs=>Q (.bool (f bs)) Γ1|none=>False)|_=>False):mBs f ma Γ Q:=h
end
section
variable {P0:Addr→Hp→Prop}
end
section
variable {P0:Addr→Hp→Prop}{K:Fg}
def aTD (ma:ME)(ml mh:MP):ME:=fun Γ Q=>ma Γ fun x Γ1=>ml Γ1 fun lo Γ2=>mh Γ2 fun hi Γ3=>match x with
 | .tuple ds=>¬(HT.sIx ds.length 0 lo=0∧HT.sIx ds.length ds.length hi=ds.length)∧Q (.tuple (cutD ds lo hi)) Γ3
 | _=>False
theorem aPI {ta:TE}{ma:ME}{tl th:TO}{ml mh:MP}(ha:VT P0 ta ma)(hl:VP P0 tl ml)(hh:VP P0 th mh):VT P0 (tSl (aTT K) ta tl th) (aTD ma ml mh):=by
 intro F Γ σ G H Q Qm r m k;refine ha F Γ σ G H _ _ r m fun d Γ1 x G1 H1 m1 s1 r1 d1=>?_;refine hl F Γ1 σ G1 H1 _ _ r1 m1 fun lo Γ2 G2 H2 m2 s2 r2=>?_;refine hh F Γ2 σ G2 H2 _ _ r2 m2 fun hi Γ3 G3 H3 m3 s3 r3=>?_
 split at m3
 ·have d1:=Dt.same (s2.trans s3) _ _ d1
  cases d1 with
  | @tup p xs _ hp rs=>
   refine⟨p,xs,rfl,SqT.of (r3.fr.sub _ _ hp),by rw[rs.len]; exact m3.1,fun l hl=>?_⟩;have g:=jO (r3.fr.gfresh hl) (.tup (aI8 xs lo hi));exact k _ _ _ _ _ m3.2 (((s1.trans s2).trans s3).trans g) (r3.new hl) (.tup aV (Dts.same g _ _ (rs.cut lo hi)))
 ·exact m3.elim
theorem aT8 {ma:ME}{ml mh:MP}{Γ:En}{Q:D→En→Prop}(h:ma Γ fun x Γ1=>ml Γ1 fun lo Γ2=>mh Γ2 fun hi Γ3=>match x with|.tuple ds=>¬(HT.sIx ds.length 0 lo=0∧HT.sIx ds.length ds.length hi=ds.length)∧Q (.tuple (cutD ds lo hi)) Γ3|_=>False):aTD ma ml mh Γ Q:=h
end
end L2.VS
namespace L2
open PySem PySem.Spec PyProof.Rows
theorem a8G:∀{xs:List V} {us:List Value},xs.length=us.length→(∀(i:Nat) x u,xs[i]?=some x→us[i]?=some u→RelV x u)→Vals xs us
 | [],[],_,_=>.nil
 | x::xs,u::us,hl,h=>.cons (h 0 x u rfl rfl) (a8G (by simpa using hl) fun i y w e1 e2=>h (i+1) y w (by simpa using e1) (by simpa using e2))
def uM (lo:Int)(n:Nat):List V:=(List.range n).map fun(k:Nat)=>V.int (lo+k)
theorem a2V (lo:Int)(n:Nat):(uM lo n).length=n:=by unfold uM; rw[List.length_map,List.length_range]
section
variable {X:Cx}
def aNQ:List V→Hp→VK→Prop:=fun xs H Q=>∃ j:Int,xs=[.int j]∧∀ r,H r=none→Q (.ref r) (upd H r (.rng 0 j))
theorem a7C:wI X (.type "range") aNQ:=by
 intro pins s σ H xs us Q I r h;obtain⟨j,rfl,q⟩:=h;obtain⟨u,rfl,rx⟩:=vals1 r;obtain⟨t,rfl⟩:=rx;refine call_range_1 ?_;exact⟨.ref s.heap.objs.size,_,I.laid (o:=.rng 0 j) (fun b o e=>Heap.get?_push_of_some _ e) (Nat.le_refl _) (show ObjOk X.prog X.w _ _ _ (.rng 0 j) from⟨_,_,_,Heap.get?_push_size _ rfl⟩),rfl,q _ (I.hok.fresh (Nat.le_refl _))⟩
def aBL:List V→Hp→VK→Prop:=fun xs H Q=>∃ p lo hi,xs=[.ref p]∧H p=some (.rng lo hi)∧(-(2^62)≤lo∧lo<2^62 ∧ -(2^62)≤hi∧hi<2^62)∧(hi-lo).toNat≤1000 ∧
 ∀ l,H l=none→Q (.ref l) (upd H l (.lst (uM lo (hi-lo).toNat)))
theorem a5T (hc:X.calm=true):wI X (.type "list") aBL:=by
 intro pins s σ H xs us Q I r h;obtain⟨p,lo,hi,rfl,hp,⟨b1,b2,b3,b4⟩,hn,q⟩:=h;obtain⟨u,rfl,rx⟩:=vals1 r
 cases rx
 obtain⟨t,u,v,hr⟩:=I.hok p _ hp;have hsz:Builtin.Range.rangeSize lo hi 1=((hi-lo).toNat:Int):=by rw[rangeSize_one]; split<;>omega
 refine call_list_range (I.ok.hd hc) hr (small_one b1 b2 b3 b4) hsz (by omega) fun h' tk acc' c' kp e it=>?_;have hl:(uM lo (hi-lo).toNat).length=acc'.toList.length:=by rw[a2V,Array.length_toList]; exact it.1.symm
 have hv:Vals (uM lo (hi-lo).toNat) acc'.toList:=by
  refine a8G hl fun i x w e1 e2=>?_;obtain⟨t',ew⟩:=it.2 i w (by simpa using e2);unfold uM at e1;rw[List.getElem?_map] at e1
  cases e3:(List.range (hi-lo).toNat)[i]? with
  | none=>rw[e3] at e1; cases e1
  | some k=>
   rw[e3] at e1
   cases e1
   have hk:k=i:=by
    obtain⟨hlt,e4⟩:=List.getElem?_eq_some_iff.mp e3;rw[List.getElem_range] at e4;exact e4.symm
   subst hk;exact⟨t',by rw[ew,Int.mul_one]⟩
 exact⟨.ref s.heap.objs.size,_,I.laid kp (Nat.le_refl _) (show ObjOk X.prog X.w _ h' _ (.lst (uM lo (hi-lo).toNat)) from⟨jX (by rw[a2V]; exact hn),acc'.toList,c',hv,by simpa using e⟩),rfl,q _ (I.hok.fresh (Nat.le_refl _))⟩
end
end L2
namespace L2.VS
open PySem PySem.Spec PyProof.Rows
section
variable {P0:Addr→Hp→Prop}{A:Nat→Bool}
def aPB (i:Nat)(f:Int→Int→Int)(m:ME):MS:=fun Γ Q=>match Γ[i]? with
 | some (.val (.int a))=>m Γ fun d Γ1=>match d with
  | .int b=>Q (.nx (Γ1.set i (.val (.int (f a b)))))
  | _=>False
 | _=>False
theorem aP2 {i:Nat}{f:Int→Int→Int}{t:TE}{m:ME}(h:VT P0 t m)(hA:A i=true:=by rfl):VSA P0 A (aU5 i t (ipI f)) (aPB i f m):=by
 intro F Γ σ G H E Qm r hm k;unfold aPB at hm
 split at hm
 ·rename_i a e
  obtain⟨v,e1,d1⟩:=r.sl i _ e
  cases d1
  refine⟨_,e1,h F Γ σ G H _ _ r hm fun d Γ1 x G1 H1 m1 s1 r1 d1=>?_⟩
  split at m1
  ·cases d1
   exact⟨_,_,rfl,rfl,k _ m1 _ _ _ s1 (r1.setV (.int _)) (u6 hA)⟩
  ·exact m1.elim
 ·exact hm.elim
abbrev aUN:Int→Int→Int:=fun i j=>i+j
theorem aSJ {i:Nat}{f:Int→Int→Int}{m:ME}{Γ:En}{a:Int}{Q:Fl→Prop}(h0:Γ[i]?=some (.val (.int a)))(h:m Γ fun d Γ1=>match d with|.int b=>Q (.nx (Γ1.set i (.val (.int (f a b)))))|_=>False):aPB i f m Γ Q:=by
 unfold aPB;rw[h0];exact h
theorem aHB {G:Hp}(lo:Int)(n:Nat):Dts G (uM lo n) (jK lo n):=by
 unfold uM jK;generalize List.range n=xs
 induction xs with
 | nil=>exact .nil
 | cons x xs ih=>exact .cons (.int _) ih
def a5K (ma:ME):MO:=fun Γ Q=>ma Γ fun x Γ1=>match x with
 | .int j=>(0≤j∧j≤1000)∧Q (.own (jK 0 j.toNat)) Γ1
 | _=>False
theorem aCK {ta:TE}{ma:ME}(ha:VT P0 ta ma):VO P0 (tCB aBL (dD (tCB aNQ (dD ta rB)) rB)) (a5K ma):=by
 intro F Γ σ G H Q Qm r m k;refine ha F Γ σ G H _ _ r m fun d Γ1 x G1 H1 m1 s1 r1 d1=>?_
 split at m1
 ·rename_i j
  cases d1
  obtain⟨⟨h1,h2⟩,m1⟩:=m1;refine⟨j,rfl,fun p hp=>?_⟩;have r2:=r1.newP (o:=.rng 0 j) hp;refine⟨p,0,j,rfl,aV,⟨by omega,by omega,by omega,by omega⟩,by omega,fun l hl=>?_⟩;have e:(j-0).toNat=j.toNat:=by omega
  rw[e];obtain⟨a,b,c⟩:=m7 r2 hl (aHB 0 j.toNat);exact k _ _ _ _ _ m1 s1 a b c
 ·exact m1.elim
theorem aFG {ma:ME}{Γ:En}{Q:Rv→En→Prop}(h:ma Γ fun x Γ1=>match x with|.int j=>(0≤j∧j≤1000)∧Q (.own (jK 0 j.toNat)) Γ1|_=>False):a5K ma Γ Q:=h
end
end L2.VS
namespace PySem
open Sem (wp)
namespace F
theorem zip_no_len:typeLookup (.type "zip") "__len__" = pure none:=by rw[typeLookup_type,builtinLookup_eq_fast]; kernel_rfl
theorem zip_no_hint:typeLookup (.type "zip") "__length_hint__" = pure none:=by rw[typeLookup_type,builtinLookup_eq_fast]; kernel_rfl
end F
set_option hygiene false in
local macro_rules|`(tactic| walk_at "zr")=>`(tactic| (
 simp only[Bool.false_eq_true,if_false,List.forIn_toArray,List.forIn_cons,List.forIn_nil];refine wpAny_bind (wpAny_bind (wpAny_bind (wpAny_holding ?_)));show wpAny _ _ (Builtin.SmallTypes.nextOf (.ref i1) >>= _) _ _ _;refine wpAny_bind (wpAny_nextOf_list_item (h1.extBut hs₀.extBut D.i1z) (hl1.extBut hs₀.extBut D.l1z) hx fun h₂ h1₂ hs₂=>wpAny_pure ?_);refine wpAny_pure ?_;refine wpAny_bind (wpAny_bind (wpAny_holding ?_));show wpAny _ _ (Builtin.SmallTypes.nextOf (.ref i2) >>= _) _ _ _;refine wpAny_bind (wpAny_nextOf_list_item ((h2.extBut hs₀.extBut D.i2z).extBut hs₂.extBut D.i12.symm) ((hl2.extBut hs₀.extBut D.l2z).extBut hs₂.extBut D.l2i1) hy fun h₄ h2₄ hs₄=>wpAny_pure ?_);refine wpAny_pure (wpAny_pure ?_);show wpAny _ _ (newTuple [x,y] >>= _) _ _ _;refine wpAny_bind (wpAny_newTuple (wpAny_pure ⟨_,rfl,?_⟩))
 replace hs₂:Heap.SameBut i1 h₀ h₂:=hs₂
 replace hs₄:Heap.SameBut i2 h₂ h₄:=hs₄
 have hsz:h₄.objs.size=hp.objs.size:=by rw[hs₄.1,hs₂.1,hs₀.1]
 show Q (.ref h₄.objs.size) ⟨h₄.push { cls:=.type "tuple", data:=.seq #[x,y] },g,d,tk,os⟩;have hz₄:mX h₄ z TI TO (rawInt T) (.bool true):=hs₄.extBut _ _ D.i2z.symm (hs₂.extBut _ _ D.i1z.symm hz₀);have hT₄:IsPair (h₄.push { cls:=.type "tuple", data:=.seq #[x,y] }) h₄.objs.size x y:=Heap.get?_push_size _ rfl;rw[hsz] at hT₄ ⊢;exact hQ _ (Heap.get?_push_of_some _ hz₄) ((h1₂.extBut hs₄.extBut D.i12).at fun o e=>Heap.get?_push_of_some _ e) (h2₄.at fun o e=>Heap.get?_push_of_some _ e) hT₄ (by rw[Heap.size_push,hsz])
  fun c o c1 c2 c3 e=>Heap.get?_push_of_some _ (hs₄.extBut _ _ c3 (hs₂.extBut _ _ c2 (hs₀.extBut _ _ c1 e)))))
set_option hygiene false in
local macro_rules|`(tactic| walk_at "ze")=>`(tactic| (
 simp only[Bool.false_eq_true,if_false,List.forIn_toArray,List.forIn_cons,List.forIn_nil];refine wpAny_bind (wpAny_bind (wpAny_bind (wpAny_holding ?_)));show wpAny _ _ (Builtin.SmallTypes.nextOf (.ref i1) >>= _) _ _ _
 cases hx:xs[k1]? with
 | none=>
  refine wpAny_bind (wpAny_nextOf_list_end hh (h1.extBut hs₀.extBut D.i1z) (hl1.extBut hs₀.extBut D.l1z) hx fun h₂ e hs₂ he=>?_);exact hE h₂ e (fun c o c1 c2 c3 x=>hs₂ _ _ c2 (hs₀.extBut _ _ c1 x)) he
 | some x=>
  have hy:ys[k2]?=none:=by rcases hend with h|h; rw[hx] at h; cases h; exact h
  refine wpAny_bind (wpAny_nextOf_list_item (h1.extBut hs₀.extBut D.i1z) (hl1.extBut hs₀.extBut D.l1z) hx fun h₂ h1₂ hs₂=>wpAny_pure ?_);refine wpAny_pure ?_;refine wpAny_bind (wpAny_bind (wpAny_holding ?_));show wpAny _ _ (Builtin.SmallTypes.nextOf (.ref i2) >>= _) _ _ _;refine wpAny_bind (wpAny_nextOf_list_end hh ((h2.extBut hs₀.extBut D.i2z).extBut hs₂.extBut D.i12.symm) ((hl2.extBut hs₀.extBut D.l2z).extBut hs₂.extBut D.l2i1) hy fun h₄ e hs₄ he=>?_);exact hE h₄ e (fun c o c1 c2 c3 x=>hs₄ _ _ c3 (hs₂.extBut _ _ c2 (hs₀.extBut _ _ c1 x))) he))
abbrev mX (h:Heap)(z TI TO:Addr)(f0 f1:Value):Prop:=
 h.get? z=some { cls:=.type "zip", dict:=none,data:=.fields #[f0,f1,.bool false,.ref TI,.ref TO],slots:=#[] }
section
variable {prog:Program}{w:World}{A:Around}{E:Value→Shared→Prop}{s:Shared}
theorem nC {a:Addr}{Q:Option Obj→Shared→Prop}(h:Q (s.heap.get? a) s):wpAny (model prog w) A (loadIfAlive a) Q E s:=by
 intro Γ p hΓ;show wp _ _ (.loadIfAlive a .pure) _ _ _ _;rw[Sem.wp_loadIfAlive];exact wpAny_pure (M:=model prog w) (A:=A) (E:=E) h Γ p hΓ
theorem a2C {z TI TO i1 i2 l1 l2 T:Addr}{k1 k2:Nat}{xs ys:Array Value}{x y:Value}{b1:Bool}{oT:Obj}{Q:Value→Shared→Prop}(D:ZipApart z TI TO i1 i2 l1 l2)
  (hz:mX s.heap z TI TO (rawInt T) (.bool b1)) (hT:s.heap.get? T=some oT) (hTI:IsPair s.heap TI (.ref i1) (.ref i2))
  (h1:s.heap.IsListIter i1 l1 k1) (h2:s.heap.IsListIter i2 l2 k2) (hl1:s.heap.IsList l1 xs) (hl2:s.heap.IsList l2 ys) (hx:xs[k1]?=some x) (hy:ys[k2]?=some y)
  (hQ:∀ h',mX h' z TI TO (rawInt T) (.bool true)→h'.IsListIter i1 l1 (k1+1)→h'.IsListIter i2 l2 (k2+1)→IsPair h' s.heap.objs.size x y→h'.objs.size=s.heap.objs.size+1 →
   (∀ c o,c≠z→c≠i1→c≠i2→s.heap.get? c=some o→h'.get? c=some o)→Q (.ref s.heap.objs.size) { s with heap:=h' }) :
  wpAny (model prog w) A (Builtin.«zip.__next__» ⟨[.ref z],[]⟩) (fun fin s'=>∃ v,fin=.done (.ret v)∧Q v s') E s:=by
 obtain⟨hp,g,d,tk,os⟩:=s;show wpAny _ _ (field (.ref z) 2 >>= _) _ _ _;refine wpAny_bind (wpAny_field hz rfl (x:=.bool false) rfl ?_);show wpAny _ _ (field (.ref z) 3 >>= _) _ _ _;refine wpAny_bind (wpAny_field hz rfl (x:=.ref TI) rfl ?_);refine wpAny_bind (wpAny_seqItems hTI rfl ?_);show wpAny _ _ (Builtin.SmallTypes.ownedTupleIsFree (.ref z) >>= _) _ _ _;refine wpAny_bind ?_;unfold Builtin.SmallTypes.ownedTupleIsFree;refine wpAny_bind (wpAny_field hz rfl (x:=rawInt T) rfl ?_);simp only[rawInt];refine wpAny_bind (nC ?_);simp only[Int.toNat_natCast,hT,Option.isNone_some,Bool.false_eq_true,if_false];refine wpAny_bind (wpAny_field hz rfl (x:=.bool b1) rfl ?_)
 cases b1
 ·rw[if_pos (by decide)];refine wpAny_bind (wpAny_setField_rec hz (by simp) fun h₀ hz₀ hs₀=>wpAny_pure ?_)
  replace hz₀:mX h₀ z TI TO (rawInt T) (.bool true):=hz₀
  replace hs₀:Heap.SameBut z hp h₀:=hs₀
  walk_at "zr"
 ·rw[if_neg (by decide)];refine wpAny_pure ?_;obtain⟨h₀,e₀⟩:∃ h₀,h₀=hp:=⟨_,rfl⟩;have hz₀:mX h₀ z TI TO (rawInt T) (.bool true):=by rw[e₀]; exact hz
  have hs₀:Heap.SameBut z hp h₀:=by rw[e₀]; exact⟨rfl,fun _ _=>rfl⟩
  show wpAny _ _ _ _ _ ⟨hp,g,d,tk,os⟩;rw[show(⟨hp,g,d,tk,os⟩:Shared)=⟨h₀,g,d,tk,os⟩ by rw[e₀]];walk_at "zr"
theorem a3W {z TI TO i1 i2 l1 l2 T:Addr}{k1 k2:Nat}{xs ys:Array Value}{b1:Bool}{oT:Obj}{Q:Fin→Shared→Prop}(hh:A.handled=none)(D:ZipApart z TI TO i1 i2 l1 l2)
  (hz:mX s.heap z TI TO (rawInt T) (.bool b1)) (hT:s.heap.get? T=some oT) (hTI:IsPair s.heap TI (.ref i1) (.ref i2))
  (h1:s.heap.IsListIter i1 l1 k1) (h2:s.heap.IsListIter i2 l2 k2) (hl1:s.heap.IsList l1 xs) (hl2:s.heap.IsList l2 ys) (hend:xs[k1]?=none∨ys[k2]?=none)
  (hE:∀ h' e,(∀ c o,c≠z→c≠i1→c≠i2→s.heap.get? c=some o→h'.get? c=some o)→(∃ o,h'.get? e=some o∧o.cls=.type "StopIteration")→E (.ref e) { s with heap:=h' }) :
  wpAny (model prog w) A (Builtin.«zip.__next__» ⟨[.ref z],[]⟩) Q E s:=by
 obtain⟨hp,g,d,tk,os⟩:=s;show wpAny _ _ (field (.ref z) 2 >>= _) _ _ _;refine wpAny_bind (wpAny_field hz rfl (x:=.bool false) rfl ?_);show wpAny _ _ (field (.ref z) 3 >>= _) _ _ _;refine wpAny_bind (wpAny_field hz rfl (x:=.ref TI) rfl ?_);refine wpAny_bind (wpAny_seqItems hTI rfl ?_);show wpAny _ _ (Builtin.SmallTypes.ownedTupleIsFree (.ref z) >>= _) _ _ _;refine wpAny_bind ?_;unfold Builtin.SmallTypes.ownedTupleIsFree;refine wpAny_bind (wpAny_field hz rfl (x:=rawInt T) rfl ?_);simp only[rawInt];refine wpAny_bind (nC ?_);simp only[Int.toNat_natCast,hT,Option.isNone_some,Bool.false_eq_true,if_false];refine wpAny_bind (wpAny_field hz rfl (x:=.bool b1) rfl ?_)
 cases b1
 ·rw[if_pos (by decide)];refine wpAny_bind (wpAny_setField_rec hz (by simp) fun h₀ hz₀ hs₀=>wpAny_pure ?_)
  replace hz₀:mX h₀ z TI TO (rawInt T) (.bool true):=hz₀
  replace hs₀:Heap.SameBut z hp h₀:=hs₀
  walk_at "ze"
 ·rw[if_neg (by decide)];refine wpAny_pure ?_;obtain⟨h₀,e₀⟩:∃ h₀,h₀=hp:=⟨_,rfl⟩;have hz₀:mX h₀ z TI TO (rawInt T) (.bool true):=by rw[e₀]; exact hz
  have hs₀:Heap.SameBut z hp h₀:=by rw[e₀]; exact⟨rfl,fun _ _=>rfl⟩
  show wpAny _ _ _ _ _ ⟨hp,g,d,tk,os⟩;rw[show(⟨hp,g,d,tk,os⟩:Shared)=⟨h₀,g,d,tk,os⟩ by rw[e₀]];walk_at "ze"
theorem yJ {z TI TO i1 i2 l1 l2 T:Addr}{k1 k2:Nat}{xs ys:Array Value}{x y:Value}{b1:Bool}{oT:Obj}{Q:Option Value→Shared→Prop}(D:ZipApart z TI TO i1 i2 l1 l2)
  (hz:mX s.heap z TI TO (rawInt T) (.bool b1)) (hT:s.heap.get? T=some oT) (hTI:IsPair s.heap TI (.ref i1) (.ref i2))
  (h1:s.heap.IsListIter i1 l1 k1) (h2:s.heap.IsListIter i2 l2 k2) (hl1:s.heap.IsList l1 xs) (hl2:s.heap.IsList l2 ys) (hx:xs[k1]?=some x) (hy:ys[k2]?=some y)
  (hQ:∀ h',mX h' z TI TO (rawInt T) (.bool true)→h'.IsListIter i1 l1 (k1+1)→h'.IsListIter i2 l2 (k2+1)→IsPair h' s.heap.objs.size x y→h'.objs.size=s.heap.objs.size+1 →
   (∀ c o,c≠z→c≠i1→c≠i2→s.heap.get? c=some o→h'.get? c=some o)→Q (some (.ref s.heap.objs.size)) { s with heap:=h' }) :
  wpAny (model prog w) A (pyNext (.ref z)) Q E s:=by
 have hT':s.TypeIs (.ref z) "zip" := ⟨_,hz,rfl⟩;unfold pyNext;exact wpAny_bind (wpAny_attempt (wpAny_callSpecial?_slot (name:=Str.ofString "__next__") hT' F.slot_zip_next
  (wpAny_call_entry F.slot_zip_next hT' F.entry_zip_next
   (a2C D hz hT hTI h1 h2 hl1 hl2 hx hy fun h' a1 a3 a4 a5 a6 a7=>wpAny_pure (hQ h' a1 a3 a4 a5 a6 a7)) (F.args_zip_next_1 _))))
theorem a0N {z TI TO i1 i2 l1 l2 T:Addr}{k1 k2:Nat}{xs ys:Array Value}{b1:Bool}{oT:Obj}{Q:Option Value→Shared→Prop}(hh:A.handled=none)(D:ZipApart z TI TO i1 i2 l1 l2)
  (hz:mX s.heap z TI TO (rawInt T) (.bool b1)) (hT:s.heap.get? T=some oT) (hTI:IsPair s.heap TI (.ref i1) (.ref i2))
  (h1:s.heap.IsListIter i1 l1 k1) (h2:s.heap.IsListIter i2 l2 k2) (hl1:s.heap.IsList l1 xs) (hl2:s.heap.IsList l2 ys) (hend:xs[k1]?=none∨ys[k2]?=none)
  (hQ:∀ h',(∀ c o,c≠z→c≠i1→c≠i2→s.heap.get? c=some o→h'.get? c=some o)→Q none { s with heap:=h' }):wpAny (model prog w) A (pyNext (.ref z)) Q E s:=by
 have hT':s.TypeIs (.ref z) "zip" := ⟨_,hz,rfl⟩;unfold pyNext;refine wpAny_bind (wpAny_attempt (wpAny_callSpecial?_slot (name:=Str.ofString "__next__") hT' F.slot_zip_next
  (wpAny_call_entry F.slot_zip_next hT' F.entry_zip_next (a3W hh D hz hT hTI h1 h2 hl1 hl2 hend fun h' e hk he=>?_) (F.args_zip_next_1 _))))
 obtain⟨o,ho,hc⟩:=he;refine wpAny_bind (wpAny_isInstance (T := "StopIteration") (b:=true) ⟨o,ho,hc⟩ isSubtype_stop ?_);exact wpAny_pure (hQ _ hk)
end
end PySem
namespace PySem
open Sem (wp)
structure ZAt (N z TI TO i1 i2 l1 l2:Addr)(xs ys:Array Value)(i:Nat)(h:Heap):Prop where
 tI:IsPair h TI (.ref i1) (.ref i2)
 it1:h.IsListIter i1 l1 i
 it2:h.IsListIter i2 l2 i
 li1:h.IsList l1 xs
 li2:h.IsList l2 ys
 zz:(i=0∧IsZip h z TI TO .none∧∃ a b,IsPair h TO a b)∨∃ T b1 oT,mX h z TI TO (rawInt (T:Addr)) (.bool b1)∧h.get? T=some oT∧N≤T
def AccZ (N:Nat)(xs ys:Array Value)(i:Nat)(h:Heap)(acc:Array Value):Prop:=
 acc.size=i∧∀(j:Nat) v,acc[j]?=some v→∃(T:Addr) (x y:Value),v=.ref T∧N≤T∧xs[j]?=some x∧ys[j]?=some y∧IsPair h T x y
theorem AccZ.up {N:Nat}{xs ys:Array Value}{i:Nat}{h h':Heap}{acc:Array Value}(a:AccZ N xs ys i h acc)(k:∀ b o,N≤b→h.get? b=some o→h'.get? b=some o):AccZ N xs ys i h' acc:=
 ⟨a.1,fun j v e=>let ⟨T,x,y,e1,e2,e3,e4,e5⟩:=a.2 j v e; ⟨T,x,y,e1,e2,e3,e4,k _ _ e2 e5⟩⟩
theorem AccZ.push {N:Nat}{xs ys:Array Value}{i:Nat}{h:Heap}{acc:Array Value}{T:Addr}{x y:Value}(a:AccZ N xs ys i h acc)(hT:N≤T)(hx:xs[i]?=some x)(hy:ys[i]?=some y)(hp:IsPair h T x y):AccZ N xs ys (i+1) h (acc.push (.ref T)):=by
 refine⟨by rw[Array.size_push,a.1],fun j v hj=>?_⟩;rw[Array.getElem?_push] at hj
 split at hj
 ·rename_i e; rw[a.1] at e; cases hj; rw[e]; exact⟨T,x,y,rfl,hT,hx,hy,hp⟩
 ·exact a.2 j v hj
theorem agt {N b c:Nat}(h1:c<N)(h2:N≤b):b≠c:=Nat.ne_of_gt (Nat.lt_of_lt_of_le h1 h2)
section
variable {prog:Program}{w:World}{A:Around}{R:Result→Shared→Prop}
theorem vU (hh:A.handled=none){N z TI TO i1 i2 l1 l2 S:Addr}{xs ys:Array Value}(D:ZipApart z TI TO i1 i2 l1 l2)(n1:z<N)(n2:TI<N)(n3:TO<N)(n4:i1<N)(n5:i2<N)(n6:l1<N)(n7:l2<N)(n8:S<N)
  (s1:S≠z) (s2:S≠TI) (s3:S≠TO) (s4:S≠i1) (s5:S≠i2) (s6:S≠l1) (s7:S≠l2) (res:Value) (hn:min xs.size ys.size≤sizeLine) :
  ∀(k i:Nat) (s:Shared) (acc:Array Value) (c:Nat),min xs.size ys.size-i=k→i≤min xs.size ys.size→N≤s.heap.objs.size→ZAt N z TI TO i1 i2 l1 l2 xs ys i s.heap →
  s.heap.get? S=some { cls:=.type "list", dict:=none,data:=.seq acc c,slots:=#[] }→AccZ N xs ys i s.heap acc →
  (∀ h' acc' c',(∀ b o,b<N→b∉[S,z,TO,i1,i2]→s.heap.get? b=some o→h'.get? b=some o)→h'.get? S=some { cls:=.type "list", dict:=none,data:=.seq acc' c',slots:=#[] } →
   AccZ N xs ys (min xs.size ys.size) h' acc'→R (.ok (.ret res)) { s with heap:=h' }) →
  codeAny (model prog w) A (.builtin "list.extend.loop" ⟨[.ref S,.ref z,res],[]⟩) R s:=by
 intro k
 induction k with
 | zero=>
  intro i s acc c hk hi hsz Z hS hacc hR;have hin:i=min xs.size ys.size:=by omega
  subst hin;have hend:xs[min xs.size ys.size]?=none∨ys[min xs.size ys.size]?=none:=by
   rcases Nat.le_total xs.size ys.size with h|h
   ·exact .inl (by rw[Nat.min_eq_left h]; exact Array.getElem?_eq_none (Nat.le_refl _))
   ·exact .inr (by rw[Nat.min_eq_right h]; exact Array.getElem?_eq_none (Nat.le_refl _))
  refine codeAny_builtin F.entry_extend_loop ?_;rw[Around.under_plainId F.plain_extend_loop _];show wpAny _ A.in1 (pyNext (.ref z) >>= _) _ _ s;refine wpAny_bind ?_;rcases Z.zz with⟨e0,hz,a,b,hTO⟩|⟨T,b1,oT,hz,hT,hNT⟩
  ·refine wpAny_pyNext_zip_end (A:=A.in1) hh D hz Z.tI hTO Z.it1 Z.it2 Z.li1 Z.li2 hend fun h' kp=>wpAny_pure (hR h' acc c (fun b o hb hm e=>?_) (kp _ _ s1 s3 s4 s5 hS) (hacc.up fun b o hb e=>?_))
   ·exact kp b o (fun z=>hm (by simp[z])) (fun z=>hm (by simp[z])) (fun z=>hm (by simp[z])) (fun z=>hm (by simp[z])) e
   ·exact kp b o (agt n1 hb) (agt n3 hb) (agt n4 hb) (agt n5 hb) e
  ·refine a0N (A:=A.in1) hh D hz hT Z.tI Z.it1 Z.it2 Z.li1 Z.li2 hend fun h' kp=>wpAny_pure (hR h' acc c (fun b o hb hm e=>?_) (kp _ _ s1 s4 s5 hS) (hacc.up fun b o hb e=>?_))
   ·exact kp b o (fun z=>hm (by simp[z])) (fun z=>hm (by simp[z])) (fun z=>hm (by simp[z])) e
   ·exact kp b o (agt n1 hb) (agt n4 hb) (agt n5 hb) e
 | succ k ih=>
  intro i s acc c hk hi hsz Z hS hacc hR;have hlt:i<min xs.size ys.size:=by omega
  have hix:i<xs.size:=Nat.lt_of_lt_of_le hlt (Nat.min_le_left ..);have hiy:i<ys.size:=Nat.lt_of_lt_of_le hlt (Nat.min_le_right ..);have ex:=Array.getElem?_eq_getElem hix;have ey:=Array.getElem?_eq_getElem hiy;refine codeAny_builtin F.entry_extend_loop ?_;rw[Around.under_plainId F.plain_extend_loop _];show wpAny _ A.in1 (pyNext (.ref z) >>= _) _ _ s;refine wpAny_bind ?_;have next:∀(h':Heap) (T:Addr) (b1:Bool) (oT:Obj),mX h' z TI TO (rawInt T) (.bool b1)→h'.get? T=some oT→N≤T→h'.IsListIter i1 l1 (i+1)→h'.IsListIter i2 l2 (i+1)→IsPair h' s.heap.objs.size xs[i] ys[i]→h'.objs.size=s.heap.objs.size+1 →
    (∀ c o,c≠z→c≠TO→c≠i1→c≠i2→s.heap.get? c=some o→h'.get? c=some o) →
    wpAny (model prog w) A.in1 (updateSeq S (·.push (.ref s.heap.objs.size)) >>= fun _=>again (.builtin "list.extend.loop" ⟨[.ref S,.ref z,res],[]⟩)) (fun fin s'=>match fin with|.done f=>R (.ok f) s'|.again c'=>c'.quiet=true∧codeAny (model prog w) A c' R s') (fun e s'=>R (.error e) s') { s with heap:=h' }:=by
   intro h' T b1 oT hz hT hNT it1 it2 hp hsz' kp;have hS':=kp _ _ s1 s3 s4 s5 hS;refine wpAny_bind ?_;have oth:∀ b o,b≠S→h'.get? b=some o→(h'.update S (Obj.mapSeq (·.push (.ref s.heap.objs.size)))).get? b=some o:=fun b o hb e=>(Heap.get?_update_other _ _ (Ne.symm hb)).trans e;refine wpAny_updateSeq hS' rfl (wpAny_pure ⟨plainId_quiet F.plain_extend_loop _,ih (i+1) _ (acc.push (.ref s.heap.objs.size)) _ (by omega) hlt ?_ ⟨?_,?_,?_,?_,?_,?_⟩ (Heap.get?_update_self _ hS' rfl) ?_ fun h'' acc' c' kp2 hS2 hacc2=>?_⟩)
    (by rw[hacc.1]; omega) (by show(acc.push _).size≤sizeLine+1; rw[Array.size_push,hacc.1]; omega)
   ·show N≤(h'.update S _).objs.size;rw[Heap.size_update,hsz']; exact Nat.le_succ_of_le hsz
   ·exact oth _ _ (Ne.symm s2) (kp _ _ D.TIz D.TITO D.TIi1 D.TIi2 Z.tI)
   ·exact it1.at fun o e=>oth _ o (Ne.symm s4) e
   ·exact it2.at fun o e=>oth _ o (Ne.symm s5) e
   ·exact Z.li1.at fun o e=>oth _ o (Ne.symm s6) (kp _ o D.l1z D.l1TO D.l1i1 D.l1i2 e)
   ·exact Z.li2.at fun o e=>oth _ o (Ne.symm s7) (kp _ o D.l2z D.l2TO D.l2i1 D.l2i2 e)
   ·exact .inr ⟨T,b1,oT,oth _ _ (Ne.symm s1) hz,oth _ _ (agt n8 hNT) hT,hNT⟩
   ·exact AccZ.push (hacc.up fun b o hb e=>oth _ _ (agt n8 hb) (kp _ _ (agt n1 hb) (agt n3 hb) (agt n4 hb) (agt n5 hb) e)) hsz ex ey (oth _ _ (agt n8 hsz) hp)
   ·refine hR h'' acc' c' (fun b o hb hm e=>kp2 b o hb hm (oth b o (fun z=>hm (by simp[z])) ?_)) hS2 hacc2;exact kp b o (fun z=>hm (by simp[z])) (fun z=>hm (by simp[z])) (fun z=>hm (by simp[z])) (fun z=>hm (by simp[z])) e
  rcases Z.zz with⟨e0,hz,a,b,hTO⟩|⟨T,b1,oT,hz,hT,hNT⟩
  ·refine wpAny_pyNext_zip_item (A:=A.in1) D hz Z.tI hTO Z.it1 Z.it2 Z.li1 Z.li2 ex ey fun h' a1 a2 a3 a4 a5 a6 kp=>?_;exact next h' s.heap.objs.size false _ a1 a5 hsz a3 a4 a5 a6 kp
  ·refine yJ (A:=A.in1) D hz hT Z.tI Z.it1 Z.it2 Z.li1 Z.li2 ex ey fun h' a1 a3 a4 a5 a6 kp=>?_;exact next h' T true oT a1 (kp _ _ (agt n1 hNT) (agt n4 hNT) (agt n5 hNT) hT) hNT a3 a4 a5 a6 fun c o c1 _ c3 c4 e=>kp c o c1 c3 c4 e
end
section
variable {prog:Program}{w:World}{A:Around}{E:Value→Shared→Prop}{s:Shared}
theorem a4W {Q:Value→Shared→Prop}{z TI TO i1 i2 l1 l2:Addr}{xs ys:Array Value}{a b:Value}(hh:A.handled=none)(D:ZipApart z TI TO i1 i2 l1 l2)
  (hz:IsZip s.heap z TI TO .none) (hTI:IsPair s.heap TI (.ref i1) (.ref i2)) (hTO:IsPair s.heap TO a b) (h1:s.heap.IsListIter i1 l1 0) (h2:s.heap.IsListIter i2 l2 0) (hl1:s.heap.IsList l1 xs) (hl2:s.heap.IsList l2 ys) (hn:min xs.size ys.size≤sizeLine)
  (hQ:∀ h' acc' c',(∀ b o,b∉[z,TO,i1,i2]→s.heap.get? b=some o→h'.get? b=some o)→h'.get? s.heap.objs.size=some { cls:=.type "list", dict:=none,data:=.seq acc' c',slots:=#[] } →
   AccZ (s.heap.objs.size+1) xs ys (min xs.size ys.size) h' acc'→Q (.ref s.heap.objs.size) { s with heap:=h' }) :
  wpAny (model prog w) A (call (.type "list") [.ref z]) Q E s:=by
 refine callType_codes (Q₁:=fun obj s₁=>obj=.ref s.heap.objs.size∧s₁={ s with heap:=s.heap.push { cls:=.type "list", data:=.seq #[] } }) F.called_list (F.typeCall_list_1 _) F.entry_list_init
  (code_list_new _ ⟨rfl,rfl⟩) fun obj s₁ h₁=>?_
 obtain⟨rfl,rfl⟩:=h₁;have hS:(s.heap.push { cls:=.type "list", data:=.seq #[] }).get? s.heap.objs.size=some { cls:=.type "list", data:=.seq #[] }:=Heap.get?_push_size _ rfl;refine⟨⟨_,hS,rfl⟩,F.args_list_init_2 _ _,?_⟩;generalize hSe:s.heap.objs.size=S at *;have lt:∀{c o},s.heap.get? c=some o→c<S:=fun e=>by rw[← hSe]; exact Heap.lt_size e
 have lz:=lt hz;have lTI:=lt hTI;have lTO:=lt hTO;have li1:i1<S:=by obtain⟨_,e,_⟩:=h1; exact lt e
 have li2:i2<S:=by obtain⟨_,e,_⟩:=h2; exact lt e
 have ll1:l1<S:=by obtain⟨_,e,_⟩:=hl1; exact lt e
 have ll2:l2<S:=by obtain⟨_,e,_⟩:=hl2; exact lt e
 show wpAny _ _ (do let old←Builtin.List.listItems (.ref S); Builtin.List.listUpdate (.ref S) (fun _=>#[]); letGo old.toList.reverse; Builtin.List.listExtendWith (.ref S) (.ref z) .none) _ _ _;refine wpAny_bind ?_;unfold Builtin.List.listItems;refine wpAny_bind (wpAny_seqItems hS rfl (wpAny_pure ?_));show wpAny _ _ (updateSeq S (fun _=>#[]) >>= fun _=>letGo (#[]:Array Value).toList.reverse >>= fun _=>Builtin.List.listExtendWith (.ref S) (.ref z) .none) _ _ _;refine wpAny_bind (wpAny_updateSeq hS rfl ?_);have hS₂:=Heap.get?_update_self (Obj.mapSeq (fun _=>(#[]:Array Value))) hS rfl;have up₂:∀ b o,s.heap.get? b=some o→((s.heap.push { cls:=.type "list", data:=.seq #[] }).update S (Obj.mapSeq (fun _=>(#[]:Array Value)))).get? b=some o:=
  fun b o e=>(Heap.get?_update_other _ _ (Nat.ne_of_gt (lt e))).trans (Heap.get?_push_of_some _ e)
 have sz₂:((s.heap.push { cls:=.type "list", data:=.seq #[] }).update S (Obj.mapSeq (fun _=>(#[]:Array Value)))).objs.size=S+1:=by rw[Heap.size_update,Heap.size_push,hSe]
 generalize (s.heap.push { cls:=.type "list", data:=.seq #[] }).update S (Obj.mapSeq (fun _=>(#[]:Array Value)))=hp at *;refine wpAny_bind (wpAny_letGo ?_);have hT:(({ s with heap:=hp }:Shared)).TypeIs (.ref z) "zip" := ⟨_,up₂ _ _ hz,rfl⟩;unfold Builtin.List.listExtendWith;refine wpAny_bind (wpAny_typeOf hT ?_);have g1:Builtin.List.listSameRef (.ref S) (.ref z)=false:=by simp[Builtin.List.listSameRef]; exact Nat.ne_of_gt lz
 have g2:(Value.type "zip" == Value.type "list")=false:=by decide
 have g3:(Value.type "zip" == Value.type "tuple")=false:=by decide
 simp only[g1,g2,g3,Bool.or_false,Bool.false_eq_true,if_false];refine wpAny_bind (wpAny_pyIter_zip (up₂ _ _ hz) ?_);refine wpAny_bind (wpAny_holding ?_);unfold Builtin.List.listLengthHint;refine wpAny_bind (wpAny_specialOf hT F.zip_no_len ?_);show wpAny _ _ (specialOf (Value.ref z) (Str.ofString "__length_hint__") >>= _) _ _ _;refine wpAny_bind (wpAny_specialOf hT F.zip_no_hint ?_);refine wpAny_pure ?_;show wpAny _ _ (rule "list.extend.makes-room" >>= fun _=>Builtin.List.listTouch (.ref S) >>= fun _=>
  again (.builtin "list.extend.loop" ⟨[.ref S,.ref z,.none],[]⟩)) _ _ _
 refine wpAny_bind (wpAny_rule ?_);refine wpAny_bind ?_;show wpAny _ _ (updateSeq S (·.push .none) >>= fun _=>updateSeq S (·.pop)) _ _ _;refine wpAny_bind (wpAny_updateSeq hS₂ rfl ?_);have hS₃:=Heap.get?_update_self (Obj.mapSeq (·.push Value.none)) hS₂ rfl;refine wpAny_updateSeq hS₃ rfl ?_;have hS₄:=Heap.get?_update_self (Obj.mapSeq (·.pop)) hS₃ rfl;have up₄:∀ b o,s.heap.get? b=some o→((hp.update S (Obj.mapSeq (·.push Value.none))).update S (Obj.mapSeq (·.pop))).get? b=some o:=
  fun b o e=>(Heap.get?_update_other _ _ (Nat.ne_of_gt (lt e))).trans ((Heap.get?_update_other _ _ (Nat.ne_of_gt (lt e))).trans (up₂ b o e))
 have sz₄:((hp.update S (Obj.mapSeq (·.push Value.none))).update S (Obj.mapSeq (·.pop))).objs.size=S+1:=by rw[Heap.size_update,Heap.size_update,sz₂]
 refine wpAny_pure ⟨plainId_quiet F.plain_extend_loop _,vU (A:=A.in1) hh (N:=S+1) (S:=S) (xs:=xs) (ys:=ys) D (Nat.lt_succ_of_lt lz) (Nat.lt_succ_of_lt lTI) (Nat.lt_succ_of_lt lTO) (Nat.lt_succ_of_lt li1) (Nat.lt_succ_of_lt li2) (Nat.lt_succ_of_lt ll1) (Nat.lt_succ_of_lt ll2) (Nat.lt_succ_self _) (Nat.ne_of_gt lz) (Nat.ne_of_gt lTI) (Nat.ne_of_gt lTO) (Nat.ne_of_gt li1) (Nat.ne_of_gt li2) (Nat.ne_of_gt ll1) (Nat.ne_of_gt ll2) .none hn _ 0 _ _ _ rfl (Nat.zero_le _) (by show S+1≤_; rw[sz₄]; exact Nat.le_refl _) ⟨up₄ _ _ hTI,h1.at fun o e=>up₄ _ o e,h2.at fun o e=>up₄ _ o e,hl1.at fun o e=>up₄ _ o e,hl2.at fun o e=>up₄ _ o e,.inl ⟨rfl,up₄ _ _ hz,_,_,up₄ _ _ hTO⟩⟩ hS₄ ⟨rfl,fun j v e=>by simp at e⟩ fun h' acc' c' kp e1 e2=>?_⟩;exact⟨rfl,hQ h' acc' c' (fun b o hm e=>kp b o (Nat.lt_succ_of_lt (lt e)) (fun h=>by
  rcases List.mem_cons.mp h with z|z
  ·exact absurd (lt e) (by rw[z]; exact Nat.lt_irrefl _)
  ·exact hm z) (up₄ b o e)) e1 e2⟩
end
end PySem
namespace L2
open PySem PySem.Spec PyProof.Rows
theorem aBB:∀{v v':V} {u:Value},RelV v u→RelV v' u→v=v':=by
 intro v v' u h h';have go:∀{v:V} {u:Value},RelV v u→v=(match u with|.none=>V.non|.bool b=>.bl b|.int i _=>.int i|.str x _=>.str x|.bytes b _=>.byt b|.float b _=>.flt b|.ref a=>.ref a|.type n=>.ty n|_=>.non):=by
  intro v u h
  cases v<;>first
   | (cases h; rfl)
   | (obtain⟨t,rfl⟩:=h; rfl)
 rw[go h,←go h']
section
variable {X:Cx}{pins:List (Addr×Obj)}{σ:List (Option V)}{H:Hp}{s:Shared}
theorem Inv.laidN {H2:Hp}{h':Heap}{t':Nat}(I:Inv X pins σ H s)(k:∀ b u,s.heap.get? b=some u→h'.get? b=some u)(lo:∀ b,b<s.heap.objs.size→H2 b=H b)
  (new:∀ b o,s.heap.objs.size≤b→H2 b=some o→ObjOk X.prog X.w H2 h' b o):Inv X pins σ H2 { s with heap:=h',toks:=t' }:=by
 refine I.un ⟨fun b u q _ _ _=>k b u q,fun b u q _ _ _=>⟨u.slots,k b u q⟩,fun b u q n _=>(lo b (Heap.lt_size q)).trans n,fun b u q _=>⟨u,k b u q⟩,fun b xs q=>(lo b (I.hok.lt q)).trans q,fun b u xs q=>(lo b (I.hok.lt q)).trans q,fun b ps q=>⟨#[],by rw[lo b (I.hok.lt q),q]; simp⟩⟩ fun b o e=>?_
 by_cases hb:b<s.heap.objs.size
 ·rw[lo b hb] at e;exact(I.hok b o e).stay (fun c v _ q=>k c v q) (fun c q=>(lo c (I.hok.lt q)).trans q) fun c xs q=>(lo c (I.hok.lt q)).trans q
 ·exact new b o (Nat.le_of_not_lt hb) e
def tLZ (K:Fg)(ta:TA):TE:=fun σ H Q=>ta σ H fun vs H1=>∃ p q xs ys,vs=[.ref p,.ref q]∧SqL K H1 p xs∧SqL K H1 q ys ∧
 ∀(l:Addr) (H2:Hp) (us:List V),H1 l=none→Same H1 H2→H2 l=some (.lst us)→Paired (fun(v:V) (z:V×V)=>∃ T,v=.ref T∧H1 T=none∧T≠l∧H2 T=some (.tup [z.1,z.2])) us (xs.zip ys)→Q (.ref l) H2
theorem a6T {α β:Type}{P:α→β→Prop}:∀{xs:List α} {us:List β},xs.length=us.length→(∀(i:Nat) x u,xs[i]?=some x→us[i]?=some u→P x u)→Paired P xs us
 | [],[],_,_=>.nil
 | x::xs,u::us,hl,h=>.cons (h 0 x u rfl rfl) (a6T (by simpa using hl) fun i y w e1 e2=>h (i+1) y w (by simpa using e1) (by simpa using e2))
theorem Vals.at {xs:List V}{us:List Value}(h:Vals xs us){i:Nat}{u:Value}(e:us[i]?=some u):∃ x,xs[i]?=some x∧RelV x u:=by
 induction h generalizing i with
 | nil=>simp at e
 | @cons x w xs us hx _ ih=>
  cases i with
  | zero=>simp at e; subst e; exact⟨x,rfl,hx⟩
  | succ i=>simpa using ih (by simpa using e)
open Classical in
theorem aA9 {h0 h':Heap}{N:Nat}{xs ys:List V}{ix iy:List Value}{acc:Array Value}{c':Nat}{Q:VK}{l:Addr}(I:Inv X pins σ H s)(kp:∀ b u,s.heap.get? b=some u→h'.get? b=some u)(rx:Vals xs ix)(ry:Vals ys iy)(hl:s.heap.objs.size≤l)
  (e1:h'.get? l=some { cls:=.type "list", dict:=none,data:=.seq acc c',slots:=#[] }) (e2:AccZ (l+1) ix.toArray iy.toArray (min ix.toArray.size iy.toArray.size) h' acc) (hz:xs.length≤sizeLine)
  (k:∀(l:Addr) (H2:Hp) (us:List V),H l=none→Same H H2→H2 l=some (.lst us)→Paired (fun(v:V) (z:V×V)=>∃ T,v=.ref T∧H T=none∧T≠l∧H2 T=some (.tup [z.1,z.2])) us (xs.zip ys)→Q (.ref l) H2) :
  EP X pins σ Q (.ref l) { s with heap:=h' }:=by
 obtain⟨hs,ha⟩:=e2
 let Pr:Addr→V×V→Prop:=fun b z=>∃ ux uy,l+1≤b∧IsPair h' b ux uy∧RelV z.1 ux∧RelV z.2 uy∧∃ j:Nat,acc[j]?=some (Value.ref b)
 have prU:∀ b z z',Pr b z→Pr b z'→z=z':=by
  rintro b ⟨z1,z2⟩ ⟨z3,z4⟩ ⟨ux,uy,_,p1,p2,p3,_⟩ ⟨vx,vy,_,q1,q2,q3,_⟩;have e:=p1.symm.trans q1;simp only[Option.some.injEq,Obj.mk.injEq,Data.seq.injEq,Array.mk.injEq,List.cons.injEq,and_true,true_and] at e;obtain⟨rfl,rfl⟩:=e;have e1:z1=z3:=aBB p2 q2;have e2:z2=z4:=aBB p3 q3;rw[e1,e2]
 let us:List V:=(acc.toList).map fun u=>match u with|.ref T=>V.ref T|_=>V.non
 let H2:Hp:=fun b=>if b=l then some (.lst us) else if hb:∃ z,Pr b z then some (.tup [(choose hb).1,(choose hb).2]) else H b
 have h2P:∀ b z,b≠l→Pr b z→H2 b=some (.tup [z.1,z.2]):=fun b z hb hz=>by
  have hx:∃ z,Pr b z:=⟨z,hz⟩
  show(if b=l then _ else if hb:∃ z,Pr b z then _ else _)=_
  rw[if_neg hb,dif_pos hx,prU b _ z (choose_spec hx) hz]
 have h2l:H2 l=some (.lst us):=by show(if l=l then _ else _)=_; rw[if_pos rfl]
 have lo:∀ b,b<s.heap.objs.size→H2 b=H b:=fun b hb=>by
  have n1:b≠l:=Nat.ne_of_lt (Nat.lt_of_lt_of_le hb hl);have n2:¬∃ z,Pr b z:=fun⟨z,ux,uy,hN,_⟩=>absurd (Nat.lt_of_lt_of_le hb (Nat.le_trans hl (Nat.le_of_succ_le hN))) (Nat.lt_irrefl _)
  show(if b=l then _ else if hb:∃ z,Pr b z then _ else _)=_
  rw[if_neg n1,dif_neg n2]
 have hxl:=rx.length;have hyl:=ry.length;have hmin:min ix.toArray.size iy.toArray.size≤xs.length:=by rw[hxl]; simpa using Nat.min_le_left _ _
 have vus:Vals us acc.toList:=by
  refine a8G (by simp[us]) fun i x u e3 e4=>?_;obtain⟨T,ux,uy,e5,_⟩:=ha i u (by simpa using e4);have e6:us[i]?=some (V.ref T):=by
   simp only[us];rw[List.getElem?_map,e4,e5]; rfl
  rw[e6] at e3; cases e3;rw[e5]; exact rfl
 refine⟨.ref l,H2,I.laidN (t':=s.toks) kp lo fun b o hb eb=>?_,rfl,k l H2 us (I.hok.fresh hl) (fun b o e=>(lo b (I.hok.lt e)).trans e) h2l ?_⟩
 ·have eb:(if b=l then some (HO.lst us) else if hb:∃ z,Pr b z then some (HO.tup [(choose hb).1,(choose hb).2]) else H b)=some o:=eb
  by_cases n1:b=l
  ·rw[if_pos n1] at eb
   cases eb
   subst n1;refine⟨?_,acc.toList,c',vus,by simpa using e1⟩;rw[vus.length,Array.length_toList,hs];exact Nat.le_trans hmin hz
  ·rw[if_neg n1] at eb
   split at eb
   ·rename_i hx
    cases eb
    obtain⟨ux,uy,_,p1,p2,p3,_⟩:=choose_spec hx;exact⟨jX (by show 2≤1000; decide),[ux,uy],.cons p2 (.cons p3 .nil),⟨_,p1,rfl,_,rfl⟩⟩
   ·rw[I.hok.fresh hb] at eb; cases eb
 ·have hlen:us.length=(xs.zip ys).length:=by
   rw[vus.length,Array.length_toList,hs,List.length_zip,hxl,hyl]; simp
  refine a6T hlen fun i v z e3 e4=>?_;have hi:i<acc.size:=by
   have:=(List.getElem?_eq_some_iff.mp e3).1;rw[vus.length,Array.length_toList] at this;exact this
  have e5:acc[i]?=some acc[i]:=Array.getElem?_eq_getElem hi;obtain⟨T,ux,uy,e6,hT,g1,g2,g3⟩:=ha i _ e5;have e7:us[i]?=some (V.ref T):=by
   simp only[us];rw[List.getElem?_map,Array.getElem?_toList,e5,e6]; rfl
  rw[e7] at e3; cases e3;obtain⟨x,ex,rx'⟩:=Vals.at rx (i:=i) (u:=ux) (by simpa using g1);obtain⟨y,ey,ry'⟩:=Vals.at ry (i:=i) (u:=uy) (by simpa using g2);have ez:z=(x,y):=by
   rw[List.getElem?_zip_eq_some] at e4;obtain⟨f1,f2⟩:=e4;rw[ex] at f1; rw[ey] at f2
   cases f1; cases f2; rfl
  subst ez;have hTl:T≠l:=Nat.ne_of_gt hT;exact⟨T,rfl,I.hok.fresh (Nat.le_trans hl (Nat.le_of_succ_le hT)),hTl,h2P T (x,y) hTl ⟨ux,uy,hT,g3,rx',ry',i,by rw[e5,e6]⟩⟩
theorem aCU {a b:Expr}{ta:TA}{p p2 pos pos2:Pos}(hc:X.calm=true)(hg1:Gl X "list")(hm1:X.mg "list" = none)(hg2:Gl X "zip")(hm2:X.mg "zip" = none)(ha:PA X [a,b] ta)
  (he:starEach [.Call (.Name "zip" p2) [a,b] [] pos2] X.env=[(false,eval (.Call (.Name "zip" p2) [a,b] [] pos2) X.env)]:=by rfl)
  (he2:starEach [a,b] X.env=(false,eval a X.env)::starEach [b] X.env:=by rfl) (hpl2:(backTo pos2 (starEach [b] X.env)).any (·.1)=false:=by rfl) :
  PE X (.Call (.Name "list" p) [.Call (.Name "zip" p2) [a,b] [] pos2] [] pos) (tLZ X.K ta):=by
 intro pins s σ H Q I h;refine wpAny_Call_Name_kw (xZ I hg1 hm1 boot_list ?_ (by decide) (by decide));refine PyProof.Rows.callWith_type1 (rest:=[]) ?_ he rfl;rw[he];refine Calls.spliced_cons ?_;refine wpAny_Call_Name_kw (xZ I hg2 hm2 boot_zip ?_ (by decide) (by decide));refine PyProof.Rows.callWith_type1 (thn (ha pos2 pins s σ H _ I h) fun us s1 ⟨vs,H1,I1,r1,p,q,xs,ys,e,hp,hq,k⟩=>?_) he2 hpl2;subst e
 cases r1 with
 | cons ra rb=>
  cases rb with
  | cons rb rc=>
   cases rc
   cases ra
   cases rb
   obtain⟨ix,rx,px,zx⟩:=I1.list hp;obtain⟨iy,ry,py,zy⟩:=I1.list hq;refine call_zip_2 px.isList py.isList fun h' hz hTI hTO i1 i2 sz kp=>?_;refine Calls.spliced_nil ?_;have lp:p<s1.heap.objs.size:=by obtain⟨o,e,_⟩:=px.isList; exact Heap.lt_size e
   have lq:q<s1.heap.objs.size:=by obtain⟨o,e,_⟩:=py.isList; exact Heap.lt_size e
   have ap:∀{b:Addr} (n:Nat),b<s1.heap.objs.size→b≠s1.heap.objs.size+n:=fun n hb=>Nat.ne_of_lt (Nat.lt_of_lt_of_le hb (Nat.le_add_right _ _));have ne:∀(m n:Nat),m≠n→s1.heap.objs.size+m≠s1.heap.objs.size+n:=fun m n h e=>h (Nat.add_left_cancel e);have D:ZipApart (s1.heap.objs.size+4) (s1.heap.objs.size+2) (s1.heap.objs.size+3) (s1.heap.objs.size+0) (s1.heap.objs.size+1) p q:=
    ⟨ne _ _ (by decide),ne _ _ (by decide),ne _ _ (by decide),ne _ _ (by decide),ne _ _ (by decide),ne _ _ (by decide),ne _ _ (by decide),ne _ _ (by decide),ne _ _ (by decide),ne _ _ (by decide),ap _ lp,ap _ lp,ap _ lp,ap _ lp,ap _ lq,ap _ lq,ap _ lq,ap _ lq⟩
   have hmn:min ix.toArray.size iy.toArray.size≤sizeLine:=Nat.le_trans (Nat.min_le_left _ _) (by rw[List.size_toArray,←rx.length]; exact zx);refine a4W (I.ok.hd hc) D hz hTI hTO i1 i2 (px.isList.at fun o e=>kp _ o e) (py.isList.at fun o e=>kp _ o e) hmn fun h'' acc c kp2 e1 e2=>?_;have hsz:s1.heap.objs.size≤h'.objs.size:=by rw[sz]; exact Nat.le_add_right _ _
   have kp3:∀ b u,s1.heap.get? b=some u→h''.get? b=some u:=fun b u e=>kp2 b u (fun hm=>by
    have lb:=Heap.lt_size e;simp only[List.mem_cons,List.not_mem_nil,or_false] at hm;rcases hm with z|z|z|z
    ·exact ap _ lb z
    ·exact ap _ lb z
    ·exact ap 0 lb z
    ·exact ap _ lb z) (kp b u e)
   show EP X pins σ Q _ { s1 with heap:=h'' };exact aA9 (s:=s1) (h0:=h') (N:=0) I1 kp3 rx ry hsz e1 e2 zx k
end
end L2
namespace L2.VS
open PySem PySem.Spec PyProof.Rows
section
variable {P0:Addr→Hp→Prop}{K:Fg}
def aDP (ds es:List D):List D:=(ds.zip es).map fun p=>.tuple [p.1,p.2]
def a4A (ma mb:ME):MO:=fun Γ Q=>ma Γ fun x Γ1=>mb Γ1 fun y Γ2=>match x,y with
 | .list ds,.list es=>Q (.own (aDP ds es)) Γ2
 | _,_=>False
theorem _root_.L2.Dts.zip {G:Hp}:∀{xs ys:List V} {ds es:List D},Dts G xs ds→Dts G ys es→Paired (fun(z:V×V) (e:D×D)=>Dt G z.1 e.1∧Dt G z.2 e.2) (xs.zip ys) (ds.zip es):=by
 intro xs ys ds es h g
 induction ds generalizing xs ys es with
 | nil=>cases h; exact .nil
 | cons x ds ih=>
  cases h with
  | cons a b=>
   cases es with
   | nil=>cases g; exact .nil
   | cons y es=>cases g with|cons c d=>exact .cons ⟨a,c⟩ (ih b d)
open Classical in
theorem aD1 {ta tb:TE}{ma mb:ME}(ha:VT P0 ta ma)(hb:VT P0 tb mb):VO P0 (tLZ K (dD ta (dD tb rB))) (a4A ma mb):=by
 intro F Γ σ G H Q Qm r m k;refine ha F Γ σ G H _ _ r m fun d Γ1 x G1 H1 m1 s1 r1 d1=>?_;refine hb F Γ1 σ G1 H1 _ _ r1 m1 fun e Γ2 y G2 H2 m2 s2 r2 d2=>?_;have d1:=Dt.same s2 _ _ d1
 split at m2
 ·rename_i ds0 es0 _
  cases d1 with
  | @lst p xs _ hp rs=>
   cases d2 with
   | @lst q ys _ hq ss=>
    refine⟨p,q,xs,ys,rfl,SqL.of (r2.fr.sub _ _ hp),SqL.of (r2.fr.sub _ _ hq),fun l H3 us hl sm el pr=>?_⟩
    let G3:Hp:=fun b=>if G2 b=none then(if V.ref b∈us then H3 b else none) else G2 b
    have fresh:∀ b,V.ref b∈us→H2 b=none∧b≠l:=by
     intro b hb;have:∀{us:List V} {zs:List (V×V)},Paired (fun(v:V) (z:V×V)=>∃ T,v=.ref T∧H2 T=none∧T≠l∧H3 T=some (.tup [z.1,z.2])) us zs→V.ref b∈us→H2 b=none∧b≠l:=by
      intro us zs h
      induction h with
      | nil=>intro h; cases h
      | cons h1 _ ih=>
       intro h;rcases List.mem_cons.mp h with e|e
       ·obtain⟨T,e1,e2,e3,_⟩:=h1;rw[← e] at e1
        cases e1
        exact⟨e2,e3⟩
       ·exact ih e
     exact this pr hb
    have g:Same G2 G3:=fun b o e=>by
     show(if G2 b=none then _ else _)=_
     rw[if_neg (by rw[e]; intro z; cases z)];exact e
    have sub:Same G3 H3:=fun b o e=>by
     have e:(if G2 b=none then(if V.ref b∈us then H3 b else none) else G2 b)=some o:=e
     split at e
     ·split at e
      ·exact e
      ·cases e
     ·exact sm _ _ (r2.fr.sub _ _ e)
    have off:∀ b,H2 b≠none→G3 b=G2 b:=fun b hb=>by
     show(if G2 b=none then(if V.ref b∈us then H3 b else none) else G2 b)=_
     split
     ·rename_i e
      rw[if_neg fun h=>hb (fresh b h).1,e]
     ·rfl
    have f:Rf F G3 H3:=⟨sub,fun b o e=>by
      obtain⟨o',e'⟩:=r2.fr.dom e;rw[off b (by rw[e']; intro z; cases z)];exact r2.fr.g0 b o e,fun b o e hb=>sm _ _ (r2.fr.h0 b o e hb),F.stab' H2 _ (fun b u e=>by
      obtain⟨o',e'⟩:=r2.fr.dom e;rw[e'];exact sm _ _ e') r2.fr.pn⟩
    have kp:∀ b o,F.H0 b=none→G2 b=none→H2 b=some o→G3 b=none∧H3 b=some o:=fun b o _ e1 e2=>⟨by rw[off b (by rw[e2]; intro z; cases z)]; exact e1,sm _ _ e2⟩;have r3:R F Γ2 σ G3 H3:=r2.keep f g fun b o _ e0 e1 e2=>kp b o e0 e1 e2;have dus:Dts G3 us (aDP ds0 es0):=by
     have go:∀{us':List V} {zs:List (V×V)} {es:List (D×D)},(∀ v∈us',v∈us)→Paired (fun(v:V) (z:V×V)=>∃ T,v=.ref T∧H2 T=none∧T≠l∧H3 T=some (.tup [z.1,z.2])) us' zs→Paired (fun(z:V×V) (e:D×D)=>Dt G2 z.1 e.1∧Dt G2 z.2 e.2) zs es→Dts G3 us' (es.map fun p=>.tuple [p.1,p.2]):=by
      intro us' zs es hin h
      induction h generalizing es with
      | nil=>intro h2; cases h2; exact .nil
      | cons h1 _ ih=>
       intro h2
       cases h2 with
       | cons h3 h4=>
        obtain⟨T,rfl,e2,e3,e4⟩:=h1;refine .cons (.tup ?_ (.cons (Dt.same g _ _ h3.1) (.cons (Dt.same g _ _ h3.2) .nil))) (ih (fun v hv=>hin v (List.mem_cons_of_mem _ hv)) h4)
        show(if G2 T=none then(if V.ref T∈us then H3 T else none) else G2 T)=_
        rw[if_pos (r2.fr.gfresh e2),if_pos (hin _ List.mem_cons_self)];exact e4
     exact go (fun _ h=>h) pr (rs.zip ss)
    have hl3:G3 l=none:=by
     show(if G2 l=none then(if V.ref l∈us then H3 l else none) else G2 l)=_
     rw[if_pos (r2.fr.gfresh hl),if_neg fun h=>(fresh l h).2 rfl]
    exact k _ _ _ _ _ m2 ((s1.trans s2).trans g) r3 ⟨l,us,rfl,r2.fr.fresh hl,hl3,el,dus⟩ (Apart.new r2 hl g kp)
 ·exact m2.elim
theorem aDU {ma mb:ME}{Γ:En}{Q:Rv→En→Prop}(h:ma Γ fun x Γ1=>mb Γ1 fun y Γ2=>match x,y with|.list ds,.list es=>Q (.own (aDP ds es)) Γ2|_,_=>False):a4A ma mb Γ Q:=h
end
end L2.VS
namespace L2
open PySem PySem.Spec PyProof.Rows
section
variable {X:Cx}{pins:List (Addr×Obj)}{σ:List (Option V)}{H:Hp}{s:Shared}
theorem Inv.turnedL {h':Heap}{t':Nat}{ch:List Addr}{T:Addr}{o:HO}(I:Inv X pins σ H s)(k:∀ b u,b∉ch→s.heap.get? b=some u→h'.get? b=some u)(hch:∀ b∈ch,aDQ X pins H b)(hT:s.heap.objs.size≤T)
  (new:ObjOk X.prog X.w (upd H T o) h' T o):Inv X pins σ (upd H T o) { s with heap:=h',toks:=t' }:=by
 have hn:=I.hok.fresh hT;have nch:∀ b u,H b=some u→b∉ch:=fun b u e z=>by rw[(hch b z).1] at e; cases e
 refine I.step (g':=s.gens) (d':=s.drawn) (ch:=ch) (fun b hb=>⟨(hch b hb).2.2.2.1,(hch b hb).2.1,(hch b hb).2.2.2.2.1,(hch b hb).2.2.2.2.2⟩) (fun b o _ _ hc e _=>k b o hc e) (fun b o _ _ hc e _=>⟨o.slots,k b o hc e⟩)
  (fun b u _ e n=>by rw[aM (Nat.ne_of_lt (Nat.lt_of_lt_of_le (Heap.lt_size e) hT))]; exact n) (fun b o hc e=>⟨o,k b o hc e⟩) (fun b xs q=>by rw[aM (b7 q hn)]; exact q) (fun b u xs q=>by rw[aM (b7 q hn)]; exact q)
  (fun b ps q=>⟨#[],by rw[aM (b7 q hn),q]; simp⟩) (fun m hm=>?_) (fun b u e=>?_) I.bare
 ·obtain⟨o,es,ep,ho,r⟩:=hm;exact⟨o,es,ep,k _ o (fun z=>(hch _ z).2.1 rfl) ho,r⟩
 ·by_cases hb:b=T
  ·subst hb; rw[aV] at e; cases e; exact new
  ·rw[aM hb] at e;refine(I.hok b u e).stay (fun c v hc q=>k c v ?_ q) (fun c q=>by rw[aM (b7 q hn)]; exact q) fun c xs q=>by rw[aM (b7 q hn)]; exact q
   rcases hc with z|z
   ·rw[z]; exact nch b u e
   ·exact nch c _ z
theorem Inv.turnedC {h':Heap}{t':Nat}{ch:List Addr}(I:Inv X pins σ H s)(k:∀ b u,b∉ch→s.heap.get? b=some u→h'.get? b=some u)(hch:∀ b∈ch,aDQ X pins H b):Inv X pins σ H { s with heap:=h',toks:=t' }:=by
 have nch:∀ b u,H b=some u→b∉ch:=fun b u e z=>by rw[(hch b z).1] at e; cases e
 refine I.step (g':=s.gens) (d':=s.drawn) (ch:=ch) (fun b hb=>⟨(hch b hb).2.2.2.1,(hch b hb).2.1,(hch b hb).2.2.2.2.1,(hch b hb).2.2.2.2.2⟩) (fun b o _ _ hc e _=>k b o hc e) (fun b o _ _ hc e _=>⟨o.slots,k b o hc e⟩)
  (fun b u _ e n=>n) (fun b o hc e=>⟨o,k b o hc e⟩) (fun b xs q=>q) (fun b u xs q=>q) (fun b ps q=>⟨#[],by rw[q]; simp⟩) (fun m hm=>?_) (fun b u e=>?_) I.bare
 ·obtain⟨o,es,ep,ho,r⟩:=hm;exact⟨o,es,ep,k _ o (fun z=>(hch _ z).2.1 rfl) ho,r⟩
 ·refine(I.hok b u e).stay (fun c v hc q=>k c v ?_ q) (fun _ q=>q) fun _ _ q=>q;rcases hc with z|z
  ·rw[z]; exact nch b u e
  ·exact nch c _ z
end
def Itz (K:Fg)(a b:Addr):It:=
  ⟨fun i H=>∃ xs ys x y,SqL K H a xs∧SqL K H b ys∧xs[i]?=some x∧ys[i]?=some y,
   fun i H v H'=>∃ T x y,v=.ref T∧H T=none∧H'=upd H T (.tup [x,y])∧∀ xs ys,SqL K H a xs→SqL K H b ys→xs[i]?=some x∧ys[i]?=some y,
   fun i H=>∃ xs ys,SqL K H a xs∧SqL K H b ys∧(xs.length≤i∨ys.length≤i)⟩
def Ite (K:Fg)(a:Addr):It:=
  ⟨fun i H=>∃ xs x,SqL K H a xs∧xs[i]?=some x,
   fun i H v H'=>∃ T x,v=.ref T∧H T=none∧H'=upd H T (.tup [.int (i:Int),x])∧∀ xs,SqL K H a xs→xs[i]?=some x,
   fun i H=>∃ xs,SqL K H a xs∧xs.length≤i⟩
theorem aJA {P:Program}{w:World}{K:Fg}{elts:List Expr}{cx}{tp:Pos}{z TI TO i1 i2 a b:Addr}(D:ZipApart z TI TO i1 i2 a b):Turn P w K (.Tuple elts cx tp) (Itz K a b) [z,TI,TO,i1,i2] z
  (fun i h=>IsZip h z TI TO .none∧IsPair h TI (.ref i1) (.ref i2)∧(∃ u v,IsPair h TO u v)∧h.IsListIter i1 a i∧h.IsListIter i2 b i) where
 mem:=by simp
 obj:=fun i h st c hc=>by
  obtain⟨hz,hTI,⟨u,v,hTO⟩,⟨o1,e1,c1,d1⟩,⟨o2,e2,c2,d2⟩⟩:=st;simp only[List.mem_cons,List.not_mem_nil,or_false] at hc;rcases hc with rfl|rfl|rfl|rfl|rfl
  ·exact⟨_,hz,fun v z=>by cases z⟩
  ·exact⟨_,hTI,fun v z=>by cases z⟩
  ·exact⟨_,hTO,fun v z=>by cases z⟩
  ·exact⟨o1,e1,fun v z=>by rw[d1] at z; cases z⟩
  ·exact⟨o2,e2,fun v z=>by rw[d2] at z; cases z⟩
 keep:=fun i h h' st k=>by
  obtain⟨hz,hTI,⟨u,v,hTO⟩,h1,h2⟩:=st;exact⟨k z (by simp) _ hz,k TI (by simp) _ hTI,⟨u,v,k TO (by simp) _ hTO⟩,h1.at fun o e=>k i1 (by simp) o e,h2.at fun o e=>k i2 (by simp) o e⟩
 item:=by
  intro X hP hw hK hc i pins s σ H E I hf st hg;subst hP hw hK;obtain⟨xs,ys,x,y,qx,qy,ex,ey⟩:=hg;obtain⟨ix,rx,px,zx⟩:=I.list qx;obtain⟨iy,ry,py,zy⟩:=I.list qy;obtain⟨ux,gx,rux⟩:=rx.get ex;obtain⟨uy,gy,ruy⟩:=ry.get ey;obtain⟨hz,hTI,⟨u,v,hTO⟩,h1,h2⟩:=st;refine wpAny_pyNext_zip_item D hz hTI hTO h1 h2 px.isList py.isList (x:=ux) (y:=uy) (by simpa using gx) (by simpa using gy) fun h' a1 a2 a3 a4 a5 a6 kp=>?_;refine⟨_,rfl,wpAny_letOwnedTupleGo_zip a1 fun h'' hz' hs'=>?_⟩;have hs':Heap.SameBut z h' h'':=hs';have nT:s.heap.objs.size≠z:=Nat.ne_of_gt (Heap.lt_size hz);have hT:IsPair h'' s.heap.objs.size ux uy:=hs'.extBut _ _ nT a5;have I2:Inv X pins σ (upd H s.heap.objs.size (.tup [x,y])) { s with heap:=h'' }:=I.turnedL (t':=s.toks) (ch:=[z,TI,TO,i1,i2])
   (fun c o hc e=>hs'.extBut _ _ (fun q=>hc (by simp[q])) (kp c o (fun q=>hc (by simp[q])) (fun q=>hc (by simp[q])) (fun q=>hc (by simp[q])) (fun q=>hc (by simp[q])) e))
   hf (Nat.le_refl _) ⟨jX (by show 2≤1000; decide),[ux,uy],.cons rux (.cons ruy .nil),⟨_,hT,rfl,_,rfl⟩⟩
  have fr:=I.hok.fresh (Nat.le_refl s.heap.objs.size);refine⟨.ref s.heap.objs.size,_,I2,rfl,⟨_,x,y,rfl,fr,rfl,fun xs' ys' q1 q2=>⟨by rw[I.list_inj q1 qx]; exact ex,by rw[I.list_inj q2 qy]; exact ey⟩⟩,⟨hz',hs'.extBut _ _ D.TIz (kp _ _ D.TIz D.TITO D.TIi1 D.TIi2 hTI),⟨_,_,hs'.extBut _ _ D.TOz a2⟩,a3.extBut hs'.extBut D.i1z,a4.extBut hs'.extBut D.i2z⟩,fun c hc=>?_⟩;have lt:c<s.heap.objs.size:=by
   simp only[List.mem_cons,List.not_mem_nil,or_false] at hc;rcases hc with rfl|rfl|rfl|rfl|rfl
   ·exact Heap.lt_size hz
   ·exact Heap.lt_size hTI
   ·exact Heap.lt_size hTO
   ·obtain⟨_,e,_⟩:=h1; exact Heap.lt_size e
   ·obtain⟨_,e,_⟩:=h2; exact Heap.lt_size e
  rw[aM (Nat.ne_of_lt lt)];exact(hf c hc).1
 done:=by
  intro X hP hw hK hc i pins s σ H E I hf st hg;subst hP hw hK;obtain⟨xs,ys,qx,qy,hle⟩:=hg;obtain⟨ix,rx,px,zx⟩:=I.list qx;obtain⟨iy,ry,py,zy⟩:=I.list qy;obtain⟨hz,hTI,⟨u,v,hTO⟩,h1,h2⟩:=st;have lx:=rx.length;have ly:=ry.length;refine wpAny_pyNext_zip_end (I.ok.hd hc) D hz hTI hTO h1 h2 px.isList py.isList (hle.imp (fun h=>by simp; omega) fun h=>by simp; omega) fun h' kp=>⟨rfl,I.turnedC (t':=s.toks) (ch:=[z,TI,TO,i1,i2]) (fun c o hc e=>?_) hf⟩;exact kp c o (fun q=>hc (by simp[q])) (fun q=>hc (by simp[q])) (fun q=>hc (by simp[q])) (fun q=>hc (by simp[q])) e
 self:=fun _ _ _ _ _ st h=>wpAny_pyIter_zip st.1 h
theorem aGW {P:Program}{w:World}{K:Fg}{elts:List Expr}{cx}{tp:Pos}{e it a:Addr}(hne:e≠it):Turn P w K (.Tuple elts cx tp) (Ite K a) [e,it] e
  (fun i h=>(∃ old,IsEnum h e it (i:Int) old)∧h.IsListIter it a i) where
 mem:=by simp
 obj:=fun i h st c hc=>by
  obtain⟨⟨old,he⟩,⟨o1,e1,c1,d1⟩⟩:=st;simp only[List.mem_cons,List.not_mem_nil,or_false] at hc;rcases hc with rfl|rfl
  ·exact⟨_,he,fun v z=>by cases z⟩
  ·exact⟨o1,e1,fun v z=>by rw[d1] at z; cases z⟩
 keep:=fun i h h' st k=>by
  obtain⟨⟨old,he⟩,h1⟩:=st;exact⟨⟨old,k e (by simp) _ he⟩,h1.at fun o q=>k it (by simp) o q⟩
 item:=by
  intro X hP hw hK hc i pins s σ H E I hf st hg;subst hP hw hK;obtain⟨xs,x,qx,ex⟩:=hg;obtain⟨ix,rx,px,zx⟩:=I.list qx;obtain⟨ux,gx,rux⟩:=rx.get ex;obtain⟨⟨old,he⟩,h1⟩:=st;refine wpAny_pyNext_enum_item he h1 px.isList (x:=ux) (by simpa using gx) hne fun h' a1 a2 a3 a4 kp=>?_;refine⟨_,rfl,wpAny_letOwnedTupleGo_enum a1 fun h'' he' hs'=>?_⟩;have hs':Heap.SameBut e h' h'':=hs';have nT:s.heap.objs.size≠e:=Nat.ne_of_gt (Heap.lt_size he);have hT:h''.get? s.heap.objs.size=some { cls:=.type "tuple", data:=.seq #[.int i s.toks,ux] }:=hs'.extBut _ _ nT a3;have I2:Inv X pins σ (upd H s.heap.objs.size (.tup [.int (i:Int),x])) { s with heap:=h'',toks:=s.toks+1 }:=I.turnedL (t':=s.toks+1) (ch:=[e,it])
   (fun c o hc q=>hs'.extBut _ _ (fun q=>hc (by simp[q])) (kp c o (fun q=>hc (by simp[q])) (fun q=>hc (by simp[q])) q))
   hf (Nat.le_refl _) ⟨jX (by show 2≤1000; decide),[.int i s.toks,ux],.cons ⟨_,rfl⟩ (.cons rux .nil),⟨_,hT,rfl,_,rfl⟩⟩
  have fr:=I.hok.fresh (Nat.le_refl s.heap.objs.size);refine⟨.ref s.heap.objs.size,_,I2,rfl,⟨_,x,rfl,fr,rfl,fun xs' q1=>by rw[I.list_inj q1 qx]; exact ex⟩,⟨⟨_,by rw[Int.natCast_add]; exact he'⟩,a2.extBut hs'.extBut (Ne.symm hne)⟩,fun c hc=>?_⟩;have lt:c<s.heap.objs.size:=by
   simp only[List.mem_cons,List.not_mem_nil,or_false] at hc;rcases hc with rfl|rfl
   ·exact Heap.lt_size he
   ·obtain⟨_,q,_⟩:=h1; exact Heap.lt_size q
  rw[aM (Nat.ne_of_lt lt)];exact(hf c hc).1
 done:=by
  intro X hP hw hK hc i pins s σ H E I hf st hg;subst hP hw hK;obtain⟨xs,qx,hle⟩:=hg;obtain⟨ix,rx,px,zx⟩:=I.list qx;obtain⟨⟨old,he⟩,h1⟩:=st;have lx:=rx.length;refine wpAny_pyNext_enum_end (I.ok.hd hc) he h1 px.isList (by simp; omega) fun h' kp=>⟨rfl,I.turnedC (t':=s.toks) (ch:=[e,it]) (fun c o hc q=>?_) hf⟩;exact kp c o (fun q=>hc (by simp[q])) q
 self:=fun _ _ _ _ _ st h=>wpAny_pyIter_enum st.1.choose_spec h
section
variable {X:Cx}
def aTV (K:Fg)(ta:TA):TI:=fun σ H R=>ta σ H fun vs H1=>∃ p q xs ys,vs=[.ref p,.ref q]∧SqL K H1 p xs∧SqL K H1 q ys∧R (Itz K p q) H1
def aPR (K:Fg)(ta:TA):TI:=fun σ H R=>ta σ H fun vs H1=>∃ p xs,vs=[.ref p]∧SqL K H1 p xs∧R (Ite K p) H1
theorem aOR {a b:Expr}{ta:TA}{p pos tp:Pos}{elts:List Expr}{cx}(hg:Gl X "zip")(hm:X.mg "zip" = none)(ha:PA X [a,b] ta)
  (he2:starEach [a,b] X.env=(false,eval a X.env)::starEach [b] X.env:=by rfl) (hpl2:(backTo pos (starEach [b] X.env)).any (·.1)=false:=by rfl) :
  PI X (.Tuple elts cx tp) (.Call (.Name "zip" p) [a,b] [] pos) (aTV X.K ta):=by
 intro pins s σ H R I h;refine wpAny_Call_Name_kw (xZ I hg hm boot_zip ?_ (by decide) (by decide));refine PyProof.Rows.callWith_type1 (thn (ha pos pins s σ H _ I h) fun us s1 ⟨vs,H1,I1,r1,p,q,xs,ys,e,hp,hq,k⟩=>?_) he2 hpl2;subst e
 cases r1 with
 | cons ra rb=>
  cases rb with
  | cons rb rc=>
   cases rc
   cases ra
   cases rb
   obtain⟨ix,rx,px,zx⟩:=I1.list hp;obtain⟨iy,ry,py,zy⟩:=I1.list hq;refine call_zip_2 px.isList py.isList fun h' hz hTI hTO i1 i2 sz kp=>?_;have lp:p<s1.heap.objs.size:=by obtain⟨o,e,_⟩:=px.isList; exact Heap.lt_size e
   have lq:q<s1.heap.objs.size:=by obtain⟨o,e,_⟩:=py.isList; exact Heap.lt_size e
   have ap:∀{b:Addr} (n:Nat),b<s1.heap.objs.size→b≠s1.heap.objs.size+n:=fun n hb=>Nat.ne_of_lt (Nat.lt_of_lt_of_le hb (Nat.le_add_right _ _));have ne:∀(m n:Nat),m≠n→s1.heap.objs.size+m≠s1.heap.objs.size+n:=fun m n h e=>h (Nat.add_left_cancel e);have D:ZipApart (s1.heap.objs.size+4) (s1.heap.objs.size+2) (s1.heap.objs.size+3) (s1.heap.objs.size+0) (s1.heap.objs.size+1) p q:=
    ⟨ne _ _ (by decide),ne _ _ (by decide),ne _ _ (by decide),ne _ _ (by decide),ne _ _ (by decide),ne _ _ (by decide),ne _ _ (by decide),ne _ _ (by decide),ne _ _ (by decide),ne _ _ (by decide),ap _ lp,ap _ lp,ap _ lp,ap _ lp,ap _ lq,ap _ lq,ap _ lq,ap _ lq⟩
   refine wpAny_pyIter_zip hz ?_;have I2:Inv X pins σ H1 { s1 with heap:=h' }:=I1.kept (t':=s1.toks) kp;refine⟨_,[s1.heap.objs.size+4,s1.heap.objs.size+2,s1.heap.objs.size+3,s1.heap.objs.size+0,s1.heap.objs.size+1],_,_,H1,rfl,I2,aJA D,⟨hz,hTI,⟨_,_,hTO⟩,i1,i2⟩,fun c hc=>?_,k⟩;have hle:s1.heap.objs.size≤c:=by
    simp only[List.mem_cons,List.not_mem_nil,or_false] at hc;rcases hc with rfl|rfl|rfl|rfl|rfl<;>exact Nat.le_add_right _ _
   exact I1.fpOk hle (I1.hok.fresh hle)
theorem aEH {a:Expr}{ta:TA}{p pos tp:Pos}{elts:List Expr}{cx}(hg:Gl X "enumerate")(hm:X.mg "enumerate" = none)(ha:PA X [a] ta)(hs:starEach [a] X.env=[(false,eval a X.env)]:=by rfl) :
  PI X (.Tuple elts cx tp) (.Call (.Name "enumerate" p) [a] [] pos) (aPR X.K ta):=by
 intro pins s σ H R I h;refine wpAny_Call_Name_kw (xZ I hg hm boot_enumerate ?_ (by decide) (by decide));refine PyProof.Rows.callWith_type1 (rest:=[]) (thn (ha pos pins s σ H _ I h) fun us s1 ⟨vs,H1,I1,r1,p,xs,e,hp,k⟩=>?_) hs rfl;subst e
 cases r1 with
 | cons ra rc=>
  cases rc
  cases ra
  obtain⟨ix,rx,px,zx⟩:=I1.list hp;refine call_enumerate_list px.isList fun h' he hit sz kp=>?_;refine wpAny_pyIter_enum he ?_;have I2:Inv X pins σ H1 { s1 with heap:=h' }:=I1.kept (t':=s1.toks) kp;refine⟨_,[s1.heap.objs.size+1,s1.heap.objs.size],_,_,H1,rfl,I2,aGW (Nat.ne_of_gt (Nat.lt_succ_self _)),⟨⟨_,he⟩,hit⟩,fun c hc=>?_,k⟩;have hle:s1.heap.objs.size≤c:=by
   simp only[List.mem_cons,List.not_mem_nil,or_false] at hc;rcases hc with rfl|rfl
   ·exact Nat.le_succ _
   ·exact Nat.le_refl _
  exact I1.fpOk hle (I1.hok.fresh hle)
end
end L2
namespace L2.VS
open PySem PySem.Spec PyProof.Rows
section
variable {P0:Addr→Hp→Prop}{K:Fg}
def aRB (ma mb:ME):MD:=fun Γ Q=>ma Γ fun x Γ1=>mb Γ1 fun y Γ2=>match x,y with
 | .list ds,.list es=>Q (aDP ds es) Γ2
 | _,_=>False
def vA (ds:List D):List D:=(List.range ds.length).map fun(i:Nat)=>PyData.tuple [.int (i:Int),ds.getD i .none]
def aQT (ma:ME):MD:=fun Γ Q=>ma Γ fun x Γ1=>match x with
 | .list ds=>Q (vA ds) Γ1
 | _=>False
theorem aNP {ta tb:TE}{ma mb:ME}(ha:VT P0 ta ma)(hb:VT P0 tb mb):VI P0 (aTV K (dD ta (dD tb rB))) (aRB ma mb):=by
 intro F Γ σ G H Q Qm r m k;refine ha F Γ σ G H _ _ r m fun d Γ1 x G1 H1 m1 s1 r1 d1=>?_;refine hb F Γ1 σ G1 H1 _ _ r1 m1 fun e Γ2 y G2 H2 m2 s2 r2 d2=>?_;have d1:=Dt.same s2 _ _ d1
 split at m2
 ·rename_i ds es _
  cases d1 with
  | @lst p xs _ hp rs=>
   cases d2 with
   | @lst q ys _ hq ss=>
    refine⟨p,q,xs,ys,rfl,SqL.of (r2.fr.sub _ _ hp),SqL.of (r2.fr.sub _ _ hq),k _ _ _ _ _ m2 (s1.trans s2) r2 fun F3 Γ3 σ3 G3 H3 s3 r3=>⟨fun i d e=>?_,?_⟩⟩
    ·have hp3:=SqL.of (K:=K) (r3.fr.sub _ _ (s3 _ _ hp));have hq3:=SqL.of (K:=K) (r3.fr.sub _ _ (s3 _ _ hq));unfold aDP at e;rw[List.getElem?_map] at e
     cases ez:(ds.zip es)[i]? with
     | none=>rw[ez] at e; cases e
     | some z=>
      rw[ez] at e
      cases e
      obtain⟨f1,f2⟩:=List.getElem?_zip_eq_some.mp ez;obtain⟨v1,g1,dv1⟩:=Dts.get rs f1;obtain⟨v2,g2,dv2⟩:=Dts.get ss f2;refine⟨⟨xs,ys,v1,v2,hp3,hq3,g1,g2⟩,fun v H4 hy=>?_⟩;obtain⟨T,x',y',rfl,hT,rfl,hxy⟩:=hy;obtain⟨h1,h2⟩:=hxy xs ys hp3 hq3;rw[g1] at h1; cases h1;rw[g2] at h2; cases h2;have g:=jO (r3.fr.gfresh hT) (.tup [v1,v2]);exact⟨_,g,r3.new hT,.tup aV (.cons (Dt.same (s3.trans g) _ _ dv1) (.cons (Dt.same (s3.trans g) _ _ dv2) .nil))⟩
    ·refine⟨xs,ys,SqL.of (r3.fr.sub _ _ (s3 _ _ hp)),SqL.of (r3.fr.sub _ _ (s3 _ _ hq)),?_⟩;have l1:=rs.len;have l2:=ss.len;have l3:(aDP ds es).length=min ds.length es.length:=by unfold aDP; rw[List.length_map,List.length_zip]
     rw[l3,l1,l2];omega
 ·exact m2.elim
theorem aH9 {ta:TE}{ma:ME}(ha:VT P0 ta ma):VI P0 (aPR K (dD ta rB)) (aQT ma):=by
 intro F Γ σ G H Q Qm r m k;refine ha F Γ σ G H _ _ r m fun d Γ1 x G1 H1 m1 s1 r1 d1=>?_
 split at m1
 ·rename_i ds
  cases d1 with
  | @lst p xs _ hp rs=>
   refine⟨p,xs,rfl,SqL.of (r1.fr.sub _ _ hp),k _ _ _ _ _ m1 s1 r1 fun F3 Γ3 σ3 G3 H3 s3 r3=>⟨fun i d e=>?_,?_⟩⟩
   ·have hp3:=SqL.of (K:=K) (r3.fr.sub _ _ (s3 _ _ hp));have hi:i<ds.length:=by
     have:=(List.getElem?_eq_some_iff.mp e).1;unfold vA at this;simpa using this
    have ed:d=.tuple [.int (i:Int),ds[i]]:=by
     unfold vA at e;rw[List.getElem?_map,List.getElem?_range hi] at e
     cases e
     simp[List.getD_eq_getElem?_getD,List.getElem?_eq_getElem hi]
    subst ed;obtain⟨v1,g1,dv1⟩:=Dts.get rs (List.getElem?_eq_getElem hi);refine⟨⟨xs,v1,hp3,g1⟩,fun v H4 hy=>?_⟩;obtain⟨T,x',rfl,hT,rfl,hx⟩:=hy;have h1:=hx xs hp3;rw[g1] at h1; cases h1;have g:=jO (r3.fr.gfresh hT) (.tup [.int (i:Int),v1]);exact⟨_,g,r3.new hT,.tup aV (.cons (.int _) (.cons (Dt.same (s3.trans g) _ _ dv1) .nil))⟩
   ·refine⟨xs,SqL.of (r3.fr.sub _ _ (s3 _ _ hp)),?_⟩;have l1:=rs.len;have l3:(vA ds).length=ds.length:=by unfold vA; rw[List.length_map,List.length_range]
    rw[l3,l1];exact Nat.le_refl _
 ·exact m1.elim
theorem aR5 {ma mb:ME}{Γ:En}{Q:List D→En→Prop}(h:ma Γ fun x Γ1=>mb Γ1 fun y Γ2=>match x,y with|.list ds,.list es=>Q (aDP ds es) Γ2|_,_=>False):aRB ma mb Γ Q:=h
theorem aR8 {ma:ME}{Γ:En}{Q:List D→En→Prop}(h:ma Γ fun x Γ1=>match x with|.list ds=>Q (vA ds) Γ1|_=>False):aQT ma Γ Q:=h
end
end L2.VS
namespace L2
open PySem PySem.Spec PyProof.Rows
section
variable {X:Cx}
end
end L2
namespace L2.VS
open PySem PySem.Spec PyProof.Rows
section
variable {P0:Addr→Hp→Prop}
end
end L2.VS
namespace PySem
open Sem (wp)
open AutoSeq1 (wpAny_loadPart')
section
variable {prog:Program}{w:World}{A:Around}{E:Value→Shared→Prop}{s:Shared}{d it:Addr}{es:Array DictEntry}{ep:Nat}
end
section
variable {prog:Program}{w:World}{K:Type}[DecidableEq K]{knd:HeapKind prog w K}{A:Around}{E:Value→Shared→Prop}{s:Shared}
end
end PySem
namespace L2
open PySem PySem.Spec PyProof.Rows
section
variable {P:Program}{w:World}{H:Hp}{h:Heap}{p:Addr}{xs:List (List Int×Addr×Addr)}{ep:Nat}
end
section
variable {X:Cx}
variable {o e:Expr}{es:List Expr}{to:TE}{t:TA}{name:Str}{apos cpos:Pos}{id:String}{r:V→List V→Hp→VK→Prop}
end
end L2
namespace L2.VS
open PySem PySem.Spec PyProof.Rows
section
variable {P0:Addr→Hp→Prop}{A:Nat→Bool}
end
section
variable {P0:Addr→Hp→Prop}{ta tb:TE}{ma mb:ME}
end
end L2.VS
namespace L2
open PySem PySem.Spec PyProof.Rows
end L2
namespace L2.VS
open PySem PySem.Spec PyProof.Rows
section
variable {P0:Addr→Hp→Prop}{A:Nat→Bool}
section
variable {F:Fra P0}{Γ:En}{σ:St}{G H:Hp}
end
end
end L2.VS
namespace LT
abbrev Ln:=Rat×Rat
def pl (l:Ln)(t:Rat):Rat:=l.1+l.2*t
def mt (l k:Ln):Rat:=(k.1-l.1)/(l.2-k.2)
theorem a7Q {l k:Ln}(h:l.2≠k.2)(t:Rat):pl l t-pl k t=(l.2-k.2)*(t-mt l k):=by
 unfold pl mt;have e:=Rat.div_mul_cancel (a:=k.1-l.1) (b:=l.2-k.2) (by grind);generalize (k.1-l.1)/(l.2-k.2)=m at *;grind
theorem aLQ {l k:Ln}(h:l.2≠k.2):mt k l=mt l k:=by
 unfold mt;have e:=Rat.div_mul_cancel (a:=k.1-l.1) (b:=l.2-k.2) (by grind);have e':=Rat.div_mul_cancel (a:=l.1-k.1) (b:=k.2-l.2) (by grind);generalize (k.1-l.1)/(l.2-k.2)=m at *;generalize (l.1-k.1)/(k.2-l.2)=n at *;have:(l.2-k.2)*(m-n)=0:=by grind
 rcases Rat.mul_eq_zero.mp this with z|z<;>grind
theorem aK5 {l k:Ln}(h:l.2≠k.2){t:Rat}:pl l t=pl k t↔t=mt l k:=by
 have e:=a7Q h t;constructor
 ·intro z;have:(l.2-k.2)*(t-mt l k)=0:=by grind
  rcases Rat.mul_eq_zero.mp this with z|z<;>grind
 ·intro z;rw[z] at e ⊢;grind
def ahB (l k:Ln)(i j:Int)(t:Rat):Bool:=if pl l t=pl k t then(if l.2=k.2 then decide (i<j) else decide (k.2<l.2)) else decide (pl k t<pl l t)
theorem aSF {l k:Ln}{i j:Int}{t:Rat}(h:l.2≠k.2)(ht:mt l k≤t):ahB l k i j t=decide (k.2<l.2):=by
 have e:=a7Q h t;unfold ahB
 by_cases hq:pl l t=pl k t
 ·rw[if_pos hq,if_neg h]
 ·have hm:0<t-mt l k:=by
   have:t≠mt l k:=fun z=>hq ((aK5 h).mpr z);grind
  rw[if_neg hq,decide_eq_decide];constructor
  ·intro z;apply Classical.byContradiction;intro c;have:=Rat.mul_pos (a:=k.2-l.2) (b:=t-mt l k) (by grind) hm;grind
  ·intro z;have:=Rat.mul_pos (a:=l.2-k.2) (b:=t-mt l k) (by grind) hm;grind
def nxC (l k:Ln)(t:Rat):Option Rat:=if l.2=k.2 then none else if t<mt l k then some (mt l k) else none
theorem a4O {l k:Ln}{t m:Rat}(h:nxC l k t=some m):l.2≠k.2∧t<m∧m=mt l k:=by
 unfold nxC at h
 by_cases hs:l.2=k.2
 ·rw[if_pos hs] at h; cases h
 ·rw[if_neg hs] at h
  by_cases ht:t<mt l k
  ·rw[if_pos ht] at h; cases h; exact⟨hs,ht,rfl⟩
  ·rw[if_neg ht] at h; cases h
def mtO (l k:Ln):Option Rat:=if l.2=k.2 then none else some (mt l k)
end LT
namespace LT
theorem qO {l k:Ln}{i j:Int}{t:Rat}:ahB l k i j t=true↔pl k t<pl l t∨(pl l t=pl k t∧(k.2<l.2∨(l.2=k.2∧i<j))):=by
 unfold ahB
 by_cases h1:pl l t=pl k t
 ·rw[if_pos h1]
  by_cases h2:l.2=k.2
  ·rw[if_pos h2,decide_eq_true_eq]; grind
  ·rw[if_neg h2,decide_eq_true_eq]; grind
 ·rw[if_neg h1,decide_eq_true_eq]; grind
theorem aH1 {l k m:Ln}{i j n:Int}{t:Rat}(h1:ahB l k i j t=true)(h2:ahB k m j n t=true):ahB l m i n t=true:=by
 rw[qO] at *;grind
theorem aGA {l k:Ln}{i j:Int}{t:Rat}(h1:ahB l k i j t=true):ahB k l j i t=false:=by
 cases h:ahB k l j i t with
 | false=>rfl
 | true=>
  rw[qO] at *;grind
theorem aHN {l k:Ln}{i j:Int}{t:Rat}(h:i≠j):ahB l k i j t=true∨ahB k l j i t=true:=by
 rw[qO,qO];grind
def ahN (ls:List Ln)(t:Rat)(i j:Nat):Bool:=match ls[i]?,ls[j]? with
 | some l,some k=>ahB l k i j t
 | _,_=>false
theorem pR {ls:List Ln}{t:Rat}{i j:Nat}{l k:Ln}(h1:ls[i]?=some l)(h2:ls[j]?=some k):ahN ls t i j=ahB l k i j t:=by unfold ahN; rw[h1,h2]
structure Strict (a:Nat→Nat→Bool)(n:Nat):Prop where
 asymm:∀ i j,i<n→j<n→a i j=true→a j i=false
 trans:∀ i j k,i<n→j<n→k<n→a i j=true→a j k=true→a i k=true
 total:∀ i j,i<n→j<n→i≠j→a i j=true∨a j i=true
theorem Strict.flip {a:Nat→Nat→Bool}{n i j:Nat}(h:Strict a n)(hi:i<n)(hj:j<n)(hij:i≠j):a j i = !a i j:=by
 cases e:a i j with
 | true=>rw[h.asymm i j hi hj e]; rfl
 | false=>
  rcases h.total i j hi hj hij with z|z
  ·rw[e] at z; cases z
  ·rw[z]; rfl
theorem fD (ls:List Ln)(t:Rat):Strict (ahN ls t) ls.length:=by
 refine⟨fun i j hi hj h=>?_,fun i j k hi hj hk h1 h2=>?_,fun i j hi hj hij=>?_⟩
 ·rw[pR (List.getElem?_eq_getElem hi) (List.getElem?_eq_getElem hj)] at h;rw[pR (List.getElem?_eq_getElem hj) (List.getElem?_eq_getElem hi)];exact aGA h
 ·rw[pR (List.getElem?_eq_getElem hi) (List.getElem?_eq_getElem hj)] at h1;rw[pR (List.getElem?_eq_getElem hj) (List.getElem?_eq_getElem hk)] at h2;rw[pR (List.getElem?_eq_getElem hi) (List.getElem?_eq_getElem hk)];exact aH1 h1 h2
 ·rw[pR (List.getElem?_eq_getElem hi) (List.getElem?_eq_getElem hj),pR (List.getElem?_eq_getElem hj) (List.getElem?_eq_getElem hi)];exact aHN (by omega)
abbrev Srt (a:Nat→Nat→Bool)(xs:List Nat):Prop:=xs.Pairwise fun x y=>a x y=true
def bT (a:Nat→Nat→Bool)(xs:List Nat)(k:Nat):List Nat:=((xs.filter fun o => !a k o)++[k])++xs.filter fun o=>a k o
def a1X (a:Nat→Nat→Bool):Nat→List Nat
 | 0=>[]
 | n+1=>bT a (a1X a n) n
def ord (ls:List Ln)(t:Rat):List Nat:=a1X (ahN ls t) ls.length
theorem a5F {α:Type}(p:α→Bool):∀ xs:List α,(xs.filter fun o => !p o).length+(xs.filter fun o=>p o).length=xs.length
 | []=>rfl
 | x::xs=>by
  have:=a5F p xs
  cases h:p x<;>simp[h]<;>omega
theorem a5Y (a:Nat→Nat→Bool):∀ n,(a1X a n).length=n
 | 0=>rfl
 | n+1=>by
  have h:=a5Y a n;have e:=a5F (fun o=>a n o) (a1X a n)
  show(bT a (a1X a n) n).length=n+1
  unfold bT;simp only[List.length_append,List.length_singleton];omega
theorem zQ (a:Nat→Nat→Bool):∀ n i,i∈a1X a n↔i<n
 | 0,i=>by simp[a1X]
 | n+1,i=>by
  have h:=zQ a n i;show i∈bT a (a1X a n) n↔_;unfold bT;simp only[List.mem_append,List.mem_filter,List.mem_singleton,h]
  cases a n i<;>simp<;>omega
theorem zZ {a:Nat→Nat→Bool}{n k:Nat}{xs:List Nat}(h:Strict a n)(hk:k<n)(hx:∀ x∈xs,x<n∧x≠k)(hs:Srt a xs):Srt a (bT a xs k):=by
 unfold bT Srt;have front:∀ x∈xs.filter (fun o => !a k o),a x k=true:=fun x m=>by
  obtain⟨m1,m2⟩:=List.mem_filter.mp m;obtain⟨b1,b2⟩:=hx x m1;rw[h.flip hk b1 (Ne.symm b2)];exact m2
 have back:∀ x∈xs.filter (fun o=>a k o),a k x=true:=fun x m=>(List.mem_filter.mp m).2;have lt1:∀ x∈xs.filter (fun o => !a k o),x<n:=fun x m=>(hx x (List.mem_filter.mp m).1).1;have lt2:∀ x∈xs.filter (fun o=>a k o),x<n:=fun x m=>(hx x (List.mem_filter.mp m).1).1;rw[List.pairwise_append];refine⟨?_,hs.filter _,fun x m y m2=>?_⟩
 ·rw[List.pairwise_append];refine⟨hs.filter _,List.pairwise_singleton _ _,fun x m y m2=>?_⟩;rw[List.mem_singleton.mp m2];exact front x m
 ·rcases List.mem_append.mp m with m|m
  ·exact h.trans x k y (lt1 x m) hk (lt2 y m2) (front x m) (back y m2)
  ·rw[List.mem_singleton.mp m];exact back y m2
theorem a7P {a:Nat→Nat→Bool}{n:Nat}(h:Strict a n):∀ m,m≤n→Srt a (a1X a m)
 | 0,_=>List.Pairwise.nil
 | m+1,hm=>zZ h hm (fun x hx=>by have:=(zQ a m x).mp hx; omega) (a7P h m (by omega))
theorem aMM (ls:List Ln)(t:Rat):Srt (ahN ls t) (ord ls t):=a7P (fD ls t) _ (Nat.le_refl _)
theorem a8R (ls:List Ln)(t:Rat)(i:Nat):i∈ord ls t↔i<ls.length:=zQ _ _ _
theorem aEG (ls:List Ln)(t:Rat):(ord ls t).length=ls.length:=a5Y _ _
theorem a0X {a:Nat→Nat→Bool}{n k:Nat}:∀{xs:List Nat},Strict a n→k<n→(∀ x∈xs,x<n∧x≠k)→Srt a xs →
  xs.take (xs.filter fun o => !a k o).length=xs.filter (fun o => !a k o)∧xs.drop (xs.filter fun o => !a k o).length=xs.filter (fun o=>a k o)
 | [],_,_,_,_=>⟨rfl,rfl⟩
 | x::xs,h,hk,hx,hs=>by
  obtain⟨p1,q1⟩:=List.pairwise_cons.mp hs;obtain⟨b1,b2⟩:=hx x List.mem_cons_self;have ih:=a0X (xs:=xs) h hk (fun y hy=>hx y (List.mem_cons_of_mem _ hy)) q1
  cases e:a k x with
  | false=>simp only[List.filter_cons,e,Bool.not_false,if_true,List.length_cons,List.take_succ_cons,List.drop_succ_cons,ih.1,ih.2,Bool.false_eq_true,if_false]; exact⟨trivial,trivial⟩
  | true=>
   have all:∀ y∈xs,a k y=true:=fun y hy=>h.trans k x y hk b1 (hx y (List.mem_cons_of_mem _ hy)).1 e (p1 y hy);have f0:xs.filter (fun o => !a k o)=[]:=by
    rw[List.filter_eq_nil_iff];intro y hy;rw[all y hy]; simp
   have f1:xs.filter (fun o=>a k o)=xs:=List.filter_eq_self.mpr all;simp only[List.filter_cons,e,Bool.not_true,Bool.false_eq_true,if_false,f0,f1,if_true];exact⟨rfl,rfl⟩
end LT
namespace LT
def nxN (ls:List Ln)(t:Rat)(i j:Nat):Option Rat:=match ls[i]?,ls[j]? with
 | some l,some k=>nxC l k t
 | _,_=>none
theorem aF9 {ls:List Ln}{t:Rat}{i j:Nat}{l k:Ln}(h1:ls[i]?=some l)(h2:ls[j]?=some k):nxN ls t i j=nxC l k t:=by unfold nxN; rw[h1,h2]
end LT
namespace LT
def v5 (a:Nat→Nat→Bool)(rs:List Nat):List Nat:=rs.foldl (bT a) []
theorem ordStep_mem {a:Nat→Nat→Bool}{xs:List Nat}{k x:Nat}:x∈bT a xs k↔x∈xs∨x=k:=by
 unfold bT;simp only[List.mem_append,List.mem_filter,List.mem_singleton]
 cases a k x<;>simp[or_comm]
theorem aA3 {a:Nat→Nat→Bool}{xs:List Nat}{k:Nat}:(bT a xs k).length=xs.length+1:=by
 have e:=a5F (fun o=>a k o) xs;unfold bT;simp only[List.length_append,List.length_singleton];omega
theorem a1J (a:Nat→Nat→Bool)(rs:List Nat)(k:Nat):v5 a (rs++[k])=bT a (v5 a rs) k:=by unfold v5; rw[List.foldl_append]; rfl
theorem a6E {a:Nat→Nat→Bool}:∀(rs acc:List Nat) (x:Nat),x∈rs.foldl (bT a) acc↔x∈acc∨x∈rs
 | [],acc,x=>by simp
 | r::rs,acc,x=>by
  show x∈rs.foldl (bT a) (bT a acc r)↔_;rw[a6E rs,ordStep_mem,List.mem_cons];grind
theorem ordL_mem {a:Nat→Nat→Bool}{rs:List Nat}{x:Nat}:x∈v5 a rs↔x∈rs:=by unfold v5; rw[a6E]; simp
theorem a6V {a:Nat→Nat→Bool}:∀(rs acc:List Nat),(rs.foldl (bT a) acc).length=acc.length+rs.length
 | [],acc=>rfl
 | r::rs,acc=>by
  show(rs.foldl (bT a) (bT a acc r)).length=_
  rw[a6V rs,aA3,List.length_cons];omega
theorem oN {a:Nat→Nat→Bool}{rs:List Nat}:(v5 a rs).length=rs.length:=by unfold v5; rw[a6V]; simp
theorem a7H {a:Nat→Nat→Bool}{n:Nat}(h:Strict a n):∀(rs acc:List Nat),(∀ x∈rs,x<n)→(∀ x∈acc,x<n)→rs.Nodup→(∀ x∈acc,x∉rs)→Srt a acc→Srt a (rs.foldl (bT a) acc)
 | [],acc,_,_,_,_,hs=>hs
 | r::rs,acc,h1,h2,h3,h4,hs=>by
  obtain⟨n1,n2⟩:=List.nodup_cons.mp h3;have hr:=h1 r List.mem_cons_self;refine a7H h rs (bT a acc r) (fun x hx=>h1 x (List.mem_cons_of_mem _ hx)) (fun x hx=>?_) n2 (fun x hx hm=>?_) (zZ h hr (fun x hx=>⟨h2 x hx,fun e=>h4 x hx (by rw[e]; exact List.mem_cons_self)⟩) hs)
  ·rcases ordStep_mem.mp hx with z|z
   ·exact h2 x z
   ·rw[z]; exact hr
  ·rcases ordStep_mem.mp hx with z|z
   ·exact h4 x z (List.mem_cons_of_mem _ hm)
   ·exact n1 (by rw[← z]; exact hm)
theorem a3S {a:Nat→Nat→Bool}{n:Nat}{rs:List Nat}(h:Strict a n)(h1:∀ x∈rs,x<n)(h2:rs.Nodup):Srt a (v5 a rs):=
 a7H h rs [] h1 (fun x hx=>nomatch hx) h2 (fun x hx=>nomatch hx) List.Pairwise.nil
theorem wO (a:Nat→Nat→Bool):∀ n,v5 a (List.range n)=a1X a n
 | 0=>rfl
 | n+1=>by rw[List.range_succ,a1J,wO a n]; rfl
end LT
namespace L2
open PySem PySem.Calls PyProof.Rows PySem.W
section
variable {cmp:Nat→Nat→(Bool→Shared→Prop)→Shared→Prop}
end
section
variable {prog:Program}{w:World}{A:Around}{E:Value→Shared→Prop}{s:Shared}{Q:Bool→Shared→Prop}
end
section
variable {prog:Program}{w:World}{A:Around}{E:Value→Shared→Prop}{s:Shared}
end
end L2
namespace L2
open PySem PySem.Spec PyProof.Rows
theorem ObjOk.there {P:Program}{w:World}{H:Hp}{h:Heap}{a:Addr}{o:HO}(x:ObjOk P w H h a o):∃ u,h.get? a=some u:=by
 cases o with
 | lst xs=>obtain⟨_,_,_,_,e⟩:=x; exact⟨_,e⟩
 | tup xs=>obtain⟨_,_,_,o,e,_⟩:=x; exact⟨_,e⟩
 | dK kvs=>obtain⟨_,_,_,_,o,_,_,e,_⟩:=x; exact⟨_,e⟩
 | dT kvs=>obtain⟨_,_,_,_,o,_,_,e,_⟩:=x; exact⟨_,e⟩
 | set S n=>obtain⟨o,_,_,_,e,_⟩:=x; exact⟨_,e⟩
 | ins C dx fs=>obtain⟨_,_,_,e,_⟩:=x; exact⟨_,e⟩
 | own y=>obtain⟨_,e⟩:=x; exact⟨_,e⟩
 | xd fs=>obtain⟨_,⟨_,_,_,e,_⟩,_⟩:=x; exact⟨_,e⟩
 | rng lo hi=>obtain⟨_,_,_,e⟩:=x; exact⟨_,e⟩
 | frz ob u=>obtain⟨e,_⟩:=x; exact⟨_,e⟩
 | tbl ps=>exact⟨_,show h.get? a=some _ from x⟩
 | met f y=>exact⟨_,show h.get? a=some _ from x⟩
 | ext φ=>obtain⟨_,⟨_,e⟩,_⟩:=x; exact⟨_,e⟩
theorem aNN {h:Heap}{L:Addr}{m m':Mg}(a:h.Ns L m)(b:h.Ns L m'):m=m':=by
 obtain⟨o,es,ep,h1,h2,_,h3⟩:=a;obtain⟨o',es',ep',g1,g2,_,g3⟩:=b;rw[h1] at g1; cases g1;rw[h2] at g2; cases g2
 funext x
 rw[← h3 x,g3 x]
section
variable {X:Cx}
end
end L2
namespace L2
open PySem PySem.Spec PyProof.Rows
section
variable {X:Cx}
end
end L2
namespace L2.VS
open PySem PySem.Spec PyProof.Rows
section
variable {P0:Addr→Hp→Prop}{ta tb:TE}{ma mb:ME}{K:Fg}
end
section
variable {P0:Addr→Hp→Prop}{A:Nat→Bool}
theorem R.backF {F:Fra P0}{Γ:En}{σ:St}{G H:Hp}(r:R F Γ σ G H){p:Addr}{o:HO}(hp:H p=none){i:Nat}{s:Sl}{fp:List Addr}(e:Γ[i]?=some s)(h:SlF F G (upd H p o) σ[i]? fp s):SlF F G H σ[i]? fp s:=by
 obtain⟨fps,h1,h2⟩:=r.fps;have h3:=h1 i s e;have h4:SlF F G (upd H p o) σ[i]? (fps i) s:=h3.go (Same.refl _) fun b hb=>by
  obtain⟨_,g,o',ho⟩:=h3.mine hb;exact⟨g,aM (b7 ho hp)⟩
 rw[h.det h4];exact h3
end
section
variable {P0:Addr→Hp→Prop}{A:Nat→Bool}
end
end L2.VS
namespace L2
open PySem PySem.Spec PyProof.Rows
def aOQ:TE:=fun _ H Q=>∀ p,H p=none→Q (.ref p) (upd H p (.dK []))
theorem aKW {X:Cx}{pos:Pos}:PE X (.Dict [] [] pos) aOQ:=by
 intro pins s σ H Q I h;have big:sysModules<s.heap.objs.size:=Nat.lt_trans (by decide) (show mainGlobals<s.heap.objs.size from(I.mod.glob.keeps I.bk).lt);have ok:ObjOk X.prog X.w (upd H s.heap.objs.size (.dK [])) (s.heap.push { cls:=.type "dict", data:=.dict #[] }) s.heap.objs.size (.dK []):=⟨Nat.zero_le _,beq_eq_false_iff_ne.mpr (Ne.symm (Nat.ne_of_lt big)),[],.nil,Heap.DictOf.new _⟩;exact wpAny_Dict_empty ⟨.ref s.heap.objs.size,_,I.laid (a:=s.heap.objs.size) (o:=.dK []) (t':=s.toks) (fun _ _ q=>Heap.get?_push_of_some _ q) (Nat.le_refl _) ok,rfl,h _ (I.hok.fresh (Nat.le_refl _))⟩
namespace VS
variable {P0:Addr→Hp→Prop}
def aKH:ME:=fun Γ Q=>Q (.dict []) Γ
theorem aKN:VT P0 aOQ aKH:=by
 intro F Γ σ G H Q Qm r m k p hp;have g:=jO (r.fr.gfresh hp) (.dK []);exact k _ _ _ _ _ m g (r.new hp) (.dic aV .nil)
theorem aOS {Γ:En}{Q:D→En→Prop}(h:Q (.dict []) Γ):aKH Γ Q:=h
end VS
end L2
namespace L2
open PySem PySem.Spec PyProof.Rows
@[irreducible] def PSi (X:Cx) (L:List Stmt) (t:TS):Prop:=PSs X L t
@[irreducible] def PSd (X:Cx) (st:Stmt) (t:TS):Prop:=PS X st t
@[irreducible] def PEd (X:Cx) (e:Expr) (t:TE):Prop:=PE X e t
@[irreducible] def PAd (X:Cx) (es:List Expr) (t:TA):Prop:=PA X es t
section
variable {X:Cx}{L rest:List Stmt}{st:Stmt}{t u:TS}{e a b:Expr}{es:List Expr}{te ta tb:TE}{tl:TA}{pos:Pos}
end
end L2
namespace L2.VS
open PySem PySem.Spec PyProof.Rows
section
variable {P0:Addr→Hp→Prop}{S:Type}
structure Fam (S:Type) where
 box:Addr→S→Bx
 pin:∀{p s v fp G H},(box p s).P v fp G H→v=.ref p
def RvP (G H:Hp)(v:V)(fp:List Addr):Rv→Prop
 | .val d=>fp=[]∧Dt G v d
 | .own ds=>∃ p vs,fp=[p]∧v=.ref p∧H p=some (.lst vs)∧Dts G vs ds
 | .box B=>B.P v fp G H
section
variable {G G' H H':Hp}{v:V}{fp fp':List Addr}
theorem RvP.mono (g:Same G G'):∀{rv:Rv},RvP G H v fp rv→RvP G' H v fp rv
 | .val _,h=>⟨h.1,Dt.same g _ _ h.2⟩
 | .own _,h=>let ⟨p,vs,a,b,c,d⟩:=h; ⟨p,vs,a,b,c,Dts.same g _ _ d⟩
 | .box B,h=>B.mono g h
theorem RvP.loc (k:∀ b∈fp,H' b=H b):∀{rv:Rv},RvP G H v fp rv→RvP G H' v fp rv
 | .val _,h=>h
 | .own _,h=>let ⟨p,vs,a,b,c,d⟩:=h; ⟨p,vs,a,b,(k p (by rw[a]; exact List.mem_singleton.mpr rfl)).trans c,d⟩
 | .box B,h=>B.loc k h
theorem RvP.dom:∀{rv:Rv},RvP G H v fp rv→∀ b∈fp,∃ o,H b=some o
 | .val _,h=>fun b hb=>by rw[h.1] at hb; cases hb
 | .own _,h=>fun b hb=>by
  obtain⟨p,vs,a,_,c,_⟩:=h;rw[a] at hb;rw[List.mem_singleton.mp hb];exact⟨_,c⟩
 | .box B,h=>B.dom h
theorem RvP.uniq:∀{rv:Rv},RvP G H v fp rv→RvP G H v fp' rv→fp=fp'
 | .val _,h,g=>h.1.trans g.1.symm
 | .own _,h,g=>by
  obtain⟨p,_,a,b,_⟩:=h;obtain⟨q,_,c,d,_⟩:=g;rw[b] at d
  cases d
  rw[a,c]
 | .box B,h,g=>B.uniq h g
theorem RvP.nt:∀{rv:Rv},RvP G H v fp rv→∀ b∈fp,∀ xs,H b=some (.tup xs)→∃ q∈fp,V.ref q∈xs∧∃ vs,H q=some (.lst vs)
 | .val _,h=>fun b hb=>by rw[h.1] at hb; cases hb
 | .own _,h=>fun b hb xs e=>by
  obtain⟨p,vs,a,_,c,_⟩:=h;rw[a] at hb;rw[List.mem_singleton.mp hb,c] at e
  cases e
 | .box B,h=>B.nt h
end
def bKp (W:Fam S)(rv:Rv)(p:Addr)(s:S):Bx where
 P:=fun v fp G H=>∃ f1 f2,fp=f1++f2∧RvP G H v f1 rv∧(W.box p s).P (.ref p) f2 G H∧∀ b∈f1,b∉f2
 mono:=fun g ⟨f1,f2,e,a,b,c⟩=>⟨f1,f2,e,a.mono g,(W.box p s).mono g b,c⟩
 loc:=fun k ⟨f1,f2,e,a,b,c⟩=>⟨f1,f2,e,a.loc fun x hx=>k x (by rw[e]; exact List.mem_append_left _ hx),(W.box p s).loc (fun x hx=>k x (by rw[e]; exact List.mem_append_right _ hx)) b,c⟩
 dom:=fun⟨f1,f2,e,a,b,c⟩ x hx=>by
  rw[e] at hx;exact(List.mem_append.mp hx).elim (a.dom x) ((W.box p s).dom b x)
 uniq:=fun⟨f1,f2,e,a,b,_⟩ ⟨g1,g2,e',a',b',_⟩=>by rw[e,e',a.uniq a',(W.box p s).uniq b b']
 nt:=fun⟨f1,f2,e,a,b,_⟩ x hx xs z=>by
  rw[e] at hx;rcases List.mem_append.mp hx with h|h
  ·obtain⟨q,h1,h2⟩:=a.nt x h xs z;exact⟨q,by rw[e]; exact List.mem_append_left _ h1,h2⟩
  ·obtain⟨q,h1,h2⟩:=(W.box p s).nt b x h xs z;exact⟨q,by rw[e]; exact List.mem_append_right _ h1,h2⟩
 view:=none
 vok:=fun _ z=>nomatch z
def m9 (W:Fam S)(m:MO):MS:=fun Γ Q=>m Γ fun rv Γ1=>∃ p s,Γ1[0]?=some (.box (W.box p s))∧Q (.rt (.box (bKp W rv p s)))
theorem dH {W:Fam S}{A:Nat→Bool}{t:TE}{m:MO}(h:VO P0 t m):VSA P0 A (aQW t) (m9 W m):=by
 intro F Γ σ G H E Qm r hm k;refine h F Γ σ G H _ _ r hm fun rv Γ1 v G1 H1 m1 s1 r1 v1 a1=>?_;obtain⟨p,s,e,q⟩:=m1;obtain⟨fps,h1,h2⟩:=r1.fps;have h0:=h1 0 _ e;obtain⟨w,ew,pw,nw⟩:=id h0;have z:=W.pin pw;subst z;refine k _ q v G1 H1 s1 r1.fr ?_
 cases rv with
 | val d=>exact⟨_,⟨[],fps 0,rfl,⟨rfl,v1⟩,pw,fun b hb=>nomatch hb⟩,nw⟩
 | own ds=>
  obtain⟨u,vs,rfl,e1,e2,e3,e4⟩:=v1;refine⟨_,⟨[u],fps 0,rfl,⟨u,vs,rfl,rfl,e3,e4⟩,pw,fun b hb=>?_⟩,fun b hb=>?_⟩
  ·rw[List.mem_singleton.mp hb];exact a1 0 _ _ e h0 u rfl
  ·rcases List.mem_append.mp hb with hb|hb
   ·rw[List.mem_singleton.mp hb];exact⟨e1,e2⟩
   ·exact nw b hb
 | box B=>
  obtain⟨fp,e1,e2⟩:=v1;refine⟨_,⟨fp,fps 0,rfl,e1,pw,fun b hb=>a1 0 _ _ fp e h0 e1 b hb⟩,fun b hb=>?_⟩;rcases List.mem_append.mp hb with hb|hb
  ·exact e2 b hb
  ·exact nw b hb
abbrev Lm (S:Type):=Addr→S→List Sl→(Rv→S→Prop)→Prop
def aCJ (W:Fam S)(n:Nat)(b:MS):Lm S:=fun p s as Q=>b (.box (W.box p s)::(as++List.replicate n .no)) fun fl=>match fl with
 | .rt rv=>∃ rv0 s',rv=.box (bKp W rv0 p s')∧Q rv0 s'
 | .nx Γ=>∃ s',Γ[0]?=some (.box (W.box p s'))∧Q (.val .none) s'
 | _=>False
def spL (P0:Addr→Hp→Prop)(W:Fam S)(n:Nat)(f:Lm S):Sp:=fun vs H Q _=>∃(F:Fra P0) (p:Addr) (s:S) (fp:List Addr) (ws:List V) (as:List Sl) (Qm:Rv→S→Prop),vs=.ref p::ws∧(∀ b,F.H0 b=if b∈fp then none else H b)∧Rf F F.G0 H ∧
 (W.box p s).P (.ref p) fp F.G0 H∧(∀ b∈fp,F.G0 b=none)∧Paired (qF F F.G0) ws as∧as.length+1=n∧f p s as Qm ∧
 ∀ rv s' r f1 f2 G' H',Qm rv s'→Rf F G' H'→RvP G' H' r f1 rv→(W.box p s').P (.ref p) f2 G' H'→(∀ b∈f1,b∉f2)→(∀ b∈f1++f2,F.H0 b=none∧G' b=none)→Q r H'
theorem aPU {F:Fra P0}{G:Hp}{ws:List V}{as:List Sl}{i k m:Nat}{s:Sl}(pr:Paired (qF F G) ws as)(e:(as++List.replicate k Sl.no)[i]?=some s)(hne:s≠.no) :
  ∃ v,(ws.map some++List.replicate m none)[i]?=some (some v)∧qF F G v s:=by
 induction pr generalizing i with
 | nil=>
  rw[List.nil_append,List.getElem?_replicate] at e
  split at e
  ·cases e; exact absurd rfl hne
  ·cases e
 | cons a b ih=>
  cases i with
  | zero=>cases e; exact⟨_,rfl,a⟩
  | succ i=>exact ih e
theorem aHI {W:Fam S}{n k:Nat}{N:List Str}{t:TS}{b:MS}(h:VS P0 t b)(hN:N.length=n+k){vs:List V}{H:Hp}{Q:VK}{E:XK}(hs:spL P0 W n (aCJ W k b) vs H Q E) :
  t { nx:=fun _ H'=>Q .non H',rt:=Q } (start N vs) H:=by
 obtain⟨F,p,s,fp,ws,as,Qm,rfl,hH,rf,hP,hG,pr,hl,hm,q⟩:=hs;have hlen:ws.length=as.length:=Paired.length pr;have r:R F (.box (W.box p s)::(as++List.replicate k .no)) (start N (.ref p::ws)) F.G0 H:=by
  refine⟨rf,?_,fun i=>if i=0 then fp else[],fun i u e=>?_,fun i j u z _ _ hij b hb hc=>?_⟩
  ·unfold start;simp only[List.length_cons,List.length_append,List.length_replicate,List.length_map];omega
  ·cases i with
   | zero=>
    cases e
    exact⟨.ref p,rfl,hP,fun b hb=>⟨by have hb:b∈fp:=hb; rw[hH,if_pos hb],hG b hb⟩⟩
   | succ i=>
    have e:(as++List.replicate k Sl.no)[i]?=some u:=e;have at_:u≠.no→∃ v,(start N (.ref p::ws))[i+1]?=some (some v)∧qF F F.G0 v u:=fun hne=>by
     obtain⟨v,ev,av⟩:=aPU (m:=N.length-(ws.length+1)) pr e hne;exact⟨v,ev,av⟩
    cases u with
    | no=>rfl
    | val d=>
     obtain⟨v,ev,av⟩:=at_ (by intro z; cases z)
     exact⟨rfl,v,ev,av⟩
    | own ds=>
     obtain⟨v,ev,av⟩:=at_ (by intro z; cases z)
     exact av.elim
    | pen=>
     obtain⟨v,ev,q,rfl,eq⟩:=at_ (by intro z; cases z)
     exact⟨rfl,q,ev,eq⟩
    | con q=>
     obtain⟨v,ev,av⟩:=at_ (by intro z; cases z)
     have av:v=.ref q:=av;rw[av] at ev;exact⟨rfl,ev⟩
    | pub B=>
     obtain⟨v,ev,av⟩:=at_ (by intro z; cases z)
     exact⟨rfl,v,ev,av⟩
    | box B=>
     obtain⟨v,ev,av⟩:=at_ (by intro z; cases z)
     exact av.elim
  ·dsimp only at hb hc
   split at hb
   ·rename_i hi
    split at hc
    ·rename_i hj; exact hij (hi.trans hj.symm)
    ·cases hc
   ·cases hb
 refine h F _ _ _ _ _ _ r hm fun fl hq=>?_
 cases fl with
 | nx Γ=>
  intro σ G' H' _ r' _;obtain⟨s',e,hq⟩:=hq;obtain⟨fps,h1,_⟩:=r'.fps;obtain⟨w,ew,pw,nw⟩:=h1 0 _ e;have z:=W.pin pw;subst z;exact q _ _ _ [] _ _ _ hq r'.fr ⟨rfl,.non⟩ pw (fun b hb=>nomatch hb) nw
 | rt rv=>
  intro v G' H' _ f' v';obtain⟨rv0,s',rfl,hq⟩:=hq;obtain⟨g,⟨f1,f2,rfl,a,b,c⟩,d⟩:=v';exact q _ _ _ _ _ _ _ hq f' a b c d
 | bk Γ=>exact hq.elim
 | ct Γ=>exact hq.elim
theorem aLZ {W:Fam S}{n:Nat}{f:Lm S}{ps:List Str}(h:ps.length=n):∀ vs H Q E,spL P0 W n f vs H Q E→vs.length=ps.length:=by
 rintro vs H Q E ⟨F,p,s,fp,ws,as,Qm,rfl,_,_,_,_,pr,hl,_⟩;rw[List.length_cons,Paired.length pr,hl,h]
theorem _root_.L2.Fun.okL {P:Program}{w:World}{K:Fg}{mg:Mg}{base:Heap}{x qual:Str}{st:Stmt}{f:Addr}{fd:FuncData}{N ps:List Str}{k n j:Nat}{b:MS}{W:Fam S}
  (F:Fun K x qual st f fd) (S0:FnScope N ps (aN st)) (hn:ps.length=n) (hN:N.length=n+j)
  (hb:∀(cdv:Value) (A:Around) (outer:List Env) (s:Shared) (H:Hp) (E:XK),Room k (A.deeper (envOfC qual (aN st) s.heap.objs.size f cdv)) →
   SsX P0 (aHZ CX0 P w K mg base N qual (aN st) f cdv A outer s H E).nox (lE st) b):FnOk P w K mg base CX0 (k+1) f fd ps (spL P0 W n (aCJ W j b)):=by
 refine F.ok S0 (aLZ hn) fun cdv A outer s H vs Q E hr hs=>?_;obtain⟨t,h1,h2⟩:=hb cdv A outer s H E hr;exact⟨t,h1,aHI h2 hN hs⟩
def dB (W:Fam S)(n:Nat)(f:Lm S)(i:Nat)(m:MA):MO:=fun Γ Q=>∃ p,(∃ s,Γ[i]?=some (.box (W.box p s)))∧m Γ fun as Γ1=>∃ s1,Γ1[i]?=some (.box (W.box p s1))∧as.length+1=n∧f p s1 as fun rv s'=>Q rv (Γ1.set i (.box (W.box p s')))
def Fra.less (F:Fra P0){G H:Hp}(r:Rf F G H)(fp:List Addr)(hf:∀ b∈fp,F.H0 b=none):Fra P0 where
 H0:=fun b=>if b∈fp then none else H b
 G0:=G
 pen:=F.pen
 stab:=fun p e H1 H2 h=>F.stab p e H1 H2 fun b o z=>by
  obtain⟨o',e'⟩:=r.dom z;exact h b o' (by rw[if_neg (fun hb=>by rw[hf b hb] at z; cases z)]; exact e')
 pin:=F.pin
 pin0:=fun p e=>by
  obtain⟨o,z⟩:=F.pin0 p e;obtain⟨o',e'⟩:=F.pin p e H (r.pn p e);exact⟨o',by rw[if_neg (fun hb=>by rw[hf p hb] at z; cases z)]; exact e'⟩
 pg:=fun p e=>by
  obtain⟨o,e0⟩:=F.pin0 p e;rw[r.g0 p o e0];exact F.pg p e
theorem cN {W:Fam S}{n i:Nat}{f:Lm S}{t:TA}{m:MA}{E:XK}(h:VA P0 t m):VO P0 (a9A (spL P0 W n f) [] E (dD (jZ i) t)) (dB W n f i m):=by
 intro F Γ σ G H Q Qm r hm k;obtain⟨p,⟨s,e⟩,hm⟩:=hm;obtain⟨fps0,g1,_⟩:=r.fps;obtain⟨w,ew,pw,_⟩:=g1 i _ e;have z:=W.pin pw;subst z;refine⟨.ref p,ew,h F Γ σ G H _ _ r hm fun as Γ1 rs G1 H1 m1 s1 r1 d1=>?_⟩;obtain⟨s1',e1,hl,hf⟩:=m1;obtain⟨fps,h1,h2⟩:=r1.fps;have hi:=h1 i _ e1;obtain⟨w,ew',pw',nw⟩:=id hi;have z:=W.pin pw';subst z;have hF:∀ b∈fps i,F.H0 b=none:=fun b hb=>(nw b hb).1;have inH:∀ b o,F.H0 b=some o→(if b∈fps i then none else H1 b)≠none:=fun b o z=>by
  obtain⟨o',e'⟩:=r1.fr.dom z;rw[if_neg (fun hb=>by rw[hF b hb] at z; cases z),e'];exact fun y=>nomatch y
 refine⟨F.less r1.fr (fps i) hF,p,s1',fps i,rs,as,fun rv s'=>Qm rv (Γ1.set i (.box (W.box p s'))),by rw[List.append_nil],fun b=>rfl,
  ⟨r1.fr.sub,fun _ _ _=>rfl,fun b o z _=>?_,r1.fr.pn⟩,pw',fun b hb=>(nw b hb).2,Paired.imp' (fun a s h=>by cases s<;>exact h) d1,hl,hf,fun rv s' v f1 f2 G' H' hq f' a b c d=>?_⟩
 ·have z:(if b∈fps i then none else H1 b)=some o:=z
  split at z
  ·cases z
  ·exact z
 ·have h0:∀ b,(F.less r1.fr (fps i) hF).H0 b=if b∈fps i then none else H1 b:=fun _=>rfl
  have nF:∀ b,(F.less r1.fr (fps i) hF).H0 b=none→F.H0 b=none:=fun b z=>by
   cases y:F.H0 b with
   | none=>rfl
   | some o=>exact absurd z (inH b o y)
  have sG:Same G1 G':=fun b o z=>by
   have hH:=r1.fr.sub b o z;have hb:b∉fps i:=fun hb=>by rw[(nw b hb).2] at z; cases z
   have y:=f'.g0 b o (by rw[h0,if_neg hb]; exact hH);exact y.trans z
  have rf:Rf F G' H':=by
   refine⟨f'.sub,fun b o z=>?_,fun b o z hb=>?_,f'.pn⟩
   ·obtain⟨o',e'⟩:=r1.fr.dom z;have hb:b∉fps i:=fun hb=>by rw[hF b hb] at z; cases z
    exact(f'.g0 b o' (by rw[h0,if_neg hb]; exact e')).trans (r1.fr.g0 b o z)
   ·have hb':b∉fps i:=fun hb=>by rw[hF b hb] at z; cases z
    exact f'.h0 b o (by rw[h0,if_neg hb']; exact r1.fr.h0 b o z hb) hb
  have oth:∀(j:Nat) (u:Sl),j≠i→Γ1[j]?=some u→∀ b∈fps j,(F.less r1.fr (fps i) hF).H0 b≠none∧G' b=none∧H' b=H1 b:=fun j u hj ej b hb=>by
   obtain⟨m1,m2,o,m3⟩:=(h1 j u ej).mine hb;have hb':=h2 j i u _ ej e1 hj b hb;have y:(F.less r1.fr (fps i) hF).H0 b=some o:=by rw[h0,if_neg hb']; exact m3
   refine⟨by rw[y]; exact(fun z=>nomatch z),(f'.g0 b o y).trans m2,?_⟩;rw[m3];exact f'.h0 b o y (F.pen_ne m1)
  have back:∀(j:Nat) (u:Sl),j≠i→(Γ1.set i (.box (W.box p s')))[j]?=some u→Γ1[j]?=some u:=fun j u hj ej=>by rw[List.getElem?_set_ne (Ne.symm hj)] at ej; exact ej
  have hil:i<Γ1.length:=(List.getElem?_eq_some_iff.mp e1).1;have new:R F (Γ1.set i (.box (W.box p s'))) σ G' H':=by
   refine⟨rf,by rw[List.length_set]; exact r1.len,fun j=>if j=i then f2 else fps j,fun j u ej=>?_,fun j l u z ej el hjl b hb hc=>?_⟩
   ·dsimp only
    by_cases hj:j=i
    ·subst hj;rw[if_pos rfl];rw[List.getElem?_set_self hil] at ej
     cases ej
     exact⟨.ref p,ew',b,fun x hx=>⟨nF x (d x (List.mem_append_right _ hx)).1,(d x (List.mem_append_right _ hx)).2⟩⟩
    ·rw[if_neg hj];have ej:=back j u hj ej;exact(h1 j u ej).go sG fun x hx=>(oth j u hj ej x hx).2
   ·dsimp only at hb hc
    by_cases hj:j=i
    ·rw[if_pos hj] at hb;have hl':l≠i:=fun y=>hjl (hj.trans y.symm);rw[if_neg hl'] at hc;exact(oth l z hl' (back l z hl' el) b hc).1 (d b (List.mem_append_right _ hb)).1
    ·rw[if_neg hj] at hb
     by_cases hl':l=i
     ·rw[if_pos hl'] at hc;exact(oth j u hj (back j u hj ej) b hb).1 (d b (List.mem_append_right _ hc)).1
     ·rw[if_neg hl'] at hc;exact h2 j l u z (back j u hj ej) (back l z hl' el) hjl b hb hc
  have apart:∀(j:Nat) (u:Sl) (fp:List Addr),(Γ1.set i (.box (W.box p s')))[j]?=some u→SlF F G' H' σ[j]? fp u→∀ x∈f1,x∉fp:=fun j u fp ej hu x hx hxf=>by
   by_cases hj:j=i
   ·subst hj;rw[List.getElem?_set_self hil] at ej
    cases ej
    obtain⟨w,ew2,pw2,_⟩:=hu;rw[ew'] at ew2
    cases ew2
    rw[(W.box p s').uniq pw2 b] at hxf;exact c x hx hxf
   ·have ej:=back j u hj ej;have y:=SlF.det hu ((h1 j u ej).go sG fun x hx=>(oth j u hj ej x hx).2);rw[y] at hxf;exact(oth j u hj ej x hxf).1 (d x (List.mem_append_left _ hx)).1
  refine k rv _ v G' H' hq (s1.trans sG) new ?_ ?_
  ·cases rv with
   | val d'=>exact a.2
   | own ds=>
    obtain⟨u,vs,e2,e3,e4,e5⟩:=a;have hu:=d u (List.mem_append_left _ (by rw[e2]; exact List.mem_singleton.mpr rfl));exact⟨u,vs,e3,nF u hu.1,hu.2,e4,e5⟩
   | box B=>exact⟨f1,a,fun x hx=>⟨nF x (d x (List.mem_append_left _ hx)).1,(d x (List.mem_append_left _ hx)).2⟩⟩
  ·cases rv with
   | val d'=>trivial
   | own ds=>
    intro j u fp ej hu y ey hy;obtain⟨u',vs,e2,e3,e4,e5⟩:=a;rw[e3] at ey
    cases ey
    exact apart j u fp ej hu _ (by rw[e2]; exact List.mem_singleton.mpr rfl) hy
   | box B=>
    intro j u fp g ej hu hg x hx;have y:g=f1:=B.uniq hg a;rw[y] at hx;exact apart j u fp ej hu x hx
end
section
variable {P0:Addr→Hp→Prop}
def aUD (p:Addr)(n:Nat)(H:Hp):Prop:=∃ z c k:Int,H p=some (.lst [.int z,.int c,.int k])∧0≤z∧0≤c∧c<1099511627776∧0≤k∧k≤(n:Int)
def penF:Fam Nat where
  box:=fun p n=>
    { P:=fun v fp _ H=>v=.ref p∧fp=[p]∧aUD p n H
      mono:=fun _ h=>h
      loc:=fun k ⟨a,b,z,c,m,e,r⟩=>⟨a,b,z,c,m,(k p (by rw[b]; exact List.mem_singleton.mpr rfl)).trans e,r⟩
      dom:=fun⟨_,b,z,c,m,e,_⟩ x hx=>by
        rw[b] at hx;rw[List.mem_singleton.mp hx];exact⟨_,e⟩
      uniq:=fun h g=>h.2.1.trans g.2.1.symm
      nt:=fun⟨_,b,z,c,m,e,_⟩ x hx xs y=>by
        rw[b] at hx;rw[List.mem_singleton.mp hx,e] at y
        cases y
      view:=none
      vok:=fun _ z=>nomatch z }
  pin:=fun h=>h.1
def aFC:Sp:=fun vs H Q _=>∃(pen:Addr) (m z c k:Int) (n:Nat),vs=[.ref pen,.int m]∧H pen=some (.lst [.int z,.int c,.int k])∧0≤z∧0≤c∧c<1099511627776∧0≤k∧k≤(n:Int)∧n<1000000000∧0<m∧m<1073741824 ∧
 ∀(r:Int) (H':Hp),0≤r→r<m→aUD pen (n+1) H'→aOA pen H H'→Q (.int r) H'
def fL:Lm Nat:=fun _ n as Q=>match as with
 | [.val (.int m)]=>0<m∧m<1073741824∧n<1000000000∧∀ r:Int,0≤r→r<m→Q (.val (.int r)) (n+1)
 | _=>False
theorem aIP:∀ vs H Q E,spL P0 penF 2 fL vs H Q E→aFC vs H Q E:=by
 rintro vs H Q E ⟨F,p,n,fp,ws,as,Qm,rfl,hH,rf,hP,hG,pr,hl,hm,q⟩;unfold fL at hm
 split at hm
 ·rename_i m
  cases pr with
  | cons a1 b1=>
   cases b1
   have a1:Dt F.G0 _ (.int m):=a1
   cases a1
   obtain⟨_,rfl,z,c,k,e,hz,hc,hc2,hk,hkn⟩:=hP;refine⟨p,m,z,c,k,n,rfl,e,hz,hc,hc2,hk,hkn,hm.2.2.1,hm.1,hm.2.1,fun r H' r0 r1 hp hx=>?_⟩;have nb:∀ b o,F.H0 b=some o→b≠p∧H b=some o:=fun b o y=>by
    rw[hH] at y
    split at y
    ·cases y
    ·rename_i hb
     exact⟨fun w=>hb (by rw[w]; exact List.mem_singleton.mpr rfl),y⟩
   refine q _ _ _ [] [p] F.G0 H' (hm.2.2.2 r r0 r1) ⟨fun b o y=>hx b o (fun w=>?_) (rf.sub b o y),fun _ _ _=>rfl,fun b o y _=>hx b o (nb b o y).1 (nb b o y).2,F.stab' H H' (fun b o y=>?_) rf.pn⟩ ⟨rfl,.int _⟩ ⟨rfl,rfl,hp⟩ (fun b hb=>nomatch hb) fun b hb=>?_
   ·rw[w,hG p (List.mem_singleton.mpr rfl)] at y; cases y
   ·rw[(nb b o y).2]; exact hx b o (nb b o y).1 (nb b o y).2
   ·have hb:b∈[p]:=hb;refine⟨by rw[hH,if_pos hb],hG b hb⟩
 ·exact hm.elim
theorem fB {p:Addr}{n:Nat}{m:Int}{Q:Rv→Nat→Prop}(h1:0<m)(h2:m<1073741824)(hn:n<1000000000)(h:∀ r:Int,0≤r→r<m→Q (.val (.int r)) (n+1)):fL p n [.val (.int m)] Q:=⟨h1,h2,hn,h⟩
theorem a1O {S:Type}{W:Fam S}{n:Nat}{b:MS}{p:Addr}{s:S}{as:List Sl}{Q:Rv→S→Prop}(h:b (.box (W.box p s)::(as++List.replicate n .no)) fun fl=>match fl with
 | .rt rv=>∃ rv0 s',rv=.box (bKp W rv0 p s')∧Q rv0 s'
 | .nx Γ=>∃ s',Γ[0]?=some (.box (W.box p s'))∧Q (.val .none) s'
 | _=>False):aCJ W n b p s as Q:=h
end
section
abbrev NoP:Addr→Hp→Prop:=fun _ _=>False
def aBP (K:Fg):Sp:=fun vs H Q _=>∃(a:Addr) (ns:List Int) (j:Int),vs=[.ref a,.int j]∧SqL K H a (ns.map V.int)∧0≤j∧j<1000∧∀ p z c,H p=none→0≤z→0≤c→c<1099511627776→Q (.ref p) (upd H p (.lst [.int z,.int c,.int 1]))
theorem law_goC {k:Nat}{t:TS}{b:MS}{H:Hp}{a pen:Addr}{z c:Int}{Q:VK}{nx:St→Hp→Prop}(h:VS NoP t b)(hp:H pen=none)(hz:0≤z)(hc:0≤c)(hc2:c<1099511627776)
    (hb:b (.no::.box (penF.box pen 1)::List.replicate k .no) uA) (q:∀ H',Q (.bl true) H') :
    t { nx:=nx,rt:=Q } (some (.ref a)::some (.ref pen)::List.replicate k none) (upd H pen (.lst [.int z,.int c,.int 1])):=by
  have g:=jO hp (.lst [.int z,.int c,.int 1])
  let F:Fra NoP:=
    { H0:=H
      G0:=fun _=>none
      pen:=none
      stab:=fun p e=>nomatch e
      pin:=fun p e=>nomatch e
      pin0:=fun p e=>nomatch e
      pg:=fun _ _=>rfl }
  have r:R F (.no::.box (penF.box pen 1)::List.replicate k .no) (some (.ref a)::some (.ref pen)::List.replicate k none) F.G0 (upd H pen (.lst [.int z,.int c,.int 1])):=by
    refine⟨⟨fun b o e=>(nomatch e),fun _ _ _=>rfl,fun b o e _=>g b o e,fun p e=>nomatch e⟩,by simp,fun i=>if i=1 then[pen] else[],fun i s e=>?_,fun i j s u _ _ hij b hb hc=>?_⟩
    · match i with
      | 0=>cases e; rfl
      | 1=>
        cases e
        refine⟨.ref pen,rfl,⟨rfl,rfl,z,c,1,aV,hz,hc,hc2,by decide,by decide⟩,fun b hb=>?_⟩;have hb:b∈[pen]:=hb;rw[List.mem_singleton.mp hb];exact⟨hp,rfl⟩
      | i+2=>
        have e':(List.replicate k Sl.no)[i]?=some s:=by simpa using e
        rw[List.getElem?_replicate] at e'
        split at e'
        · cases e'; rfl
        · cases e'
    · dsimp only at hb hc
      split at hb
      · rename_i hi
        split at hc
        · rename_i hj; exact hij (hi.trans hj.symm)
        · cases hc
      · cases hb
  refine h F _ _ F.G0 _ _ uA r hb fun fl e=>?_;unfold uA at e;subst e;intro v G' H' _ _ hr;have hr:Dt G' v (.bool true):=hr
  cases hr
  exact q H'
theorem law_bodyC {K:Fg}{a:Addr}{ns:List Int}{k:Nat}{j:Int}{b:MS}{H:Hp}{Q:VK}{nx:St→Hp→Prop}{X:Cx}{st:Stmt}{rest:List Stmt}{N:List Str}(hj:0≤j∧j<1000)
  (h1:PS X st (aPT (a9A (aBP K) [] E0 (dD (jZ 0) (dD (tC (.int j)) rB))) (aD0 1))) (h2:∃ t,PSs X rest t∧VS NoP t b) (hN:N.length=k+2) (hS:SqL K H a (ns.map V.int))
  (hb:∀ pen,b (.no::.box (penF.box pen 1)::List.replicate k .no) uA) (q:∀ H',Q (.bl true) H'):∃ t,PSs X (st::rest) t∧t { nx:=nx,rt:=Q } (start N [.ref a]) H:=by
 obtain⟨t,h2,h3⟩:=h2;refine⟨_,aD h1 h2,?_⟩;have e:start N [.ref a]=some (.ref a)::none::List.replicate k none:=by
  unfold start;rw[hN];rfl
 rw[e];refine⟨.ref a,rfl,a,ns,j,rfl,hS,hj.1,hj.2,fun p z c hp hz hc hc2=>?_⟩;exact law_goC (t:=t) h3 hp hz hc hc2 (hb p) q
end
section
variable {P0:Addr→Hp→Prop}
section
variable {C:Addr}{x:Str}{i:Nat}
variable {E:XK}
end
end
section
variable {P0:Addr→Hp→Prop}
def bW2 {S:Type}(W:Fam S)(L w0 w1:Addr)(c0 c1:S):Bx where
 P:=fun v fp G H=>∃ f0 f1,v=.ref L∧fp=L::(f0++f1)∧H L=some (.lst [.ref w0,.ref w1])∧(W.box w0 c0).P (.ref w0) f0 G H∧(W.box w1 c1).P (.ref w1) f1 G H∧L∉f0∧L∉f1∧∀ b∈f0,b∉f1
 mono:=fun g ⟨f0,f1,a,b,c,d,e,r⟩=>⟨f0,f1,a,b,c,Bx.mono _ g d,Bx.mono _ g e,r⟩
 loc:=fun k ⟨f0,f1,a,b,c,d,e,r⟩=>⟨f0,f1,a,b,(k L (by rw[b]; simp)).trans c,Bx.loc _ (fun y hy=>k y (by rw[b]; simp[hy])) d,Bx.loc _ (fun y hy=>k y (by rw[b]; simp[hy])) e,r⟩
 dom:=fun⟨f0,f1,a,b,c,d,e,r⟩ y hy=>by
  rw[b] at hy;rcases List.mem_cons.mp hy with rfl|hy
  ·exact⟨_,c⟩
  ·rcases List.mem_append.mp hy with hy|hy
   ·exact Bx.dom _ d y hy
   ·exact Bx.dom _ e y hy
 uniq:=fun⟨f0,f1,a,b,c,d,e,r⟩ ⟨f0',f1',a',b',c',d',e',r'⟩=>by
  rw[b,b',Bx.uniq _ d d',Bx.uniq _ e e']
 nt:=fun⟨f0,f1,a,b,c,d,e,r⟩ y hy xs z=>by
  rw[b] at hy;rcases List.mem_cons.mp hy with rfl|hy
  ·rw[c] at z; cases z
  ·rcases List.mem_append.mp hy with hy|hy
   ·obtain⟨q,h1,h2⟩:=Bx.nt _ d y hy xs z;exact⟨q,by rw[b]; simp[h1],h2⟩
   ·obtain⟨q,h1,h2⟩:=Bx.nt _ e y hy xs z;exact⟨q,by rw[b]; simp[h1],h2⟩
 view:=none
 vok:=fun _ z=>nomatch z
end
section
variable {P0:Addr→Hp→Prop}
end
section
variable {P0:Addr→Hp→Prop}{S:Type}
structure PartAt (W:Fam S)(p:Addr)(B:S→Bx)(v:V)(s:S)(fp f0:List Addr)(G H:Hp):Prop where
 sub:∀ b∈f0,b∈fp
 own:(W.box p s).P (.ref p) f0 G H
 back:∀ s' f0' G' H',Same G G'→(W.box p s').P (.ref p) f0' G' H'→(∀ b∈fp,b∉f0→H' b=H b∧b∉f0')→∃ fp',(B s').P v fp' G' H'∧∀ b∈fp',b∈f0'∨(b∈fp∧b∉f0)
def PartOf (W:Fam S)(p:Addr)(B:S→Bx):Prop:=∀{s v fp G H},(B s).P v fp G H→∃ f0,PartAt W p B v s fp f0 G H
theorem PartOf.self {W:Fam S}{p:Addr}:PartOf W p (W.box p):=fun{s v fp G H} h=>by
 have z:=W.pin h;subst z;exact⟨fp,fun _ h=>h,h,fun s' f' G' H' _ h' _=>⟨f',h',fun b hb=>.inl hb⟩⟩
theorem PartOf.fst {W:Fam S}{L w0 w1:Addr}{c1:S}:PartOf W w0 (fun c0=>bW2 W L w0 w1 c0 c1):=fun{s v fp G H} h=>by
 obtain⟨f0,f1,rfl,rfl,c,d,e,n0,n1,ap⟩:=h;refine⟨f0,fun b hb=>by simp[hb],d,fun s' f' G' H' g h' k=>?_⟩;have hL:=k L (by simp) n0;have k1:∀ b∈f1,H' b=H b∧b∉f':=fun b hb=>k b (by simp[hb]) fun z=>ap b z hb;refine⟨L::(f'++f1),⟨f',f1,rfl,rfl,hL.1.trans c,h',Bx.loc _ (fun b hb=>(k1 b hb).1) (Bx.mono _ g e),hL.2,n1,fun b hb hc=>(k1 b hc).2 hb⟩,fun b hb=>?_⟩;rcases List.mem_cons.mp hb with rfl|hb
 ·exact .inr ⟨by simp,n0⟩
 ·rcases List.mem_append.mp hb with hb|hb
  ·exact .inl hb
  ·exact .inr ⟨by simp[hb],fun z=>ap b z hb⟩
theorem PartOf.snd {W:Fam S}{L w0 w1:Addr}{c0:S}:PartOf W w1 (fun c1=>bW2 W L w0 w1 c0 c1):=fun{s v fp G H} h=>by
 obtain⟨f0,f1,rfl,rfl,c,d,e,n0,n1,ap⟩:=h;refine⟨f1,fun b hb=>by simp[hb],e,fun s' f' G' H' g h' k=>?_⟩;have hL:=k L (by simp) n1;have k1:∀ b∈f0,H' b=H b∧b∉f':=fun b hb=>k b (by simp[hb]) fun z=>ap b hb z;refine⟨L::(f0++f'),⟨f0,f',rfl,rfl,hL.1.trans c,Bx.loc _ (fun b hb=>(k1 b hb).1) (Bx.mono _ g d),h',n0,hL.2,fun b hb hc=>(k1 b hb).2 hc⟩,fun b hb=>?_⟩;rcases List.mem_cons.mp hb with rfl|hb
 ·exact .inr ⟨by simp,n1⟩
 ·rcases List.mem_append.mp hb with hb|hb
  ·exact .inr ⟨by simp[hb],fun z=>ap b hb z⟩
  ·exact .inl hb
section
variable {W:Fam S}{B:S→Bx}{i:Nat}{p:Addr}{s1 s':S}{F:Fra P0}{Γ1:En}{σ:St}{G1 H1 G' H':Hp}{v:V}{fp f0 f1 f2:List Addr}
theorem R.unlend (r1:R F Γ1 σ G1 H1)(e1:Γ1[i]?=some (.box (B s1)))(hi:SlF F G1 H1 σ[i]? fp (.box (B s1)))(hv:σ[i]?=some (some v))(hp:PartAt W p B v s1 fp f0 G1 H1)(hF:∀ b∈f0,F.H0 b=none)
  (f':Rf (F.less r1.fr f0 hF) G' H') (b2:(W.box p s').P (.ref p) f2 G' H') (d2:∀ b∈f2,(F.less r1.fr f0 hF).H0 b=none∧G' b=none) :
  Same G1 G'∧R F (Γ1.set i (.box (B s'))) σ G' H'∧(∀ b,(F.less r1.fr f0 hF).H0 b=none→F.H0 b=none) ∧
  ∀ f1:List Addr,(∀ b∈f1,(F.less r1.fr f0 hF).H0 b=none)→(∀ b∈f1,b∉f2)→∀(j:Nat) (u:Sl) (fq:List Addr),(Γ1.set i (.box (B s')))[j]?=some u→SlF F G' H' σ[j]? fq u→∀ x∈f1,x∉fq:=by
 obtain⟨fps,h1,h2⟩:=r1.fps;have z:=SlF.det hi (h1 i _ e1);subst z;obtain⟨v',ev',pv',nw⟩:=id hi;rw[hv] at ev'
 cases ev'
 have h0:∀ b,(F.less r1.fr f0 hF).H0 b=if b∈f0 then none else H1 b:=fun _=>rfl
 have inH:∀ b o,F.H0 b=some o→(if b∈f0 then none else H1 b)≠none:=fun b o z=>by
  obtain⟨o',e'⟩:=r1.fr.dom z;rw[if_neg (fun hb=>by rw[hF b hb] at z; cases z),e'];exact fun y=>nomatch y
 have nF:∀ b,(F.less r1.fr f0 hF).H0 b=none→F.H0 b=none:=fun b z=>by
  cases y:F.H0 b with
  | none=>rfl
  | some o=>exact absurd z (inH b o y)
 have nw0:∀ b∈f0,G1 b=none:=fun b hb=>(nw b (hp.sub b hb)).2;have sG:Same G1 G':=fun b o z=>by
  have hH:=r1.fr.sub b o z;have hb:b∉f0:=fun hb=>by rw[nw0 b hb] at z; cases z
  exact(f'.g0 b o (by rw[h0,if_neg hb]; exact hH)).trans z
 have rf:Rf F G' H':=by
  refine⟨f'.sub,fun b o z=>?_,fun b o z hb=>?_,f'.pn⟩
  ·obtain⟨o',e'⟩:=r1.fr.dom z;have hb:b∉f0:=fun hb=>by rw[hF b hb] at z; cases z
   exact(f'.g0 b o' (by rw[h0,if_neg hb]; exact e')).trans (r1.fr.g0 b o z)
  ·have hb':b∉f0:=fun hb=>by rw[hF b hb] at z; cases z
   exact f'.h0 b o (by rw[h0,if_neg hb']; exact r1.fr.h0 b o z hb) hb
 have stay:∀ b,F.H0 b=none→G1 b=none→(∃ o,H1 b=some o)→b∉f0→(F.less r1.fr f0 hF).H0 b≠none∧G' b=none∧H' b=H1 b:=fun b m1 m2 m3 hb=>by
  obtain⟨o,m3⟩:=m3;have y:(F.less r1.fr f0 hF).H0 b=some o:=by rw[h0,if_neg hb]; exact m3
  refine⟨by rw[y]; exact(fun z=>nomatch z),(f'.g0 b o y).trans m2,?_⟩;rw[m3];exact f'.h0 b o y (F.pen_ne m1)
 have oth:∀(j:Nat) (u:Sl),j≠i→Γ1[j]?=some u→∀ b∈fps j,(F.less r1.fr f0 hF).H0 b≠none∧G' b=none∧H' b=H1 b:=fun j u hj ej b hb=>by
  obtain⟨m1,m2,m3⟩:=(h1 j u ej).mine hb;exact stay b m1 m2 m3 fun z=>h2 j i u _ ej e1 hj b hb (hp.sub b z)
 have mine:∀ b∈fps i,b∉f0→(F.less r1.fr f0 hF).H0 b≠none∧G' b=none∧H' b=H1 b:=fun b hb hn=>by
  obtain⟨m1,m2,m3⟩:=(h1 i _ e1).mine hb;exact stay b m1 m2 m3 hn
 obtain⟨fp',pB,hfp⟩:=hp.back s' f2 G' H' sG b2 fun b hb hn=>⟨(mine b hb hn).2.2,fun z=>(mine b hb hn).1 (d2 b z).1⟩;have back:∀(j:Nat) (u:Sl),j≠i→(Γ1.set i (.box (B s')))[j]?=some u→Γ1[j]?=some u:=fun j u hj ej=>by rw[List.getElem?_set_ne (Ne.symm hj)] at ej; exact ej
 have hil:i<Γ1.length:=(List.getElem?_eq_some_iff.mp e1).1;have new:R F (Γ1.set i (.box (B s'))) σ G' H':=by
  refine⟨rf,by rw[List.length_set]; exact r1.len,fun j=>if j=i then fp' else fps j,fun j u ej=>?_,fun j l u z ej el hjl b hb hc=>?_⟩
  ·dsimp only
   by_cases hj:j=i
   ·subst hj;rw[if_pos rfl];rw[List.getElem?_set_self hil] at ej
    cases ej
    refine⟨v,hv,pB,fun x hx=>?_⟩;rcases hfp x hx with hx|⟨hx,hn⟩
    ·exact⟨nF x (d2 x hx).1,(d2 x hx).2⟩
    ·exact⟨(nw x hx).1,(mine x hx hn).2.1⟩
   ·rw[if_neg hj];have ej:=back j u hj ej;exact(h1 j u ej).go sG fun x hx=>(oth j u hj ej x hx).2
  ·dsimp only at hb hc;have cross:∀(l:Nat) (z:Sl),l≠i→Γ1[l]?=some z→∀ b∈fp',b∉fps l:=fun l z hl el b hb hc=>by
    rcases hfp b hb with hb|⟨hb,_⟩
    ·exact(oth l z hl el b hc).1 (d2 b hb).1
    ·exact h2 i l _ z e1 el (Ne.symm hl) b hb hc
   by_cases hj:j=i
   ·rw[if_pos hj] at hb;have hl':l≠i:=fun y=>hjl (hj.trans y.symm);rw[if_neg hl'] at hc;exact cross l z hl' (back l z hl' el) b hb hc
   ·rw[if_neg hj] at hb
    by_cases hl':l=i
    ·rw[if_pos hl'] at hc;exact cross j u hj (back j u hj ej) b hc hb
    ·rw[if_neg hl'] at hc;exact h2 j l u z (back j u hj ej) (back l z hl' el) hjl b hb hc
 refine⟨sG,new,nF,fun f1 hf1 ap j u fq ej hu x hx hxf=>?_⟩
 by_cases hj:j=i
 ·subst hj;rw[List.getElem?_set_self hil] at ej
  cases ej
  obtain⟨w,ew2,pw2,_⟩:=hu;rw[hv] at ew2
  cases ew2
  rw[(B s').uniq pw2 pB] at hxf;rcases hfp x hxf with h|⟨h,hn⟩
  ·exact ap x hx h
  ·exact(mine x h hn).1 (hf1 x hx)
 ·have ej:=back j u hj ej;have y:=SlF.det hu ((h1 j u ej).go sG fun x hx=>(oth j u hj ej x hx).2);rw[y] at hxf;exact(oth j u hj ej x hxf).1 (hf1 x hx)
theorem kJ {n:Nat}{f:Lm S}{as:List Sl}{rs:List V}{Q:VK}{E:XK}{Qm:Rv→En→Prop}(hB:PartOf W p B)(r1:R F Γ1 σ G1 H1)(e1:Γ1[i]?=some (.box (B s1)))(d1:Paired (qF F G1) rs as)(hl:as.length+1=n)
  (hf:f p s1 as fun rv s'=>Qm rv (Γ1.set i (.box (B s')))) (k:∀ rv Γ' r G' H',Qm rv Γ'→Same G1 G'→R F Γ' σ G' H'→RvO F G' H' r rv→Apart F Γ' σ G' H' r rv→Q r H'):spL P0 W n f (.ref p::(rs++[])) H1 Q E:=by
 obtain⟨fps,h1,h2⟩:=r1.fps;have hi:=h1 i _ e1;obtain⟨v,ew',pw',nw⟩:=id hi;obtain⟨f0,hp⟩:=hB pw';have hF:∀ b∈f0,F.H0 b=none:=fun b hb=>(nw b (hp.sub b hb)).1;refine⟨F.less r1.fr f0 hF,p,s1,f0,rs,as,fun rv s'=>Qm rv (Γ1.set i (.box (B s'))),by rw[List.append_nil],fun b=>rfl,
  ⟨r1.fr.sub,fun _ _ _=>rfl,fun b o z _=>?_,r1.fr.pn⟩,hp.own,fun b hb=>(nw b (hp.sub b hb)).2,Paired.imp' (fun a s h=>by cases s<;>exact h) d1,hl,hf,fun rv s' v1 f1 f2 G' H' hq f' a b c d=>?_⟩
 ·have z:(if b∈f0 then none else H1 b)=some o:=z
  split at z
  ·cases z
  ·exact z
 ·obtain⟨sG,new,nF,apart⟩:=r1.unlend e1 hi ew' hp hF f' b (fun x hx=>d x (List.mem_append_right _ hx));have apart:=apart f1 (fun x hx=>(d x (List.mem_append_left _ hx)).1) c;refine k rv _ v1 G' H' hq sG new ?_ ?_
  ·cases rv with
   | val d'=>exact a.2
   | own ds=>
    obtain⟨u,vs,e2,e3,e4,e5⟩:=a;have hu:=d u (List.mem_append_left _ (by rw[e2]; exact List.mem_singleton.mpr rfl));exact⟨u,vs,e3,nF u hu.1,hu.2,e4,e5⟩
   | box B=>exact⟨f1,a,fun x hx=>⟨nF x (d x (List.mem_append_left _ hx)).1,(d x (List.mem_append_left _ hx)).2⟩⟩
  ·cases rv with
   | val d'=>trivial
   | own ds=>
    intro j u fq ej hu y ey hy;obtain⟨u',vs,e2,e3,e4,e5⟩:=a;rw[e3] at ey
    cases ey
    exact apart j u fq ej hu _ (by rw[e2]; exact List.mem_singleton.mpr rfl) hy
   | box B=>
    intro j u fq g ej hu hg x hx;have y:g=f1:=B.uniq hg a;rw[y] at hx;exact apart j u fq ej hu x hx
end
def jF (W:Fam S)(n:Nat)(f:Lm S)(i:Nat)(mj:ME)(m:MA):MO:=fun Γ Q=>∃ L w0 w1,(∃ s0 s1,Γ[i]?=some (.box (bW2 W L w0 w1 s0 s1)))∧mj Γ fun d Γ0=>(∃ s0 s1,Γ0[i]?=some (.box (bW2 W L w0 w1 s0 s1)))∧(d=.int 0∨d=.int 1)∧m Γ0 fun as Γ1=>∃ s0 s1,Γ1[i]?=some (.box (bW2 W L w0 w1 s0 s1))∧as.length+1=n ∧
 (d=.int 0→f w0 s0 as fun rv s'=>Q rv (Γ1.set i (.box (bW2 W L w0 w1 s' s1))))∧(d=.int 1→f w1 s1 as fun rv s'=>Q rv (Γ1.set i (.box (bW2 W L w0 w1 s0 s'))))
theorem qN {K:Fg}{W:Fam S}{n i:Nat}{f:Lm S}{tj:TE}{t:TA}{mj:ME}{m:MA}{E:XK}(hj:VT P0 tj mj)(h:VA P0 t m):VO P0 (a9A (spL P0 W n f) [] E (dD (tOp (rIx K) (jZ i) tj) t)) (jF W n f i mj m):=by
 intro F Γ σ G H Q Qm r hm k;obtain⟨L,w0,w1,⟨s0,s1,e⟩,hm⟩:=hm;obtain⟨v,_,ev,⟨f0,f1,rfl,_⟩,_⟩:=r.sl i _ e;refine⟨.ref L,ev,hj F Γ σ G H _ _ r hm fun d Γ0 x G0 H0 m0 g0 r0 d0=>?_⟩;obtain⟨⟨t0,t1,e0⟩,hd,m0⟩:=m0;obtain⟨v,_,ev',⟨f0',f1',rfl,_,hL,_⟩,_⟩:=r0.sl i _ e0;rcases hd with rfl|rfl
 ·cases d0
  refine .inl ⟨L,_,0,.ref w0,rfl,rfl,SqL.of hL,rfl,h F Γ0 σ G0 H0 _ _ r0 m0 fun as Γ1 rs G1 H1 m1 g1 r1 d1=>?_⟩;obtain⟨u0,u1,e1,hl,a0,a1⟩:=m1;exact kJ (Qm:=Qm) PartOf.fst r1 e1 d1 hl (a0 rfl) fun rv Γ' r' G' H' q g'=>k rv Γ' r' G' H' q ((g0.trans g1).trans g')
 ·cases d0
  refine .inl ⟨L,_,1,.ref w1,rfl,rfl,SqL.of hL,rfl,h F Γ0 σ G0 H0 _ _ r0 m0 fun as Γ1 rs G1 H1 m1 g1 r1 d1=>?_⟩;obtain⟨u0,u1,e1,hl,a0,a1⟩:=m1;exact kJ (Qm:=Qm) PartOf.snd r1 e1 d1 hl (a1 rfl) fun rv Γ' r' G' H' q g'=>k rv Γ' r' G' H' q ((g0.trans g1).trans g')
theorem aII {ds:List D}{d e:D}(h:ixD (.list ds) d=some e):∃ i j,d=.int i∧ixN ds.length i=some j∧ds[j]?=some e:=by
 unfold ixD at h
 split at h
 ·rename_i z; cases z
 ·rename_i es i z
  cases z
  unfold atI at h
  cases y:ixN ds.length i with
  | none=>rw[y] at h; cases h
  | some j=>rw[y] at h; exact⟨i,j,rfl,y,h⟩
 ·cases h
end
section
section
variable {S:Type}{W:Fam S}{n i:Nat}{f:Lm S}{m:MA}{Γ Γ1:En}{p:Addr}{s:S}{as:List Sl}
def lnK (W:Fam S)(n:Nat)(f:Lm S)(i:Nat)(p:Addr)(Q:Rv→En→Prop)(as:List Sl)(Γ1:En):Prop:=∃ s1,Γ1[i]?=some (.box (W.box p s1))∧as.length+1=n∧f p s1 as fun rv s'=>Q rv (Γ1.set i (.box (W.box p s')))
theorem aO1 {Q:Rv→En→Prop}(h0:Γ[i]?=some (.box (W.box p s)))(h:m Γ (lnK W n f i p Q)):dB W n f i m Γ Q:=⟨p,⟨s,h0⟩,h⟩
theorem aSL {Q:Rv→En→Prop}(h0:Γ1[i]?=some (.box (W.box p s)))(hl:as.length+1=n)(h:f p s as fun rv s'=>Q rv (Γ1.set i (.box (W.box p s')))):lnK W n f i p Q as Γ1:=⟨s,h0,hl,h⟩
def rtK (W:Fam S)(Q:Fl→Prop)(rv:Rv)(Γ1:En):Prop:=∃ p s,Γ1[0]?=some (.box (W.box p s))∧Q (.rt (.box (bKp W rv p s)))
theorem aNE {mo:MO}{Q:Fl→Prop}(h:mo Γ (rtK W Q)):m9 W mo Γ Q:=h
theorem aS3 {rv:Rv}{Q:Fl→Prop}(h0:Γ1[0]?=some (.box (W.box p s)))(h:Q (.rt (.box (bKp W rv p s)))):rtK W Q rv Γ1:=⟨p,s,h0,h⟩
theorem aOC {rv:Rv}{Q:Rv→S→Prop}(h:Q rv s):∃ rv0 s',Rv.box (bKp W rv p s)=.box (bKp W rv0 p s')∧Q rv0 s':=⟨rv,s,rfl,h⟩
def w2K (W:Fam S)(n:Nat)(f:Lm S)(i:Nat)(L w0 w1:Addr)(d:D)(Q:Rv→En→Prop)(as:List Sl)(Γ1:En):Prop:=∃ s0 s1,Γ1[i]?=some (.box (bW2 W L w0 w1 s0 s1))∧as.length+1=n ∧
 (d=.int 0→f w0 s0 as fun rv s'=>Q rv (Γ1.set i (.box (bW2 W L w0 w1 s' s1))))∧(d=.int 1→f w1 s1 as fun rv s'=>Q rv (Γ1.set i (.box (bW2 W L w0 w1 s0 s'))))
def w2J (W:Fam S)(n:Nat)(f:Lm S)(i:Nat)(L w0 w1:Addr)(m:MA)(Q:Rv→En→Prop)(d:D)(Γ0:En):Prop:=(∃ s0 s1,Γ0[i]?=some (.box (bW2 W L w0 w1 s0 s1)))∧(d=.int 0∨d=.int 1)∧m Γ0 (w2K W n f i L w0 w1 d Q)
variable {L w0 w1:Addr}{s0 s1:S}{mj:ME}
theorem aLC {Q:Rv→En→Prop}(h0:Γ[i]?=some (.box (bW2 W L w0 w1 s0 s1)))(h:mj Γ (w2J W n f i L w0 w1 m Q)):jF W n f i mj m Γ Q:=⟨L,w0,w1,⟨s0,s1,h0⟩,h⟩
theorem a4B {Q:Rv→En→Prop}{d:D}(h0:Γ[i]?=some (.box (bW2 W L w0 w1 s0 s1)))(hd:d=.int 0∨d=.int 1)(h:m Γ (w2K W n f i L w0 w1 d Q)):w2J W n f i L w0 w1 m Q d Γ:=⟨⟨s0,s1,h0⟩,hd,h⟩
theorem a3A {Q:Rv→En→Prop}(h0:Γ1[i]?=some (.box (bW2 W L w0 w1 s0 s1)))(hl:as.length+1=n)(h:f w0 s0 as fun rv s'=>Q rv (Γ1.set i (.box (bW2 W L w0 w1 s' s1)))):w2K W n f i L w0 w1 (.int 0) Q as Γ1:=⟨s0,s1,h0,hl,fun _=>h,fun z=>nomatch z⟩
theorem aHG {Q:Rv→En→Prop}(h0:Γ1[i]?=some (.box (bW2 W L w0 w1 s0 s1)))(hl:as.length+1=n)(h:f w1 s1 as fun rv s'=>Q rv (Γ1.set i (.box (bW2 W L w0 w1 s0 s')))):w2K W n f i L w0 w1 (.int 1) Q as Γ1:=⟨s0,s1,h0,hl,fun z=>(nomatch z),fun _=>h⟩
end
end
section
variable {P0:Addr→Hp→Prop}
def Bx.Cut (B:Bx):Prop:=∀{v fp G G' H},aDA G G'→B.P v fp G H→B.P v fp G' H
section
variable {F:Fra P0}{Γ Γ1:En}{σ:St}{G H G1 H1:Hp}{bs:List Bool}
end
section
variable {bs:List Bool}{Γ Γ1:En}
end
end
section
variable {P0:Addr→Hp→Prop}{S:Type}
def lstF:Fam (List D) where
  box:=fun p ds=>
    { P:=fun v fp G H=>v=.ref p∧fp=[p]∧bV ds=true∧∃ vs,H p=some (.lst vs)∧Dts G vs ds
      mono:=fun g ⟨a,b,z,vs,c,d⟩=>⟨a,b,z,vs,c,Dts.same g _ _ d⟩
      loc:=fun k ⟨a,b,z,vs,c,d⟩=>⟨a,b,z,vs,(k p (by rw[b]; exact List.mem_singleton.mpr rfl)).trans c,d⟩
      dom:=fun⟨_,b,_,vs,c,_⟩ x hx=>by
        rw[b] at hx;rw[List.mem_singleton.mp hx];exact⟨_,c⟩
      uniq:=fun h g=>h.2.1.trans g.2.1.symm
      nt:=fun⟨_,b,_,vs,c,_⟩ x hx xs y=>by
        rw[b] at hx;rw[List.mem_singleton.mp hx,c] at y
        cases y
      view:=some (.list ds)
      vok:=fun⟨a,b,_,vs,c,d⟩ z g k=>by
        cases z
        subst a;refine .lst ?_ (Dts.same g _ _ d);rw[k p (by rw[b]; exact List.mem_singleton.mpr rfl)];exact c }
  pin:=fun h=>h.1
theorem aG1 {p:Addr}{ds:List D}:(lstF.box p ds).Cut:=fun g ⟨a,b,z,vs,c,d⟩=>⟨a,b,z,vs,c,Dts.sameU g _ _ z d⟩
def a7N (W:Fam S)(j:Nat)(m:MO):MS:=fun Γ Q=>m Γ fun rv Γ1=>∃ p s,Γ1[j]?=some (.box (W.box p s))∧Q (.rt (.box (bKp W rv p s)))
theorem a3O {W:Fam S}{j:Nat}{A:Nat→Bool}{t:TE}{m:MO}(h:VO P0 t m):VSA P0 A (aQW t) (a7N W j m):=by
 intro F Γ σ G H E Qm r hm k;refine h F Γ σ G H _ _ r hm fun rv Γ1 v G1 H1 m1 s1 r1 v1 a1=>?_;obtain⟨p,s,e,q⟩:=m1;obtain⟨fps,h1,h2⟩:=r1.fps;have h0:=h1 j _ e;obtain⟨w,ew,pw,nw⟩:=id h0;have z:=W.pin pw;subst z;refine k _ q v G1 H1 s1 r1.fr ?_
 cases rv with
 | val d=>exact⟨_,⟨[],fps j,rfl,⟨rfl,v1⟩,pw,fun b hb=>nomatch hb⟩,nw⟩
 | own ds=>
  obtain⟨u,vs,rfl,e1,e2,e3,e4⟩:=v1;refine⟨_,⟨[u],fps j,rfl,⟨u,vs,rfl,rfl,e3,e4⟩,pw,fun b hb=>?_⟩,fun b hb=>?_⟩
  ·rw[List.mem_singleton.mp hb];exact a1 j _ _ e h0 u rfl
  ·rcases List.mem_append.mp hb with hb|hb
   ·rw[List.mem_singleton.mp hb];exact⟨e1,e2⟩
   ·exact nw b hb
 | box B=>
  obtain⟨fp,e1,e2⟩:=v1;refine⟨_,⟨fp,fps j,rfl,e1,pw,fun b hb=>a1 j _ _ fp e h0 e1 b hb⟩,fun b hb=>?_⟩;rcases List.mem_append.mp hb with hb|hb
  ·exact e2 b hb
  ·exact nw b hb
def aM3 (W:Fam S)(j n:Nat)(b:MS):Lm S:=fun p s as Q=>b (as.take j++.box (W.box p s)::(as.drop j++List.replicate n .no)) fun fl=>match fl with
 | .rt rv=>∃ rv0 s',rv=.box (bKp W rv0 p s')∧Q rv0 s'
 | .nx Γ=>∃ s',Γ[j]?=some (.box (W.box p s'))∧Q (.val .none) s'
 | _=>False
def aN6 (P0:Addr→Hp→Prop)(W:Fam S)(j n:Nat)(f:Lm S):Sp:=fun vs H Q _=>∃(F:Fra P0) (p:Addr) (s:S) (fp:List Addr) (ws:List V) (as:List Sl) (Qm:Rv→S→Prop),vs=ws.take j++.ref p::ws.drop j∧(∀ b,F.H0 b=if b∈fp then none else H b)∧Rf F F.G0 H ∧
 (W.box p s).P (.ref p) fp F.G0 H∧(∀ b∈fp,F.G0 b=none)∧Paired (qF F F.G0) ws as∧as.length+1=n∧f p s as Qm ∧
 ∀ rv s' r f1 f2 G' H',Qm rv s'→Rf F G' H'→RvP G' H' r f1 rv→(W.box p s').P (.ref p) f2 G' H'→(∀ b∈f1,b∉f2)→(∀ b∈f1++f2,F.H0 b=none∧G' b=none)→Q r H'
theorem a2Z {α β:Type}{R:α→β→Prop}:∀{xs:List α} {ys:List β} (n:Nat),Paired R xs ys→Paired R (xs.take n) (ys.take n)
 | _,_,0,_=>by rw[List.take_zero,List.take_zero]; exact .nil
 | _,_,n+1,.nil=>.nil
 | _,_,n+1,.cons a b=>.cons a (a2Z n b)
theorem a3D {α β:Type}{R:α→β→Prop}:∀{xs:List α} {ys:List β} (n:Nat),Paired R xs ys→Paired R (xs.drop n) (ys.drop n)
 | _,_,0,h=>h
 | _,_,n+1,.nil=>.nil
 | _,_,n+1,.cons _ b=>a3D n b
theorem aFV {F:Fra P0}{G H:Hp}{v:V}:∀{s:Sl},qF F G v s→SlF F G H (some (some v)) [] s
 | .val d,h=>⟨rfl,v,rfl,h⟩
 | .pen,h=>let ⟨p,e,e2⟩:=h; ⟨rfl,p,by rw[e],e2⟩
 | .con p,h=>⟨rfl,by have h:v=.ref p:=h; rw[h]⟩
 | .no,h=>h.elim
 | .own _,h=>h.elim
 | .box _,h=>h.elim
 | .pub _,h=>⟨rfl,v,rfl,h⟩
theorem aAY {F:Fra P0}{G H:Hp}{k m:Nat}:∀{ws:List V} {as:List Sl},Paired (qF F G) ws as→∀(i:Nat) (s:Sl),(as++List.replicate k Sl.no)[i]?=some s→SlF F G H (ws.map some++List.replicate m none)[i]? [] s
 | _,_,.nil,i,s,e=>by
  rw[List.nil_append,List.getElem?_replicate] at e
  split at e
  ·cases e; rfl
  ·cases e
 | _,_,.cons a b,0,s,e=>by cases e; exact aFV a
 | _,_,.cons a b,i+1,s,e=>aAY b i s e
theorem a7R {F:Fra P0}{G H:Hp}:∀{ws:List V} {as:List Sl},Paired (qF F G) ws as→∀(i:Nat) (s:Sl),as[i]?=some s→SlF F G H (ws.map some)[i]? [] s
 | _,_,.cons a b,0,s,e=>by cases e; exact aFV a
 | _,_,.cons a b,i+1,s,e=>a7R b i s e
theorem aCB {W:Fam S}{j n k:Nat}{N:List Str}{t:TS}{b:MS}(h:VS P0 t b)(hN:N.length=n+k)(hj:j<n){vs:List V}{H:Hp}{Q:VK}{E:XK}(hs:aN6 P0 W j n (aM3 W j k b) vs H Q E) :
  t { nx:=fun _ H'=>Q .non H',rt:=Q } (start N vs) H:=by
 obtain⟨F,p,s,fp,ws,as,Qm,rfl,hH,rf,hP,hG,pr,hl,hm,q⟩:=hs;have hlen:ws.length=as.length:=Paired.length pr;have hjw:(ws.take j).length=j:=by rw[List.length_take]; omega
 have hja:(as.take j).length=j:=by rw[List.length_take]; omega
 have est:start N (ws.take j++.ref p::ws.drop j)=(ws.take j).map some++some (.ref p)::((ws.drop j).map some++List.replicate k none):=by
  unfold start;rw[List.map_append,List.map_cons,List.append_assoc,List.cons_append]
  congr 4
  rw[List.length_append,List.length_cons,hjw,List.length_drop];omega
 rw[est];have r:R F (as.take j++.box (W.box p s)::(as.drop j++List.replicate k .no)) ((ws.take j).map some++some (.ref p)::((ws.drop j).map some++List.replicate k none)) F.G0 H:=by
  refine⟨rf,?_,fun i=>if i=j then fp else[],fun i u e=>?_,fun i l u z _ _ hij b hb hc=>?_⟩
  ·simp only[List.length_cons,List.length_append,List.length_replicate,List.length_map,List.length_take,List.length_drop,hlen]
  ·dsimp only;rcases Nat.lt_trichotomy i j with hi|hi|hi
   ·rw[if_neg (by omega)];rw[List.getElem?_append_left (by omega)] at e;rw[List.getElem?_append_left (by rw[List.length_map]; omega)];exact a7R (a2Z j pr) i u e
   ·subst hi;rw[if_pos rfl];rw[List.getElem?_append_right (by omega),hja,Nat.sub_self] at e;rw[List.getElem?_append_right (by rw[List.length_map]; omega),List.length_map,hjw,Nat.sub_self]
    cases e
    exact⟨.ref p,rfl,hP,fun b hb=>⟨by rw[hH,if_pos hb],hG b hb⟩⟩
   ·rw[if_neg (by omega)];rw[List.getElem?_append_right (by omega),hja] at e;rw[List.getElem?_append_right (by rw[List.length_map]; omega),List.length_map,hjw];obtain⟨m,hm⟩:∃ m,i-j=m+1:=⟨i-j-1,by omega⟩;rw[hm] at e ⊢;exact aAY (a3D j pr) m u e
  ·dsimp only at hb hc
   split at hb
   ·rename_i h1
    split at hc
    ·rename_i h2; exact hij (h1.trans h2.symm)
    ·cases hc
   ·cases hb
 refine h F _ _ _ _ _ _ r hm fun fl hq=>?_
 cases fl with
 | nx Γ=>
  intro σ G' H' _ r' _;obtain⟨s',e,hq⟩:=hq;obtain⟨fps,h1,_⟩:=r'.fps;obtain⟨w,ew,pw,nw⟩:=h1 j _ e;have z:=W.pin pw;subst z;exact q _ _ _ [] _ _ _ hq r'.fr ⟨rfl,.non⟩ pw (fun b hb=>nomatch hb) nw
 | rt rv=>
  intro v G' H' _ f' v';obtain⟨rv0,s',rfl,hq⟩:=hq;obtain⟨g,⟨f1,f2,rfl,a,b,c⟩,d⟩:=v';exact q _ _ _ _ _ _ _ hq f' a b c d
 | bk Γ=>exact hq.elim
 | ct Γ=>exact hq.elim
theorem aJ1 {W:Fam S}{j n:Nat}{f:Lm S}{ps:List Str}(h:ps.length=n)(hj:j<n):∀ vs H Q E,aN6 P0 W j n f vs H Q E→vs.length=ps.length:=by
 rintro vs H Q E ⟨F,p,s,fp,ws,as,Qm,rfl,_,_,_,_,pr,hl,_⟩;rw[List.length_append,List.length_cons,List.length_take,List.length_drop,Paired.length pr,h];omega
theorem _root_.L2.Fun.okLj {P:Program}{w:World}{K:Fg}{mg:Mg}{base:Heap}{x qual:Str}{st:Stmt}{f:Addr}{fd:FuncData}{N ps:List Str}{k n m j:Nat}{b:MS}{W:Fam S}
  (F:Fun K x qual st f fd) (S0:FnScope N ps (aN st)) (hn:ps.length=n) (hj:j<n) (hN:N.length=n+m)
  (hb:∀(cdv:Value) (A:Around) (outer:List Env) (s:Shared) (H:Hp) (E:XK),Room k (A.deeper (envOfC qual (aN st) s.heap.objs.size f cdv)) →
   SsX P0 (aHZ CX0 P w K mg base N qual (aN st) f cdv A outer s H E).nox (lE st) b):FnOk P w K mg base CX0 (k+1) f fd ps (aN6 P0 W j n (aM3 W j m b)):=by
 refine F.ok S0 (aJ1 hn hj) fun cdv A outer s H vs Q E hr hs=>?_;obtain⟨t,h1,h2⟩:=hb cdv A outer s H E hr;exact⟨t,h1,aCB h2 hN hj hs⟩
def a4G (i:Nat)(m mj:ME):MS:=fun Γ Q=>m Γ fun d Γ1=>eN d=true∧∃ p,(∃ ds,Γ1[i]?=some (.box (lstF.box p ds)))∧mj Γ1 fun x Γ2=>∃ ds k j,Γ2[i]?=some (.box (lstF.box p ds))∧x=.int k∧ixN ds.length k=some j∧Q (.nx (Γ2.set i (.box (lstF.box p (ds.set j d)))))
theorem a3B:∀{ds:List D} {j:Nat} {d:D},bV ds=true→eN d=true→bV (ds.set j d)=true
 | [],_,_,h,_=>h
 | e::ds,0,d,h,hd=>by
  have h:eN e=true∧bV ds=true:=by simpa [bV] using h
  show(eN d&&bV ds)=true
  rw[hd,h.2]; rfl
 | e::ds,j+1,d,h,hd=>by
  have h:eN e=true∧bV ds=true:=by simpa [bV] using h
  show(eN e&&bV (ds.set j d))=true
  rw[h.1,a3B h.2 hd]; rfl
theorem a6X {A:Nat→Bool}{i:Nat}{t tj:TE}{m mj:ME}(h:VT P0 t m)(hj:VT P0 tj mj):VSA P0 A (aPT t (aTQ (jZ i) tj aQI)) (a4G i m mj):=by
 intro F Γ σ G H E Qm r hm k;refine h F Γ σ G H _ _ r hm fun d Γ1 v G1 H1 m1 g1 r1 d1=>?_;obtain⟨nd,p,⟨ds,e⟩,m1⟩:=m1;obtain⟨u,_,eu,⟨rfl,_⟩,_⟩:=r1.sl i _ e;refine⟨.ref p,eu,hj F Γ1 σ G1 H1 _ _ r1 m1 fun x Γ2 u G2 H2 m2 g2 r2 d2=>?_⟩;obtain⟨es,n,j,e2,rfl,hx,q⟩:=m2;obtain⟨u',fp,eu',⟨rfl,rfl,z,vs,c,dd⟩,nf⟩:=r2.sl i _ e2
 cases d2
 refine⟨p,vs,n,j,rfl,rfl,c,by rw[dd.len]; exact hx,?_⟩;have hp:=nf p (List.mem_singleton.mpr rfl);refine k _ q σ G2 _ (g1.trans g2) (r2.writeF e2 (r2.fr.priv hp.1 hp.2) fun fp h=>?_) fun _ _=>rfl;obtain⟨u,eu2,⟨rfl,rfl,_⟩,nf2⟩:=h;refine⟨[p],⟨.ref p,eu',⟨rfl,rfl,a3B z nd,_,aV,Dts.sets (Dt.same g2 _ _ d1) j dd⟩,nf2⟩,fun b hb _=>?_⟩;have hbp:b≠p:=fun y=>hb (by rw[y]; exact List.mem_singleton.mpr rfl);exact⟨aM hbp,hb⟩
def aTO (W:Fam S)(j:Nat)(Q:Fl→Prop)(rv:Rv)(Γ1:En):Prop:=∃ p s,Γ1[j]?=some (.box (W.box p s))∧Q (.rt (.box (bKp W rv p s)))
theorem aMC {W:Fam S}{j:Nat}{mo:MO}{Γ:En}{Q:Fl→Prop}(h:mo Γ (aTO W j Q)):a7N W j mo Γ Q:=h
theorem aPC {W:Fam S}{j:Nat}{p:Addr}{s:S}{rv:Rv}{Γ1:En}{Q:Fl→Prop}(h0:Γ1[j]?=some (.box (W.box p s)))(h:Q (.rt (.box (bKp W rv p s)))):aTO W j Q rv Γ1:=⟨p,s,h0,h⟩
def sbK (i:Nat)(p:Addr)(d:D)(Q:Fl→Prop)(x:D)(Γ2:En):Prop:=∃ ds k j,Γ2[i]?=some (.box (lstF.box p ds))∧x=.int k∧ixN ds.length k=some j∧Q (.nx (Γ2.set i (.box (lstF.box p (ds.set j d)))))
def sbJ (i:Nat)(mj:ME)(Q:Fl→Prop)(d:D)(Γ1:En):Prop:=eN d=true∧∃ p,(∃ ds,Γ1[i]?=some (.box (lstF.box p ds)))∧mj Γ1 (sbK i p d Q)
theorem aJP {i:Nat}{m mj:ME}{Γ:En}{Q:Fl→Prop}(h:m Γ (sbJ i mj Q)):a4G i m mj Γ Q:=h
theorem aSK {i:Nat}{mj:ME}{Q:Fl→Prop}{d:D}{Γ1:En}{p:Addr}{ds:List D}(h0:Γ1[i]?=some (.box (lstF.box p ds)))(hd:eN d=true)(h:mj Γ1 (sbK i p d Q)):sbJ i mj Q d Γ1:=⟨hd,p,⟨ds,h0⟩,h⟩
theorem aPA {i:Nat}{p:Addr}{Q:Fl→Prop}{d:D}{Γ:En}{ds:List D}{k:Int}{j:Nat}(h0:Γ[i]?=some (.box (lstF.box p ds)))(hj:ixN ds.length k=some j)(h:Q (.nx (Γ.set i (.box (lstF.box p (ds.set j d)))))):sbK i p d Q (.int k) Γ:=⟨ds,k,j,h0,rfl,hj,h⟩
end
section
variable {P0:Addr→Hp→Prop}{S:Type}
structure WS where
 d:Addr
 ll:Addr
 lo:Addr
 ls:List D
 now:D
 os:List D
def aTX (s:WS)(vn:V):List (Str×V):=[("lines", .ref s.ll),("now", vn),("listed", .ref s.lo)]
structure WkAt (C w:Addr)(s:WS)(us:List V)(vn:V)(vs:List V)(H:Hp):Prop where
 i:H w=some (.ins C s.d (aTX s vn))
 d:H s.d=some (.own w)
 l:H s.ll=some (.lst us)
 o:H s.lo=some (.lst vs)
structure WkDt (s:WS)(us:List V)(vn:V)(vs:List V)(G:Hp):Prop where
 l:Dts G us s.ls
 n:Dt G vn s.now
 o:Dts G vs s.os
structure WkNl (s:WS):Prop where
 ne:s.ll≠s.lo
 nl:bV s.ls=true
 nn:eN s.now=true
 no:bV s.os=true
theorem WkAt.at {C w:Addr}{s:WS}{us vs:List V}{vn:V}{H H':Hp}(h:WkAt C w s us vn vs H)(k:∀ b∈[w,s.d,s.ll,s.lo],H' b=H b):WkAt C w s us vn vs H':=
 ⟨(k w (by simp)).trans h.i,(k s.d (by simp)).trans h.d,(k s.ll (by simp)).trans h.l,(k s.lo (by simp)).trans h.o⟩
theorem WkAt.same {C w:Addr}{s:WS}{us vs:List V}{vn:V}{H H':Hp}(h:WkAt C w s us vn vs H)(g:Same H H'):WkAt C w s us vn vs H':=⟨g _ _ h.i,g _ _ h.d,g _ _ h.l,g _ _ h.o⟩
theorem WkDt.same {s:WS}{us vs:List V}{vn:V}{G G':Hp}(h:WkDt s us vn vs G)(g:Same G G'):WkDt s us vn vs G':=⟨Dts.same g _ _ h.l,Dt.same g _ _ h.n,Dts.same g _ _ h.o⟩
theorem WkAt.dom {C w:Addr}{s:WS}{us vs:List V}{vn:V}{H:Hp}(h:WkAt C w s us vn vs H):∀ y∈[w,s.d,s.ll,s.lo],∃ o,H y=some o∧∀ xs,o≠.tup xs:=fun y hy=>by
 simp only[List.mem_cons,List.not_mem_nil,or_false] at hy;rcases hy with rfl|rfl|rfl|rfl
 ·exact⟨_,h.i,fun _ z=>nomatch z⟩
 ·exact⟨_,h.d,fun _ z=>nomatch z⟩
 ·exact⟨_,h.l,fun _ z=>nomatch z⟩
 ·exact⟨_,h.o,fun _ z=>nomatch z⟩
def aPQ (C w:Addr)(s:WS):Pb where
 P:=fun v G=>v=.ref w∧∃ us vn vs,WkAt C w s us vn vs G∧WkDt s us vn vs G
 mono:=fun g ⟨a,us,vn,vs,b,c⟩=>⟨a,us,vn,vs,b.same g,c.same g⟩
def dZ (C:Addr):Fam WS where
  box:=fun w s=>
    { P:=fun v fp G H=>v=.ref w∧fp=[w,s.d,s.ll,s.lo]∧WkNl s∧∃ us vn vs,WkAt C w s us vn vs H∧WkDt s us vn vs G
      mono:=fun g ⟨a,b,z,us,vn,vs,c,e⟩=>⟨a,b,z,us,vn,vs,c,e.same g⟩
      loc:=fun k ⟨a,b,z,us,vn,vs,c,e⟩=>⟨a,b,z,us,vn,vs,c.at (fun y hy=>k y (by rw[b]; exact hy)),e⟩
      dom:=fun⟨a,b,z,us,vn,vs,c,e⟩ y hy=>by
        rw[b] at hy;obtain⟨o,ho,_⟩:=c.dom y hy;exact⟨o,ho⟩
      uniq:=fun h g=>h.2.1.trans g.2.1.symm
      nt:=fun⟨a,b,z,us,vn,vs,c,e⟩ y hy xs q=>by
        rw[b] at hy;obtain⟨o,ho,hn⟩:=c.dom y hy;rw[ho] at q;exact absurd (Option.some.inj q) (hn xs)
      view:=none
      vok:=fun _ z=>nomatch z
      pv:=some (aPQ C w s)
      pok:=fun⟨a,b,z,us,vn,vs,c,e⟩ y g k=>by
        cases y
        exact⟨a,us,vn,vs,c.at (fun y hy=>k y (by rw[b]; exact hy)),e.same g⟩ }
  pin:=fun h=>h.1
def InW (C w:Addr)(s:WS)(sl:Sl):Prop:=sl=.box ((dZ C).box w s)∨sl=.pub (aPQ C w s)
section
variable {C:Addr}{i:Nat}
theorem R.wk {F:Fra P0}{Γ:En}{σ:St}{G H:Hp}{w:Addr}{s:WS}{sl:Sl}(r:R F Γ σ G H)(e:Γ[i]?=some sl)(h:InW C w s sl):∃ us vn vs,σ[i]?=some (some (.ref w))∧WkAt C w s us vn vs H∧WkDt s us vn vs G:=by
 rcases h with rfl|rfl
 ·obtain⟨v,fp,e1,⟨rfl,_,_,us,vn,vs,b,c⟩,_⟩:=r.sl i _ e;exact⟨us,vn,vs,e1,b,c⟩
 ·obtain⟨v,e1,rfl,us,vn,vs,b,c⟩:=r.sl i _ e;exact⟨us,vn,vs,e1,b.same r.fr.sub,c⟩
def aCA (C:Addr)(i:Nat):ME:=fun Γ Q=>∃ w s sl,Γ[i]?=some sl∧InW C w s sl∧Q s.now Γ
theorem aAL {K:Fg}(cl:Cls K C)(na:NoAttr K C "now"):VT P0 (a1N K (jZ i) "now") (aCA C i):=by
 intro F Γ σ G H Q Qm r hm k;obtain⟨w,s,sl,e,h,q⟩:=hm;obtain⟨us,vn,vs,ew,a,b⟩:=r.wk e h;exact⟨.ref w,ew,w,C,s.d,_,vn,rfl,a.i,cl,na,rfl,k _ _ _ _ _ q (Same.refl _) r b.n⟩
def aJM (C:Addr)(i:Nat)(mj:ME):ME:=fun Γ Q=>∃ w s,(∃ sl,Γ[i]?=some sl∧InW C w s sl)∧mj Γ fun d Γ1=>(∃ sl,Γ1[i]?=some sl∧InW C w s sl)∧oQ (ixD (.list s.os) d) fun e=>Q e Γ1
theorem aFB {K:Fg}{tj:TE}{mj:ME}(cl:Cls K C)(na:NoAttr K C "listed")(hj:VT P0 tj mj):VT P0 (tOp (rIx K) (a1N K (jZ i) "listed") tj) (aJM C i mj):=by
 intro F Γ σ G H Q Qm r hm k;obtain⟨w,s,⟨sl,e,h⟩,hm⟩:=hm;obtain⟨us,vn,vs,ew,a,b⟩:=r.wk e h;refine⟨.ref w,ew,w,C,s.d,_,.ref s.lo,rfl,a.i,cl,na,rfl,hj F Γ σ G H _ _ r hm fun d Γ1 x G1 H1 m1 g1 r1 d1=>?_⟩;obtain⟨⟨sl1,e1,h1⟩,m1⟩:=m1;obtain⟨us1,vn1,vs1,_,a1,b1⟩:=r1.wk e1 h1;obtain⟨y,hy,q⟩:=aE7 m1;obtain⟨n,j,rfl,z1,z2⟩:=aII hy
 cases d1
 obtain⟨v,hv,dv⟩:=Dts.get b1.o z2;refine .inl ⟨s.lo,vs1,n,v,rfl,rfl,SqL.of a1.o,?_,k _ _ _ _ _ q g1 r1 dv⟩;unfold atI;rw[b1.o.len,z1];exact hv
def a5J (C:Addr)(i:Nat)(m:ME):MS:=fun Γ Q=>m Γ fun d Γ1=>eN d=true∧∃ w s,Γ1[i]?=some (.box ((dZ C).box w s))∧Q (.nx (Γ1.set i (.box ((dZ C).box w { s with now:=d }))))
theorem a6A {A:Nat→Bool}{K:Fg}{t:TE}{m:ME}(cl:Cls K C)(na:NoAttr K C "now")(h:VT P0 t m):VSA P0 A (aJY K (jZ i) t "now") (a5J C i m):=by
 intro F Γ σ G H E Qm r hm k;refine h F Γ σ G H _ _ r hm fun d Γ1 y G1 H1 m1 g1 r1 d1=>?_;obtain⟨nd,w,s,e,q⟩:=m1;obtain⟨v,fp,ev,⟨rfl,rfl,z,us,vn,vs,a,b⟩,nf⟩:=r1.sl i _ e;refine⟨.ref w,ev,w,C,s.d,_,rfl,a.i,cl,na,(by show 3<1000; decide),?_⟩;have hw:=nf w (by simp);refine k _ q σ G1 _ g1 (r1.writeF e (r1.fr.priv hw.1 hw.2) fun fp h=>?_) fun _ _=>rfl;obtain⟨u,eu2,⟨rfl,rfl,_⟩,nf2⟩:=h;have ed:s.d≠w:=gD a.d a.i (by intro z; cases z);have el:s.ll≠w:=gD a.l a.i (by intro z; cases z);have eo:s.lo≠w:=gD a.o a.i (by intro z; cases z);refine⟨[w,s.d,s.ll,s.lo],⟨.ref w,ev,⟨rfl,rfl,⟨z.ne,z.nl,nd,z.no⟩,us,y,vs,⟨?_,?_,?_,?_⟩,⟨b.l,d1,b.o⟩⟩,nf2⟩,fun b hb _=>?_⟩
 ·rw[aV]; rfl
 ·rw[aM ed]; exact a.d
 ·rw[aM el]; exact a.l
 ·rw[aM eo]; exact a.o
 ·exact⟨aM fun y=>hb (by rw[y]; simp),hb⟩
def Fra.lessP (F:Fra P0){G H:Hp}(r:Rf F G H)(fp:List Addr)(hf:∀ b∈fp,F.H0 b=none)(X:Addr)(hX:F.H0 X=none):Fra P0 where
 H0:=fun b=>if b∈fp then none else H b
 G0:=fun b=>if b=X then H b else G b
 pen:=F.pen
 stab:=(F.less r fp hf).stab
 pin:=F.pin
 pin0:=(F.less r fp hf).pin0
 pg:=fun p e=>by
  obtain⟨o,z⟩:=F.pin0 p e;rw[if_neg (fun y=>by rw[y,hX] at z; cases z)];exact(F.less r fp hf).pg p e
theorem PartOf.listed {w:Addr}{s:WS}:PartOf lstF s.lo (fun os=>(dZ C).box w { s with os:=os }):=fun{os v fp G H} h=>by
 obtain⟨rfl,rfl,z,us,vn,vs,a,b⟩:=h;have nw:w≠s.lo:=gD a.i a.o (by intro z; cases z);have nd:s.d≠s.lo:=gD a.d a.o (by intro z; cases z);have in1:w∉[s.lo]:=fun y=>nw (List.mem_singleton.mp y);have in2:s.d∉[s.lo]:=fun y=>nd (List.mem_singleton.mp y);have in3:s.ll∉[s.lo]:=fun y=>z.ne (List.mem_singleton.mp y);refine⟨[s.lo],fun b hb=>by rw[List.mem_singleton.mp hb]; simp,⟨rfl,rfl,z.no,vs,a.o,b.o⟩,fun os' f' G' H' g h' k=>?_⟩;obtain⟨_,rfl,zo,vs',c',d'⟩:=h';refine⟨[w,s.d,s.ll,s.lo],⟨rfl,rfl,⟨z.ne,z.nl,z.nn,zo⟩,us,vn,vs',⟨(k w (by simp) in1).1.trans a.i,(k s.d (by simp) in2).1.trans a.d,(k s.ll (by simp) in3).1.trans a.l,c'⟩,⟨Dts.same g _ _ b.l,Dt.same g _ _ b.n,d'⟩⟩,fun y hy=>?_⟩
 by_cases hyo:y∈[s.lo]
 ·exact .inl hyo
 ·exact .inr ⟨hy,hyo⟩
def aJW (C:Addr)(f:Lm (List D))(i j:Nat):ME:=fun Γ Q=>∃ w s lim,Γ[i]?=some (.box ((dZ C).box w s))∧Γ[j]?=some (.val lim)∧f s.lo s.os [.val (.list s.ls),.val s.now,.val lim] fun rv os'=>∃ d,rv=.val d∧eN d=true∧Q d (Γ.set i (.box ((dZ C).box w { s with os:=os' })))
theorem aJF {K:Fg}{f:Lm (List D)}{j:Nat}{E:XK}(cl:Cls K C)(n1:NoAttr K C "lines")(n2:NoAttr K C "listed")(n3:NoAttr K C "now") :
  VT P0 (a9A (aN6 P0 lstF 1 4 f) [] E (dD (a1N K (jZ i) "lines") (dD (a1N K (jZ i) "listed") (dD (a1N K (jZ i) "now") (dD (jZ j) rB))))) (aJW C f i j):=by
 intro F Γ σ G H Q Qm r hm k;obtain⟨w,s,lim,e,ej,hf⟩:=hm;obtain⟨fps,h1,h2⟩:=r.fps;have hi:=h1 i _ e;obtain⟨v,ev,pv,nf⟩:=id hi;obtain⟨rfl,hfp,z,us,vn,vs,a,b⟩:=id pv;obtain⟨vl,evl,dvl⟩:=r.sl j _ ej;refine⟨.ref w,ev,w,C,s.d,_,.ref s.ll,rfl,a.i,cl,n1,rfl,.ref w,ev,w,C,s.d,_,.ref s.lo,rfl,a.i,cl,n2,rfl,.ref w,ev,w,C,s.d,_,vn,rfl,a.i,cl,n3,rfl,vl,evl,?_⟩;have ml:=nf s.ll (by rw[hfp]; simp);have mo:=nf s.lo (by rw[hfp]; simp);have hF:∀ b∈[s.lo],F.H0 b=none:=fun b hb=>by rw[List.mem_singleton.mp hb]; exact mo.1
 have gX:Same G (F.lessP r.fr [s.lo] hF s.ll ml.1).G0:=fun b o y=>by
  show(if b=s.ll then H b else G b)=some o
  rw[if_neg (fun w=>by rw[w,ml.2] at y; cases y)];exact y
 have gll:(F.lessP r.fr [s.lo] hF s.ll ml.1).G0 s.ll=some (.lst us):=by
  show(if s.ll=s.ll then H s.ll else G s.ll)=_
  rw[if_pos rfl]; exact a.l
 obtain⟨f0,hp⟩:=PartOf.listed (C:=C) (w:=w) (s:=s) pv;have hf0:f0=[s.lo]:=hp.own.2.1;subst hf0;refine⟨F.lessP r.fr [s.lo] hF s.ll ml.1,s.lo,s.os,[s.lo],[.ref s.ll,vn,vl],[.val (.list s.ls),.val s.now,.val lim],_,rfl,fun b=>rfl,⟨fun b o y=>?_,fun _ _ _=>rfl,fun b o y _=>?_,r.fr.pn⟩,?_,fun b hb=>?_,?_,rfl,hf,fun rv os' r1 f1 f2 G' H' hq f' ra bo c d=>?_⟩
 ·have y:(if b=s.ll then H b else G b)=some o:=y
  split at y
  ·exact y
  ·exact r.fr.sub b o y
 ·have y:(if b∈[s.lo] then none else H b)=some o:=y
  split at y
  ·cases y
  ·exact y
 ·exact⟨rfl,rfl,z.no,vs,a.o,Dts.same gX _ _ b.o⟩
 ·rw[List.mem_singleton.mp hb]
  show(if s.lo=s.ll then H s.lo else G s.lo)=none
  rw[if_neg (Ne.symm z.ne)];exact mo.2
 ·exact .cons (Dt.lst gll (Dts.same gX _ _ b.l)) (.cons (Dt.same gX _ _ b.n) (.cons (Dt.same gX _ _ dvl) .nil))
 ·obtain⟨dd,rfl,nd,q⟩:=hq;have old:∀ b o,H b=some o→b≠s.lo→G' b=(if b=s.ll then H b else G b):=fun b o y hb=>f'.g0 b o (by show(if b∈[s.lo] then none else H b)=some o; rw[if_neg (fun w=>hb (List.mem_singleton.mp w))]; exact y);have gll':G' s.ll=some (.lst us):=by rw[old _ _ a.l z.ne,if_pos rfl]; exact a.l
  let Gc:Hp:=fun b=>if b=s.ll then none else G' b
  have un:aDA G' Gc:=fun b xs y=>by
   refine .inl ?_
   show(if b=s.ll then none else G' b)=_
   rw[if_neg (fun w=>by rw[w,gll'] at y; cases y)];exact y
  have rf:Rf (F.less r.fr [s.lo] hF) Gc H':=by
   refine⟨fun b o y=>?_,fun b o y=>?_,f'.h0,f'.pn⟩
   ·have y:(if b=s.ll then none else G' b)=some o:=y
    split at y
    ·cases y
    ·exact f'.sub b o y
   ·have y':(if b∈[s.lo] then none else H b)=some o:=y;have hb:b≠s.lo:=fun w=>by rw[w,if_pos (List.mem_singleton.mpr rfl)] at y'; cases y'
    have hH:H b=some o:=by rw[if_neg (fun w=>hb (List.mem_singleton.mp w))] at y'; exact y'
    show(if b=s.ll then none else G' b)=G b
    by_cases hl:b=s.ll
    ·rw[if_pos hl,hl]; exact ml.2.symm
    ·rw[if_neg hl,old b o hH hb,if_neg hl]
  have d2:∀ b∈f2,(F.less r.fr [s.lo] hF).H0 b=none∧Gc b=none:=fun b hb=>by
   have y:=d b (List.mem_append_right _ hb);refine⟨y.1,?_⟩
   show(if b=s.ll then none else G' b)=none
   split
   ·rfl
   ·exact y.2
  obtain⟨sG,new,_,_⟩:=r.unlend (B:=fun os=>(dZ C).box w { s with os:=os }) (s1:=s.os) e hi ev hp hF rf (aG1 un bo) d2;exact k _ _ _ _ _ q sG new (Dt.sameU un _ _ nd ra.2)
theorem uO {W:Fam S}{n:Nat}{m:Str}{f:Lm S}{t:TA}{ma:MA}{E:XK}(hW:∀{p s v fp G H},(W.box p s).P v fp G H→∃ dx fs,H p=some (.ins C dx fs)∧fs.lookup m=none)(h:VA P0 t ma):VO P0 (a1Z C m (spL P0 W n f) [] E (jZ i) t) (dB W n f i ma):=by
 intro F Γ σ G H Q Qm r hm k;obtain⟨p,⟨s,e⟩,hm⟩:=hm;obtain⟨v,fp,ev,pv,_⟩:=r.sl i _ e;have z:=W.pin pv;subst z;obtain⟨dx,fs,hp,hl⟩:=hW pv;refine⟨.ref p,ev,p,dx,fs,rfl,hp,hl,h F Γ σ G H _ _ r hm fun as Γ1 rs G1 H1 m1 g1 r1 d1=>?_⟩;obtain⟨s1,e1,hn,hf⟩:=m1;exact kJ (Qm:=Qm) PartOf.self r1 e1 d1 hn hf fun rv Γ' r' G' H' q g'=>k rv Γ' r' G' H' q (g1.trans g')
theorem aEU {m:Str}(hm:∀ s vn,(aTX s vn).lookup m=none){p:Addr}{s:WS}{v:V}{fp:List Addr}{G H:Hp}(h:((dZ C).box p s).P v fp G H):∃ dx fs,H p=some (.ins C dx fs)∧fs.lookup m=none:=by
 obtain⟨_,_,_,us,vn,vs,a,_⟩:=h;exact⟨_,_,a.i,hm s vn⟩
def a5N (P0:Addr→Hp→Prop)(C:Addr)(f:Fm):Sp:=fun vs H Q _=>∃(F:Fra P0) (w d:Addr) (l t:V) (ls:List D) (tm:D) (os:List D),vs=[.ref w,l,t]∧(∀ b,F.H0 b=if b=w∨b=d then none else H b)∧Rf F F.G0 H∧F.G0 w=none∧F.G0 d=none∧d≠w ∧
 H w=some (.ins C d [])∧H d=some (.own w)∧Dt F.G0 l (.list ls)∧Dt F.G0 t tm∧ls.length≤1000∧bV ls=true∧eN tm=true∧bV os=true∧f [.val (.list ls),.val tm] (fun rv=>rv=.own os) ∧
 ∀ ll lo f2 G' H',Rf F G' H'→((dZ C).box w ⟨d,ll,lo,ls,tm,os⟩).P (.ref w) f2 G' H'→(∀ b∈f2,F.H0 b=none∧G' b=none)→Q .non H'
def aH0 (C:Addr)(f:Fm)(ml mt:ME):MO:=fun Γ Q=>ml Γ fun l Γ1=>mt Γ1 fun t Γ2=>∃ ls os,l=.list ls∧ls.length≤1000∧bV ls=true∧eN t=true∧bV os=true∧f [.val (.list ls),.val t] (fun rv=>rv=.own os)∧∀ w d ll lo,Q (.box ((dZ C).box w ⟨d,ll,lo,ls,t,os⟩)) Γ2
theorem aID {f:Fm}{tl tt:TE}{ml mt:ME}{E:XK}(hl:VT P0 tl ml)(ht:VT P0 tt mt):VO P0 (aFI C (a5N P0 C f) [] E (dD tl (dD tt rB))) (aH0 C f ml mt):=by
 intro F Γ σ G H Q Qm r hm k;refine hl F Γ σ G H _ _ r hm fun l Γ1 vl G1 H1 m1 g1 r1 d1=>?_;refine ht F Γ1 σ G1 H1 _ _ r1 m1 fun t Γ2 vt G2 H2 m2 g2 r2 d2=>?_;obtain⟨ls,os,rfl,hn,z1,z2,z3,hf,q⟩:=m2;intro w d hw hd hdw;have g3:Same H2 (upd (upd H2 d (.own w)) w (.ins C d [])):=fun b o e=>by
  rw[aM (b7 e hw),aM (b7 e hd)];exact e
 refine⟨F.sub r2.fr,w,d,vl,vt,ls,t,os,rfl,fun b=>?_,⟨fun b o e=>g3 b o (r2.fr.sub b o e),fun _ _ _=>rfl,fun b o e _=>g3 b o e,?_⟩,r2.fr.gfresh hw,r2.fr.gfresh hd,hdw,aV,by rw[aM hdw]; exact aV,Dt.same g2 _ _ d1,d2,hn,z1,z2,z3,hf,fun ll lo f2 G' H' f' b' n'=>⟨rfl,?_⟩⟩
 ·show H2 b=_
  by_cases h1:b=w
  ·rw[if_pos (.inl h1),h1]; exact hw
  ·by_cases h2:b=d
   ·rw[if_pos (.inr h2),h2]; exact hd
   ·rw[if_neg (fun z=>z.elim h1 h2),aM h1,aM h2]
 ·exact(F.sub r2.fr).stab' H2 _ (fun b o e=>by rw[g3 b o e,show H2 b=some o from e]) r2.fr.pn
 ·obtain⟨r3,g4⟩:=r2.after f';refine k _ _ _ _ _ (q w d ll lo) ((g1.trans g2).trans g4) r3 ⟨f2,b',fun b hb=>⟨r2.fr.fresh (n' b hb).1,(n' b hb).2⟩⟩ ?_;refine Apart.newB r2 (fun fp hp b hb=>?_) g4 (fun b o e1 e2 e3=>⟨(f'.g0 b o e3).trans e2,f'.h0 b o e3 (F.pen_ne e1)⟩);have y:fp=f2:=Bx.uniq _ hp b';rw[y] at hb;exact(n' b hb).1
end
end
end L2.VS
namespace L2
open PySem PySem.Spec PyProof.Rows
variable {X:Cx}
end L2
namespace L2.VS
open PySem PySem.Spec PyProof.Rows
section
variable {P0:Addr→Hp→Prop}
end
section
variable {P0:Addr→Hp→Prop}{A:Nat→Bool}
end
section
theorem aDT {C:Addr}{i:Nat}{Γ:En}{Q:D→En→Prop}{w:Addr}{s:WS}{sl:Sl}(h0:Γ[i]?=some sl)(hs:InW C w s sl)(h:Q s.now Γ):aCA C i Γ Q:=⟨w,s,sl,h0,hs,h⟩
def wxK (C:Addr)(i:Nat)(w:Addr)(s:WS)(Q:D→En→Prop)(d:D)(Γ1:En):Prop:=(∃ sl,Γ1[i]?=some sl∧InW C w s sl)∧oQ (ixD (.list s.os) d) fun e=>Q e Γ1
theorem aK7 {C:Addr}{i:Nat}{mj:ME}{Γ:En}{Q:D→En→Prop}{w:Addr}{s:WS}{sl:Sl}(h0:Γ[i]?=some sl)(hs:InW C w s sl)(h:mj Γ (wxK C i w s Q)):aJM C i mj Γ Q:=⟨w,s,⟨sl,h0,hs⟩,h⟩
theorem aP4 {C:Addr}{i:Nat}{w:Addr}{s:WS}{Q:D→En→Prop}{d:D}{Γ1:En}{sl:Sl}(h0:Γ1[i]?=some sl)(hs:InW C w s sl)(h:oQ (ixD (.list s.os) d) fun e=>Q e Γ1):wxK C i w s Q d Γ1:=⟨⟨sl,h0,hs⟩,h⟩
def snK (C:Addr)(i:Nat)(Q:Fl→Prop)(d:D)(Γ1:En):Prop:=eN d=true∧∃ w s,Γ1[i]?=some (.box ((dZ C).box w s))∧Q (.nx (Γ1.set i (.box ((dZ C).box w { s with now:=d }))))
theorem aBJ {C:Addr}{i:Nat}{m:ME}{Γ:En}{Q:Fl→Prop}(h:m Γ (snK C i Q)):a5J C i m Γ Q:=h
theorem aQ0 {C:Addr}{i:Nat}{Q:Fl→Prop}{d:D}{Γ1:En}{w:Addr}{s:WS}(hd:eN d=true)(h0:Γ1[i]?=some (.box ((dZ C).box w s)))(h:Q (.nx (Γ1.set i (.box ((dZ C).box w { s with now:=d }))))):snK C i Q d Γ1:=⟨hd,w,s,h0,h⟩
def nwK (C:Addr)(f:Fm)(Q:Rv→En→Prop)(l t:D)(Γ2:En):Prop:=∃ ls os,l=.list ls∧ls.length≤1000∧bV ls=true∧eN t=true∧bV os=true∧f [.val (.list ls),.val t] (fun rv=>rv=.own os)∧∀ w d ll lo,Q (.box ((dZ C).box w ⟨d,ll,lo,ls,t,os⟩)) Γ2
theorem aMP {C:Addr}{f:Fm}{ml mt:ME}{Γ:En}{Q:Rv→En→Prop}(h:ml Γ fun l Γ1=>mt Γ1 (nwK C f Q l)):aH0 C f ml mt Γ Q:=h
end
section
variable {P0:Addr→Hp→Prop}{A:Nat→Bool}
end
section
variable {P0:Addr→Hp→Prop}
end
section
variable {P0:Addr→Hp→Prop}{A:Nat→Bool}
inductive DkRel (G:Hp):List (Key×V)→List (Int×D)→Prop
 | nil:DkRel G [] []
 | cons {n:Int} {v:V} {d:D} {kvs:List (Key×V)} {kds:List (Int×D)} (h:Dt G v d) (r:DkRel G kvs kds):DkRel G ((Sum.inl n,v)::kvs) ((n,d)::kds)
theorem DkRel.same {G G':Hp}(g:Same G G'){kvs:List (Key×V)}{kds:List (Int×D)}(h:DkRel G kvs kds):DkRel G' kvs kds:=by
 induction h with
 | nil=>exact .nil
 | cons h _ ih=>exact .cons (Dt.same g _ _ h) ih
theorem DkRel.len {G:Hp}{kvs:List (Key×V)}{kds:List (Int×D)}(h:DkRel G kvs kds):kvs.length=kds.length:=by
 induction h with
 | nil=>rfl
 | cons _ _ ih=>rw[List.length_cons,List.length_cons,ih]
def qT:List (Int×D)→Int→Option D
 | [],_=>none
 | (n,d)::r,k=>if n=k then some d else qT r k
def a2K:List (Int×D)→Int→D→List (Int×D)
 | [],_,_=>[]
 | (n,d)::r,k,e=>(if n=k then(n,e) else(n,d))::a2K r k e
def qR (kds:List (Int×D))(k:Int)(d:D):List (Int×D):=if (qT kds k).isSome then a2K kds k d else kds++[(k,d)]
def lB:List (Int×D)→Int→List (Int×D)
 | [],_=>[]
 | (n,d)::r,k=>if n=k then lB r k else(n,d)::lB r k
theorem DkRel.val {G:Hp}{kvs:List (Key×V)}{kds:List (Int×D)}(h:DkRel G kvs kds)(k:Int):(a84 kvs (Sum.inl k:Key)=none∧qT kds k=none)∨∃ v d,a84 kvs (Sum.inl k:Key)=some v∧qT kds k=some d∧Dt G v d:=by
 induction h with
 | nil=>exact .inl ⟨rfl,rfl⟩
 | @cons n v d kvs kds h r ih=>
  by_cases e:n=k
  ·refine .inr ⟨v,d,yV (by rw[e]),?_,h⟩;unfold qT; rw[if_pos e]
  ·rw[yZ (fun z=>e (Sum.inl.inj z))];unfold qT; rw[if_neg e]; exact ih
theorem DkRel.some {G:Hp}{kvs:List (Key×V)}{kds:List (Int×D)}(h:DkRel G kvs kds){k:Int}{d:D}(e:qT kds k=some d):∃ v,a84 kvs (Sum.inl k:Key)=some v∧Dt G v d:=by
 rcases h.val k with⟨_,z⟩|⟨v,d',a,b,c⟩
 ·rw[e] at z; cases z
 ·rw[e] at b; cases b; exact⟨v,a,c⟩
theorem DkRel.isSome {G:Hp}{kvs:List (Key×V)}{kds:List (Int×D)}(h:DkRel G kvs kds)(k:Int):(a84 kvs (Sum.inl k:Key)).isSome=(qT kds k).isSome:=by
 rcases h.val k with⟨a,z⟩|⟨v,d',a,b,c⟩
 ·rw[a,z]; rfl
 ·rw[a,b]; rfl
theorem DkRel.repl {G:Hp}{kvs:List (Key×V)}{kds:List (Int×D)}(h:DkRel G kvs kds)(k:Int){v:V}{d:D}(dv:Dt G v d):DkRel G (kvs.map fun kv=>if kv.1=(Sum.inl k:Key) then(kv.1,v) else kv) (a2K kds k d):=by
 induction h with
 | nil=>exact .nil
 | @cons n u e kvs kds h r ih=>
  unfold a2K;rw[List.map_cons]
  by_cases z:n=k
  ·rw[if_pos z,if_pos (congrArg Sum.inl z)]; exact .cons dv ih
  ·rw[if_neg z,if_neg (fun y=>z (Sum.inl.inj y))]; exact .cons h ih
theorem DkRel.snoc {G:Hp}{kvs:List (Key×V)}{kds:List (Int×D)}(h:DkRel G kvs kds)(k:Int){v:V}{d:D}(dv:Dt G v d):DkRel G (kvs++[(Sum.inl k,v)]) (kds++[(k,d)]):=by
 induction h with
 | nil=>exact .cons dv .nil
 | cons h _ ih=>exact .cons h ih
theorem DkRel.put {G:Hp}{kvs:List (Key×V)}{kds:List (Int×D)}(h:DkRel G kvs kds)(k:Int){v:V}{d:D}(dv:Dt G v d):DkRel G (putK kvs (Sum.inl k:Key) v) (qR kds k d):=by
 unfold putK qR;rw[a4C,h.isSome k]
 by_cases z:(qT kds k).isSome=true
 ·rw[if_pos z,if_pos z]; exact h.repl k dv
 ·rw[if_neg z,if_neg z]; exact h.snoc k dv
theorem DkRel.drop {G:Hp}{kvs:List (Key×V)}{kds:List (Int×D)}(h:DkRel G kvs kds)(k:Int):DkRel G (yP kvs (Sum.inl k:Key)) (lB kds k):=by
 induction h with
 | nil=>exact .nil
 | @cons n u e kvs kds h r ih=>
  unfold lB
  by_cases z:n=k
  ·rw[if_pos z,aFE (congrArg Sum.inl z)]; exact ih
  ·rw[if_neg z,aGB (fun y=>z (Sum.inl.inj y))]; exact .cons h ih
def dkD (kds:List (Int×D)):List (D×D):=kds.map fun kd=>(.int kd.1,kd.2)
theorem DkRel.dtk {G:Hp}{kvs:List (Key×V)}{kds:List (Int×D)}(h:DkRel G kvs kds):Dtk G kvs (dkD kds):=by
 induction h with
 | nil=>exact .nil
 | cons h _ ih=>exact .cons h ih
theorem Dtk.rel {G:Hp}:∀{kds:List (Int×D)} {kvs:List (Key×V)},Dtk G kvs (dkD kds)→DkRel G kvs kds
 | [],_,e=>by cases e; exact .nil
 | (n,d)::kds,_,e=>by
  cases e with
  | cons e1 e2=>exact .cons e1 (Dtk.rel e2)
def bDk (kds:List (Int×D)):Bx where
 P v fp G H:=∃ p kvs,v=.ref p∧fp=[p]∧H p=some (.dK kvs)∧DkRel G kvs kds
 mono g h:=by
  obtain⟨p,kvs,h1,h2,h3,h4⟩:=h;exact⟨p,kvs,h1,h2,h3,h4.same g⟩
 loc k h:=by
  obtain⟨p,kvs,h1,h2,h3,h4⟩:=h;subst h2;exact⟨p,kvs,h1,rfl,(k p List.mem_cons_self).trans h3,h4⟩
 dom h b hb:=by
  obtain⟨p,kvs,h1,h2,h3,h4⟩:=h;subst h2;rw[List.mem_singleton.mp hb]; exact⟨_,h3⟩
 uniq h g:=by
  obtain⟨p,kvs,h1,h2,h3,h4⟩:=h;obtain⟨p',kvs',g1,g2,g3,g4⟩:=g;rw[h1] at g1; cases g1;rw[h2,g2]
 nt h b hb ys e:=by
  obtain⟨p,kvs,h1,h2,h3,h4⟩:=h;subst h2;rw[List.mem_singleton.mp hb,h3] at e; cases e
 view:=some (.dict (dkD kds))
 vok h e g k:=by
  obtain⟨p,kvs,rfl,rfl,h3,h4⟩:=h
  cases e
  exact .dic ((k p List.mem_cons_self).trans h3) (h4.same g).dtk
theorem R.dk {F:Fra P0}{Γ:En}{σ:St}{G H:Hp}(r:R F Γ σ G H){i:Nat}{kds:List (Int×D)}(e:Γ[i]?=some (.box (bDk kds))):∃ p kvs,σ[i]?=some (some (.ref p))∧H p=some (.dK kvs)∧DkRel G kvs kds∧F.H0 p=none∧G p=none:=by
 obtain⟨v,fp,e1,⟨p,kvs,rfl,rfl,h3,h4⟩,e3⟩:=r.sl i _ e;obtain⟨p1,p2⟩:=e3 p List.mem_cons_self;exact⟨p,kvs,e1,h3,h4,p1,p2⟩
def aED (i:Nat)(mj:ME):ME:=fun Γ Q=>(∃ kds,Γ[i]?=some (.box (bDk kds)))∧mj Γ fun x Γ1=>∃ kds k d,Γ1[i]?=some (.box (bDk kds))∧x=.int k∧qT kds k=some d∧Q d Γ1
theorem aJH {i:Nat}{tj:TE}{mj:ME}(hj:VT P0 tj mj):VT P0 (aIU (jZ i) tj) (aED i mj):=by
 intro F Γ σ G H Q Qm r hm k;obtain⟨⟨kds,e⟩,hm⟩:=hm;obtain⟨p,kvs,ep,_⟩:=r.dk e;refine⟨.ref p,ep,hj F Γ σ G H _ _ r hm fun x Γ1 y G1 H1 m1 g1 r1 d1=>?_⟩;obtain⟨kds1,n,d,e1,rfl,hd,q⟩:=m1;obtain⟨p',kvs1,ep',hp,rel,_,_⟩:=r1.dk e1;rw[ep] at ep'
 cases ep'
 cases d1
 obtain⟨v,hv,dv⟩:=rel.some hd;refine⟨p,v,rfl,?_,k _ _ _ _ _ q g1 r1 dv⟩;have z:=DGet.k (k:=Sum.inl n) hp;rw[hv] at z;exact z
theorem R.dkW {F:Fra P0}{Γ:En}{σ:St}{G H:Hp}(r:R F Γ σ G H){i:Nat}{p:Addr}{kds kds':List (Int×D)}{kvs':List (Key×V)}(e:Γ[i]?=some (.box (bDk kds)))(ep:σ[i]?=some (some (.ref p)))(rel:DkRel G kvs' kds'):R F (Γ.set i (.box (bDk kds'))) σ G (upd H p (.dK kvs')):=by
 obtain⟨p',kvs,ep',hp,_,p1,p2⟩:=r.dk e;rw[ep] at ep'; cases ep';refine r.writeF e (r.fr.priv p1 p2) fun fp hf=>?_;obtain⟨v,w1,⟨p',kvs1,rfl,rfl,_,_⟩,w3⟩:=hf;rw[ep] at w1; cases w1;refine⟨[p],⟨.ref p,ep,⟨p,kvs',rfl,rfl,aV,rel⟩,w3⟩,fun z hz _=>⟨aM fun y=>hz (by rw[y]; exact List.mem_cons_self),hz⟩⟩
def aBC (i:Nat)(m mj:ME):MS:=fun Γ Q=>m Γ fun d Γ1=>(∃ kds,Γ1[i]?=some (.box (bDk kds)))∧mj Γ1 fun x Γ2=>∃ kds k,Γ2[i]?=some (.box (bDk kds))∧x=.int k∧kds.length<1000∧Q (.nx (Γ2.set i (.box (bDk (qR kds k d)))))
theorem aBX {i:Nat}{t tj:TE}{m mj:ME}(h:VT P0 t m)(hj:VT P0 tj mj):VSA P0 A (aKG (jZ i) tj t) (aBC i m mj):=by
 intro F Γ σ G H E Qm r hm k;refine h F Γ σ G H _ _ r hm fun d Γ1 v G1 H1 m1 g1 r1 d1=>?_;obtain⟨⟨kds,e⟩,m1⟩:=m1;obtain⟨p,_,ep,_⟩:=r1.dk e;refine⟨.ref p,ep,hj F Γ1 σ G1 H1 _ _ r1 m1 fun x Γ2 u G2 H2 m2 g2 r2 d2=>?_⟩;obtain⟨kds2,n,e2,rfl,hl,q⟩:=m2;obtain⟨p',kvs,ep',hp,rel,_,_⟩:=r2.dk e2;rw[ep] at ep'; cases ep'
 cases d2
 refine⟨p,_,rfl,DPut.k (k:=Sum.inl n) hp (by rw[rel.len]; exact Nat.lt_of_lt_of_le hl (by decide)),?_⟩;exact k _ q σ G2 _ (g1.trans g2) (r2.dkW e2 ep (rel.put n (Dt.same g2 _ _ d1))) fun _ _=>rfl
def aEJ (i:Nat)(mj:ME):ME:=fun Γ Q=>(∃ kds,Γ[i]?=some (.box (bDk kds)))∧mj Γ fun x Γ1=>∃ kds k d,Γ1[i]?=some (.box (bDk kds))∧x=.int k∧qT kds k=some d∧Q d (Γ1.set i (.box (bDk (lB kds k))))
theorem aHQ {i:Nat}{tj:TE}{mj:ME}(hj:VT P0 tj mj):VT P0 (aG7 (jZ i) tj) (aEJ i mj):=by
 intro F Γ σ G H Q Qm r hm k;obtain⟨⟨kds,e⟩,hm⟩:=hm;obtain⟨p,kvs0,ep,hp0,_⟩:=r.dk e;refine⟨.ref p,ep,p,rfl,.inl ⟨kvs0,.inl hp0⟩,hj F Γ σ G H _ _ r hm fun x Γ1 y G1 H1 m1 g1 r1 d1=>?_⟩;obtain⟨kds1,n,d,e1,rfl,hd,q⟩:=m1;obtain⟨p',kvs1,ep',hp,rel,_,_⟩:=r1.dk e1;rw[ep] at ep'
 cases ep'
 cases d1
 obtain⟨v,hv,dv⟩:=rel.some hd;exact⟨kvs1,Sum.inl n,v,hp,rfl,hv,k _ _ _ _ _ q g1 (r1.dkW e1 ep (rel.drop n)) dv⟩
theorem hu1 {a:Nat}(h:a+64<cLine):a+1<cLine:=Nat.lt_of_le_of_lt (Nat.add_le_add_left (by decide) _) h
def pM (ma mj:ME):ME:=fun Γ Q=>ma Γ fun y Γ1=>mj Γ1 fun x Γ2=>∃ kds k d,y=.dict (dkD kds)∧x=.int k∧qT kds k=some d∧Q d Γ2
theorem fQ {ta tj:TE}{ma mj:ME}(ha:VT P0 ta ma)(hj:VT P0 tj mj):VT P0 (aIU ta tj) (pM ma mj):=by
 intro F Γ σ G H Q Qm r hm k;refine ha F Γ σ G H _ _ r hm fun y Γ1 v G1 H1 m1 g1 r1 d1=>?_;refine hj F Γ1 σ G1 H1 _ _ r1 m1 fun x Γ2 u G2 H2 m2 g2 r2 d2=>?_;obtain⟨kds,n,d,rfl,rfl,hd,q⟩:=m2
 cases d2
 cases d1 with
 | @dic p kvs _ hp rs=>
  obtain⟨w,hw,dw⟩:=((Dtk.rel rs).same g2).some hd;refine⟨p,w,rfl,?_,k _ _ _ _ _ q (g1.trans g2) r2 dw⟩;have z:=DGet.k (k:=Sum.inl n) (r2.fr.sub _ _ (g2 _ _ hp));rw[hw] at z;exact z
end
end L2.VS
namespace L2
open PySem PySem.Calls PyProof.Rows PySem.W
section
variable {prog:Program}{w:World}{A:Around}{E:Value→Shared→Prop}{s:Shared}
end
end L2
namespace L2
open PySem PySem.Spec PyProof.Rows
theorem aDY {its:List Value}{ns:List Int}(h:IntsAre its ns):Paired RelV (ns.map V.int) its:=by
 induction h with
 | nil=>exact .nil
 | cons n t _ ih=>exact .cons ⟨t,rfl⟩ ih
section
variable {X:Cx}
end
def p6 (ns:List Int):List Int:=ns.mergeSort fun a b=>decide (a≤b)
theorem a8X (ns:List Int):(p6 ns).Perm ns:=List.mergeSort_perm _ _
theorem aH7 (ns:List Int):(p6 ns).Pairwise (·≤·):=by
 have h:(p6 ns).Pairwise fun a b=>decide (a≤b)=true:=List.pairwise_mergeSort (fun a b c h g=>by simp only[decide_eq_true_eq] at h g ⊢; omega) (fun a b=>by simp only[Bool.or_eq_true,decide_eq_true_eq]; omega) ns;exact h.imp fun h=>of_decide_eq_true h
theorem uI {xs ns:List Int}(hp:xs.Perm ns)(hu:xs.Pairwise (·≤·)):p6 ns=xs:=
 List.Perm.eq_of_pairwise (le:=(·≤·)) (fun a b _ _ h g=>by omega) (aH7 ns) hu ((a8X ns).trans hp.symm)
end L2
namespace L2.VS
open PySem PySem.Spec PyProof.Rows
section
variable {P0:Addr→Hp→Prop}{ta:TE}{ma:ME}{K:Fg}
theorem uX {G:Hp}:∀(ns:List Int),Dts G (ns.map V.int) (ns.map PyData.int)
 | []=>.nil
 | n::k=>.cons (.int n) (uX k)
end
end L2.VS
namespace L2
open PySem PySem.Spec PyProof.Rows
theorem aFZ {ns:List Int}{vs:List Value}(hl:vs.length=ns.length)(h:∀(j:Nat) (v:Value),vs[j]?=some v→∃ t,v=.int (ns.getD j 0) t):IntsAre vs ns:=by
 induction ns generalizing vs with
 | nil=>
  cases vs with
  | nil=>exact .nil
  | cons a b=>cases hl
 | cons n ns ih=>
  cases vs with
  | nil=>cases hl
  | cons v vs=>
   obtain⟨t,rfl⟩:=h 0 v rfl;exact .cons _ t (ih (Nat.succ.inj hl) fun j u e=>h (j+1) u e)
def aJZ:List V→Hp→VK→Prop:=fun xs H Q=>∃(p:Addr) (kvs:List (Key×V)) (ns:List Int),xs=[.ref p]∧H p=some (.dK kvs)∧kvs.map (·.1)=ns.map Sum.inl∧ns.length<64 ∧
 ∀(ns':List Int) q,ns'.Perm ns→ns'.Pairwise (·≤·)→H q=none→Q (.ref q) (upd H q (.lst (ns'.map V.int)))
section
variable {X:Cx}
theorem wJ (hc:X.calm=true):wI X (.builtin "sorted") aJZ:=by
 intro pins s σ H xs us Q I r h;obtain⟨p,kvs,ns,rfl,hp,hk,h64,q⟩:=h;obtain⟨u,rfl,rx⟩:=vals1 r
 cases rx
 obtain⟨hz,lo,vs,hkv,hD⟩:=aLN I.hok hp;obtain⟨ep,hat⟩:=hD.dictAt;have hlen:vs.length=ns.length:=by
  rw[← hkv.length,←List.length_map (f:=(·.1)) (as:=kvs),hk,List.length_map]
 refine Calls.call_function_entry kind_sorted plain_sorted entry_sorted (args_sorted1 _) ?_;unfold Builtin.«sorted»; refine wpAny_bind (m:=checkCount "sorted" 1 1 _) (wpAny_pure ?_);refine wpAny_bind (PySem.W.kdu_collect (A:=X.A.in1) (PySem.W.kdl_dict (knd:=eX X.prog X.w) (kvs:=vs) (ep:=ep) lo) (I.ok.hd hc) hat (by rw[hlen,sizeLine_eq]; omega) fun h' tk acc kp hacc=>?_);have hl:acc.toList.length=ns.length:=by rw[Array.length_toList,hacc.1,hlen]
 have hI:IntsAre acc.toList ns:=by
  refine aFZ hl fun j v e=>?_;obtain⟨k,x,hx,hkk⟩:=hacc.2 j v (by rw[← Array.getElem?_toList]; exact e);have hj:j<ns.length:=by rw[← hl]; exact(List.getElem?_eq_some_iff.mp e).1
  have e1:(vs.map (·.1))[j]?=some k:=by rw[List.getElem?_map,hx]; rfl
  rw[← hkv.keys,hk,List.getElem?_map,List.getElem?_eq_getElem hj] at e1
  cases e1
  rcases cO ((a3L X.prog X.w _ _).symm.trans hkk) with⟨i,t,a,b⟩|⟨_,_,a,_⟩
  ·cases a
   refine⟨t,?_⟩;rw[b,List.getD_eq_getElem?_getD,List.getElem?_eq_getElem hj]; rfl
  ·cases a
 refine wpAny_bind (wpAny_newList ?_ (by rw[hl,sizeLine_eq]; omega));have hoL:(h'.push (seqObj "list" acc.toList.toArray 0)).get? h'.objs.size=some (seqObj "list" acc.toList.toArray 0):=Heap.get?_push_size _ rfl;refine wpAny_bind (wpAny_holding (wpAny_call_entry slot_list_sort ⟨_,hoL,rfl⟩ entry_list_sort (list_sort_tree (s:={ s with heap:=h'.push (seqObj "list" acc.toList.toArray 0),toks:=tk }) hoL hI (by rw[hl]; exact h64) fun out ns' a1 a2 a3=>⟨_,rfl,?_⟩) (args_list_sort _)));refine wpAny_pure ⟨_,rfl,?_⟩;obtain⟨c,hd⟩:=sortedHeap_at (out:=out) hoL;have kp2:∀ b o,s.heap.get? b=some o→(sortedHeap (h'.push (seqObj "list" acc.toList.toArray 0)) h'.objs.size acc.toList out).get? b=some o:=fun b o e=>by
  have e':=kp b o e;have hlt:=Heap.lt_size e';rw[sortedHeap_old (Nat.ne_of_lt hlt) (by rw[Heap.size_push]; exact Nat.lt_succ_of_lt hlt)];exact Heap.get?_push_of_some _ e'
 have hD0:s.heap.get? h'.objs.size=none:=by
  cases e:s.heap.get? h'.objs.size with
  | none=>rfl
  | some o=>exact absurd (Heap.lt_size (kp _ _ e)) (Nat.lt_irrefl _)
 have HD:H h'.objs.size=none:=by
  cases e:H h'.objs.size with
  | none=>rfl
  | some o=>
   obtain⟨u,hu⟩:=(I.hok _ o e).there;rw[hD0] at hu; cases hu
 generalize h'.objs.size=D at *;generalize sortedHeap (h'.push (seqObj "list" acc.toList.toArray 0)) D acc.toList out=h2 at *;obtain⟨m,hn,_⟩:=id I.loc;have hn':h2.Ns X.env.locals m:=by
  obtain⟨oL,b1,b2,hL,b3⟩:=hn;exact⟨oL,b1,b2,kp2 _ _ hL,b3⟩
 have neD:∀ b o,H b=some o→b≠D:=fun b o e z=>by rw[z,HD] at e; cases e
 have hok:HOk X.prog X.w (upd H D (.lst (ns'.map V.int))) h2:=fun b o e=>by
  by_cases hb:b=D
  ·subst hb;rw[aV] at e
   cases e
   refine⟨?_,out.toList,c,aDY a1,by simpa using hd⟩;rw[List.length_map,a2.length_eq,sizeLine_eq]; omega
  ·rw[aM hb] at e;exact(I.hok b o e).stay (fun b' u _ hu=>kp2 b' u hu) (fun b' z=>by rw[aM (neD _ _ z)]; exact z) fun b' xs z=>by rw[aM (neD _ _ z)]; exact z
 have I':Inv X pins σ (upd H D (.lst (ns'.map V.int))) { s with heap:=h2,gens:=s.gens,drawn:=s.drawn,toks:=tk }:=I.step (ch:=[]) (fun _ z=>nomatch z) (fun b o hb _ _ e _=>kp2 b o e) (fun b o hb _ _ e _=>⟨o.slots,kp2 b o e⟩)
  (fun b o _ e n=>by rw[aM (fun z=>by rw[z,hD0] at e; cases e)]; exact n)
  (fun b o _ e=>⟨o,kp2 b o e⟩)
  (fun b xs z=>by rw[aM (neD _ _ z)]; exact z) (fun b o u z=>by rw[aM (neD _ _ z)]; exact z) (fun b ps z=>⟨#[],by rw[aM (neD _ _ z)]; simpa using z⟩)
  (fun m' hm=>aNN hn hm▸hn') hok I.bare
 exact⟨.ref D,_,I',rfl,q ns' D a2 a3 HD⟩
end
end L2
namespace L2.VS
open PySem PySem.Spec PyProof.Rows
section
variable {P0:Addr→Hp→Prop}
theorem DkRel.keys {G:Hp}{kvs:List (Key×V)}{kds:List (Int×D)}(h:DkRel G kvs kds):kvs.map (·.1)=(kds.map (·.1)).map Sum.inl:=by
 induction h with
 | nil=>rfl
 | cons _ _ ih=>rw[List.map_cons,List.map_cons,List.map_cons,ih]
def a5L (ma:ME):MO:=fun Γ Q=>ma Γ fun y Γ1=>∃ kds:List (Int×D),y=.dict (dkD kds)∧kds.length<64∧Q (.own ((p6 (kds.map (·.1))).map PyData.int)) Γ1
theorem a7T {ta:TE}{ma:ME}(ha:VT P0 ta ma):VO P0 (tCB aJZ (dD ta rB)) (a5L ma):=by
 intro F Γ σ G H Q Qm r m k;refine ha F Γ σ G H _ _ r m fun x Γ1 v G1 H1 m1 s1 r1 d1=>?_;obtain⟨kds,rfl,h64,m1⟩:=m1
 cases d1 with
 | @dic p kvs _ hp rs=>
  refine⟨p,kvs,kds.map (·.1),rfl,r1.fr.sub _ _ hp,(Dtk.rel rs).keys,by rw[List.length_map]; exact h64,fun ns' l hpm hup hl2=>?_⟩;obtain⟨a,b,c⟩:=m7 r1 hl2 (uX ns');rw[uI hpm hup] at m1;exact k _ _ _ _ _ m1 s1 a b c
end
end L2.VS
namespace L2
open PySem PySem.Spec PyProof.Rows
def aPG:List V→Hp→VK→Prop:=fun xs H Q=>∃(p:Addr) (kvs:List (Key×V)),xs=[.ref p]∧H p=some (.dK kvs)∧Q (.int kvs.length) H
theorem aER {X:Cx}:wI X (.builtin "len") aPG:=by
 intro pins s σ H xs us Q I r h;obtain⟨p,kvs,rfl,hp,q⟩:=h;obtain⟨u,rfl,rx⟩:=vals1 r
 cases rx
 exact aR7 I (.inl hp) fun t s' I'=>⟨.int kvs.length,H,I',⟨t,rfl⟩,q⟩
end L2
namespace L2.VS
open PySem PySem.Spec PyProof.Rows
section
variable {P0:Addr→Hp→Prop}
end
section
variable {P0:Addr→Hp→Prop}{A:Nat→Bool}
structure FS where
 d:Addr
 p:Addr
 kds:List (Int×D)
 jn:Int
 la:D
def aQ4 (s:FS)(vl:V):List (Str×V):=[("running", .ref s.p),("joined", .int s.jn),("last", vl)]
structure FdAt (C w:Addr)(s:FS)(kvs:List (Key×V))(vl:V)(H:Hp):Prop where
 i:H w=some (.ins C s.d (aQ4 s vl))
 d:H s.d=some (.own w)
 k:H s.p=some (.dK kvs)
structure FdDt (s:FS)(kvs:List (Key×V))(vl:V)(G:Hp):Prop where
 k:DkRel G kvs s.kds
 l:Dt G vl s.la
theorem FdAt.at {C w:Addr}{s:FS}{kvs:List (Key×V)}{vl:V}{H H':Hp}(h:FdAt C w s kvs vl H)(k:∀ b∈[w,s.d,s.p],H' b=H b):FdAt C w s kvs vl H':=
 ⟨(k w (by simp)).trans h.i,(k s.d (by simp)).trans h.d,(k s.p (by simp)).trans h.k⟩
theorem FdAt.same {C w:Addr}{s:FS}{kvs:List (Key×V)}{vl:V}{H H':Hp}(h:FdAt C w s kvs vl H)(g:Same H H'):FdAt C w s kvs vl H':=⟨g _ _ h.i,g _ _ h.d,g _ _ h.k⟩
theorem FdDt.same {s:FS}{kvs:List (Key×V)}{vl:V}{G G':Hp}(h:FdDt s kvs vl G)(g:Same G G'):FdDt s kvs vl G':=⟨h.k.same g,Dt.same g _ _ h.l⟩
theorem FdAt.dom {C w:Addr}{s:FS}{kvs:List (Key×V)}{vl:V}{H:Hp}(h:FdAt C w s kvs vl H):∀ y∈[w,s.d,s.p],∃ o,H y=some o∧∀ xs,o≠.tup xs:=fun y hy=>by
 simp only[List.mem_cons,List.not_mem_nil,or_false] at hy;rcases hy with rfl|rfl|rfl
 ·exact⟨_,h.i,fun _ z=>nomatch z⟩
 ·exact⟨_,h.d,fun _ z=>nomatch z⟩
 ·exact⟨_,h.k,fun _ z=>nomatch z⟩
def a1K (C w:Addr)(s:FS):Pb where
 P:=fun v G=>v=.ref w∧∃ kvs vl,FdAt C w s kvs vl G∧FdDt s kvs vl G
 mono:=fun g ⟨a,kvs,vl,b,c⟩=>⟨a,kvs,vl,b.same g,c.same g⟩
def bG (C:Addr):Fam FS where
  box:=fun w s=>
    { P:=fun v fp G H=>v=.ref w∧fp=[w,s.d,s.p]∧∃ kvs vl,FdAt C w s kvs vl H∧FdDt s kvs vl G
      mono:=fun g ⟨a,b,kvs,vl,c,e⟩=>⟨a,b,kvs,vl,c,e.same g⟩
      loc:=fun k ⟨a,b,kvs,vl,c,e⟩=>⟨a,b,kvs,vl,c.at (fun y hy=>k y (by rw[b]; exact hy)),e⟩
      dom:=fun⟨a,b,kvs,vl,c,e⟩ y hy=>by
        rw[b] at hy;obtain⟨o,ho,_⟩:=c.dom y hy;exact⟨o,ho⟩
      uniq:=fun h g=>h.2.1.trans g.2.1.symm
      nt:=fun⟨a,b,kvs,vl,c,e⟩ y hy xs q=>by
        rw[b] at hy;obtain⟨o,ho,hn⟩:=c.dom y hy;rw[ho] at q;exact absurd (Option.some.inj q) (hn xs)
      view:=none
      vok:=fun _ z=>nomatch z
      pv:=some (a1K C w s)
      pok:=fun⟨a,b,kvs,vl,c,e⟩ y g k=>by
        cases y
        exact⟨a,kvs,vl,c.at (fun y hy=>k y (by rw[b]; exact hy)),e.same g⟩ }
  pin:=fun h=>h.1
def InF (C w:Addr)(s:FS)(sl:Sl):Prop:=sl=.box ((bG C).box w s)∨sl=.pub (a1K C w s)
section
variable {C:Addr}{i:Nat}
theorem R.fd {F:Fra P0}{Γ:En}{σ:St}{G H:Hp}{w:Addr}{s:FS}{sl:Sl}(r:R F Γ σ G H)(e:Γ[i]?=some sl)(h:InF C w s sl):∃ kvs vl,σ[i]?=some (some (.ref w))∧FdAt C w s kvs vl H∧FdDt s kvs vl G:=by
 rcases h with rfl|rfl
 ·obtain⟨v,fp,e1,⟨rfl,_,kvs,vl,b,c⟩,_⟩:=r.sl i _ e;exact⟨kvs,vl,e1,b,c⟩
 ·obtain⟨v,e1,rfl,kvs,vl,b,c⟩:=r.sl i _ e;exact⟨kvs,vl,e1,b.same r.fr.sub,c⟩
def a1G (C:Addr)(i:Nat):ME:=fun Γ Q=>∃ w s sl,Γ[i]?=some sl∧InF C w s sl∧Q (.int s.jn) Γ
theorem a9P {K:Fg}(cl:Cls K C)(na:NoAttr K C "joined"):VT P0 (a1N K (jZ i) "joined") (a1G C i):=by
 intro F Γ σ G H Q Qm r hm k;obtain⟨w,s,sl,e,h,q⟩:=hm;obtain⟨kvs,vl,ew,a,b⟩:=r.fd e h;exact⟨.ref w,ew,w,C,s.d,_,.int s.jn,rfl,a.i,cl,na,rfl,k _ _ _ _ _ q (Same.refl _) r (.int _)⟩
def a4V (C:Addr)(i:Nat):ME:=fun Γ Q=>∃ w s sl,Γ[i]?=some sl∧InF C w s sl∧Q s.la Γ
theorem a86 {K:Fg}(cl:Cls K C)(na:NoAttr K C "last"):VT P0 (a1N K (jZ i) "last") (a4V C i):=by
 intro F Γ σ G H Q Qm r hm k;obtain⟨w,s,sl,e,h,q⟩:=hm;obtain⟨kvs,vl,ew,a,b⟩:=r.fd e h;exact⟨.ref w,ew,w,C,s.d,_,vl,rfl,a.i,cl,na,rfl,k _ _ _ _ _ q (Same.refl _) r b.l⟩
def aIX (C:Addr)(i:Nat)(mj:ME):ME:=fun Γ Q=>∃ w s,(∃ sl,Γ[i]?=some sl∧InF C w s sl)∧mj Γ fun x Γ1=>(∃ sl,Γ1[i]?=some sl∧InF C w s sl)∧∃ k d,x=.int k∧qT s.kds k=some d∧Q d Γ1
theorem aGE {K:Fg}{tj:TE}{mj:ME}(cl:Cls K C)(na:NoAttr K C "running")(hj:VT P0 tj mj):VT P0 (aIU (a1N K (jZ i) "running") tj) (aIX C i mj):=by
 intro F Γ σ G H Q Qm r hm k;obtain⟨w,s,⟨sl,e,h⟩,hm⟩:=hm;obtain⟨kvs,vl,ew,a,b⟩:=r.fd e h;refine⟨.ref w,ew,w,C,s.d,_,.ref s.p,rfl,a.i,cl,na,rfl,hj F Γ σ G H _ _ r hm fun x Γ1 y G1 H1 m1 g1 r1 d1=>?_⟩;obtain⟨⟨sl1,e1,h1⟩,n,d,rfl,hd,q⟩:=m1;obtain⟨kvs1,vl1,_,a1,b1⟩:=r1.fd e1 h1
 cases d1
 obtain⟨v,hv,dv⟩:=b1.k.some hd;refine⟨s.p,v,rfl,?_,k _ _ _ _ _ q g1 r1 dv⟩;have z:=DGet.k (k:=Sum.inl n) a1.k;rw[hv] at z;exact z
def aKO (C:Addr)(i:Nat)(mj:ME):ME:=fun Γ Q=>mj Γ fun x Γ1=>∃ w s sl k,Γ1[i]?=some sl∧InF C w s sl∧x=.int k∧Q (.bool (qT s.kds k).isSome) Γ1
theorem aKT {K:Fg}{tj:TE}{mj:ME}(cl:Cls K C)(na:NoAttr K C "running")(hj:VT P0 tj mj):VT P0 (aUJ tj (a1N K (jZ i) "running")) (aKO C i mj):=by
 intro F Γ σ G H Q Qm r hm k;refine hj F Γ σ G H _ _ r hm fun x Γ1 y G1 H1 m1 g1 r1 d1=>?_;obtain⟨w,s,sl,n,e,h,rfl,q⟩:=m1;obtain⟨kvs,vl,ew,a,b⟩:=r1.fd e h
 cases d1
 refine⟨.ref w,ew,w,C,s.d,_,.ref s.p,rfl,a.i,cl,na,rfl,s.p,_,rfl,DGet.k (k:=Sum.inl n) a.k,?_⟩;rw[b.k.isSome n];exact k _ _ _ _ _ q g1 r1 (.bl _)
def aDV (C:Addr)(i:Nat):ME:=fun Γ Q=>∃ w s sl,Γ[i]?=some sl∧InF C w s sl∧Q (.int (s.kds.length:Int)) Γ
theorem aIA {K:Fg}(cl:Cls K C)(na:NoAttr K C "running"):VT P0 (tCB aPG (dD (a1N K (jZ i) "running") rB)) (aDV C i):=by
 intro F Γ σ G H Q Qm r hm k;obtain⟨w,s,sl,e,h,q⟩:=hm;obtain⟨kvs,vl,ew,a,b⟩:=r.fd e h;exact⟨.ref w,ew,w,C,s.d,_,.ref s.p,rfl,a.i,cl,na,rfl,s.p,kvs,rfl,a.k,by rw[b.k.len]; exact k _ _ _ _ _ q (Same.refl _) r (.int _)⟩
theorem R.fdI {F:Fra P0}{Γ:En}{σ:St}{G H:Hp}{w:Addr}{s:FS}(r:R F Γ σ G H)(e:Γ[i]?=some (.box ((bG C).box w s))){n:Int}{y:V}{d:D}(dy:Dt G y d):R F (Γ.set i (.box ((bG C).box w { s with jn:=n,la:=d }))) σ G (upd H w (.ins C s.d (aQ4 { s with jn:=n } y))):=by
 obtain⟨v,fp,ev,⟨rfl,rfl,kvs,vl,a,b⟩,nf⟩:=r.sl i _ e;have hw:=nf w (by simp);refine r.writeF e (r.fr.priv hw.1 hw.2) fun fp h=>?_;obtain⟨u,eu2,⟨rfl,rfl,_⟩,nf2⟩:=h;have ed:s.d≠w:=gD a.d a.i (by intro z; cases z);have ek:s.p≠w:=gD a.k a.i (by intro z; cases z);refine⟨[w,s.d,s.p],⟨.ref w,ev,⟨rfl,rfl,kvs,y,⟨?_,?_,?_⟩,⟨b.k,dy⟩⟩,nf2⟩,fun b hb _=>?_⟩
 ·rw[aV]; rfl
 ·show upd H w _ s.d=_;rw[aM ed]; exact a.d
 ·show upd H w _ s.p=_;rw[aM ek]; exact a.k
 ·exact⟨aM fun y=>hb (by rw[y]; simp),hb⟩
theorem R.fdK {F:Fra P0}{Γ:En}{σ:St}{G H:Hp}{w:Addr}{s:FS}(r:R F Γ σ G H)(e:Γ[i]?=some (.box ((bG C).box w s))){kvs':List (Key×V)}{kds':List (Int×D)}(rel:DkRel G kvs' kds'):R F (Γ.set i (.box ((bG C).box w { s with kds:=kds' }))) σ G (upd H s.p (.dK kvs')):=by
 obtain⟨v,fp,ev,⟨rfl,rfl,kvs,vl,a,b⟩,nf⟩:=r.sl i _ e;have hw:=nf s.p (by simp);refine r.writeF e (r.fr.priv hw.1 hw.2) fun fp h=>?_;obtain⟨u,eu2,⟨rfl,rfl,_⟩,nf2⟩:=h;have ed:s.d≠s.p:=gD a.d a.k (by intro z; cases z);have ew:w≠s.p:=gD a.i a.k (by intro z; cases z);refine⟨[w,s.d,s.p],⟨.ref w,ev,⟨rfl,rfl,kvs',vl,⟨?_,?_,?_⟩,⟨rel,b.l⟩⟩,nf2⟩,fun b hb _=>?_⟩
 ·show upd H s.p _ w=_;rw[aM ew]; exact a.i
 ·show upd H s.p _ s.d=_;rw[aM ed]; exact a.d
 ·show upd H s.p _ s.p=_;rw[aV]
 ·exact⟨aM fun y=>hb (by rw[y]; simp),hb⟩
def a5Q (C:Addr)(i:Nat)(m:ME):MS:=fun Γ Q=>m Γ fun d Γ1=>∃ w s,Γ1[i]?=some (.box ((bG C).box w s))∧Q (.nx (Γ1.set i (.box ((bG C).box w { s with la:=d }))))
theorem aD3 {K:Fg}{t:TE}{m:ME}(cl:Cls K C)(na:NoAttr K C "last")(h:VT P0 t m):VSA P0 A (aJY K (jZ i) t "last") (a5Q C i m):=by
 intro F Γ σ G H E Qm r hm k;refine h F Γ σ G H _ _ r hm fun d Γ1 y G1 H1 m1 g1 r1 d1=>?_;obtain⟨w,s,e,q⟩:=m1;obtain⟨kvs,vl,ev,a,b⟩:=r1.fd e (.inl rfl);refine⟨.ref w,ev,w,C,s.d,_,rfl,a.i,cl,na,(by show 3<1000; decide),?_⟩;exact k _ q σ G1 _ g1 (r1.fdI (n:=s.jn) e d1) fun _ _=>rfl
def a5C (C:Addr)(i:Nat)(n:Int):MS:=fun Γ Q=>∃ w s,Γ[i]?=some (.box ((bG C).box w s))∧Q (.nx (Γ.set i (.box ((bG C).box w { s with jn:=s.jn+n }))))
theorem aCF {K:Fg}{n:Int}(cl:Cls K C)(na:NoAttr K C "joined"):VSA P0 A (aFL K (jZ i) (tC (.int n)) aTZ "joined") (a5C C i n):=by
 intro F Γ σ G H E Qm r hm k;obtain⟨w,s,e,q⟩:=hm;obtain⟨kvs,vl,ev,a,b⟩:=r.fd e (.inl rfl);refine⟨.ref w,ev,w,C,s.d,_,.int s.jn,rfl,a.i,cl,na,rfl,?_⟩;refine⟨s.jn,n,rfl,rfl,s.d,_,a.i,(by show 3<1000; decide),?_⟩;exact k _ q σ G _ (Same.refl _) (r.fdI (n:=s.jn+n) e b.l) fun _ _=>rfl
def aAT (C:Addr)(i:Nat)(m mj:ME):MS:=fun Γ Q=>m Γ fun d Γ1=>∃ w s,Γ1[i]?=some (.box ((bG C).box w s))∧mj Γ1 fun x Γ2=>∃ k,Γ2[i]?=some (.box ((bG C).box w s))∧x=.int k∧s.kds.length<1000∧Q (.nx (Γ2.set i (.box ((bG C).box w { s with kds:=qR s.kds k d }))))
theorem aBZ {K:Fg}{t tj:TE}{m mj:ME}(cl:Cls K C)(na:NoAttr K C "running")(h:VT P0 t m)(hj:VT P0 tj mj):VSA P0 A (aKG (a1N K (jZ i) "running") tj t) (aAT C i m mj):=by
 intro F Γ σ G H E Qm r hm k;refine h F Γ σ G H _ _ r hm fun d Γ1 v G1 H1 m1 g1 r1 d1=>?_;obtain⟨w,s,e,m1⟩:=m1;obtain⟨kvs,vl,ev,a,b⟩:=r1.fd e (.inl rfl);refine⟨.ref w,ev,w,C,s.d,_,.ref s.p,rfl,a.i,cl,na,rfl,hj F Γ1 σ G1 H1 _ _ r1 m1 fun x Γ2 u G2 H2 m2 g2 r2 d2=>?_⟩;obtain⟨n,e2,rfl,hl,q⟩:=m2;obtain⟨kvs2,vl2,ev2,a2,b2⟩:=r2.fd e2 (.inl rfl)
 cases d2
 refine⟨s.p,_,rfl,DPut.k (k:=Sum.inl n) a2.k (by rw[b2.k.len]; exact Nat.lt_of_lt_of_le hl (by decide)),?_⟩;exact k _ q σ G2 _ (g1.trans g2) (r2.fdK e2 (b2.k.put n (Dt.same g2 _ _ d1))) fun _ _=>rfl
def aEV (C:Addr)(i:Nat)(mj:ME):ME:=fun Γ Q=>∃ w s,Γ[i]?=some (.box ((bG C).box w s))∧mj Γ fun x Γ1=>∃ k d,Γ1[i]?=some (.box ((bG C).box w s))∧x=.int k∧qT s.kds k=some d∧Q d (Γ1.set i (.box ((bG C).box w { s with kds:=lB s.kds k })))
theorem aIF {K:Fg}{tj:TE}{mj:ME}(cl:Cls K C)(na:NoAttr K C "running")(hj:VT P0 tj mj):VT P0 (aG7 (a1N K (jZ i) "running") tj) (aEV C i mj):=by
 intro F Γ σ G H Q Qm r hm k;obtain⟨w,s,e,hm⟩:=hm;obtain⟨kvs,vl,ev,a,b⟩:=r.fd e (.inl rfl);refine⟨.ref w,ev,w,C,s.d,_,.ref s.p,rfl,a.i,cl,na,rfl,s.p,rfl,.inl ⟨kvs,.inl a.k⟩,hj F Γ σ G H _ _ r hm fun x Γ1 y G1 H1 m1 g1 r1 d1=>?_⟩;obtain⟨n,d,e1,rfl,hd,q⟩:=m1;obtain⟨kvs1,vl1,ev1,a1,b1⟩:=r1.fd e1 (.inl rfl)
 cases d1
 obtain⟨v,hv,dv⟩:=b1.k.some hd;exact⟨kvs1,Sum.inl n,v,a1.k,rfl,hv,k _ _ _ _ _ q g1 (r1.fdK e1 (b1.k.drop n)) dv⟩
theorem aEC {m:Str}(hm:∀ s vl,(aQ4 s vl).lookup m=none){p:Addr}{s:FS}{v:V}{fp:List Addr}{G H:Hp}(h:((bG C).box p s).P v fp G H):∃ dx fs,H p=some (.ins C dx fs)∧fs.lookup m=none:=by
 obtain⟨_,_,kvs,vl,a,_⟩:=h;exact⟨_,_,a.i,hm s vl⟩
def z6 (C:Addr):Sp:=fun vs H Q _=>∃(w d:Addr),vs=[.ref w]∧H w=some (.ins C d [])∧∀ p,H p=none→Q .non (upd (upd H p (.dK [])) w (.ins C d [("running", .ref p),("joined", .int 0),("last", .non)]))
def aE5 (C:Addr):MO:=fun Γ Q=>∀ w d p,Q (.box ((bG C).box w ⟨d,p,[],0,.none⟩)) Γ
theorem aIS {E:XK}:VO P0 (aFI C (z6 C) [] E rB) (aE5 C):=by
 intro F Γ σ G H Q Qm r hm k w d hw hd hdw;refine⟨w,d,rfl,aV,fun p hp=>⟨rfl,?_⟩⟩;have pw:p≠w:=fun z=>by rw[z,aV] at hp; cases hp
 have pd:p≠d:=fun z=>by rw[z,aM hdw,aV] at hp; cases hp
 have hp0:H p=none:=by rw[aM pw,aM pd] at hp; exact hp
 have g3:∀ b o,H b=some o→upd (upd (upd (upd H d (.own w)) w (.ins C d [])) p (.dK [])) w (.ins C d [("running", .ref p),("joined", .int 0),("last", .non)]) b=some o:=fun b o e=>by
  rw[aM (b7 e hw),aM (b7 e hp0),aM (b7 e hw),aM (b7 e hd)];exact e
 have r1:=(((r.newP (o:=.own w) hd).newP (p:=w) (o:=.ins C d []) (by rw[aM (Ne.symm hdw)]; exact hw)).newP (o:=.dK []) hp);have rf:Rf F G (upd (upd (upd (upd H d (.own w)) w (.ins C d [])) p (.dK [])) w (.ins C d [("running", .ref p),("joined", .int 0),("last", .non)])):=r1.fr.priv (r.fr.fresh hw) (r.fr.gfresh hw);have r2:R F Γ σ G (upd (upd (upd (upd H d (.own w)) w (.ins C d [])) p (.dK [])) w (.ins C d [("running", .ref p),("joined", .int 0),("last", .non)])):=r.keep rf (Same.refl _) fun q u _ _ g h=>⟨g,g3 q u h⟩;have hP:((bG C).box w ⟨d,p,[],0,.none⟩).P (.ref w) [w,d,p] G (upd (upd (upd (upd H d (.own w)) w (.ins C d [])) p (.dK [])) w (.ins C d [("running", .ref p),("joined", .int 0),("last", .non)])):=
  ⟨rfl,rfl,[],.non,⟨aV,(by show upd _ w _ d=_; rw[aM hdw,aM (Ne.symm pd),aM hdw,aV]),(by show upd _ w _ p=_; rw[aM pw,aV])⟩,⟨.nil,.non⟩⟩
 have fr:∀ b∈[w,d,p],H b=none:=fun b hb=>by
  simp only[List.mem_cons,List.not_mem_nil,or_false] at hb;rcases hb with rfl|rfl|rfl
  ·exact hw
  ·exact hd
  ·exact hp0
 refine k _ _ _ _ _ (hm w d p) (Same.refl _) r2 ⟨[w,d,p],hP,fun b hb=>⟨r.fr.fresh (fr b hb),r.fr.gfresh (fr b hb)⟩⟩ (Apart.newB r (fun fp h b hb=>?_) (Same.refl _) fun b o _ g e=>⟨g,g3 b o e⟩);rw[Bx.uniq _ h hP] at hb;exact fr b hb
def mO (C:Addr):Sp:=fun vs H Q _=>∃(w d p:Addr) (fs:List (Str×V)) (kvs:List (Key×V)) (ns:List Int),vs=[.ref w]∧H w=some (.ins C d fs)∧fs.lookup ("running" : Str)=some (V.ref p)∧H p=some (.dK kvs)∧kvs.map (·.1)=ns.map Sum.inl∧ns.length<64 ∧
 ∀(ns':List Int) q,ns'.Perm ns→ns'.Pairwise (·≤·)→H q=none→Q (.ref q) (upd H q (.lst (ns'.map V.int)))
def vY (C:Addr)(i:Nat):MO:=fun Γ Q=>∃ w s sl,Γ[i]?=some sl∧InF C w s sl∧s.kds.length<64∧Q (.own ((p6 (s.kds.map (·.1))).map PyData.int)) Γ
theorem a87 {E:XK}:VO P0 (a1Z C "runners" (mO C) [] E (jZ i) rB) (vY C i):=by
 intro F Γ σ G H Q Qm r hm k;obtain⟨w,s,sl,e,h,h64,m⟩:=hm;obtain⟨kvs,vl,ew,a,b⟩:=r.fd e h;refine⟨.ref w,ew,w,s.d,_,rfl,a.i,rfl,w,s.d,s.p,_,kvs,s.kds.map (·.1),rfl,a.i,rfl,a.k,b.k.keys,by rw[List.length_map]; exact h64,fun ns' l hpm hup hl2=>?_⟩;obtain⟨a,b,c⟩:=m7 r hl2 (uX ns');rw[uI hpm hup] at m;exact k _ _ _ _ _ m (Same.refl _) a b c
end
end
section
variable {P0:Addr→Hp→Prop}{A:Nat→Bool}
end
section
section
variable {i j:Nat}{Γ Γ1:En}{Q:D→En→Prop}{Qf:Fl→Prop}{Qo:Rv→En→Prop}{m ma mj:ME}{kds:List (Int×D)}{d:D}{n:Int}{C w:Addr}{s:FS}{sl:Sl}{mo:MO}
def dgK (i:Nat)(Q:D→En→Prop)(x:D)(Γ1:En):Prop:=∃ kds k d,Γ1[i]?=some (.box (bDk kds))∧x=.int k∧qT kds k=some d∧Q d Γ1
theorem aKV (h0:Γ[i]?=some (.box (bDk kds)))(h:mj Γ (dgK i Q)):aED i mj Γ Q:=⟨⟨kds,h0⟩,h⟩
theorem aSG (h0:Γ1[i]?=some (.box (bDk kds)))(hd:qT kds n=some d)(h:Q d Γ1):dgK i Q (.int n) Γ1:=⟨kds,n,d,h0,rfl,hd,h⟩
def dpK (i:Nat)(d:D)(Q:Fl→Prop)(x:D)(Γ2:En):Prop:=∃ kds k,Γ2[i]?=some (.box (bDk kds))∧x=.int k∧kds.length<1000∧Q (.nx (Γ2.set i (.box (bDk (qR kds k d)))))
def dpJ (i:Nat)(mj:ME)(Q:Fl→Prop)(d:D)(Γ1:En):Prop:=(∃ kds,Γ1[i]?=some (.box (bDk kds)))∧mj Γ1 (dpK i d Q)
theorem aKU (h:m Γ (dpJ i mj Qf)):aBC i m mj Γ Qf:=h
theorem aSC (h0:Γ1[i]?=some (.box (bDk kds)))(h:mj Γ1 (dpK i d Qf)):dpJ i mj Qf d Γ1:=⟨⟨kds,h0⟩,h⟩
theorem aPN (h0:Γ1[i]?=some (.box (bDk kds)))(hl:kds.length<1000)(h:Qf (.nx (Γ1.set i (.box (bDk (qR kds n d)))))):dpK i d Qf (.int n) Γ1:=⟨kds,n,h0,rfl,hl,h⟩
def dqK (i:Nat)(Q:D→En→Prop)(x:D)(Γ1:En):Prop:=∃ kds k d,Γ1[i]?=some (.box (bDk kds))∧x=.int k∧qT kds k=some d∧Q d (Γ1.set i (.box (bDk (lB kds k))))
theorem aML (h0:Γ[i]?=some (.box (bDk kds)))(h:mj Γ (dqK i Q)):aEJ i mj Γ Q:=⟨⟨kds,h0⟩,h⟩
theorem aT1 (h0:Γ1[i]?=some (.box (bDk kds)))(hd:qT kds n=some d)(h:Q d (Γ1.set i (.box (bDk (lB kds n))))):dqK i Q (.int n) Γ1:=⟨kds,n,d,h0,rfl,hd,h⟩
def dxK (y:D)(Q:D→En→Prop)(x:D)(Γ2:En):Prop:=∃ kds k d,y=.dict (dkD kds)∧x=.int k∧qT kds k=some d∧Q d Γ2
def dxJ (mj:ME)(Q:D→En→Prop)(y:D)(Γ1:En):Prop:=mj Γ1 (dxK y Q)
theorem aKA (h:ma Γ (dxJ mj Q)):pM ma mj Γ Q:=h
theorem aOW {y:D}(h:mj Γ1 (dxK y Q)):dxJ mj Q y Γ1:=h
theorem yM (hd:qT kds n=some d)(h:Q d Γ1):dxK (.dict (dkD kds)) Q (.int n) Γ1:=⟨kds,n,d,rfl,rfl,hd,h⟩
def sdK (Q:Rv→En→Prop)(y:D)(Γ1:En):Prop:=∃ kds:List (Int×D),y=.dict (dkD kds)∧kds.length<64∧Q (.own ((p6 (kds.map (·.1))).map PyData.int)) Γ1
theorem aIY (h:ma Γ (sdK Qo)):a5L ma Γ Qo:=h
theorem aP1 (hl:kds.length<64)(h:Qo (.own ((p6 (kds.map (·.1))).map PyData.int)) Γ1):sdK Qo (.dict (dkD kds)) Γ1:=⟨kds,rfl,hl,h⟩
theorem aDM (h0:Γ[i]?=some (.box ((bG C).box w s)))(h:Q (.int s.jn) Γ):a1G C i Γ Q:=⟨w,s,_,h0,.inl rfl,h⟩
theorem aJ7 (h0:Γ[i]?=some (.box ((bG C).box w s)))(h:Q s.la Γ):a4V C i Γ Q:=⟨w,s,_,h0,.inl rfl,h⟩
def fxK (C:Addr)(i:Nat)(w:Addr)(s:FS)(Q:D→En→Prop)(x:D)(Γ1:En):Prop:=(∃ sl,Γ1[i]?=some sl∧InF C w s sl)∧∃ k d,x=.int k∧qT s.kds k=some d∧Q d Γ1
theorem aO4 (h0:Γ[i]?=some (.box ((bG C).box w s)))(h:mj Γ (fxK C i w s Q)):aIX C i mj Γ Q:=⟨w,s,⟨_,h0,.inl rfl⟩,h⟩
theorem aSB (h0:Γ1[i]?=some (.box ((bG C).box w s)))(hd:qT s.kds n=some d)(h:Q d Γ1):fxK C i w s Q (.int n) Γ1:=⟨⟨_,h0,.inl rfl⟩,n,d,rfl,hd,h⟩
def fiK (C:Addr)(i:Nat)(Q:D→En→Prop)(x:D)(Γ1:En):Prop:=∃ w s sl k,Γ1[i]?=some sl∧InF C w s sl∧x=.int k∧Q (.bool (qT s.kds k).isSome) Γ1
theorem aNB (h:mj Γ (fiK C i Q)):aKO C i mj Γ Q:=h
theorem aR2 (h0:Γ1[i]?=some (.box ((bG C).box w s)))(h:Q (.bool (qT s.kds n).isSome) Γ1):fiK C i Q (.int n) Γ1:=⟨w,s,_,n,h0,.inl rfl,rfl,h⟩
theorem aMZ (h0:Γ[i]?=some (.box ((bG C).box w s)))(h:Q (.int (s.kds.length:Int)) Γ):aDV C i Γ Q:=⟨w,s,_,h0,.inl rfl,h⟩
def aU9 (C:Addr)(i:Nat)(Q:Fl→Prop)(d:D)(Γ1:En):Prop:=∃ w s,Γ1[i]?=some (.box ((bG C).box w s))∧Q (.nx (Γ1.set i (.box ((bG C).box w { s with la:=d }))))
theorem aE3 (h:m Γ (aU9 C i Qf)):a5Q C i m Γ Qf:=h
theorem aQ6 (h0:Γ1[i]?=some (.box ((bG C).box w s)))(h:Qf (.nx (Γ1.set i (.box ((bG C).box w { s with la:=d }))))):aU9 C i Qf d Γ1:=⟨w,s,h0,h⟩
theorem aGI (h0:Γ[i]?=some (.box ((bG C).box w s)))(h:Qf (.nx (Γ.set i (.box ((bG C).box w { s with jn:=s.jn+n }))))):a5C C i n Γ Qf:=⟨w,s,h0,h⟩
def fpK (C:Addr)(i:Nat)(d:D)(w:Addr)(s:FS)(Q:Fl→Prop)(x:D)(Γ2:En):Prop:=∃ k,Γ2[i]?=some (.box ((bG C).box w s))∧x=.int k∧s.kds.length<1000∧Q (.nx (Γ2.set i (.box ((bG C).box w { s with kds:=qR s.kds k d }))))
def fpJ (C:Addr)(i:Nat)(mj:ME)(Q:Fl→Prop)(d:D)(Γ1:En):Prop:=∃ w s,Γ1[i]?=some (.box ((bG C).box w s))∧mj Γ1 (fpK C i d w s Q)
theorem aMJ (h:m Γ (fpJ C i mj Qf)):aAT C i m mj Γ Qf:=h
theorem aRY (h0:Γ1[i]?=some (.box ((bG C).box w s)))(h:mj Γ1 (fpK C i d w s Qf)):fpJ C i mj Qf d Γ1:=⟨w,s,h0,h⟩
theorem aOP (h0:Γ1[i]?=some (.box ((bG C).box w s)))(hl:s.kds.length<1000)(h:Qf (.nx (Γ1.set i (.box ((bG C).box w { s with kds:=qR s.kds n d }))))):fpK C i d w s Qf (.int n) Γ1:=⟨n,h0,rfl,hl,h⟩
def fqK (C:Addr)(i:Nat)(w:Addr)(s:FS)(Q:D→En→Prop)(x:D)(Γ1:En):Prop:=∃ k d,Γ1[i]?=some (.box ((bG C).box w s))∧x=.int k∧qT s.kds k=some d∧Q d (Γ1.set i (.box ((bG C).box w { s with kds:=lB s.kds k })))
theorem aM5 (h0:Γ[i]?=some (.box ((bG C).box w s)))(h:mj Γ (fqK C i w s Q)):aEV C i mj Γ Q:=⟨w,s,h0,h⟩
theorem aRI (h0:Γ1[i]?=some (.box ((bG C).box w s)))(hd:qT s.kds n=some d)(h:Q d (Γ1.set i (.box ((bG C).box w { s with kds:=lB s.kds n })))):fqK C i w s Q (.int n) Γ1:=⟨n,d,h0,rfl,hd,h⟩
theorem aLW (h:∀ w d p,Qo (.box ((bG C).box w ⟨d,p,[],0,.none⟩)) Γ):aE5 C Γ Qo:=h
theorem a9S (h0:Γ[i]?=some sl)(hs:InF C w s sl)(hl:s.kds.length<64)(h:Qo (.own ((p6 (s.kds.map (·.1))).map PyData.int)) Γ):vY C i Γ Qo:=⟨w,s,sl,h0,hs,hl,h⟩
end
end
end L2.VS
namespace L2
open PySem PySem.Spec PyProof.Rows
end L2
namespace L2.VS
open PySem PySem.Spec PyProof.Rows
section
variable {P0:Addr→Hp→Prop}
end
section
variable {P0:Addr→Hp→Prop}{A:Nat→Bool}
theorem aBE {F:Fra P0}{Γ1:En}{σ:St}{G1 H1:Hp}{n:Nat}{f:Fm}{as:List Sl}{rs:List V}{Q:VK}{E:XK}{Qm:Rv→En→Prop}(r1:R F Γ1 σ G1 H1)(d1:Paired (qF F G1) rs as)(hl:as.length=n)(hf:f as fun rv=>Qm rv Γ1)
  (k:∀ rv r G' H',Qm rv Γ1→Same G1 G'→R F Γ1 σ G' H'→RvO F G' H' r rv→Apart F Γ1 σ G' H' r rv→Q r H'):spM P0 n f (rs++[]) H1 Q E:=by
 refine⟨F.sub r1.fr,as,fun rv=>Qm rv Γ1,rfl,F.subRf r1.fr,?_,hl,hf,fun rv v G2 H2 q f2 v2=>?_⟩
 ·rw[List.append_nil];exact Paired.imp' (fun a s h=>by cases s<;>exact h) d1
 ·obtain⟨r2,s2⟩:=r1.after f2;refine k _ _ _ _ q s2 r2 ?_ ?_
  ·cases rv with
   | val d=>exact v2
   | own ds=>
    obtain⟨p,vs,e,e1,e2,e3,e4⟩:=v2;exact⟨p,vs,e,r1.fr.fresh e1,e2,e3,e4⟩
   | box B=>
    obtain⟨fp,e1,e2⟩:=v2;exact⟨fp,e1,fun b hb=>⟨r1.fr.fresh (e2 b hb).1,(e2 b hb).2⟩⟩
  ·have kp:∀ b o,F.H0 b=none→G1 b=none→H1 b=some o→G2 b=none∧H2 b=some o:=fun b o h1 h2 h3=>⟨(f2.g0 b _ h3).trans h2,f2.h0 b _ h3 (F.pen_ne h1)⟩
   cases rv with
   | val d=>trivial
   | own ds=>
    obtain⟨p,vs,rfl,e1,e2,e3,e4⟩:=v2;exact Apart.new r1 e1 s2 kp
   | box B=>
    obtain⟨fp,e1,e2⟩:=v2;exact Apart.newB r1 (fun f hf b hb=>by rw[B.uniq hf e1] at hb; exact(e2 b hb).1) s2 kp
def aQF (C:Addr)(m:Str)(B:Pb):Prop:=∀{v:V} {G:Hp},B.P v G→∃ a dx fs,v=.ref a∧G a=some (.ins C dx fs)∧fs.lookup m=none
def uK (C:Addr)(m:Str)(n:Nat)(f:Fm)(i:Nat)(ma:MA):MO:=fun Γ Q=>∃ B,Γ[i]?=some (.pub B)∧aQF C m B∧ma Γ fun as Γ1=>as.length+1=n∧f (.pub B::as) fun rv=>Q rv Γ1
theorem nH {C:Addr}{m:Str}{n i:Nat}{f:Fm}{t:TA}{ma:MA}{E:XK}(h:VA P0 t ma):VO P0 (a1Z C m (spM P0 n f) [] E (jZ i) t) (uK C m n f i ma):=by
 intro F Γ σ G H Q Qm r hm k;obtain⟨B,e,hB,hm⟩:=hm;obtain⟨v,ev,pv⟩:=r.sl i _ e;obtain⟨a,dx,fs,rfl,ha,hl⟩:=hB pv;refine⟨.ref a,ev,a,dx,fs,rfl,r.fr.sub _ _ ha,hl,h F Γ σ G H _ _ r hm fun as Γ1 rs G1 H1 m1 g1 r1 d1=>?_⟩;exact aBE (E:=E) (rs:=.ref a::rs) (as:=.pub B::as) r1 (.cons (show qF F G1 (.ref a) (.pub B) from B.mono g1 pv) d1) m1.1 m1.2 fun rv r' G' H' q g'=>k rv Γ1 r' G' H' q (g1.trans g')
structure RS where
 d:Addr
 ld:Addr
 f:Addr
 lg:Addr
 lc:Addr
 fs:FS
 ds:List D
 now:D
 gn:List D
 cm:List D
def aLK (s:RS)(vn:V):List (Str×V):=[("deeds", .ref s.ld),("field", .ref s.f),("now", vn),("gone", .ref s.lg),("come", .ref s.lc)]
structure RV where
 ud:List V
 ug:List V
 uc:List V
 vn:V
 kvs:List (Key×V)
 vl:V
structure RcAt (C CF w:Addr)(s:RS)(u:RV)(H:Hp):Prop where
 i:H w=some (.ins C s.d (aLK s u.vn))
 d:H s.d=some (.own w)
 l:H s.ld=some (.lst u.ud)
 g:H s.lg=some (.lst u.ug)
 c:H s.lc=some (.lst u.uc)
 f:FdAt CF s.f s.fs u.kvs u.vl H
structure RcDt (s:RS)(u:RV)(G:Hp):Prop where
 l:Dts G u.ud s.ds
 n:Dt G u.vn s.now
 g:Dts G u.ug s.gn
 c:Dts G u.uc s.cm
 f:FdDt s.fs u.kvs u.vl G
def pN (w:Addr)(s:RS):List Addr:=[w,s.d,s.ld,s.lg,s.lc,s.f,s.fs.d,s.fs.p]
theorem RcAt.at {C CF w:Addr}{s:RS}{u:RV}{H H':Hp}(h:RcAt C CF w s u H)(k:∀ b∈pN w s,H' b=H b):RcAt C CF w s u H':=
 ⟨(k w (by simp[pN])).trans h.i,(k s.d (by simp[pN])).trans h.d,(k s.ld (by simp[pN])).trans h.l,(k s.lg (by simp[pN])).trans h.g,(k s.lc (by simp[pN])).trans h.c,h.f.at fun b hb=>k b (by simp only[List.mem_cons,List.not_mem_nil,or_false] at hb; rcases hb with rfl|rfl|rfl<;>simp[pN])⟩
theorem RcAt.same {C CF w:Addr}{s:RS}{u:RV}{H H':Hp}(h:RcAt C CF w s u H)(g:Same H H'):RcAt C CF w s u H':=⟨g _ _ h.i,g _ _ h.d,g _ _ h.l,g _ _ h.g,g _ _ h.c,h.f.same g⟩
theorem RcDt.same {s:RS}{u:RV}{G G':Hp}(h:RcDt s u G)(g:Same G G'):RcDt s u G':=⟨Dts.same g _ _ h.l,Dt.same g _ _ h.n,Dts.same g _ _ h.g,Dts.same g _ _ h.c,h.f.same g⟩
theorem RcAt.dom {C CF w:Addr}{s:RS}{u:RV}{H:Hp}(h:RcAt C CF w s u H):∀ y∈pN w s,∃ o,H y=some o∧∀ xs,o≠.tup xs:=fun y hy=>by
 simp only[pN,List.mem_cons,List.not_mem_nil,or_false] at hy;rcases hy with rfl|rfl|rfl|rfl|rfl|rfl|rfl|rfl
 ·exact⟨_,h.i,fun _ z=>nomatch z⟩
 ·exact⟨_,h.d,fun _ z=>nomatch z⟩
 ·exact⟨_,h.l,fun _ z=>nomatch z⟩
 ·exact⟨_,h.g,fun _ z=>nomatch z⟩
 ·exact⟨_,h.c,fun _ z=>nomatch z⟩
 ·exact⟨_,h.f.i,fun _ z=>nomatch z⟩
 ·exact⟨_,h.f.d,fun _ z=>nomatch z⟩
 ·exact⟨_,h.f.k,fun _ z=>nomatch z⟩
def mJ (C CF w:Addr)(s:RS):Pb where
 P:=fun v G=>v=.ref w∧∃ u,RcAt C CF w s u G∧RcDt s u G
 mono:=fun g ⟨a,u,b,c⟩=>⟨a,u,b.same g,c.same g⟩
def cJ (C CF:Addr):Fam RS where
  box:=fun w s=>
    { P:=fun v fp G H=>v=.ref w∧fp=pN w s∧w≠s.f∧∃ u,RcAt C CF w s u H∧RcDt s u G
      mono:=fun g ⟨a,b,n,u,c,e⟩=>⟨a,b,n,u,c,e.same g⟩
      loc:=fun k ⟨a,b,n,u,c,e⟩=>⟨a,b,n,u,c.at (fun y hy=>k y (by rw[b]; exact hy)),e⟩
      dom:=fun⟨a,b,n,u,c,e⟩ y hy=>by
        rw[b] at hy;obtain⟨o,ho,_⟩:=c.dom y hy;exact⟨o,ho⟩
      uniq:=fun h g=>h.2.1.trans g.2.1.symm
      nt:=fun⟨a,b,n,u,c,e⟩ y hy xs q=>by
        rw[b] at hy;obtain⟨o,ho,hn⟩:=c.dom y hy;rw[ho] at q;exact absurd (Option.some.inj q) (hn xs)
      view:=none
      vok:=fun _ z=>nomatch z
      pv:=some (mJ C CF w s)
      pok:=fun⟨a,b,n,u,c,e⟩ y g k=>by
        cases y
        exact⟨a,u,c.at (fun y hy=>k y (by rw[b]; exact hy)),e.same g⟩ }
  pin:=fun h=>h.1
def InR (C CF w:Addr)(s:RS)(sl:Sl):Prop:=sl=.box ((cJ C CF).box w s)∨sl=.pub (mJ C CF w s)
section
variable {C CF:Addr}{i:Nat}{K:Fg}
theorem R.rc {F:Fra P0}{Γ:En}{σ:St}{G H:Hp}{w:Addr}{s:RS}{sl:Sl}(r:R F Γ σ G H)(e:Γ[i]?=some sl)(h:InR C CF w s sl):∃ u,σ[i]?=some (some (.ref w))∧RcAt C CF w s u H∧RcDt s u G:=by
 rcases h with rfl|rfl
 ·obtain⟨v,fp,e1,⟨rfl,_,_,u,b,c⟩,_⟩:=r.sl i _ e;exact⟨u,e1,b,c⟩
 ·obtain⟨v,e1,rfl,u,b,c⟩:=r.sl i _ e;exact⟨u,e1,b.same r.fr.sub,c⟩
theorem aIQ {C CF w:Addr}{s:RS}{m:Str}(hm:∀ s vn,(aLK s vn).lookup m=none):aQF C m (mJ C CF w s):=fun h=>by
 obtain⟨rfl,u,a,_⟩:=h;exact⟨w,s.d,_,rfl,a.i,hm s u.vn⟩
def tG (C CF:Addr)(i:Nat):ME:=fun Γ Q=>∃ w s sl,Γ[i]?=some sl∧InR C CF w s sl∧Q s.now Γ
theorem rZ (cl:Cls K C)(na:NoAttr K C "now"):VT P0 (a1N K (jZ i) "now") (tG C CF i):=by
 intro F Γ σ G H Q Qm r hm k;obtain⟨w,s,sl,e,h,q⟩:=hm;obtain⟨u,ew,a,b⟩:=r.rc e h;exact⟨.ref w,ew,w,C,s.d,_,u.vn,rfl,a.i,cl,na,rfl,k _ _ _ _ _ q (Same.refl _) r b.n⟩
def a5M (C CF:Addr)(i:Nat):ME:=fun Γ Q=>∃ w s,Γ[i]?=some (.pub (mJ C CF w s))∧Q (.list s.ds) Γ
theorem aCN (cl:Cls K C)(na:NoAttr K C "deeds"):VT P0 (a1N K (jZ i) "deeds") (a5M C CF i):=by
 intro F Γ σ G H Q Qm r hm k;obtain⟨w,s,e,q⟩:=hm;obtain⟨v,e1,rfl,u,b,c⟩:=r.sl i _ e;exact⟨.ref w,e1,w,C,s.d,_,.ref s.ld,rfl,r.fr.sub _ _ b.i,cl,na,rfl,k _ _ _ _ _ q (Same.refl _) r (.lst b.l c.l)⟩
def a9C (C CF:Addr)(i:Nat):ME:=fun Γ Q=>∃ w s,Γ[i]?=some (.pub (mJ C CF w s))∧Q (.list s.gn) Γ
theorem aFS (cl:Cls K C)(na:NoAttr K C "gone"):VT P0 (a1N K (jZ i) "gone") (a9C C CF i):=by
 intro F Γ σ G H Q Qm r hm k;obtain⟨w,s,e,q⟩:=hm;obtain⟨v,e1,rfl,u,b,c⟩:=r.sl i _ e;exact⟨.ref w,e1,w,C,s.d,_,.ref s.lg,rfl,r.fr.sub _ _ b.i,cl,na,rfl,k _ _ _ _ _ q (Same.refl _) r (.lst b.g c.g)⟩
def a9O (C CF:Addr)(i:Nat):ME:=fun Γ Q=>∃ w s,Γ[i]?=some (.pub (mJ C CF w s))∧Q (.list s.cm) Γ
theorem aFT (cl:Cls K C)(na:NoAttr K C "come"):VT P0 (a1N K (jZ i) "come") (a9O C CF i):=by
 intro F Γ σ G H Q Qm r hm k;obtain⟨w,s,e,q⟩:=hm;obtain⟨v,e1,rfl,u,b,c⟩:=r.sl i _ e;exact⟨.ref w,e1,w,C,s.d,_,.ref s.lc,rfl,r.fr.sub _ _ b.i,cl,na,rfl,k _ _ _ _ _ q (Same.refl _) r (.lst b.c c.c)⟩
def aBH (C CF:Addr)(i:Nat):ME:=fun Γ Q=>∃ w s,Γ[i]?=some (.pub (mJ C CF w s))∧Q (.dict (dkD s.fs.kds)) Γ
theorem aAI (cl:Cls K C)(na:NoAttr K C "field")(clF:Cls K CF)(naF:NoAttr K CF "running"):VT P0 (a1N K (a1N K (jZ i) "field") "running") (aBH C CF i):=by
 intro F Γ σ G H Q Qm r hm k;obtain⟨w,s,e,q⟩:=hm;obtain⟨v,e1,rfl,u,b,c⟩:=r.sl i _ e;exact⟨.ref w,e1,w,C,s.d,_,.ref s.f,rfl,r.fr.sub _ _ b.i,cl,na,rfl,s.f,CF,s.fs.d,_,.ref s.fs.p,rfl,r.fr.sub _ _ b.f.i,clF,naF,rfl,k _ _ _ _ _ q (Same.refl _) r (.dic b.f.k c.f.k.dtk)⟩
def rR (C CF:Addr)(i:Nat):MO:=fun Γ Q=>∃ w s sl,Γ[i]?=some sl∧InR C CF w s sl∧s.fs.kds.length<64∧Q (.own ((p6 (s.fs.kds.map (·.1))).map PyData.int)) Γ
theorem xQ {E:XK}(cl:Cls K C)(na:NoAttr K C "field"):VO P0 (a1Z CF "runners" (mO CF) [] E (a1N K (jZ i) "field") rB) (rR C CF i):=by
 intro F Γ σ G H Q Qm r hm k;obtain⟨w,s,sl,e,h,h64,m⟩:=hm;obtain⟨u,ew,a,b⟩:=r.rc e h;refine⟨.ref w,ew,w,C,s.d,_,.ref s.f,rfl,a.i,cl,na,rfl,s.f,s.fs.d,_,rfl,a.f.i,rfl,s.f,s.fs.d,s.fs.p,_,u.kvs,s.fs.kds.map (·.1),rfl,a.f.i,rfl,a.f.k,b.f.k.keys,by rw[List.length_map]; exact h64,fun ns' l hpm hup hl2=>?_⟩;obtain⟨a,b,c⟩:=m7 r hl2 (uX ns');rw[uI hpm hup] at m;exact k _ _ _ _ _ m (Same.refl _) a b c
def aH2 (C CF:Addr)(f:Fm)(i:Nat):MO:=fun Γ Q=>∃ w s,Γ[i]?=some (.pub (mJ C CF w s))∧f [.pub (a1K CF s.f s.fs)] fun rv=>Q rv Γ
theorem aIM {m:Str}{f:Fm}{E:XK}(cl:Cls K C)(na:NoAttr K C "field")(hm:∀ s vl,(aQ4 s vl).lookup m=none):VO P0 (a1Z CF m (spM P0 1 f) [] E (a1N K (jZ i) "field") rB) (aH2 C CF f i):=by
 intro F Γ σ G H Q Qm r hq k;obtain⟨w,s,e,hf⟩:=hq;obtain⟨v,e1,rfl,u,b,c⟩:=r.sl i _ e;refine⟨.ref w,e1,w,C,s.d,_,.ref s.f,rfl,r.fr.sub _ _ b.i,cl,na,rfl,s.f,s.fs.d,_,rfl,r.fr.sub _ _ b.f.i,hm s.fs u.vl,?_⟩;exact aBE (E:=E) (rs:=[.ref s.f]) (as:=[.pub (a1K CF s.f s.fs)]) r (.cons (show qF F G (.ref s.f) (.pub (a1K CF s.f s.fs)) from⟨rfl,u.kvs,u.vl,b.f,c.f⟩) .nil) rfl hf fun rv r' G' H' q g'=>k rv Γ r' G' H' q g'
def zE (C CF:Addr)(i:Nat)(m:ME):MS:=fun Γ Q=>m Γ fun d Γ1=>∃ w s,Γ1[i]?=some (.box ((cJ C CF).box w s))∧Q (.nx (Γ1.set i (.box ((cJ C CF).box w { s with now:=d }))))
theorem a2Y {t:TE}{m:ME}(cl:Cls K C)(na:NoAttr K C "now")(h:VT P0 t m):VSA P0 A (aJY K (jZ i) t "now") (zE C CF i m):=by
 intro F Γ σ G H E Qm r hm k;refine h F Γ σ G H _ _ r hm fun d Γ1 y G1 H1 m1 g1 r1 d1=>?_;obtain⟨w,s,e,q⟩:=m1;obtain⟨v,fp,ev,⟨rfl,rfl,hn,u,a,b⟩,nf⟩:=r1.sl i _ e;refine⟨.ref w,ev,w,C,s.d,_,rfl,a.i,cl,na,(by show 5<1000; decide),?_⟩;have hw:=nf w (by simp[pN]);refine k _ q σ G1 _ g1 (r1.writeF e (r1.fr.priv hw.1 hw.2) fun fp h=>?_) fun _ _=>rfl;obtain⟨u2,eu2,⟨rfl,rfl,_⟩,nf2⟩:=h;have ed:s.d≠w:=gD a.d a.i (by intro z; cases z);have el:s.ld≠w:=gD a.l a.i (by intro z; cases z);have eg:s.lg≠w:=gD a.g a.i (by intro z; cases z);have ec:s.lc≠w:=gD a.c a.i (by intro z; cases z);have efd:s.fs.d≠w:=gD a.f.d a.i (by intro z; cases z);have efp:s.fs.p≠w:=gD a.f.k a.i (by intro z; cases z);refine⟨pN w s,⟨.ref w,ev,⟨rfl,rfl,hn,{ u with vn:=y },⟨?_,?_,?_,?_,?_,⟨?_,?_,?_⟩⟩,⟨b.l,d1,b.g,b.c,b.f⟩⟩,nf2⟩,fun b hb _=>?_⟩
 ·rw[aV]; rfl
 ·show upd H1 w _ s.d=_;rw[aM ed]; exact a.d
 ·show upd H1 w _ s.ld=_;rw[aM el]; exact a.l
 ·show upd H1 w _ s.lg=_;rw[aM eg]; exact a.g
 ·show upd H1 w _ s.lc=_;rw[aM ec]; exact a.c
 ·show upd H1 w _ s.f=_;rw[aM (Ne.symm hn)]; exact a.f.i
 ·show upd H1 w _ s.fs.d=_;rw[aM efd]; exact a.f.d
 ·show upd H1 w _ s.fs.p=_;rw[aM efp]; exact a.f.k
 ·exact⟨aM fun y=>hb (by rw[y]; simp[pN]),hb⟩
theorem PartOf.field {w f:Addr}{s:RS}(hf:s.f=f):PartOf (bG CF) f (fun fs=>(cJ C CF).box w { s with fs:=fs }):=fun{fs v fp G H} h=>by
 subst hf;obtain⟨rfl,rfl,hn,u,a,b⟩:=h;have a_i:H w=some (.ins C s.d (aLK s u.vn)):=a.i;have e1:w∉[s.f,fs.d,fs.p]:=fun z=>by
  simp only[List.mem_cons,List.not_mem_nil,or_false] at z;rcases z with z|z|z
  ·exact hn z
  ·exact gD a.i a.f.d (by intro z; cases z) z
  ·exact gD a.i a.f.k (by intro z; cases z) z
 have e2:s.d∉[s.f,fs.d,fs.p]:=fun z=>by
  simp only[List.mem_cons,List.not_mem_nil,or_false] at z;rcases z with z|z|z
  ·exact gD a.d a.f.i (by intro z; cases z) z
  ·exact gD a.d a.f.d (by intro z; cases z; exact hn rfl) z
  ·exact gD a.d a.f.k (by intro z; cases z) z
 have e3:s.ld∉[s.f,fs.d,fs.p]:=fun z=>by
  simp only[List.mem_cons,List.not_mem_nil,or_false] at z;rcases z with z|z|z
  ·exact gD a.l a.f.i (by intro z; cases z) z
  ·exact gD a.l a.f.d (by intro z; cases z) z
  ·exact gD a.l a.f.k (by intro z; cases z) z
 have e4:s.lg∉[s.f,fs.d,fs.p]:=fun z=>by
  simp only[List.mem_cons,List.not_mem_nil,or_false] at z;rcases z with z|z|z
  ·exact gD a.g a.f.i (by intro z; cases z) z
  ·exact gD a.g a.f.d (by intro z; cases z) z
  ·exact gD a.g a.f.k (by intro z; cases z) z
 have e5:s.lc∉[s.f,fs.d,fs.p]:=fun z=>by
  simp only[List.mem_cons,List.not_mem_nil,or_false] at z;rcases z with z|z|z
  ·exact gD a.c a.f.i (by intro z; cases z) z
  ·exact gD a.c a.f.d (by intro z; cases z) z
  ·exact gD a.c a.f.k (by intro z; cases z) z
 refine⟨[s.f,fs.d,fs.p],fun b hb=>?_,⟨rfl,rfl,u.kvs,u.vl,a.f,b.f⟩,fun fs' f' G' H' g h' k=>?_⟩
 ·simp only[List.mem_cons,List.not_mem_nil,or_false] at hb;rcases hb with rfl|rfl|rfl<;>simp[pN]
 ·obtain⟨_,rfl,kvs',vl',c',d'⟩:=h';refine⟨pN w { s with fs:=fs' },⟨rfl,rfl,hn,{ u with kvs:=kvs',vl:=vl' },⟨(k w (by simp[pN]) e1).1.trans a.i,(k s.d (by simp[pN]) e2).1.trans a.d,(k s.ld (by simp[pN]) e3).1.trans a.l,(k s.lg (by simp[pN]) e4).1.trans a.g,(k s.lc (by simp[pN]) e5).1.trans a.c,c'⟩,⟨Dts.same g _ _ b.l,Dt.same g _ _ b.n,Dts.same g _ _ b.g,Dts.same g _ _ b.c,d'⟩⟩,fun y hy=>?_⟩;simp only[pN,List.mem_cons,List.not_mem_nil,or_false] at hy;rcases hy with rfl|rfl|rfl|rfl|rfl|rfl|rfl|rfl
  ·exact .inr ⟨by simp[pN],e1⟩
  ·exact .inr ⟨by simp[pN],e2⟩
  ·exact .inr ⟨by simp[pN],e3⟩
  ·exact .inr ⟨by simp[pN],e4⟩
  ·exact .inr ⟨by simp[pN],e5⟩
  ·exact .inl (by simp)
  ·exact .inl (by simp)
  ·exact .inl (by simp)
def aLR (C CF:Addr)(n:Nat)(f:Lm FS)(i:Nat)(ma:MA):MO:=fun Γ Q=>∃ w s,Γ[i]?=some (.box ((cJ C CF).box w s))∧ma Γ fun as Γ1=>Γ1[i]?=some (.box ((cJ C CF).box w s))∧as.length+1=n∧f s.f s.fs as fun rv fs'=>Q rv (Γ1.set i (.box ((cJ C CF).box w { s with fs:=fs' })))
theorem aM1 {m:Str}{n:Nat}{f:Lm FS}{t:TA}{ma:MA}{E:XK}(cl:Cls K C)(na:NoAttr K C "field")(hm:∀ s vl,(aQ4 s vl).lookup m=none)(h:VA P0 t ma):VO P0 (a1Z CF m (spL P0 (bG CF) n f) [] E (a1N K (jZ i) "field") t) (aLR C CF n f i ma):=by
 intro F Γ σ G H Q Qm r hq k;obtain⟨w,s,e,hq⟩:=hq;obtain⟨u,ev,a,b⟩:=r.rc e (.inl rfl);refine⟨.ref w,ev,w,C,s.d,_,.ref s.f,rfl,a.i,cl,na,rfl,s.f,s.fs.d,_,rfl,a.f.i,hm s.fs u.vl,h F Γ σ G H _ _ r hq fun as Γ1 rs G1 H1 m1 g1 r1 d1=>?_⟩;obtain⟨e1,hn,hf⟩:=m1;exact kJ (Qm:=Qm) (B:=fun fs=>(cJ C CF).box w { s with fs:=fs }) (s1:=s.fs) (PartOf.field rfl) r1 e1 d1 hn hf fun rv Γ' r' G' H' q g'=>k rv Γ' r' G' H' q (g1.trans g')
end
end
section
variable {P0:Addr→Hp→Prop}{A:Nat→Bool}
section
variable {F:Fra P0}{Γ:En}{σ:St}{G H:Hp}
theorem R.push (r:R F Γ σ G H){B:Bx}{v:V}(h:RvO F G H v (.box B))(ha:Apart F Γ σ G H v (.box B)):R F (Γ++[.box B]) (σ++[some v]) G H:=by
 obtain⟨fps,h1,h2⟩:=r.fps;obtain⟨fp,hP,hn⟩:=h;have hl:=r.len;have old:∀{i:Nat} {s:Sl},(Γ++[Sl.box B])[i]?=some s→i≠Γ.length→Γ[i]?=some s∧(σ++[some v])[i]?=σ[i]?:=fun{i s} e hi=>by
  have hlt:i<Γ.length:=by
   have:=(List.getElem?_eq_some_iff.mp e).1;rw[List.length_append,List.length_singleton] at this;omega
  rw[List.getElem?_append_left hlt] at e;exact⟨e,List.getElem?_append_left (by omega)⟩
 have new:∀{i:Nat} {s:Sl},(Γ++[Sl.box B])[i]?=some s→i=Γ.length→s=.box B:=fun{i s} e hi=>by
  subst hi;rw[List.getElem?_append_right (Nat.le_refl _),Nat.sub_self] at e
  cases e
  rfl
 refine⟨r.fr,by rw[List.length_append,List.length_append,hl]; rfl,fun i=>if i=Γ.length then fp else fps i,fun i s e=>?_,fun i j s t ei ej hij b hb hc=>?_⟩
 ·dsimp only
  by_cases hi:i=Γ.length
  ·rw[if_pos hi,new e hi];refine⟨v,?_,hP,hn⟩;rw[hi,hl,List.getElem?_append_right (Nat.le_refl _),Nat.sub_self];rfl
  ·rw[if_neg hi,(old e hi).2];exact h1 i s (old e hi).1
 ·dsimp only at hb hc
  by_cases hi:i=Γ.length
  ·rw[if_pos hi] at hb;have hj:j≠Γ.length:=fun z=>hij (hi.trans z.symm);rw[if_neg hj] at hc;exact ha j t (fps j) fp (old ej hj).1 (h1 j t (old ej hj).1) hP b hb hc
  ·rw[if_neg hi] at hb
   by_cases hj:j=Γ.length
   ·rw[if_pos hj] at hc;exact ha i s (fps i) fp (old ei hi).1 (h1 i s (old ei hi).1) hP b hc hb
   ·rw[if_neg hj] at hc;exact h2 i j s t (old ei hi).1 (old ej hj).1 hij b hb hc
theorem zU {α:Type}{Γ:List α}{x:α}{i:Nat}{s:α}(e:Γ[i]?=some s):(Γ++[x])[i]?=some s:=by
 rw[List.getElem?_append_left (List.getElem?_eq_some_iff.mp e).1]; exact e
theorem R.pop {x:Sl}{y:Option V}(hl:Γ.length=σ.length)(r:R F (Γ++[x]) (σ++[y]) G H):R F Γ σ G H:=by
 obtain⟨fps,h1,h2⟩:=r.fps;refine⟨r.fr,hl,fps,fun i s e=>?_,fun i j s t ei ej hij=>h2 i j s t (zU ei) (zU ej) hij⟩;have:=h1 i s (zU e);rwa[List.getElem?_append_left (by have:=(List.getElem?_eq_some_iff.mp e).1; omega)] at this
theorem Apart.pop {x:Sl}{y:Option V}{v:V}{rv:Rv}(hl:Γ.length=σ.length)(a:Apart F (Γ++[x]) (σ++[y]) G H v rv):Apart F Γ σ G H v rv:=by
 have s1:∀{i:Nat} {s:Sl},Γ[i]?=some s→(σ++[y])[i]?=σ[i]?:=fun{i s} e=>List.getElem?_append_left (by have:=(List.getElem?_eq_some_iff.mp e).1; omega)
 cases rv with
 | val d=>trivial
 | own ds=>exact fun i s fp e h=>a i s fp (zU e) (by rw[s1 e]; exact h)
 | box B=>exact fun i s fp f e h=>a i s fp f (zU e) (by rw[s1 e]; exact h)
theorem R.absorb (r:R F Γ σ G H){i:Nat}{B B':Bx}{p:Addr}{H':Hp}(e:Γ[i]?=some (.box B))(hp:F.H0 p=none)(hg:G p=none)(ap:∀(j:Nat) s fp,Γ[j]?=some s→SlF F G H σ[j]? fp s→p∉fp)(fr:Rf F G H')
  (h:∀ v fp,B.P v fp G H→(∀ b∈fp,F.H0 b=none∧G b=none)→∃ fp',B'.P v fp' G H'∧(∀ b∈fp',b∈fp∨b=p)∧∀ b,b∉fp→b≠p→H' b=H b):R F (Γ.set i (.box B')) σ G H':=by
 obtain⟨fps,h1,h2⟩:=r.fps;obtain⟨v,ev,hP,hn⟩:=id (h1 i _ e);obtain⟨fp',hP',hin,hout⟩:=h v (fps i) hP hn;have hi:i<Γ.length:=(List.getElem?_eq_some_iff.mp e).1;have back:∀{m z},m≠i→(Γ.set i (.box B'))[m]?=some z→Γ[m]?=some z:=fun{m z} hm e=>by rw[List.getElem?_set_ne (Ne.symm hm)] at e; exact e
 have off:∀{j:Nat} {s:Sl},j≠i→Γ[j]?=some s→∀ b∈fps j,b∉fp':=fun{j s} hj ej b hb hc=>by
  rcases hin b hc with z|z
  ·exact h2 j i s _ ej e hj b hb z
  ·rw[z] at hb; exact ap j s (fps j) ej (h1 j s ej) hb
 refine⟨fr,by rw[List.length_set]; exact r.len,fun j=>if j=i then fp' else fps j,fun j s ej=>?_,fun j k s t ej ek hjk b hb hc=>?_⟩
 ·dsimp only
  by_cases hj:j=i
  ·subst hj;rw[if_pos rfl];rw[List.getElem?_set_self hi] at ej
   cases ej
   refine⟨v,ev,hP',fun b hb=>?_⟩;rcases hin b hb with z|z
   ·exact hn b z
   ·rw[z]; exact⟨hp,hg⟩
  ·rw[if_neg hj];have ej:=back hj ej;refine(h1 j s ej).go (Same.refl _) fun x hx=>⟨((h1 j s ej).mine hx).2.1,hout x (fun z=>h2 j i s _ ej e hj x hx z) (fun z=>by rw[z] at hx; exact ap j s (fps j) ej (h1 j s ej) hx)⟩
 ·dsimp only at hb hc
  by_cases hj:j=i
  ·rw[if_pos hj] at hb;have hk:k≠i:=fun z=>hjk (hj.trans z.symm);rw[if_neg hk] at hc;exact off hk (back hk ek) b hc hb
  ·rw[if_neg hj] at hb
   by_cases hk:k=i
   ·rw[if_pos hk] at hc;exact off hj (back hj ej) b hb hc
   ·rw[if_neg hk] at hc;exact h2 j k s t (back hj ej) (back hk ek) hjk b hb hc
end
def aEX {S:Type}(W:Fam S)(f:Lm S)(mo:MO)(j:Nat):MO:=fun Γ Q=>mo Γ fun rv Γ1=>∃ p s d,rv=.box (W.box p s)∧Γ1[j]?=some (.val d)∧f p s [.val d] fun rv' _=>Q rv' Γ1
theorem aIJ {S:Type}{C:Addr}{W:Fam S}{m:Str}{f:Lm S}{t:TE}{mo:MO}{j:Nat}{E:XK}(hW:∀{p s v fp G H},(W.box p s).P v fp G H→∃ dx fs,H p=some (.ins C dx fs)∧fs.lookup m=none)(ho:VO P0 t mo):VO P0 (a1Z C m (spL P0 W 2 f) [] E t (dD (jZ j) rB)) (aEX W f mo j):=by
 intro F Γ σ G H Q Qm r hm k;refine ho F Γ σ G H _ _ r hm fun rv Γ1 v G1 H1 m1 g1 r1 d1 a1=>?_;obtain⟨p,s,d,rfl,ej,hf⟩:=m1;have r2:=r1.push d1 a1;obtain⟨fp,hP,hn⟩:=d1;have z:=W.pin hP;subst z;obtain⟨dx,fs,hp,hl⟩:=hW hP;obtain⟨vj,evj,dj⟩:=r1.sl j _ ej;refine⟨p,dx,fs,rfl,hp,hl,vj,evj,?_⟩;have e2:(Γ1++[Sl.box (W.box p s)])[Γ1.length]?=some (.box (W.box p s)):=by
  rw[List.getElem?_append_right (Nat.le_refl _),Nat.sub_self];rfl
 refine kJ (E:=E) (as:=[.val d]) (rs:=[vj]) (Qm:=fun rv Γ'=>∃ s',Γ'=Γ1++[.box (W.box p s')]∧Qm rv Γ1) PartOf.self r2 e2 (.cons dj .nil) rfl ?_ fun rv Γ' r' G' H' q g' R' o' a'=>?_
 ·have st:∀ s',(Γ1++[Sl.box (W.box p s)]).set Γ1.length (.box (W.box p s'))=Γ1++[.box (W.box p s')]:=fun s'=>by
   rw[List.set_append_right _ _ (Nat.le_refl _),Nat.sub_self];rfl
  have e3:(fun(rv:Rv) (s':S)=>∃ s'',(Γ1++[Sl.box (W.box p s)]).set Γ1.length (.box (W.box p s'))=Γ1++[.box (W.box p s'')]∧Qm rv Γ1)=fun rv _=>Qm rv Γ1:=by
   funext rv s'
   exact propext ⟨fun⟨_,_,h⟩=>h,fun h=>⟨s',st s',h⟩⟩
  rw[e3];exact hf
 ·obtain⟨s',rfl,q⟩:=q;exact k rv Γ1 r' G' H' q (g1.trans g') (R'.pop r1.len) o' (a'.pop r1.len)
section
variable {C CF:Addr}{i:Nat}{K:Fg}
def xX (C CF:Addr)(set:RS→Addr→List D→RS)(i:Nat)(mo:MO):MS:=fun Γ Q=>mo Γ fun rv Γ1=>∃ ds w s,rv=.own ds∧Γ1[i]?=some (.box ((cJ C CF).box w s))∧∀ p,Q (.nx (Γ1.set i (.box ((cJ C CF).box w (set s p ds)))))
def aMU (s:RS)(p:Addr)(ds:List D):RS:={ s with ld:=p,ds:=ds }
def aKQ (s:RS)(p:Addr)(ds:List D):RS:={ s with lg:=p,gn:=ds }
def aM4 (s:RS)(p:Addr)(ds:List D):RS:={ s with lc:=p,cm:=ds }
theorem a4P {x:Str}{set:RS→Addr→List D→RS}{t:TE}{mo:MO}(cl:Cls K C)(na:NoAttr K C x)(ho:VO P0 t mo)
  (hx:∀ s vn p ds,xJ x (.ref p) (aLK s vn)=aLK (set s p ds) vn) (hn:∀ s p ds,(set s p ds).f=s.f∧(set s p ds).d=s.d∧(set s p ds).fs=s.fs∧(set s p ds).now=s.now)
  (hs:∀(w:Addr) (s:RS) (u:RV) (p:Addr) (vs:List V) (ds:List D) (H:Hp) (G:Hp),RcAt C CF w s u H→RcDt s u G→w≠s.f→H p=some (.lst vs)→Dts G vs ds→∃ u':RV,u'.vn=u.vn∧u'.kvs=u.kvs∧u'.vl=u.vl∧H (set s p ds).ld=some (.lst u'.ud)∧H (set s p ds).lg=some (.lst u'.ug)∧H (set s p ds).lc=some (.lst u'.uc)∧Dts G u'.ud (set s p ds).ds∧Dts G u'.ug (set s p ds).gn∧Dts G u'.uc (set s p ds).cm∧∀ b∈pN w (set s p ds),b∈pN w s∨b=p) :
  VSA P0 A (aJY K (jZ i) t x) (xX C CF set i mo):=by
 intro F Γ σ G H E Qm r hm k;refine ho F Γ σ G H _ _ r hm fun rv Γ1 y G1 H1 m1 g1 r1 d1 a1=>?_;obtain⟨ds,w,s,rfl,e,q⟩:=m1;obtain⟨p,vs,rfl,hp0,hg0,hpv,dv⟩:=d1;obtain⟨v,fp,ev,⟨rfl,rfl,hwf,u,a,b⟩,nf⟩:=r1.sl i _ e;refine⟨.ref w,ev,w,C,s.d,_,rfl,a.i,cl,na,(by show 5<1000; decide),?_⟩;have hw:=nf w (by simp[pN]);refine k _ (q p) σ G1 _ g1 (r1.absorb (p:=p) e hp0 hg0 (fun j s fp ej hj=>a1 j s fp ej hj p rfl) (r1.fr.priv hw.1 hw.2) fun v fp hP hnf=>?_) fun _ _=>rfl;obtain⟨rfl,rfl,_⟩:=hP;obtain⟨u',h1,h2,h3,h4,h5,h6,h7,h8,h9,h10⟩:=hs w s u p vs ds H1 G1 a b hwf hpv dv;obtain⟨n1,n2,n3,n4⟩:=hn s p ds;have ins:∀ b o,H1 b=some o→(∀ C dx fs,o≠.ins C dx fs)→b≠w:=fun b o hb ho z=>by rw[z,a.i] at hb; exact ho _ _ _ (Option.some.inj hb).symm
 refine⟨pN w (set s p ds),⟨rfl,rfl,by rw[n1]; exact hwf,u',⟨?_,?_,?_,?_,?_,?_⟩,⟨h7,by rw[h1,n4]; exact b.n,h8,h9,by rw[n3,h2,h3]; exact b.f⟩⟩,h10,fun c hc _=>aM fun z=>hc (by rw[z]; simp[pN])⟩
 ·rw[aV,hx s u.vn p ds,n2,h1]
 ·rw[n2,aM (ins _ _ a.d (fun _ _ _ z=>nomatch z))]; exact a.d
 ·rw[aM (ins _ _ h4 (fun _ _ _ z=>nomatch z))]; exact h4
 ·rw[aM (ins _ _ h5 (fun _ _ _ z=>nomatch z))]; exact h5
 ·rw[aM (ins _ _ h6 (fun _ _ _ z=>nomatch z))]; exact h6
 ·rw[n1,n3,h2,h3];refine⟨?_,?_,?_⟩
  ·rw[aM (Ne.symm hwf)]; exact a.f.i
  ·rw[aM (ins _ _ a.f.d (fun _ _ _ z=>nomatch z))]; exact a.f.d
  ·rw[aM (ins _ _ a.f.k (fun _ _ _ z=>nomatch z))]; exact a.f.k
theorem aJQ {t:TE}{mo:MO}(cl:Cls K C)(na:NoAttr K C "deeds")(ho:VO P0 t mo):VSA P0 A (aJY K (jZ i) t "deeds") (xX C CF aMU i mo):=
 a4P cl na ho (fun _ _ _ _=>rfl) (fun _ _ _=>⟨rfl,rfl,rfl,rfl⟩) fun w s u p vs ds H G a b _ hp dv=>⟨{ u with ud:=vs },rfl,rfl,rfl,hp,a.g,a.c,dv,b.g,b.c,fun c hc=>by
  simp only[pN,aMU,List.mem_cons,List.not_mem_nil,or_false] at hc ⊢;grind⟩
theorem aHS {t:TE}{mo:MO}(cl:Cls K C)(na:NoAttr K C "gone")(ho:VO P0 t mo):VSA P0 A (aJY K (jZ i) t "gone") (xX C CF aKQ i mo):=
 a4P cl na ho (fun _ _ _ _=>rfl) (fun _ _ _=>⟨rfl,rfl,rfl,rfl⟩) fun w s u p vs ds H G a b _ hp dv=>⟨{ u with ug:=vs },rfl,rfl,rfl,a.l,hp,a.c,b.l,dv,b.c,fun c hc=>by
  simp only[pN,aKQ,List.mem_cons,List.not_mem_nil,or_false] at hc ⊢;grind⟩
theorem aIB {t:TE}{mo:MO}(cl:Cls K C)(na:NoAttr K C "come")(ho:VO P0 t mo):VSA P0 A (aJY K (jZ i) t "come") (xX C CF aM4 i mo):=
 a4P cl na ho (fun _ _ _ _=>rfl) (fun _ _ _=>⟨rfl,rfl,rfl,rfl⟩) fun w s u p vs ds H G a b _ hp dv=>⟨{ u with uc:=vs },rfl,rfl,rfl,a.l,a.g,hp,b.l,b.g,dv,fun c hc=>by
  simp only[pN,aM4,List.mem_cons,List.not_mem_nil,or_false] at hc ⊢;grind⟩
end
end
section
variable {P0:Addr→Hp→Prop}
def rs0 (d ld f lg lc fd fp:Addr):RS:=⟨d,ld,f,lg,lc,⟨fd,fp,[],0,.none⟩,[],.none,[],[]⟩
def ru0:RV:=⟨[],[],[],.non,[],.non⟩
def a4U (C CF:Addr):Sp:=fun vs H Q _=>∃(w d:Addr),vs=[.ref w]∧H w=some (.ins C d [])∧H d=some (.own w)∧∀ ld f lg lc fd fp H',(∀ b o,H b=some o→b≠w→H' b=some o)→RcAt C CF w (rs0 d ld f lg lc fd fp) ru0 H'→w≠f→(∀ b∈[ld,lg,lc,f,fd,fp],H b=none)→Q .non H'
def aBW (C CF:Addr):MO:=fun Γ Q=>∀ w d ld f lg lc fd fp,Q (.box ((cJ C CF).box w (rs0 d ld f lg lc fd fp))) Γ
theorem aBO {C CF:Addr}{E:XK}:VO P0 (aFI C (a4U C CF) [] E rB) (aBW C CF):=by
 intro F Γ σ G H Q Qm r hm k w d hw hd hdw;refine⟨w,d,rfl,aV,by rw[aM hdw,aV],fun ld f lg lc fd fp H' old at_ nf fr=>⟨rfl,?_⟩⟩;have g3:∀ b o,H b=some o→H' b=some o:=fun b o e=>old b o (by rw[aM (b7 e hw),aM (b7 e hd)]; exact e) (b7 e hw);have frs:∀ b∈pN w (rs0 d ld f lg lc fd fp),H b=none:=fun b hb=>by
  have z:∀ b∈[ld,lg,lc,f,fd,fp],H b=none:=fun b hb=>by
   have y:=fr b hb
   by_cases h1:b=w
   ·rw[h1,aV] at y; cases y
   ·by_cases h2:b=d
    ·rw[h2,aM hdw,aV] at y; cases y
    ·rw[aM h1,aM h2] at y; exact y
  simp only[pN,rs0,List.mem_cons,List.not_mem_nil,or_false] at hb;rcases hb with rfl|rfl|rfl|rfl|rfl|rfl|rfl|rfl
  ·exact hw
  ·exact hd
  ·exact z _ (by simp)
  ·exact z _ (by simp)
  ·exact z _ (by simp)
  ·exact z _ (by simp)
  ·exact z _ (by simp)
  ·exact z _ (by simp)
 have rf:Rf F G H':=by
  refine⟨fun b o e=>g3 b o (r.fr.sub b o e),r.fr.g0,fun b o e hb=>g3 b o (r.fr.h0 b o e hb),F.stab' H H' (fun b o e=>?_) r.fr.pn⟩;obtain⟨o',e'⟩:=r.fr.dom e;rw[e',g3 b o' e']
 have r2:R F Γ σ G H':=r.keep rf (Same.refl _) fun q u _ _ g h=>⟨g,g3 q u h⟩;have hP:((cJ C CF).box w (rs0 d ld f lg lc fd fp)).P (.ref w) (pN w (rs0 d ld f lg lc fd fp)) G H':=⟨rfl,rfl,nf,ru0,at_,⟨.nil,.non,.nil,.nil,⟨.nil,.non⟩⟩⟩;refine k _ _ _ _ _ (hm w d ld f lg lc fd fp) (Same.refl _) r2 ⟨_,hP,fun b hb=>⟨r.fr.fresh (frs b hb),r.fr.gfresh (frs b hb)⟩⟩ (Apart.newB r (fun fp h b hb=>?_) (Same.refl _) fun b o _ g e=>⟨g,g3 b o e⟩);rw[Bx.uniq _ h hP] at hb;exact frs b hb
theorem aBF {C CF:Addr}{m:Str}(hm:∀ s vn,(aLK s vn).lookup m=none){p:Addr}{s:RS}{v:V}{fp:List Addr}{G H:Hp}(h:((cJ C CF).box p s).P v fp G H):∃ dx fs,H p=some (.ins C dx fs)∧fs.lookup m=none:=by
 obtain⟨_,_,_,u,a,_⟩:=h;exact⟨_,_,a.i,hm s u.vn⟩
section
variable {i j:Nat}{Γ Γ1:En}{Q:D→En→Prop}{Qf:Fl→Prop}{Qo:Rv→En→Prop}{m:ME}{ma:MA}{mo:MO}{C CF w:Addr}{s:RS}{sl:Sl}{f:Fm}
theorem aHM (h:∀ w d ld f lg lc fd fp,Qo (.box ((cJ C CF).box w (rs0 d ld f lg lc fd fp))) Γ):aBW C CF Γ Qo:=h
theorem aDS (h0:Γ[i]?=some (.pub (mJ C CF w s)))(h:Q (.list s.ds) Γ):a5M C CF i Γ Q:=⟨w,s,h0,h⟩
theorem aHU (h0:Γ[i]?=some (.pub (mJ C CF w s)))(h:Q (.list s.gn) Γ):a9C C CF i Γ Q:=⟨w,s,h0,h⟩
theorem aIK (h0:Γ[i]?=some (.pub (mJ C CF w s)))(h:Q (.list s.cm) Γ):a9O C CF i Γ Q:=⟨w,s,h0,h⟩
theorem aL4 (h0:Γ[i]?=some (.pub (mJ C CF w s)))(h:Q (.dict (dkD s.fs.kds)) Γ):aBH C CF i Γ Q:=⟨w,s,h0,h⟩
theorem a0B (h0:Γ[i]?=some sl)(hs:InR C CF w s sl)(hl:s.fs.kds.length<64)(h:Qo (.own ((p6 (s.fs.kds.map (·.1))).map PyData.int)) Γ):rR C CF i Γ Qo:=⟨w,s,sl,h0,hs,hl,h⟩
theorem aM7 (h0:Γ[i]?=some (.pub (mJ C CF w s)))(h:f [.pub (a1K CF s.f s.fs)] fun rv=>Qo rv Γ):aH2 C CF f i Γ Qo:=⟨w,s,h0,h⟩
def rnK (C CF:Addr)(i:Nat)(Q:Fl→Prop)(d:D)(Γ1:En):Prop:=∃ w s,Γ1[i]?=some (.box ((cJ C CF).box w s))∧Q (.nx (Γ1.set i (.box ((cJ C CF).box w { s with now:=d }))))
theorem aEI (h:m Γ (rnK C CF i Qf)):zE C CF i m Γ Qf:=h
theorem aTB {d:D}(h0:Γ1[i]?=some (.box ((cJ C CF).box w s)))(h:Qf (.nx (Γ1.set i (.box ((cJ C CF).box w { s with now:=d }))))):rnK C CF i Qf d Γ1:=⟨w,s,h0,h⟩
def rlK (C CF:Addr)(set:RS→Addr→List D→RS)(i:Nat)(Q:Fl→Prop)(rv:Rv)(Γ1:En):Prop:=∃ ds w s,rv=.own ds∧Γ1[i]?=some (.box ((cJ C CF).box w s))∧∀ p,Q (.nx (Γ1.set i (.box ((cJ C CF).box w (set s p ds)))))
theorem aLF {set:RS→Addr→List D→RS}(h:mo Γ (rlK C CF set i Qf)):xX C CF set i mo Γ Qf:=h
theorem aR6 {set:RS→Addr→List D→RS}{ds:List D}(h0:Γ1[i]?=some (.box ((cJ C CF).box w s)))(h:∀ p,Qf (.nx (Γ1.set i (.box ((cJ C CF).box w (set s p ds)))))):rlK C CF set i Qf (.own ds) Γ1:=⟨ds,w,s,rfl,h0,h⟩
theorem aPY {n:Nat}{g:Lm FS}(h0:Γ[i]?=some (.box ((cJ C CF).box w s)))(h:ma Γ fun as Γ1=>Γ1[i]?=some (.box ((cJ C CF).box w s))∧as.length+1=n∧g s.f s.fs as fun rv fs'=>Qo rv (Γ1.set i (.box ((cJ C CF).box w { s with fs:=fs' })))):aLR C CF n g i ma Γ Qo:=⟨w,s,h0,h⟩
def mtK {S:Type}(W:Fam S)(f:Lm S)(j:Nat)(Q:Rv→En→Prop)(rv:Rv)(Γ1:En):Prop:=∃ p s d,rv=.box (W.box p s)∧Γ1[j]?=some (.val d)∧f p s [.val d] fun rv' _=>Q rv' Γ1
theorem aKS {S:Type}{W:Fam S}{g:Lm S}(h:mo Γ (mtK W g j Qo)):aEX W g mo j Γ Qo:=h
theorem aS5 {S:Type}{W:Fam S}{g:Lm S}{p:Addr}{x:S}{d:D}(hj:Γ1[j]?=some (.val d))(h:g p x [.val d] fun rv' _=>Qo rv' Γ1):mtK W g j Qo (.box (W.box p x)) Γ1:=⟨p,x,d,rfl,hj,h⟩
end
end
end L2.VS
namespace L2
open PySem PySem.Spec PyProof.Rows
def aF5:List V→Hp→VK→Prop:=fun xs H Q=>∃(p:Addr) (kvs:List (Key×V)),xs=[.ref p]∧H p=some (.dK kvs)∧∀ q,H q=none→Q (.ref q) (upd H q (.dK kvs))
theorem aA6 {X:Cx}:wI X (.type "dict") aF5:=by
 intro pins s σ H xs us Q I r h;obtain⟨p,kvs,rfl,hp,q⟩:=h;obtain⟨u,rfl,rx⟩:=vals1 r
 cases rx
 exact aHR I (.inl hp) fun p s' hp I'=>⟨.ref p,_,I',rfl,q p hp⟩
end L2
namespace L2.VS
open PySem PySem.Spec PyProof.Rows
section
variable {P0:Addr→Hp→Prop}
def aUI (t1 t2:TE):TE:=fun σ H Q=>t1 σ H Q∨t2 σ H Q
theorem aBK {X:Cx}{e:Expr}{t1 t2:TE}(h1:PE X e t1)(h2:PE X e t2):PE X e (aUI t1 t2):=fun pins s σ H Q I h=>h.elim (h1 pins s σ H Q I) (h2 pins s σ H Q I)
def aN7 (m1 m2:ME):ME:=fun Γ Q=>m1 Γ Q∨m2 Γ Q
theorem aAZ {t1 t2:TE}{m1 m2:ME}(h1:VT P0 t1 m1)(h2:VT P0 t2 m2):VT P0 (aUI t1 t2) (aN7 m1 m2):=fun F Γ σ G H Q Qm r hm k=>hm.elim (fun h=>.inl (h1 F Γ σ G H Q Qm r h k)) fun h=>.inr (h2 F Γ σ G H Q Qm r h k)
def a8V (ma:ME):MO:=fun Γ Q=>ma Γ fun y Γ1=>∃ kds,y=.dict (dkD kds)∧Q (.box (bDk kds)) Γ1
theorem aGF {ta:TE}{ma:ME}(ha:VT P0 ta ma):VO P0 (tCB aF5 (dD ta rB)) (a8V ma):=by
 intro F Γ σ G H Q Qm r hm k;refine ha F Γ σ G H _ _ r hm fun y Γ1 v G1 H1 m1 g1 r1 d1=>?_;obtain⟨kds,rfl,m1⟩:=m1
 cases d1 with
 | @dic p kvs _ hp rs=>
  refine⟨p,kvs,rfl,r1.fr.sub _ _ hp,fun l hl=>?_⟩;have hP:(bDk kds).P (.ref l) [l] G1 (upd H1 l (.dK kvs)):=⟨l,kvs,rfl,rfl,aV,Dtk.rel rs⟩;refine k _ _ _ _ _ m1 g1 (r1.newP hl) ⟨[l],hP,fun b hb=>?_⟩ (Apart.newB r1 (fun fp h b hb=>?_) (Same.refl _) fun b o _ g e=>⟨g,by rw[aM (b7 e hl)]; exact e⟩)
  ·rw[List.mem_singleton.mp hb]; exact⟨r1.fr.fresh hl,r1.fr.gfresh hl⟩
  ·rw[(bDk kds).uniq h hP] at hb;rw[List.mem_singleton.mp hb]; exact hl
def dcK (Q:Rv→En→Prop)(y:D)(Γ1:En):Prop:=∃ kds,y=.dict (dkD kds)∧Q (.box (bDk kds)) Γ1
theorem aI1 {ma:ME}{Γ:En}{Q:Rv→En→Prop}(h:ma Γ (dcK Q)):a8V ma Γ Q:=h
theorem aSZ {kds:List (Int×D)}{Q:Rv→En→Prop}{Γ1:En}(h:Q (.box (bDk kds)) Γ1):dcK Q (.dict (dkD kds)) Γ1:=⟨kds,rfl,h⟩
end
section
variable {P0:Addr→Hp→Prop}{K:Fg}
end
section
variable {P0:Addr→Hp→Prop}{S:Type}
section
variable {F:Fra P0}{H H':Hp}{fp:List Addr}{l:Addr}
end
section
variable {C NK:Addr}{pl:List D→D→Nat→Prop}
theorem vB {K:Fg}{W:Fam S}{n i:Nat}{m:Str}{f:Lm S}{tj:TE}{t:TA}{mj:ME}{ma:MA}{E:XK}(hW:∀{p s v fp G H},(W.box p s).P v fp G H→∃ dx fs,H p=some (.ins C dx fs)∧fs.lookup m=none)(hj:VT P0 tj mj)(h:VA P0 t ma) :
  VO P0 (a1Z C m (spL P0 W n f) [] E (tOp (rIx K) (jZ i) tj) t) (jF W n f i mj ma):=by
 intro F Γ σ G H Q Qm r hm k;obtain⟨L,w0,w1,⟨s0,s1,e⟩,hm⟩:=hm;obtain⟨v,_,ev,⟨f0,f1,rfl,_⟩,_⟩:=r.sl i _ e;refine⟨.ref L,ev,hj F Γ σ G H _ _ r hm fun d Γ0 x G0 H0 m0 g0 r0 d0=>?_⟩;obtain⟨⟨t0,t1,e0⟩,hd,m0⟩:=m0;obtain⟨v,_,ev',⟨f0',f1',rfl,_,hL,p0,p1,_⟩,_⟩:=r0.sl i _ e0;rcases hd with rfl|rfl
 ·cases d0
  obtain⟨dx,fs,hp,hl0⟩:=hW p0;refine .inl ⟨L,_,0,.ref w0,rfl,rfl,SqL.of hL,rfl,w0,dx,fs,rfl,hp,hl0,h F Γ0 σ G0 H0 _ _ r0 m0 fun as Γ1 rs G1 H1 m1 g1 r1 d1=>?_⟩;obtain⟨u0,u1,e1,hl,a0,a1⟩:=m1;exact kJ (Qm:=Qm) PartOf.fst r1 e1 d1 hl (a0 rfl) fun rv Γ' r' G' H' q g'=>k rv Γ' r' G' H' q ((g0.trans g1).trans g')
 ·cases d0
  obtain⟨dx,fs,hp,hl0⟩:=hW p1;refine .inl ⟨L,_,1,.ref w1,rfl,rfl,SqL.of hL,rfl,w1,dx,fs,rfl,hp,hl0,h F Γ0 σ G0 H0 _ _ r0 m0 fun as Γ1 rs G1 H1 m1 g1 r1 d1=>?_⟩;obtain⟨u0,u1,e1,hl,a0,a1⟩:=m1;exact kJ (Qm:=Qm) PartOf.snd r1 e1 d1 hl (a1 rfl) fun rv Γ' r' G' H' q g'=>k rv Γ' r' G' H' q ((g0.trans g1).trans g')
end
end
section
variable {P0:Addr→Hp→Prop}{A:Nat→Bool}
section
variable {G G' H H':Hp}{vs vs':List V}{fs fs':List (List Addr)}{Bs Bs':List Bx}
end
def aB5 (m:MO):MO:=fun Γ Q=>m (a0O Γ) fun rv Γ1=>(∃ B,rv=.box B∧B.Cut)∧Γ1=a0O Γ∧Q rv Γ
theorem aAV {t:TE}{m:MO}(h:VO P0 t m):VO P0 t (aB5 m):=by
 intro F Γ σ G H Q Qm r hm k;obtain⟨s0,r0⟩:=r.pubAll;refine h F _ σ _ H _ _ r0 hm fun rv Γ1 x G1 H1 m1 s1 r1 d1 a1=>?_;obtain⟨⟨B,rfl,hc⟩,rfl,q⟩:=m1;obtain⟨s2,r2,t2⟩:=r.back s1 r1;obtain⟨fp,e1,e2⟩:=d1;have hP:=hc t2 e1;refine k _ _ _ _ _ q s2 r2 ⟨fp,hP,fun b hb=>⟨(e2 b hb).1,?_⟩⟩ fun i s fq f ei hf hg b hb hq=>?_
 ·unfold qG
  split
  ·rfl
  ·exact(e2 b hb).2
 ·rw[B.uniq hg hP] at hb;obtain⟨fps,f1,f2⟩:=r.fps;have h0:=f1 i s ei;have own:=(r.backG s1 r1.fr).1;have h3:SlF F (qG F Γ σ G H G1) H1 σ[i]? (fps i) s:=h0.go s2 fun b hb=>by
   have ho:OwnA F Γ σ G H b:=⟨i,s,fps i,ei,h0,hb⟩;exact⟨zO ho,(own b ho).2⟩
  rw[hf.det h3] at hq;have ho:OwnA F Γ σ G H b:=⟨i,s,fps i,ei,h0,hq⟩;obtain⟨_,_,o,e'⟩:=ho.at;have:=(own b ho).1;rw[(e2 b hb).2,e'] at this; cases this
end
section
variable {P0:Addr→Hp→Prop}{A:Nat→Bool}{S:Type}
def Fra.hold (F:Fra P0){G H:Hp}(rf:Rf F G H)(fp:List Addr)(hF:∀ b∈fp,F.H0 b=none):Fra P0 where
 H0:=fun b=>if b∈fp then H b else F.H0 b
 G0:=fun b=>if b∈fp then none else F.G0 b
 pen:=F.pen
 stab:=fun p e H1 H2 h=>F.stab p e H1 H2 fun b o z=>h b o (by rw[if_neg (fun hb=>by rw[hF b hb] at z; cases z)]; exact z)
 pin:=F.pin
 pin0:=fun p e=>by
  obtain⟨o,z⟩:=F.pin0 p e;exact⟨o,by rw[if_neg (fun hb=>by rw[hF p hb] at z; cases z)]; exact z⟩
 pg:=fun p e=>by
  split
  ·rfl
  ·exact F.pg p e
section
variable {F:Fra P0}{Γ:En}{σ:St}{G H:Hp}{fp:List Addr}
theorem SlF.frame {F F':Fra P0}{G H:Hp}{x:Option (Option V)}{fp:List Addr}(hp:F'.pen=F.pen)(k:∀ b∈fp,F.H0 b=none→F'.H0 b=none):∀{s:Sl},SlF F G H x fp s→SlF F' G H x fp s
 | .no,h=>h
 | .val _,h=>h
 | .own _,h=>by
  obtain⟨p,vs,e,e1,e2,r⟩:=h;exact⟨p,vs,e,e1,k p (by rw[e]; exact List.mem_singleton.mpr rfl) e2,r⟩
 | .pen,h=>by
  obtain⟨e,p,e1,e2⟩:=h;exact⟨e,p,e1,hp.trans e2⟩
 | .con _,h=>h
 | .pub _,h=>h
 | .box B,h=>by
  obtain⟨v,h1,h2,h3⟩:=h;exact⟨v,h1,h2,fun b hb=>⟨k b hb (h3 b hb).1,(h3 b hb).2⟩⟩
theorem R.hold (r:R F Γ σ G H)(hF:∀ b∈fp,F.H0 b=none∧G b=none)(ap:∀(i:Nat) s f,Γ[i]?=some s→SlF F G H σ[i]? f s→∀ b∈fp,b∉f):R (F.hold r.fr fp fun b hb=>(hF b hb).1) Γ σ G H:=by
 obtain⟨fps,h1,h2⟩:=r.fps;refine⟨⟨r.fr.sub,fun b o z=>?_,fun b o z hb=>?_,r.fr.pn⟩,r.len,fps,fun i s e=>SlF.frame (F:=F) (F':=F.hold r.fr fp fun b hb=>(hF b hb).1) rfl (fun b hb z=>?_) (h1 i s e),h2⟩
 ·have z:(if b∈fp then H b else F.H0 b)=some o:=z;show G b=if b∈fp then none else F.G0 b
  split at z
  ·rename_i h; rw[if_pos h]; exact(hF b h).2
  ·rename_i h; rw[if_neg h]; exact r.fr.g0 b o z
 ·have z:(if b∈fp then H b else F.H0 b)=some o:=z
  split at z
  ·exact z
  ·exact r.fr.h0 b o z hb
 ·show(if b∈fp then H b else F.H0 b)=none
  rw[if_neg (fun h=>ap i s _ e (h1 i s e) b h hb)];exact z
theorem R.unhold {rf:Rf F G H}{hF:∀ b∈fp,F.H0 b=none}{Γ':En}{σ':St}{G' H':Hp}(hH:∀ b∈fp,∃ o,H b=some o)(r:R (F.hold rf fp hF) Γ' σ' G' H') :
  R F Γ' σ' G' H'∧(∀ b∈fp,H' b=H b∧G' b=none)∧∀(i:Nat) s f,Γ'[i]?=some s→SlF F G' H' σ'[i]? f s→∀ b∈fp,b∉f:=by
 obtain⟨fps,h1,h2⟩:=r.fps;have in_:∀ b∈fp,∃ o,(F.hold rf fp hF).H0 b=some o∧H b=some o:=fun b hb=>by
  obtain⟨o,ho⟩:=hH b hb;exact⟨o,by show(if b∈fp then H b else F.H0 b)=_; rw[if_pos hb]; exact ho,ho⟩
 have out:∀ b o,F.H0 b=some o→b∉fp∧(F.hold rf fp hF).H0 b=some o:=fun b o z=>by
  have hb:b∉fp:=fun h=>by rw[hF b h] at z; cases z
  exact⟨hb,by show(if b∈fp then H b else F.H0 b)=_; rw[if_neg hb]; exact z⟩
 have nF:∀ b,(F.hold rf fp hF).H0 b=none→F.H0 b=none:=fun b z=>by
  cases y:F.H0 b with
  | none=>rfl
  | some o=>rw[(out b o y).2] at z; cases z
 have sl:∀(i:Nat) s,Γ'[i]?=some s→SlF F G' H' σ'[i]? (fps i) s:=fun i s e=>SlF.frame (F:=F.hold rf fp hF) (F':=F) rfl (fun b _ z=>nF b z) (h1 i s e);refine⟨⟨⟨r.fr.sub,fun b o z=>?_,fun b o z hb=>r.fr.h0 b o (out b o z).2 hb,r.fr.pn⟩,r.len,fps,sl,h2⟩,fun b hb=>?_,fun i s f e hf b hb hc=>?_⟩
 ·have y:=r.fr.g0 b o (out b o z).2;rw[y]
  show(if b∈fp then none else F.G0 b)=_
  rw[if_neg (out b o z).1]
 ·obtain⟨o,ho,hH'⟩:=in_ b hb;refine⟨?_,?_⟩
  ·rw[hH'];refine r.fr.h0 b o ho fun z=>?_;obtain⟨o',z'⟩:=F.pin0 b z;rw[hF b hb] at z'; cases z'
  ·rw[r.fr.g0 b o ho]
   show(if b∈fp then none else F.G0 b)=none
   rw[if_pos hb]
 ·rw[SlF.det hf (sl i s e)] at hc;obtain⟨z,_⟩:=(h1 i s e).mine hc;obtain⟨o,ho,_⟩:=in_ b hb;rw[ho] at z; cases z
end
def aLT (W:Fam S)(m1 m2:MO):MO:=fun Γ Q=>m1 Γ fun rv Γ1=>∃ w0 s0,rv=.box (W.box w0 s0)∧m2 Γ1 fun rv' Γ2=>∃ w1 s1,rv'=.box (W.box w1 s1)∧∀ L,Q (.box (bW2 W L w0 w1 s0 s1)) Γ2
theorem aKK {W:Fam S}{t1 t2:TE}{m1 m2:MO}(h1:VO P0 t1 m1)(h2:VO P0 t2 m2):VO P0 (aSH (dD t1 (dD t2 rB))) (aLT W m1 m2):=by
 intro F Γ σ G H Q Qm r hm k;refine h1 F Γ σ G H _ _ r hm fun rv Γ1 v1 G1 H1 n1 s1 r1 d1 a1=>?_;obtain⟨w0,c0,rfl,n1⟩:=n1;obtain⟨f0,p0,e0⟩:=d1;have z:=W.pin p0;subst z;have ap0:∀(i:Nat) s f,Γ1[i]?=some s→SlF F G1 H1 σ[i]? f s→∀ b∈f0,b∉f:=fun i s f e hs b hb=>a1 i s f f0 e hs p0 b hb;refine h2 _ Γ1 σ G1 H1 _ _ (r1.hold e0 ap0) n1 fun rv' Γ2 v2 G2 H2 n2 s2 r2 d2 a2=>?_;obtain⟨w1,c1,rfl,q⟩:=n2;obtain⟨f1,p1,e1⟩:=d2;have z:=W.pin p1;subst z;obtain⟨r3,st,ap3⟩:=R.unhold (Bx.dom _ p0) r2;have p0':(W.box w0 c0).P (.ref w0) f0 G2 H2:=Bx.loc _ (fun b hb=>(st b hb).1) (Bx.mono _ s2 p0);have new1:∀ b∈f1,F.H0 b=none∧G2 b=none∧b∉f0:=fun b hb=>by
  have z:(if b∈f0 then H1 b else F.H0 b)=none:=(e1 b hb).1;have hn:b∉f0:=fun h=>by
   rw[if_pos h] at z;obtain⟨o,ho⟩:=Bx.dom _ p0 b h;rw[ho] at z; cases z
  rw[if_neg hn] at z;exact⟨z,(e1 b hb).2,hn⟩
 refine⟨u9 rfl,fun L hL=>?_⟩;have g:=jO hL (.lst [.ref w0,.ref w1]);have nL:∀ b,(∃ o,H2 b=some o)→b≠L:=fun b ⟨o,ho⟩ z=>by rw[z,hL] at ho; cases ho
 have hP:(bW2 W L w0 w1 c0 c1).P (.ref L) (L::(f0++f1)) G2 (upd H2 L (.lst [.ref w0,.ref w1])):=
  ⟨f0,f1,rfl,rfl,aV,Bx.loc _ (fun b hb=>aM (nL b (Bx.dom _ p0' b hb))) p0',Bx.loc _ (fun b hb=>aM (nL b (Bx.dom _ p1 b hb))) p1,fun h=>nL L (Bx.dom _ p0' L h) rfl,fun h=>nL L (Bx.dom _ p1 L h) rfl,fun b hb hc=>(new1 b hc).2.2 hb⟩
 refine k _ _ _ _ _ (q L) (s1.trans s2) (r3.newP hL) ⟨_,hP,fun b hb=>?_⟩ fun m s fp f em hs hf b hb hc=>?_
 ·rcases List.mem_cons.mp hb with rfl|hb
  ·exact⟨r3.fr.fresh hL,r3.fr.gfresh hL⟩
  ·rcases List.mem_append.mp hb with hb|hb
   ·exact⟨(e0 b hb).1,(st b hb).2⟩
   ·exact⟨(new1 b hb).1,(new1 b hb).2.1⟩
 ·rw[Bx.uniq _ hf hP] at hb;have hs2:=r3.backF hL em hs;rcases List.mem_cons.mp hb with rfl|hb
  ·obtain⟨_,_,oo,m3⟩:=hs2.mine hc;rw[hL] at m3; cases m3
  ·rcases List.mem_append.mp hb with hb|hb
   ·exact ap3 m s fp em hs2 b hb hc
   ·have hs3:SlF (F.hold r1.fr f0 fun b hb=>(e0 b hb).1) G2 H2 σ[m]? fp s:=by
     obtain⟨fps,g1,_⟩:=r2.fps;obtain⟨fps3,g3,_⟩:=r3.fps;have y:=g1 m s em;have y3:SlF F G2 H2 σ[m]? (fps m) s:=SlF.frame (F:=F.hold r1.fr f0 fun b hb=>(e0 b hb).1) (F':=F) rfl (fun c _ z=>by
      have z:(if c∈f0 then H1 c else F.H0 c)=none:=z
      split at z
      ·rename_i h
       obtain⟨o,ho⟩:=Bx.dom _ p0 c h;rw[ho] at z; cases z
      ·exact z) y
     rw[SlF.det hs2 y3];exact y
    exact a2 m s fp f1 em hs3 p1 b hb hc
theorem aOY {W:Fam S}{m1 m2:MO}{Γ:En}{Q:Rv→En→Prop}(h:m1 Γ fun rv Γ1=>∃ w0 s0,rv=.box (W.box w0 s0)∧m2 Γ1 fun rv' Γ2=>∃ w1 s1,rv'=.box (W.box w1 s1)∧∀ L,Q (.box (bW2 W L w0 w1 s0 s1)) Γ2):aLT W m1 m2 Γ Q:=h
end
section
variable {P0:Addr→Hp→Prop}{A:Nat→Bool}
def aHP (xs ys:List D):Bx where
 P:=fun v fp G H=>∃ p q r us vs,v=.ref p∧fp=[p,q,r]∧p≠q∧p≠r∧q≠r∧H p=some (.tup [.ref q,.ref r])∧H q=some (.lst us)∧H r=some (.lst vs)∧Dts G us xs∧Dts G vs ys
 mono:=fun g z=>by
  obtain⟨p,q,r,us,vs,h1,h2,h3,h4,h5,h6,h7,h8,h9,h10⟩:=z;exact⟨p,q,r,us,vs,h1,h2,h3,h4,h5,h6,h7,h8,Dts.same g _ _ h9,Dts.same g _ _ h10⟩
 loc:=fun k z=>by
  obtain⟨p,q,r,us,vs,h1,h2,h3,h4,h5,h6,h7,h8,h9,h10⟩:=z;subst h2;exact⟨p,q,r,us,vs,h1,rfl,h3,h4,h5,(k p (by simp)).trans h6,(k q (by simp)).trans h7,(k r (by simp)).trans h8,h9,h10⟩
 dom:=fun z b hb=>by
  obtain⟨p,q,r,us,vs,h1,h2,h3,h4,h5,h6,h7,h8,h9,h10⟩:=z;subst h2;simp only[List.mem_cons,List.not_mem_nil,or_false] at hb;rcases hb with rfl|rfl|rfl
  ·exact⟨_,h6⟩
  ·exact⟨_,h7⟩
  ·exact⟨_,h8⟩
 uniq:=fun z y=>by
  obtain⟨p,q,r,us,vs,h1,h2,h3,h4,h5,h6,h7,h8,h9,h10⟩:=z;obtain⟨p',q',r',us',vs',g1,g2,g3,g4,g5,g6,g7,g8,g9,g10⟩:=y;rw[h1] at g1; cases g1;rw[h6] at g6; cases g6;rw[h2,g2]
 nt:=fun z b hb xs e=>by
  obtain⟨p,q,r,us,vs,h1,h2,h3,h4,h5,h6,h7,h8,h9,h10⟩:=z;subst h2;simp only[List.mem_cons,List.not_mem_nil,or_false] at hb;rcases hb with rfl|rfl|rfl
  ·rw[h6] at e; cases e;exact⟨q,by simp,by simp,us,h7⟩
  ·rw[h7] at e; cases e
  ·rw[h8] at e; cases e
 view:=some (.tuple [.list xs,.list ys])
 vok:=fun z hv g k=>by
  obtain⟨p,q,r,us,vs,h1,h2,h3,h4,h5,h6,h7,h8,h9,h10⟩:=z
  cases hv
  subst h1 h2;exact .tup ((k p (by simp)).trans h6) (.cons (.lst ((k q (by simp)).trans h7) (Dts.same g _ _ h9)) (.cons (.lst ((k r (by simp)).trans h8) (Dts.same g _ _ h10)) .nil))
theorem aIG {xs ys:List D}(hx:bV xs=true)(hy:bV ys=true):(aHP xs ys).Cut:=fun g z=>by
 obtain⟨p,q,r,us,vs,h1,h2,h3,h4,h5,h6,h7,h8,h9,h10⟩:=z;exact⟨p,q,r,us,vs,h1,h2,h3,h4,h5,h6,h7,h8,Dts.sameU g _ _ hx h9,Dts.sameU g _ _ hy h10⟩
def aS6 (m1 m2:MO):MO:=fun Γ Q=>m1 Γ fun rv Γ1=>∃ xs,rv=.own xs∧m2 Γ1 fun rv' Γ2=>∃ ys,rv'=.own ys∧Q (.box (aHP xs ys)) Γ2
theorem aQ8 {t1 t2:TE}{m1 m2:MO}(h1:VO P0 t1 m1)(h2:VO P0 t2 m2):VO P0 (aT3 (dD t1 (dD t2 rB))) (aS6 m1 m2):=by
 intro F Γ σ G H Q Qm r hm k;refine h1 F Γ σ G H _ _ r hm fun rv Γ1 v1 G1 H1 n1 s1 r1 d1 a1=>?_;obtain⟨xs,rfl,n1⟩:=n1;obtain⟨q,us,rfl,q0,qg,hq,dq⟩:=d1;have e0:∀ b∈[q],F.H0 b=none∧G1 b=none:=fun b hb=>by rw[List.mem_singleton.mp hb]; exact⟨q0,qg⟩
 have dom0:∀ b∈[q],∃ o,H1 b=some o:=fun b hb=>by rw[List.mem_singleton.mp hb]; exact⟨_,hq⟩
 refine h2 _ Γ1 σ G1 H1 _ _ (r1.hold e0 fun i s f e hs b hb=>by rw[List.mem_singleton.mp hb]; exact a1 i s f e hs q rfl) n1 fun rv' Γ2 v2 G2 H2 n2 s2 r2 d2 a2=>?_;obtain⟨ys,rfl,m⟩:=n2;obtain⟨x,vs,rfl,x0,xg,hx,dx⟩:=d2;obtain⟨r3,st,ap3⟩:=R.unhold dom0 r2;have hq2:H2 q=some (.lst us):=(st q (List.mem_singleton.mpr rfl)).1.trans hq;have xq:q≠x:=fun z=>by
  have y:(if x∈[q] then H1 x else F.H0 x)=none:=x0;rw[if_pos (by rw[z]; exact List.mem_singleton.mpr rfl),←z,hq] at y
  cases y
 have x0':F.H0 x=none:=by
  have y:(if x∈[q] then H1 x else F.H0 x)=none:=x0;rw[if_neg (fun z=>xq (List.mem_singleton.mp z).symm)] at y;exact y
 refine⟨u9 rfl,fun p hp=>?_⟩;have pq:p≠q:=fun z=>by rw[z,hq2] at hp; cases hp
 have px:p≠x:=fun z=>by rw[z,hx] at hp; cases hp
 have hP:(aHP xs ys).P (.ref p) [p,q,x] G2 (upd H2 p (.tup [.ref q,.ref x])):=⟨p,q,x,us,vs,rfl,rfl,pq,px,xq,aV,by rw[aM (Ne.symm pq)]; exact hq2,by rw[aM (Ne.symm px)]; exact hx,Dts.same s2 _ _ dq,dx⟩;refine k _ _ _ _ _ m (s1.trans s2) (r3.newP hp) ⟨_,hP,fun b hb=>?_⟩ fun j s fp f ej hs hf b hb hc=>?_
 ·simp only[List.mem_cons,List.not_mem_nil,or_false] at hb;rcases hb with rfl|rfl|rfl
  ·exact⟨r3.fr.fresh hp,r3.fr.gfresh hp⟩
  ·exact⟨q0,(st _ (List.mem_singleton.mpr rfl)).2⟩
  ·exact⟨x0',xg⟩
 ·rw[Bx.uniq _ hf hP] at hb;have hs2:=r3.backF hp ej hs;simp only[List.mem_cons,List.not_mem_nil,or_false] at hb;rcases hb with rfl|rfl|rfl
  ·obtain⟨_,_,oo,m3⟩:=hs2.mine hc;rw[hp] at m3; cases m3
  ·exact ap3 j s fp ej hs2 _ (List.mem_singleton.mpr rfl) hc
  ·obtain⟨fps,g1,_⟩:=r2.fps;have y:=g1 j s ej;have y3:SlF F G2 H2 σ[j]? (fps j) s:=SlF.frame (F:=F.hold r1.fr [q] fun b hb=>(e0 b hb).1) (F':=F) rfl (fun c _ z=>by
    have z:(if c∈[q] then H1 c else F.H0 c)=none:=z
    split at z
    ·rename_i h
     obtain⟨o,ho⟩:=dom0 c h;rw[ho] at z; cases z
    ·exact z) y
   rw[SlF.det hs2 y3] at hc;exact a2 j s _ ej y _ rfl hc
theorem aRE {m1 m2:MO}{Γ:En}{Q:Rv→En→Prop}(h:m1 Γ fun rv Γ1=>∃ xs,rv=.own xs∧m2 Γ1 fun rv' Γ2=>∃ ys,rv'=.own ys∧Q (.box (aHP xs ys)) Γ2):aS6 m1 m2 Γ Q:=h
def aL2 (i a:Nat)(s:MS):MS:=fun Γ Q=>i≠a∧∃ xs ys,Γ[i]?=some (.box (aHP xs ys))∧s ((Γ.set i .no).set a (.own xs)) fun fl=>match fl with
 | .nx Γ2=>s (Γ2.set a (.own ys)) fun fl=>match fl with
  | .nx Γ3=>Q (.nx Γ3)
  | _=>False
 | _=>False
theorem aLL {K:Fg}{i a:Nat}{t:TS}{s:MS}(hs:VSA P0 A t s)(hA:A a=true:=by rfl):VSA P0 A (aSP (aT6 K (jZ i)) (aD0 a) t) (aL2 i a s):=by
 intro F Γ σ G H E Qm r m k;obtain⟨hia,xs,ys,e,m⟩:=m;obtain⟨fps,f1,f2⟩:=r.fps;have hsl:=f1 i _ e;obtain⟨v,ev,⟨p,q,x,us,vs,rfl,hfp,pq,px,qx,hp,hq,hx,dq,dx⟩,nf⟩:=id hsl;have n0:∀ b∈[p,q,x],F.H0 b=none∧G b=none:=fun b hb=>nf b (by rw[hfp]; exact hb);have away:∀(j:Nat) s f,(Γ.set i .no)[j]?=some s→SlF F G H σ[j]? f s→∀ b∈[p,q,x],b∉f:=fun j s f ej hj b hb hc=>by
  by_cases hji:j=i
  ·subst hji;rw[List.getElem?_set_self (List.getElem?_eq_some_iff.mp e).1] at ej
   cases ej
   rw[show f=[] from hj] at hc; cases hc
  ·rw[List.getElem?_set_ne (Ne.symm hji)] at ej;rw[SlF.det hj (f1 j s ej)] at hc;exact f2 j i s _ ej e hji b hc (by rw[hfp]; exact hb)
 have r1:R F ((Γ.set i .no).set a (.own xs)) (σ.set a (some (.ref q))) G H:=(r.drop i).set (i:=a) (rv:=.own xs) (v:=.ref q) ⟨q,us,rfl,(n0 q (by simp)).1,(n0 q (by simp)).2,hq,dq⟩ fun j s fp ej hj b hb hc=>by
  cases hb
  exact away j s fp ej hj q (by simp) hc
 have e2:∀ b∈[p,x],F.H0 b=none∧G b=none:=fun b hb=>by
  simp only[List.mem_cons,List.not_mem_nil,or_false] at hb;rcases hb with rfl|rfl
  ·exact n0 _ (by simp)
  ·exact n0 _ (by simp)
 have dom2:∀ b∈[p,x],∃ o,H b=some o:=fun b hb=>by
  simp only[List.mem_cons,List.not_mem_nil,or_false] at hb;rcases hb with rfl|rfl
  ·exact⟨_,hp⟩
  ·exact⟨_,hx⟩
 have ap2:∀(j:Nat) s f,((Γ.set i .no).set a (.own xs))[j]?=some s→SlF F G H (σ.set a (some (.ref q)))[j]? f s→∀ b∈[p,x],b∉f:=fun j s f ej hj b hb hc=>by
  by_cases hja:j=a
  ·subst hja;have hal:j<(Γ.set i .no).length:=by
    have:=(List.getElem?_eq_some_iff.mp ej).1;rwa[List.length_set] at this
   rw[List.getElem?_set_self hal] at ej
   cases ej
   obtain⟨p',vs',e1,e2',_⟩:=hj;rw[List.getElem?_set_self (by rw[← (r.drop i).len]; exact hal)] at e2'
   cases e2'
   rw[e1] at hc;simp only[List.mem_cons,List.not_mem_nil,or_false] at hb hc;rcases hb with rfl|rfl
   ·exact pq hc
   ·exact qx hc.symm
  ·rw[List.getElem?_set_ne (Ne.symm hja)] at ej hj;refine away j s f ej hj b ?_ hc;simp only[List.mem_cons,List.not_mem_nil,or_false] at hb ⊢;rcases hb with rfl|rfl
   ·exact .inl rfl
   ·exact .inr (.inr rfl)
 have rh:=r1.hold e2 ap2;refine⟨_,ev,p,rfl,⟨_,SqT.of hp⟩,fun j n σ2 H2=>n=2-j∧H2 p=some (.tup [.ref q,.ref x])∧((j=0∧σ2=σ∧H2=H)∨(j=1∧∃ Γ2 G2,Same G G2∧R (F.hold r1.fr [p,x] fun b hb=>(e2 b hb).1) Γ2 σ2 G2 H2∧(s (Γ2.set a (.own ys)) fun fl=>match fl with
   | .nx Γ3=>Qm (.nx Γ3)
   | _=>False)∧∀ c,A c=false→σ2[c]?=σ[c]?)∨(j=2∧∃ Γ3 G3,Same G G3∧R F Γ3 σ2 G3 H2∧Qm (.nx Γ3)∧∀ c,A c=false→σ2[c]?=σ[c]?)),⟨2,rfl,hp,.inl ⟨rfl,rfl,rfl⟩⟩,?_⟩
 rintro j n σ2 H2 ⟨rfl,hp2,z|z|z⟩
 ·obtain⟨rfl,eσ,eH⟩:=z;subst eσ eH;refine .inr ⟨⟨_,_,SqT.of hp2,rfl⟩,fun σ' H'=>H' p=some (.tup [.ref q,.ref x])∧∃ Γ2 G2,Same G G2∧R (F.hold r1.fr [p,x] fun b hb=>(e2 b hb).1) Γ2 σ' G2 H'∧(s (Γ2.set a (.own ys)) fun fl=>match fl with
   | .nx Γ3=>Qm (.nx Γ3)
   | _=>False)∧∀ c,A c=false→σ'[c]?=σ2[c]?,fun σ' H' h=>⟨1,by decide,rfl,h.1,.inr (.inl ⟨rfl,h.2⟩)⟩,fun y H' hy=>?_⟩
  obtain⟨rfl,hy⟩:=hy;have ey:=hy _ (SqT.of hp2)
  cases ey
  refine hs _ _ _ _ _ _ _ rh m fun fl mf=>?_
  cases fl with
  | nx Γ2=>
   intro σ5 G5 H5 s5 r5 e5;refine⟨?_,Γ2,G5,s5,r5,mf,fun c hc=>(e5 c hc).trans (u6 hA c hc)⟩;exact((R.unhold dom2 r5).2.1 p (by simp)).1.trans hp2
  | _=>exact mf.elim
 ·obtain⟨rfl,Γ2,G2,s2,r2,m2,o2⟩:=z;refine .inr ⟨⟨_,_,SqT.of hp2,rfl⟩,fun σ' H'=>H' p=some (.tup [.ref q,.ref x])∧∃ Γ3 G3,Same G G3∧R F Γ3 σ' G3 H'∧Qm (.nx Γ3)∧∀ c,A c=false→σ'[c]?=σ[c]?,fun σ' H' h=>⟨0,by decide,rfl,h.1,.inr (.inr ⟨rfl,h.2⟩)⟩,fun y H' hy=>?_⟩;obtain⟨rfl,hy⟩:=hy;have ey:=hy _ (SqT.of hp2)
  cases ey
  obtain⟨r3,st,ap3⟩:=R.unhold dom2 r2;have hx3:H' x=some (.lst vs):=(st x (by simp)).1.trans hx;have gx3:G2 x=none:=(st x (by simp)).2;have gp3:G2 p=none:=(st p (by simp)).2;have r4:R F (Γ2.set a (.own ys)) (σ2.set a (some (.ref x))) G2 H':=r3.set (i:=a) (rv:=.own ys) (v:=.ref x) ⟨x,vs,rfl,(n0 x (by simp)).1,gx3,hx3,Dts.same s2 _ _ dx⟩ fun j s fp ej hj b hb hc=>by
   cases hb
   exact ap3 j s fp ej hj x (by simp) hc
  have e4:∀ b∈[p],F.H0 b=none∧G2 b=none:=fun b hb=>by rw[List.mem_singleton.mp hb]; exact⟨(n0 p (by simp)).1,gp3⟩
  have dom4:∀ b∈[p],∃ o,H' b=some o:=fun b hb=>by rw[List.mem_singleton.mp hb]; exact⟨_,hp2⟩
  have ap4:∀(j:Nat) s f,(Γ2.set a (.own ys))[j]?=some s→SlF F G2 H' (σ2.set a (some (.ref x)))[j]? f s→∀ b∈[p],b∉f:=fun j s f ej hj b hb hc=>by
   rw[List.mem_singleton.mp hb] at hc
   by_cases hja:j=a
   ·subst hja;have hal:j<Γ2.length:=by
     have:=(List.getElem?_eq_some_iff.mp ej).1;rwa[List.length_set] at this
    rw[List.getElem?_set_self hal] at ej
    cases ej
    obtain⟨p',vs',e1,e2',_⟩:=hj;rw[List.getElem?_set_self (by rw[← r3.len]; exact hal)] at e2'
    cases e2'
    rw[e1] at hc;exact px (List.mem_singleton.mp hc)
   ·rw[List.getElem?_set_ne (Ne.symm hja)] at ej hj;exact ap3 j s f ej hj p (by simp) hc
  refine hs _ _ _ _ _ _ _ (r4.hold e4 ap4) m2 fun fl mf=>?_
  cases fl with
  | nx Γ3=>
   intro σ5 G5 H5 s5 r5 e5;obtain⟨r6,st6,_⟩:=R.unhold dom4 r5;exact⟨(st6 p (by simp)).1.trans hp2,Γ3,G5,s2.trans s5,r6,mf,fun c hc=>((e5 c hc).trans (u6 hA c hc)).trans (o2 c hc)⟩
  | _=>exact mf.elim
 ·obtain⟨rfl,Γ3,G3,s3,r3,m3,o3⟩:=z;exact .inl ⟨⟨_,SqT.of hp2,by show 2≤2; decide⟩,k _ m3 _ _ _ s3 r3 o3⟩
theorem aOU {i a:Nat}{s:MS}{Γ:En}{Q:Fl→Prop}{xs ys:List D}(h0:Γ[i]?=some (.box (aHP xs ys)))(hia:i≠a)(h:s ((Γ.set i .no).set a (.own xs)) fun fl=>match fl with
 | .nx Γ2=>s (Γ2.set a (.own ys)) fun fl=>match fl with
  | .nx Γ3=>Q (.nx Γ3)
  | _=>False
 | _=>False):aL2 i a s Γ Q:=⟨hia,xs,ys,h0,h⟩
end
end L2.VS
namespace My
open PySem PySem.Spec PyProof.Rows L2 L2.VS LT
def top (i:Nat):Stmt:=PySem.Challenge.pw_leadtimes_k34_papers_gone_and_come.main.body.getD i (.Pass ⟨0,0,0,0⟩)
set_option hygiene false in
local macro_rules | `(tactic| walk_at $s:str)=>do
 let cs:=s.getString.toList
 if cs.head? != some '!' then Lean.Macro.throwUnsupported
 let a := "i_c aP5 aTW aSR aS7 aO7 aQA aSN aP3 aON aP0 aS0 aUM aQP aS1 i_I aUP aV4 aQZ aSX a5U aOC aNE aUR aV1 aQY aR4 aSS aRK aOT aR1 aSO a2W aKA aOW aP6 aUT aQK aO6 aRQ aIL i_U aT7 aMK aKL aRC aSM aRA aM6 aMC aUW aIT aP7 aLF aT0 aR8 aJP aMJ aNB aUS aSE aEI aNK aIY aKU aOJ aRG aR3 aDU aFG aBJ aE3 aRS aT8 aS4 aS2 aKS aR5 aI1 aOS aNL".splitOn " "
 let x := "$&4,h[C.3~vĊ|>ğTE-^ŭ9ůďĀ?ęĈĝRĩĢűbŲųens}ăćĉČčĚěĠġĤĥĨīĬĭĳĶķĺľŁłŃŅņŇŎŏŐőœŔŗśŜŞšţťŦũŪ".toList
 let b := "a8S aO1 aS3 aUL aLC aJ4 aV3 aPC aJ9 aJ7 aIW aNT aPF aRY aR2 aL4 aTB aSC isT aSJ aDM aGI aQ6 aM5 aO4 aMZ aDS aPY aBV aM7 aML aKV".splitOn " "
 let y := "%ļŰĜŴĐģĦħĪĴĵĹĻĿŀńňōŒŕŖŘřŚŝşŠŢŤŧŨ".toList
 let z := "uz`tĖĜqĘ<o2+mQĕlVVkŋ$ŋ:Ŵj$Ąfp+dg6cį%ĘĩĢaĊ#_(g]TyĖĈ%įŊųŊŲ%Yĝ<X22Wű.SėwN&*wGąLĀPJŉZŉđ$I{6ėTUzhęFċ&BďCđr&A$#@^3pD2y%<Q5;`0#ċĊ~{ME=ŰĎ83%Ď#ůZ[Ľr:ļU*ŮPŭ.1ĊCV3$gİ&/>#G*ŬM7.Dİ2<%#0ğū6*#+)#7,|:h#(iCİh~i,v)[O2&%*4KK%$".toList
 let mut l:=cs.tail
 for k in [0:z.length/3] do l:=l.flatMap fun c=>if c=z[3*k]! then [z[3*k+1]!,z[3*k+2]!] else [c]
 let mut r : Array (Lean.TSyntax `tactic):=#[]
 for c in l do
  let i:=x.idxOf c
  let j:=y.idxOf c
  let t←if i<x.length then `(tactic| with_reducible apply $(Lean.mkIdent (a[i]!).toName)) else if j<y.length then `(tactic| with_reducible refine $(Lean.mkIdent (b[j]!).toName) (by with_unfolding_all rfl) ?_) else match c with
   | '#'=>`(tactic| (dsimp only[Rv.d,Rv.sl,nbQ,Bool.not_true,Bool.not_false,isN,xT]))
   | 'O'=>`(tactic| (with_reducible refine And.intro rfl ?_))
   | 'ū'=>`(tactic| (with_reducible refine And.intro (Nat.le_of_ble_eq_true (by with_unfolding_all rfl)) ?_))
   | '5'=>`(tactic| (refine⟨_,rfl,?_⟩))
   | ';'=>`(tactic| (refine⟨_,_,rfl,rfl,?_⟩))
   | 'Ŭ'=>`(tactic| (with_reducible apply cC (aKM _)))
   | 'Ľ'=>`(tactic| (with_reducible refine aSL (by with_unfolding_all rfl) rfl ?_))
   | 'Ů'=>`(tactic| (with_reducible apply cC (aL5 _)))
   | 'ą'=>`(tactic| (with_reducible refine And.intro (aSQ (by assumption) (by assumption)) ?_))
   | 'Ą'=>`(tactic| (with_reducible (refine And.intro (good_int _) (And.intro (good_int _) ?_); rw[aKY])))
   | 'H'=>`(tactic| (with_reducible apply cC (aJ6 _)))
   | 'ĕ'=>`(tactic| (refine And.intro (aSQ (by assumption) (by assumption)) ?_))
   | 'x'=>`(tactic| (with_reducible apply cC (aI4 _)))
   | 'ā'=>`(tactic| (with_reducible refine aL7 (by with_unfolding_all rfl) (fun _ _=>rfl) ?_))
   | 'Ă'=>`(tactic| (refine And.intro (show(0:Int)<_ by decide) ?_))
   | 'Ć'=>`(tactic| (with_reducible (refine And.intro (qY _) (And.intro (qY _) ?_); rw[aLP])))
   | 'Ē'=>`(tactic| (refine And.intro (by assumption) ?_))
   | 'ē'=>`(tactic| (refine⟨_,_,_,_,rfl,rfl,SqL.of (by assumption),rfl,?_⟩))
   | 'Ĕ'=>`(tactic| (refine⟨_,_,_,_,rfl,rfl,SqL.of aV,rfl,?_⟩))
   | 'Ğ'=>`(tactic| (refine⟨_,_,rfl,.inl (by assumption),?_⟩))
   | 'Į'=>`(tactic| (with_reducible refine aR6 (by with_unfolding_all rfl) (fun _=>?_)))
   | 'ı'=>`(tactic| (refine And.intro (u9 rfl) ?_))
   | 'Ĳ'=>`(tactic| (refine⟨_,_,_,_,rfl,rfl,(by assumption),rfl,?_⟩))
   | 'ĸ'=>`(tactic| (with_reducible refine aSK (by with_unfolding_all rfl) (by with_unfolding_all rfl) ?_))
   | 'Ō'=>`(tactic| (refine And.intro ⟨by decide,by decide⟩ ?_))
   | _=>Lean.Macro.throwUnsupported
  r:=r.push t
 `(tactic| ($[$r:tactic];*))
def xH:MS:=
 (gQ (cG (yQ (aCO "int" (aO 0)) (aL9 (aCO "bool" (aO 0))))))
def eZ:Fm:=mFn 0 xH
def j9:MS:=
 (gQ (cG (aO 2)))
def j4:MS:=
 (bZ (eV 4 (cG (aSW (aO 2) (aO 3))))
  (bZ (eV 2 (cG (aO 3)))
  (eV 3 (cG (aO 4)))))
def iB:MS:=
 (bZ (eV 2 (cG (aKD (aO 0))))
  (bZ (eV 3 (cG (aKD (aO 1))))
  (bZ (a0R (dF (mNe (aO 3) (mC (.int 0))))
  j4)
  j9)))
def cU:Fm:=mFn 3 iB
def sY:MS:=
 (gQ (cG (yG (bN (aH3 (aO 0) (aO 2)) (bN (aH3 (aO 1) (aO 2)) lO)))))
def sV:MS:=
 (bZ (eV 2 (cG (c7 (bM 2 cU (bC (aO 0) (bC (aO 1) cB))))))
  (bZ (mIf (dF (mLt (aO 1) (mC (.int 0))))
  (eV 2 (cG (aN0 (aO 2))))
  mNx)
  sY))
def uG:MS:=
 (bZ (mIf (mOr (a5S (dF (c7 (bM 1 eZ (bC (aO 0) cB))))) (mOr (a5S (dF (c7 (bM 1 eZ (bC (aO 1) cB))))) (dF (mEq (aO 1) (mC (.int 0))))))
  a3E
  mNx)
  sV)
def fV:Fm:=mFn 1 uG
def a4Q:MS:=
 (gQ (bM 2 fV (bC (aJ5 (zR (mIx (aO 0) (mC (.int 0))) (mIx (aO 1) (mC (.int 1)))) (zR (mIx (aO 1) (mC (.int 0))) (mIx (aO 0) (mC (.int 1))))) (bC (zR (mIx (aO 0) (mC (.int 1))) (mIx (aO 1) (mC (.int 1)))) cB))))
def z7:Fm:=mFn 0 a4Q
def lH:MS:=
 (gQ (bM 2 fV (bC (aN5 (zR (mIx (aO 0) (mC (.int 0))) (mIx (aO 1) (mC (.int 1)))) (zR (mIx (aO 1) (mC (.int 0))) (mIx (aO 0) (mC (.int 1))))) (bC (zR (mIx (aO 0) (mC (.int 1))) (mIx (aO 1) (mC (.int 1)))) cB))))
def cZ:Fm:=mFn 0 lH
def q8:MS:=
 (gQ (bM 2 fV (bC (zR (mIx (aO 0) (mC (.int 0))) (mIx (aO 1) (mC (.int 0)))) (bC (zR (mIx (aO 0) (mC (.int 1))) (mIx (aO 1) (mC (.int 1)))) cB))))
def j8:Fm:=mFn 0 q8
def nO:MS:=
 (gQ (bM 2 fV (bC (zR (mIx (aO 0) (mC (.int 0))) (mIx (aO 1) (mC (.int 1)))) (bC (zR (mIx (aO 0) (mC (.int 1))) (mIx (aO 1) (mC (.int 0)))) cB))))
def jT:Fm:=mFn 0 nO
def a1D:MS:=
 (gQ (cG (mLt (zR (mIx (aO 0) (mC (.int 0))) (mIx (aO 1) (mC (.int 1)))) (zR (mIx (aO 1) (mC (.int 0))) (mIx (aO 0) (mC (.int 1)))))))
def eF:Fm:=mFn 0 a1D
def wC:MS:=
 (gQ (bM 2 z7 (bC (mIx (aO 0) (mC (.int 0))) (bC (c7 (bM 2 j8 (bC (mIx (aO 0) (mC (.int 1))) (bC (aO 1) cB)))) cB))))
def mR:Fm:=mFn 0 wC
def mD:MS:=
 (gQ (cG (yG (bN (c7 (bM 2 cZ (bC (aO 1) (bC (c7 (bM 2 j8 (bC (aO 2) (bC (aO 0) cB)))) cB)))) (bN (aO 2) lO)))))
def fO:Fm:=mFn 0 mD
def yE:MS:=
 (bZ (eV 2 (cG (c7 (bM 2 cZ (bC (mIx (aO 1) (mC (.int 0))) (bC (mIx (aO 0) (mC (.int 0))) cB))))))
  (bZ (eV 3 (cG (c7 (bM 2 cZ (bC (mIx (aO 0) (mC (.int 1))) (bC (mIx (aO 1) (mC (.int 1))) cB))))))
  (gQ (cG (yG (bN (mC (.str "at")) (bN (c7 (bM 2 jT (bC (aO 2) (bC (aO 3) cB)))) lO)))))))
def a0U:MS:=
 (bZ (mIf (dF (mEq (mIx (aO 0) (mC (.int 1))) (mIx (aO 1) (mC (.int 1)))))
  (gQ (aRP (dF (mEq (mIx (aO 0) (mC (.int 0))) (mIx (aO 1) (mC (.int 0))))) (cG (yG (bN (mC (.str "always")) lO))) (cG (yG (bN (mC (.str "never")) lO)))))
  mNx)
  yE)
def uL:Fm:=mFn 2 a0U
def wW:MS:=
 (gQ (cG (yG (bN (c7 (bM 2 mR (bC (aN7 (mIx (aO 0) (aO 1)) (pM (aO 0) (aO 1))) (bC (aO 2) cB)))) (bN (mIx (aN7 (mIx (aO 0) (aO 1)) (pM (aO 0) (aO 1))) (mC (.int 1))) (bN (aO 1) lO))))))
def kI:Fm:=mFn 0 wW
def mZ:MS:=
 (gQ (cG (mLt (mIx (aO 0) (mC (.int 2))) (mIx (aO 1) (mC (.int 2))))))
def mV:MS:=
 (bZ (mIf (dF (mNe (mIx (aO 0) (mC (.int 1))) (mIx (aO 1) (mC (.int 1)))))
  (gQ (bM 2 eF (bC (mIx (aO 1) (mC (.int 1))) (bC (mIx (aO 0) (mC (.int 1))) cB))))
  mNx)
  mZ)
def mH:MS:=
 (bZ (mIf (dF (mNe (mIx (aO 0) (mC (.int 0))) (mIx (aO 1) (mC (.int 0)))))
  (gQ (bM 2 eF (bC (mIx (aO 1) (mC (.int 0))) (bC (mIx (aO 0) (mC (.int 0))) cB))))
  mNx)
  mV)
def fM:Fm:=mFn 0 mH
def wM:MS:=
 (gQ (bM 2 fM (bC (c7 (bM 3 kI (bC (aO 0) (bC (aO 1) (bC (aO 3) cB))))) (bC (c7 (bM 3 kI (bC (aO 0) (bC (aO 2) (bC (aO 3) cB))))) cB))))
def rT:Fm:=mFn 0 wM
def p8:MS:=
 (gQ (cG (mC .none)))
def oA:MS:=
 (bZ (eV 4 (cG (c7 (bM 2 uL (bC (aN7 (mIx (aO 0) (aO 1)) (pM (aO 0) (aO 1))) (bC (aN7 (mIx (aO 0) (aO 2)) (pM (aO 0) (aO 2))) cB))))))
  (bZ (mIf (aG5 (dF (mEq (mIx (aO 4) (mC (.int 0))) (mC (.str "at")))) (dF (c7 (bM 2 eF (bC (aO 3) (bC (mIx (aO 4) (mC (.int 1))) cB))))))
  (gQ (cG (mIx (aO 4) (mC (.int 1)))))
  mNx)
  p8))
def jQ:Fm:=mFn 1 oA
def sS:MS:=
 (gQ (cG (yQ (mGe (mIx (aO 0) (mC (.int 1))) (mC (.int 1))) (mEq (c7 (bM 2 cU (bC (mIx (aO 0) (mC (.int 0))) (bC (mIx (aO 0) (mC (.int 1))) cB)))) (mC (.int 1))))))
def tE:MS:=
 (bZ (mIf (mOr (a5S (dF (c7 (bM 1 eZ (bC (mIx (aO 0) (mC (.int 0))) cB))))) (a5S (dF (c7 (bM 1 eZ (bC (mIx (aO 0) (mC (.int 1))) cB))))))
  (gQ (cG (mC (.bool false))))
  mNx)
  sS)
def tW:MS:=
 (bZ (mIf (mOr (a5S (dF (aCO "tuple" (aO 0)))) (dF (mNe (aAO (aO 0)) (mC (.int 2)))))
  (gQ (cG (mC (.bool false))))
  mNx)
  tE)
def nZ:Fm:=mFn 0 tW
def pH:MS:=
 (aCP 3 (gQ (xN 1 [] (aCW (aO 3)) (gN 0) qJ (mIx (aO 0) (mC (.int 2))))))
def jD:MS:=
 (wN 3 (aO 6) (aO 5))
def pJ:MS:=
 (aPB 6 aUN (mC (.int 1)))
def pA:MS:=
 (bZ (eV 5 (cG (c7 (bM 3 kI (bC (aO 0) (bC (aO 4) (bC (aO 2) cB)))))))
  (bZ (eV 6 (cG (mC (.int 0))))
  (bZ (a0R (a7O (aG5 (dF (mLt (aO 6) (aAO (aO 3)))) (dF (c7 (bM 2 fM (bC (mIx (aO 3) (aO 6)) (bC (aO 5) cB)))))))
  pJ)
  jD)))
def o8:MS:=
 (bZ (eV 3 (a4L lO))
  (bZ (aM2 (aCW (aO 1)) (gN 4)
  pA)
  pH))
def gG:Fm:=mFn 4 o8
def wA:MS:=
 (gQ (bM 3 gG (bC (aO 0) (bC (c7 (a5K (aAO (aO 0)))) (bC (aO 1) cB)))))
def jY:Fm:=mFn 0 wA
def qI:MS:=
 (gQ (a4A (aO 0) (c7 (aQS (aO 0) (pSo (mC (.int 1))) pNo))))
def lU:Fm:=mFn 0 qI
def xR:MS:=
 (gQ (bM 4 jQ (bC (aO 0) (bC (aO 1) (bC (aO 2) (bC (aO 3) cB))))))
def a02:MS:=
 (bZ (mIf (dF (c7 (bM 4 rT (bC (aO 0) (bC (aO 2) (bC (aO 1) (bC (aO 3) cB)))))))
  (gQ (cG (aO 3)))
  mNx)
  xR)
def uY:Fm:=mFn 0 a02
def mL:MS:=
 (gQ (xN 1 [0,2] (aCW (c7 (bM 1 lU (bC (aO 1) cB)))) (gN 0) qJ (yG (bN (mIx (aO 0) (mC (.int 0))) (bN (mIx (aO 0) (mC (.int 1))) (bN (c7 (bM 4 uY (bC (aO 1) (bC (mIx (aO 0) (mC (.int 0))) (bC (mIx (aO 0) (mC (.int 1))) (bC (aO 2) cB)))))) lO))))))
def fC:Fm:=mFn 1 mL
def lY:MS:=
 (gQ (cG (aO 1)))
def lL:MS:=
 (mIf (aG5 (dF (a7Z (mIx (aO 3) (mC (.int 2))))) (mOr (dF (aN4 (aO 1))) (dF (c7 (bM 2 eF (bC (mIx (aO 3) (mC (.int 2))) (bC (mIx (mIx (aO 0) (aO 1)) (mC (.int 2))) cB)))))))
  (eV 1 (cG (aO 2)))
  mNx)
def lJ:MS:=
 (bZ (eV 1 (cG (mC .none)))
  (bZ (aM2 (aQT (aO 0)) (gT 2 (yC (gN 2) (yC (gN 3) aHK)))
  lL)
  lY))
def gY:Fm:=mFn 3 lJ
def lZ:MS:=
 (gQ (xN 1 [1] (aCW (aO 0)) (gN 0) (dF (mIn true (aO 0) (aO 1))) (aO 0)))
def fJ:Fm:=mFn 1 lZ
def mK:MS:=
 (bZ (a4G 1 (mIx (mIx (aO 4) (aO 5)) (mC (.int 1))) (aO 5))
  (bZ (a4G 1 (mIx (mIx (aO 4) (aO 5)) (mC (.int 0))) (aJ5 (aO 5) (mC (.int 1))))
  (a7N lstF 1 (cG (yG (bN (aO 5) (bN (aO 6) lO)))))))
def sJ:MS:=
 (bZ (eV 6 (cG (mIx (mIx (aO 4) (aO 5)) (mC (.int 2)))))
  (bZ (mIf (aG5 (dF (a7Z (aO 3))) (dF (c7 (bM 2 eF (bC (aO 3) (bC (aO 6) cB))))))
  (a7N lstF 1 (cG (mC .none)))
  mNx)
  mK))
def nJ:MS:=
 (bZ (eV 4 (cG (c7 (zW (bM 3 fC (bC (aO 0) (bC (aO 1) (bC (aO 2) cB))))))))
  (bZ (eV 5 (cG (c7 (bM 1 gY (bC (aO 4) cB)))))
  (bZ (mIf (dF (aN4 (aO 5)))
  (a7N lstF 1 (cG (mC .none)))
  mNx)
  sJ)))
def nW:Lm (List D):=aM3 lstF 1 3 nJ
def sX (c:Addr):MS:=
 (bZ (eV 3 (cG (mIx (aO 2) (mC (.int 0)))))
  (bZ (a5J c 0 (mIx (aO 2) (mC (.int 1))))
  (m9 (dZ c) (cG (yG (bN (aCA c 0) (bN (aJM c 0 (aJ5 (aO 3) (mC (.int 1)))) (bN (aJM c 0 (aO 3)) lO))))))))
def tO (c:Addr):MS:=
 (bZ (eV 2 (cG (aJW c nW 0 1)))
  (bZ (mIf (dF (aN4 (aO 2)))
  (m9 (dZ c) (cG (mC .none)))
  mNx)
  (sX c)))
def iI (c:Addr):Lm WS:=aCJ (dZ c) 2 (tO c)
def vK (c:Addr):MS:=
 (bZ (a5J c 0 (aO 1))
  (m9 (dZ c) (a9M 2)))
def a0V (c:Addr):MS:=
 (bZ (wV 2 (aO 3))
  (eV 3 (cG (c7 (dB (dZ c) 2 (iI c) 0 (bC (aO 1) cB))))))
def a67 (c:Addr):MS:=
 (bZ (eV 2 (a4L lO))
  (bZ (eV 3 (cG (c7 (dB (dZ c) 2 (iI c) 0 (bC (aO 1) cB)))))
  (bZ (a0R (dF (a7Z (aO 3)))
  (a0V c))
  (vK c))))
def aFJ (c:Addr):MS:=
 (bZ (mIf (dF (c7 (bM 2 eF (bC (aO 1) (bC (aCA c 0) cB)))))
  a3E
  mNx)
  (a67 c))
def aB1 (c:Addr):Lm WS:=aCJ (dZ c) 2 (aFJ c)
def m8 (c:Addr):MS:=
 (bZ (eV 2 (cG (a1G c 0)))
  (bZ (aAT c 0 (aO 1) (aO 2))
  (bZ (a5C c 0 1)
  (m9 (bG c) (cG (aO 2))))))
def iT (c:Addr):Lm FS:=aCJ (bG c) 1 (m8 c)
def zJ (c:Addr):MS:=
 (m9 (bG c) (cG (mC .none)))
def a09 (c:Addr):MS:=
 (bZ (mIf (dF (mEq (mIx (aO 1) (mC (.int 0))) (mC (.str "leave"))))
  (a0A (aEV c 0 (mIx (aO 1) (mC (.int 2)))))
  (bZ (eV 2 (cG (c7 (bM 2 mR (bC (aIX c 0 (mIx (aO 1) (mC (.int 2)))) (bC (mIx (aO 1) (mC (.int 1))) cB))))))
  (aAT c 0 (c7 (bM 3 fO (bC (mIx (aO 1) (mC (.int 1))) (bC (aO 2) (bC (mIx (aO 1) (mC (.int 3))) cB))))) (mIx (aO 1) (mC (.int 2))))))
  (zJ c))
def aFD (c:Addr):MS:=
 (bZ (a5Q c 0 (mIx (aO 1) (mC (.int 1))))
  (bZ (mIf (dF (mEq (mIx (aO 1) (mC (.int 0))) (mC (.str "join"))))
  (m9 (bG c) (dB (bG c) 2 (iT c) 0 (bC (c7 (bM 3 fO (bC (mIx (aO 1) (mC (.int 1))) (bC (mIx (aO 1) (mC (.int 2))) (bC (mIx (aO 1) (mC (.int 3))) cB))))) cB)))
  mNx)
  (a09 c)))
def a2U (c:Addr):Lm FS:=aCJ (bG c) 1 (aFD c)
def oJ (c:Addr):MS:=
 (m9 (bG c) (cG (aKO c 0 (mIx (aO 1) (mC (.int 2))))))
def oU (c:Addr):MS:=
 (bZ (mIf (dF (mEq (mIx (aO 1) (mC (.int 0))) (mC (.str "join"))))
  (m9 (bG c) (cG (mLt (aDV c 0) (mC (.int 8)))))
  mNx)
  (oJ c))
def wZ (c:Addr):MS:=
 (bZ (mIf (aG5 (dF (a7Z (a4V c 0))) (dF (c7 (bM 2 eF (bC (mIx (aO 1) (mC (.int 1))) (bC (a4V c 0) cB))))))
  (m9 (bG c) (cG (mC (.bool false))))
  mNx)
  (oU c))
def rN (c:Addr):Lm FS:=aCJ (bG c) 0 (wZ c)
def kW:MS:=
 (gQ (cG (yQ (mLe (aKD (mIx (aO 0) (mC (.int 0)))) (mC (.int 999999999))) (mLe (mIx (aO 0) (mC (.int 1))) (mC (.int 12))))))
def jE:MS:=
 (bZ (mIf (a5S (dF (c7 (bM 1 nZ (bC (aO 0) cB)))))
  (gQ (cG (mC (.bool false))))
  mNx)
  kW)
def cD:Fm:=mFn 0 jE
def a71:MS:=
 (gQ (cG (mC (.bool false))))
def xW:MS:=
 (bZ (mIf (dF (mEq (mIx (aO 0) (mC (.int 0))) (mC (.str "turn"))))
  (gQ (cG (yQ (mEq (aAO (aO 0)) (mC (.int 4))) (yQ (c7 (bM 1 eZ (bC (mIx (aO 0) (mC (.int 2))) cB))) (yQ (c7 (bM 1 cD (bC (mIx (aO 0) (mC (.int 1))) cB))) (c7 (bM 1 cD (bC (mIx (aO 0) (mC (.int 3))) cB))))))))
  mNx)
  a71)
def qP:MS:=
 (bZ (mIf (dF (mEq (mIx (aO 0) (mC (.int 0))) (mC (.str "leave"))))
  (gQ (cG (yQ (mEq (aAO (aO 0)) (mC (.int 3))) (yQ (c7 (bM 1 cD (bC (mIx (aO 0) (mC (.int 1))) cB))) (c7 (bM 1 eZ (bC (mIx (aO 0) (mC (.int 2))) cB)))))))
  mNx)
  xW)
def lV:MS:=
 (bZ (mIf (dF (mEq (mIx (aO 0) (mC (.int 0))) (mC (.str "join"))))
  (gQ (cG (yQ (mEq (aAO (aO 0)) (mC (.int 4))) (aSD (c7 (xN 1 [] (aRU (aTD (aO 0) (pSo (mC (.int 1))) pNo)) (gN 0) qJ (c7 (bM 1 cD (bC (aO 0) cB)))))))))
  mNx)
  qP)
def a1B:MS:=
 (bZ (mIf (mOr (a5S (dF (aCO "tuple" (aO 0)))) (mOr (dF (mLt (aAO (aO 0)) (mC (.int 3)))) (a5S (dF (aCO "str" (mIx (aO 0) (mC (.int 0))))))))
  (gQ (cG (mC (.bool false))))
  mNx)
  lV)
def uZ:Fm:=mFn 1 a1B
def uP (c:Addr):MS:=
 (gQ (zL (aO 0)))
def v4 (c:Addr):MS:=
 (a0A (c7 (dB (bG c) 2 (a2U c) 1 (bC (aO 3) cB))))
def vP (c:Addr):MS:=
 (bZ (mIf (mOr (dF (mEq (aO 2) (mC (.int 40)))) (mOr (a5S (dF (c7 (bM 1 uZ (bC (aO 3) cB))))) (a5S (dF (c7 (dB (bG c) 2 (rN c) 1 (bC (aO 3) cB)))))))
  a3E
  mNx)
  (v4 c))
def vJ (c:Addr):MS:=
 (bZ (eV 1 (aE5 c))
  (bZ (aM2 (aQT (aO 0)) (gT 2 (yC (gN 2) (yC (gN 3) aHK)))
  (vP c))
  (uP c)))
def a3Z (c:Addr):MS:=
 (bZ (mIf (a5S (dF (aCO "list" (aO 0))))
  a3E
  mNx)
  (vJ c))
def uR (c:Addr):Fm:=mFn 3 (a3Z c)
def zN (c:Addr):MS:=
 (gQ (xN 1 [0] (aCW (c7 (vY c 0))) (gN 0) qJ (aIX c 1 (aO 0))))
def uW (c:Addr):Fm:=mFn 1 (zN c)
def a0F (c cF cW:Addr):MS:=
 (gQ (bM 3 gG (bC (aBH c cF 0) (bC (c7 (rR c cF 0)) (bC (tG c cF 0) cB)))))
def v6 (c cF cW:Addr):Fm:=mFn 0 (a0F c cF cW)
def xO (c cF cW:Addr):MS:=
 (gQ (bM 3 fC (bC (aBH c cF 0) (bC (c7 (uK c "order" 1 (v6 c cF cW) 0 cB)) (bC (tG c cF 0) cB)))))
def nA (c cF cW:Addr):Fm:=mFn 0 (xO c cF cW)
def gM (c cF cW:Addr):MS:=
 (mIf (aG5 (dF (a7Z (tG c cF 0))) (dF (c7 (bM 2 eF (bC (aO 1) (bC (tG c cF 0) cB))))))
  a3E
  mNx)
def cM (c cF cW:Addr):Fm:=mFn 0 (gM c cF cW)
def aG6 (c cF cW:Addr):MS:=
 (bZ (eV 2 (zW (bM 1 (uR cF) (bC (c7 (aRL (a5M c cF 0) (c7 (a4L (bN (aO 1) lO))))) cB))))
  (bZ (a0A (aHA (c7 (uK c "refuse_earlier" 2 (cM c cF cW) 0 (bC (mIx (aO 1) (mC (.int 1))) cB)))))
  (bZ (zE c cF 0 (mIx (aO 1) (mC (.int 1))))
  (bZ (eV 3 (cG (c7 (zW (uK c "papers" 1 (nA c cF cW) 0 cB)))))
  (bZ (eV 4 (cG (c7 (aLR c cF 2 (a2U cF) 0 (bC (aO 1) cB)))))
  (bZ (eV 5 (cG (c7 (zW (uK c "papers" 1 (nA c cF cW) 0 cB)))))
  (bZ (xX c cF aMU 0 (a9M 2))
  (bZ (xX c cF aKQ 0 (bM 2 fJ (bC (aO 3) (bC (aO 5) cB))))
  (bZ (xX c cF aM4 0 (bM 2 fJ (bC (aO 5) (bC (aO 3) cB))))
  (m9 (cJ c cF) (cG (aO 4))))))))))))
def aBM (c cF cW:Addr):Lm RS:=aCJ (cJ c cF) 4 (aG6 c cF cW)
def aGN (c cF cW:Addr):MS:=
 (bZ (a0A (aHA (c7 (uK c "refuse_earlier" 2 (cM c cF cW) 0 (bC (aO 1) cB)))))
  (bZ (eV 2 (cG (aS8 (dF (aN4 (tG c cF 0))) (aO 1) (tG c cF 0))))
  (bZ (eV 3 (cG (c7 (aEX (dZ cW) (aB1 cW) (aH0 cW jY (c7 (zW (aH2 c cF (uW cF) 0))) (aO 2)) 1))))
  (bZ (zE c cF 0 (aO 1))
  (bZ (eV 4 (cG (c7 (rR c cF 0))))
  (m9 (cJ c cF) (xN 1 [4] (aCW (aO 3)) (gN 0) qJ (yG (bN (mIx (aO 0) (mC (.int 0))) (bN (mIx (aO 1) (mIx (aO 0) (mC (.int 1)))) (bN (mIx (aO 1) (mIx (aO 0) (mC (.int 2)))) lO)))))))))))
def a2F (c cF cW:Addr):Lm RS:=aCJ (cJ c cF) 4 (aGN c cF cW)
def tQ (c cF cW:Addr):MS:=
 (gQ (aS6 (zL (a9C c cF 0)) (zL (a9O c cF 0))))
def iH (c cF cW:Addr):Fm:=mFn 0 (tQ c cF cW)
def pU:MS:=
 (gQ (cG (yG (bN (aH3 (aO 0) (aO 2)) (bN (aH3 (aO 1) (aO 2)) lO)))))
def qQ:MS:=
 (bZ (mIf (dF (mLt (aO 1) (mC (.int 0))))
  (eV 2 (cG (aN5 (mC (.int 0)) (aO 2))))
  mNx)
  pU)
def pO:MS:=
 (aRJ 2 3 (bN (aO 3) (bN (aSW (aO 2) (aO 3)) lO)))
def qD:MS:=
 (bZ (eV 2 (cG (aKD (aO 0))))
  (bZ (eV 3 (cG (aKD (aO 1))))
  (bZ (a0R (dF (mGt (aO 3) (mC (.int 0))))
  pO)
  qQ)))
def cR:Fm:=mFn 2 qD
def xM:MS:=
 (gQ (bM 2 cR (bC (aJ5 (zR (mIx (aO 0) (mC (.int 0))) (mIx (aO 1) (mC (.int 1)))) (zR (zR (aO 2) (mIx (aO 1) (mC (.int 0)))) (mIx (aO 0) (mC (.int 1))))) (bC (zR (mIx (aO 0) (mC (.int 1))) (mIx (aO 1) (mC (.int 1)))) cB))))
def fY:Fm:=mFn 0 xM
def tZ:MS:=
 (gQ (bM 2 cR (bC (zR (mIx (aO 0) (mC (.int 0))) (mIx (aO 1) (mC (.int 0)))) (bC (zR (mIx (aO 0) (mC (.int 1))) (mIx (aO 1) (mC (.int 1)))) cB))))
def iG:Fm:=mFn 0 tZ
def xF:MS:=
 (gQ (cG (mLt (zR (mIx (aO 0) (mC (.int 0))) (mIx (aO 1) (mC (.int 1)))) (zR (mIx (aO 1) (mC (.int 0))) (mIx (aO 0) (mC (.int 1)))))))
def kE:Fm:=mFn 0 xF
def t7:MS:=
 (m9 penF (bM 2 cR (bC (aN5 (c7 (dB penF 2 fL 0 (bC (mC (.int 25)) cB))) (mC (.int 12))) (bC (aJ5 (mC (.int 1)) (c7 (dB penF 2 fL 0 (bC (mC (.int 12)) cB)))) cB))))
def tV:MS:=
 (bZ (mIf (dF (mEq (aO 1) (mC (.int 0))))
  (m9 penF (cG (yG (bN (aN5 (c7 (dB penF 2 fL 0 (bC (mC (.int 7)) cB))) (mC (.int 3))) (bN (mC (.int 1)) lO)))))
  mNx)
  t7)
def lC:Lm Nat:=aCJ penF 0 tV
def uH:MS:=
 (gQ (bM 3 fY (bC (mIx (aO 0) (mC (.int 0))) (bC (c7 (bM 2 iG (bC (mIx (aO 0) (mC (.int 1))) (bC (aO 1) cB)))) (bC (mC (.int 1)) cB)))))
def fU:Fm:=mFn 0 uH
def uQ:MS:=
 (m9 penF (cG (yG (bN (mC (.str "turn")) (bN (aO 3) (bN (aO 11) (bN (aO 8) lO)))))))
def oE:MS:=
 (bZ (eV 11 (cG (mIx (aO 6) (c7 (dB penF 2 fL 0 (bC (aAO (aO 6)) cB))))))
  (bZ (mIf (dF (mEq (aO 5) (mC (.int 3))))
  (m9 penF (cG (yG (bN (mC (.str "leave")) (bN (aO 3) (bN (aO 11) lO))))))
  mNx)
  uQ))
def o9:MS:=
 (bZ (mIf (mOr (dF (mEq (aO 6) (c7 (a4L lO)))) (aG5 (dF (mLt (aO 5) (mC (.int 3)))) (dF (mLt (aAO (aO 6)) (mC (.int 8))))))
  (m9 penF (cG (yG (bN (mC (.str "join")) (bN (aO 3) (bN (aO 7) (bN (aO 8) lO)))))))
  mNx)
  oE)
def nR:MS:=
 (eV 8 (cG (mIx (c7 (a4L (bN (aO 8) (bN (mIx (aO 9) (mC (.int 1))) lO)))) (c7 (dB penF 2 fL 0 (bC (mC (.int 2)) cB))))))
def xK:MS:=
 (bZ (eV 5 (cG (c7 (dB penF 2 fL 0 (bC (mC (.int 6)) cB)))))
  (bZ (eV 6 (cG (c7 (a5L (aO 1)))))
  (bZ (eV 7 (cG (c7 (dB penF 2 lC 0 (bC (aO 4) cB)))))
  (bZ (eV 8 (cG (c7 (dB penF 2 lC 0 (bC (aO 4) cB)))))
  (bZ (mIf (aG5 (dF (mNe (aO 6) (c7 (a4L lO)))) (dF (mEq (c7 (dB penF 2 fL 0 (bC (mC (.int 3)) cB))) (mC (.int 0)))))
  (bZ (eV 9 (cG (pM (aO 1) (mIx (aO 6) (c7 (dB penF 2 fL 0 (bC (aAO (aO 6)) cB)))))))
  (bZ (eV 10 (cG (c7 (bM 2 fU (bC (aO 9) (bC (aO 3) cB))))))
  (bZ (mIf (aG5 (dF (mLt (aKD (mIx (aO 10) (mC (.int 0)))) (mC (.int 1000000000)))) (dF (mLt (mIx (aO 10) (mC (.int 1))) (mC (.int 13)))))
  (eV 7 (cG (aO 10)))
  mNx)
  nR)))
  mNx)
  o9)))))
def rA:Lm Nat:=aCJ penF 7 xK
def jV:MS:=
 (gQ (a9M 3))
def wU:MS:=
 (bZ (eV 3 (a8V (aO 0)))
  (bZ (mIf (dF (mEq (mIx (aO 1) (mC (.int 0))) (mC (.str "join"))))
  (aBC 3 (yG (bN (c7 (bM 3 fY (bC (mIx (aO 1) (mC (.int 2))) (bC (c7 (bM 2 iG (bC (mIx (aO 1) (mC (.int 3))) (bC (mIx (aO 1) (mC (.int 1))) cB)))) (bC (aN0 (mC (.int 1))) cB))))) (bN (mIx (aO 1) (mC (.int 3))) lO))) (aO 2))
  (mIf (dF (mEq (mIx (aO 1) (mC (.int 0))) (mC (.str "leave"))))
  (a0A (aEJ 3 (mIx (aO 1) (mC (.int 2)))))
  (bZ (eV 4 (cG (c7 (bM 2 fU (bC (aED 3 (mIx (aO 1) (mC (.int 2)))) (bC (mIx (aO 1) (mC (.int 1))) cB))))))
  (aBC 3 (yG (bN (c7 (bM 3 fY (bC (aO 4) (bC (c7 (bM 2 iG (bC (mIx (aO 1) (mC (.int 3))) (bC (mIx (aO 1) (mC (.int 1))) cB)))) (bC (aN0 (mC (.int 1))) cB))))) (bN (mIx (aO 1) (mC (.int 3))) lO))) (mIx (aO 1) (mC (.int 2)))))))
  jV))
def mQ:Fm:=mFn 2 wU
def t6:MS:=
 (gQ (cG (mLt (aO 1) (aO 2))))
def sU:MS:=
 (bZ (mIf (dF (mNe (mIx (pM (aO 0) (aO 1)) (mC (.int 1))) (mIx (pM (aO 0) (aO 2)) (mC (.int 1)))))
  (gQ (bM 2 kE (bC (mIx (pM (aO 0) (aO 2)) (mC (.int 1))) (bC (mIx (pM (aO 0) (aO 1)) (mC (.int 1))) cB))))
  mNx)
  t6)
def uD:MS:=
 (bZ (eV 4 (cG (c7 (bM 2 fU (bC (pM (aO 0) (aO 1)) (bC (aO 3) cB))))))
  (bZ (eV 5 (cG (c7 (bM 2 fU (bC (pM (aO 0) (aO 2)) (bC (aO 3) cB))))))
  (bZ (mIf (dF (mNe (aO 4) (aO 5)))
  (gQ (bM 2 kE (bC (aO 5) (bC (aO 4) cB))))
  mNx)
  sU)))
def oW:Fm:=mFn 2 uD
def vW:MS:=
 (bZ (eV 5 (cG (c7 (bM 3 fY (bC (mIx (pM (aO 0) (aO 2)) (mC (.int 0))) (bC (mIx (pM (aO 0) (aO 1)) (mC (.int 0))) (bC (aN0 (mC (.int 1))) cB)))))))
  (bZ (eV 6 (cG (c7 (bM 2 cR (bC (zR (mIx (aO 5) (mC (.int 0))) (mIx (aO 4) (mC (.int 1)))) (bC (zR (mIx (aO 5) (mC (.int 1))) (mIx (aO 4) (mC (.int 0)))) cB))))))
  (gQ (cG (mIx (c7 (a4L (bN (mC .none) (bN (aO 6) lO)))) (aJJ (c7 (bM 2 kE (bC (aO 3) (bC (aO 6) cB))))))))))
def wY:MS:=
 (bZ (eV 4 (cG (c7 (bM 3 fY (bC (mIx (pM (aO 0) (aO 1)) (mC (.int 1))) (bC (mIx (pM (aO 0) (aO 2)) (mC (.int 1))) (bC (aN0 (mC (.int 1))) cB)))))))
  (bZ (mIf (dF (mEq (mIx (aO 4) (mC (.int 0))) (mC (.int 0))))
  (gQ (cG (mC .none)))
  mNx)
  vW))
def rG:Fm:=mFn 3 wY
def qK:MS:=
 (aCP 2 (gQ (xN 2 [0,1] (aRB (aO 2) (c7 (aQS (aO 2) (pSo (mC (.int 1))) pNo))) (gT 2 (yC (gN 0) (yC (gN 1) aHK))) qJ (yG (bN (aO 0) (bN (aO 1) (bN (c7 (bM 4 rG (bC (aO 2) (bC (aO 0) (bC (aO 1) (bC (aO 3) cB)))))) lO)))))))
def qC:MS:=
 (wN 2 (aHA (aAO (c7 (xN 1 [0,3,1] (aCW (aO 2)) (gN 0) (dF (c7 (bM 4 oW (bC (aO 1) (bC (aO 0) (bC (aO 2) (bC (aO 3) cB))))))) (aO 0))))) (aO 3))
def pW:MS:=
 (bZ (eV 2 (a4L lO))
  (bZ (aM2 (aCW (c7 (a5L (aO 0)))) (gN 3)
  qC)
  qK))
def jC:Fm:=mFn 3 pW
def pG (c cF cW:Addr):MS:=
 (m9 (cJ c cF) (cG (mEq (c7 (aB5 (uK c "changed" 1 (iH c cF cW) 0 cB))) (aO 1))))
def pK (c cF cW:Addr):MS:=
 (wV 3 (mC .none))
def oZ (c cF cW:Addr):MS:=
 (bZ (mIf (a7O (mOr (a5S (dF (aCO "list" (aO 3)))) (a5S (dF (aSD (c7 (xN 1 [] (aCW (aO 3)) (gN 0) qJ (aCO "tuple" (aO 0)))))))))
  (m9 (cJ c cF) (cG (mC (.bool false))))
  mNx)
  (pK c cF cW))
def pF (c cF cW:Addr):MS:=
 (bZ (aL2 2 3
  (oZ c cF cW))
  (pG c cF cW))
def u5 (c cF cW:Addr):MS:=
 (bZ (eV 2 (aB5 (uK c "changed" 1 (iH c cF cW) 0 cB)))
  (bZ (mIf (a7O (mOr (a5S (dF (aCO "tuple" (aO 2)))) (mOr (dF (mNe (aAO (aO 2)) (mC (.int 2)))) (dF (mNe (aO 2) (aO 1))))))
  (m9 (cJ c cF) (cG (mC (.bool false))))
  mNx)
  (pF c cF cW)))
def cV (c cF cW:Addr):Lm RS:=aCJ (cJ c cF) 3 (u5 c cF cW)
def a3J (c cF cW:Addr):MS:=
 (bZ (a0A (c7 (jF (cJ c cF) 2 (a2F c cF cW) 5 (mC (.int 0)) (bC (yG (bN (mC (.int 1000)) (bN (mC (.int 1)) lO))) cB))))
  (gQ (cG (yQ (c7 (jF (cJ c cF) 2 (cV c cF cW) 5 (mC (.int 0)) (bC (aO 8) cB))) (c7 (jF (cJ c cF) 2 (cV c cF cW) 5 (mC (.int 1)) (bC (yG (bN (c7 (a4L lO)) (bN (c7 (a4L lO)) lO))) cB)))))))
def rJ (c cF cW:Addr):MS:=
 (bZ (eV 11 (cG (c7 (dB penF 5 rA 1 (bC (aO 6) (bC (aO 7) (bC (aO 10) (bC (aO 2) cB))))))))
  (bZ (eV 12 (cG (c7 (bM 2 jC (bC (aO 6) (bC (aO 10) cB))))))
  (bZ (eV 6 (cG (c7 (bM 3 mQ (bC (aO 6) (bC (aO 11) (bC (aO 7) cB)))))))
  (bZ (eV 7 (cG (aJ5 (aO 7) (aJJ (mEq (mIx (aO 11) (mC (.int 0))) (mC (.str "join")))))))
  (bZ (eV 13 (cG (c7 (bM 2 jC (bC (aO 6) (bC (aO 10) cB))))))
  (bZ (a0A (c7 (jF (cJ c cF) 2 (aBM c cF cW) 5 (mC (.int 0)) (bC (aO 11) cB))))
  (eV 8 (cG (yG (bN (c7 (xN 1 [13] (aCW (aO 12)) (gN 0) (dF (mIn true (aO 0) (aO 1))) (aO 0))) (bN (c7 (xN 1 [12] (aCW (aO 13)) (gN 0) (dF (mIn true (aO 0) (aO 1))) (aO 0))) lO)))))))))))
def a2X (c cF cW:Addr):MS:=
 (bZ (eV 4 (cG (aJ5 (aO 4) (mIx (c7 (a4L (bN (mC (.int 0)) (bN (mC (.int 1)) (bN (mC (.int 2)) (bN (mC (.int 1)) (bN (mC (.int 0)) (bN (mC (.int 5)) lO)))))))) (c7 (dB penF 2 fL 1 (bC (mC (.int 6)) cB)))))))
  (bZ (eV 10 (cG (c7 (bM 2 cR (bC (aO 4) (bC (aO 3) cB))))))
  (bZ (mIf (dF (mEq (c7 (dB penF 2 fL 1 (bC (mC (.int 3)) cB))) (mC (.int 0))))
  (bZ (a0A (c7 (jF (cJ c cF) 2 (a2F c cF cW) 5 (mC (.int 0)) (bC (aO 10) cB))))
  (bZ (a0A (c7 (jF (cJ c cF) 2 (a2F c cF cW) 5 (mC (.int 1)) (bC (aO 10) cB))))
  (mIf (a5S (dF (c7 (jF (cJ c cF) 2 (cV c cF cW) 5 (mC (.int 0)) (bC (aO 8) cB)))))
  (gQ (cG (mC (.bool false))))
  mNx)))
  mNx)
  (rJ c cF cW))))
def a3F (c cF cW:Addr):MS:=
 (bZ (mIf (mOr (a5S (dF (c7 (jF (cJ c cF) 2 (cV c cF cW) 5 (mC (.int 0)) (bC (aO 8) cB))))) (a5S (dF (c7 (jF (cJ c cF) 2 (cV c cF cW) 5 (mC (.int 1)) (bC (yG (bN (c7 (a4L lO)) (bN (c7 (a4L lO)) lO))) cB))))))
  (gQ (cG (mC (.bool false))))
  mNx)
  (a2X c cF cW))
def a07 (c cF cW:Addr):MS:=
 (bZ (eV 2 (cG (aU6 (c7 (dB penF 2 fL 1 (bC (mC (.int 3)) cB))) (mC (.int 2)))))
  (bZ (eV 3 (cG (mIx (c7 (a4L (bN (mC (.int 1)) (bN (mC (.int 1)) (bN (aJ5 (mC (.int 1)) (c7 (dB penF 2 fL 1 (bC (mC (.int 12)) cB)))) lO))))) (c7 (dB penF 2 fL 1 (bC (mC (.int 3)) cB))))))
  (bZ (eV 4 (cG (aN5 (c7 (dB penF 2 fL 1 (bC (mC (.int 41)) cB))) (mC (.int 20)))))
  (bZ (eV 5 (aLT (cJ c cF) (aBW c cF) (aBW c cF)))
  (bZ (eV 6 (cG aKH))
  (bZ (eV 7 (cG (mC (.int 0))))
  (bZ (eV 8 (cG (yG (bN (c7 (a4L lO)) (bN (c7 (a4L lO)) lO)))))
  (bZ (aM2 (aMS (bN (c7 (dB penF 2 fL 1 (bC (mIx (c7 (a4L (bN (mC (.int 11)) (bN (mC (.int 11)) (bN (mC (.int 11)) (bN (mC (.int 11)) (bN (mC (.int 11)) (bN (mC (.int 11)) (bN (mC (.int 11)) (bN (mC (.int 21)) lO)))))))))) (c7 (dB penF 2 fL 1 (bC (mC (.int 8)) cB)))) cB))) lO)) (gN 9)
  (a3F c cF cW))
  (a3J c cF cW)))))))))
section
variable (P0:Addr→Hp→Prop)(P:Program)(w:World)(K:Fg)(mg:Mg)(base:Heap)
abbrev cT:Prop:=Cal P w K mg base 1 "greatest_divisor" ["one", "other"] (spM P0 2 cU)
abbrev iK:Prop:=Cal P w K mg base 1 "is_whole" ["thing"] (spM P0 1 eZ)
abbrev dN:Prop:=Cal P w K mg base 2 "number_of" ["top", "bottom"] (spM P0 2 fV)
abbrev a4F:Prop:=Cal P w K mg base 3 "sum_of" ["a", "b"] (spM P0 2 z7)
abbrev iY:Prop:=Cal P w K mg base 3 "product_of" ["a", "b"] (spM P0 2 j8)
abbrev eQ:Prop:=Cal P w K mg base 3 "difference_of" ["a", "b"] (spM P0 2 cZ)
abbrev nY:Prop:=Cal P w K mg base 3 "quotient_of" ["a", "b"] (spM P0 2 jT)
abbrev rK:Prop:=Cal P w K mg base 4 "place_at" ["line", "time"] (spM P0 2 mR)
abbrev dU:Prop:=Cal P w K mg base 1 "is_less" ["a", "b"] (spM P0 2 eF)
abbrev fK:Prop:=Cal P w K mg base 2 "stands_ahead" ["one", "other"] (spM P0 2 fM)
abbrev mY:Prop:=Cal P w K mg base 5 "standing" ["lines", "runner", "time"] (spM P0 3 kI)
abbrev a08:Prop:=Cal P w K mg base 4 "meeting" ["one", "other"] (spM P0 2 uL)
abbrev jW:Prop:=Cal P w K mg base 6 "order_among" ["lines", "runners", "time"] (spM P0 3 gG)
abbrev nM:Prop:=Cal P w K mg base 5 "next_change" ["lines", "one", "other", "time"] (spM P0 4 jQ)
abbrev wL:Prop:=Cal P w K mg base 6 "is_ahead" ["lines", "one", "other", "time"] (spM P0 4 rT)
abbrev pY:Prop:=Cal P w K mg base 1 "neighbours" ["order"] (spM P0 1 lU)
abbrev a1H:Prop:=Cal P w K mg base 7 "till_of" ["lines", "one", "other", "time"] (spM P0 4 uY)
abbrev iV:Prop:=Cal P w K mg base 8 "papers_among" ["lines", "order", "time"] (spM P0 3 fC)
abbrev kO:Prop:=Cal P w K mg base 2 "first_to_fail" ["papers"] (spM P0 1 gY)
abbrev a3I:Prop:=Cal P w K mg base 7 "order_at" ["lines", "time"] (spM P0 2 jY)
abbrev a03:Prop:=Cal P w K mg base 9 "fail_next" ["lines", "order", "time", "limit"] (aN6 P0 lstF 1 4 nW)
abbrev sO:Prop:=Cal P w K mg base 4 "line_through" ["time", "place", "slope"] (spM P0 3 fO)
abbrev a0Z:Prop:=Cal P w K mg base 2 "is_number" ["thing"] (spM P0 1 nZ)
abbrev pI:Prop:=Cal P w K mg base 3 "is_deed_number" ["thing"] (spM P0 1 cD)
abbrev a7X:Prop:=Cal P w K mg base 4 "is_deed" ["thing"] (spM P0 1 uZ)
abbrev aIV (cF:Addr):Prop:=Cal P w K mg base 6 "log_of" ["thing"] (spM P0 1 (uR cF))
abbrev t8:Prop:=Cal P w K mg base 1 "those_not_in" ["papers", "others"] (spM P0 2 fJ)
abbrev cH:Prop:=Cal P w K mg base 1 "_law_lowest" ["_law_top", "_law_bottom"] (spM P0 2 cR)
abbrev iM:Prop:=Cal P w K mg base 1 "_law_take" ["_law_pen_here", "_law_many"] (spL P0 penF 2 fL)
abbrev iQ:Prop:=Cal P w K mg base 2 "_law_plus" ["_law_a", "_law_b", "_law_sign"] (spM P0 3 fY)
abbrev lW:Prop:=Cal P w K mg base 2 "_law_times" ["_law_a", "_law_b"] (spM P0 2 iG)
abbrev gC:Prop:=Cal P w K mg base 3 "_law_place" ["_law_line", "_law_time"] (spM P0 2 fU)
abbrev pX:Prop:=Cal P w K mg base 2 "_law_small" ["_law_pen_here", "_law_kind"] (spL P0 penF 2 lC)
abbrev kY:Prop:=Cal P w K mg base 1 "_law_less" ["_law_a", "_law_b"] (spM P0 2 kE)
abbrev uF:Prop:=Cal P w K mg base 3 "_law_till" ["_law_lines", "_law_one", "_law_other", "_law_time"] (spM P0 4 rG)
abbrev q9:Prop:=Cal P w K mg base 4 "_law_ahead" ["_law_lines", "_law_one", "_law_other", "_law_time"] (spM P0 4 oW)
abbrev vL:Prop:=Cal P w K mg base 5 "_law_papers" ["_law_lines", "_law_time"] (spM P0 2 jC)
abbrev aAC:Prop:=Cal P w K mg base 4 "_law_done" ["_law_lines", "_law_deed_here", "_law_joined"] (spM P0 3 mQ)
abbrev a04:Prop:=Cal P w K mg base 4 "_law_deed" ["_law_pen_here", "_law_lines", "_law_joined", "_law_time", "_law_kind"] (spL P0 penF 5 rA)
abbrev a7Y (c cF cW:Addr):Prop:=Cal P w K mg base 2 "_law_right" ["_law_race", "_law_due"] (spL P0 (cJ c cF) 2 (cV c cF cW))
end
theorem scM {N ps:List Str}{sc:Scope}(a:sc.kind=.function:=by rfl)(b:sc.isCoroutine=false:=by rfl)(c:sc.isGenerator=false:=by rfl)(d:N.Nodup:=by decide +kernel)(e:N.take ps.length=ps:=by rfl)(f:∀ x∈ps,sc.names.lookup x=some .local∨sc.names.lookup x=some .cell:=by decide +kernel)(g:∀ y∈sc.names,y.2≠.free:=by decide +kernel):FnScope N ps sc:=⟨a,b,c,d,e,f,g⟩
set_option hygiene false in
local macro_rules|`(tactic| walk_at "lc")=>`(tactic| first|exact Or.inl rfl|exact Or.inr rfl)
section
variable {P0:Addr→Hp→Prop}{P:Program}{w:World}{K:Fg}{mg:Mg}{base:Heap}{f:Addr}{fd:FuncData}
abbrev rE:Stmt:=top 6
theorem a9R:FnScope ["thing"] ["thing"] (aN rE):=scM
theorem aA1  (F:Fun K "is_whole" "is_whole" rE f fd)(B:Bl K mg)(Kt:Kit K) :
  FnOk P w K mg base CX0 1 f fd ["thing"] (spM P0 1 eZ):=
 F.okV a9R rfl rfl fun cdv A outer s H E hr=>
 have hu:=hr.units
 ⟨_,(aL (b8 (sZ (bJ jN rfl B.isinstance_ boot_isinstance (aA (pv 0) (aA (oX (v:=.ty "int") rfl B.int_ boot_int rfl) aG))) (a1I (aNH (bJ jN rfl B.isinstance_ boot_isinstance (aA (pv 0) (aA (oX (v:=.ty "bool") rfl B.bool_ boot_bool rfl) aG)))))))),
  ((bK (aW (sE (vD Kt (by decide) aB) (aQJ (vD Kt (by decide) aB))))):VS P0 _ xH)⟩
abbrev dX:Stmt:=top 7
theorem sc_greatest_divisor:FnScope ["one", "other", "divisor", "rest", "left_over"] ["one", "other"] (aN dX):=scM
theorem tL  (F:Fun K "greatest_divisor" "greatest_divisor" dX f fd)(B:Bl K mg)(Kt:Kit K) :
  FnOk P w K mg base CX0 1 f fd ["one", "other"] (spM P0 2 cU):=
 F.okV sc_greatest_divisor rfl rfl fun cdv A outer s H E hr=>
 have hu:=hr.units
 ⟨_,(aD (bA (i:=2) sc_greatest_divisor.nd rfl (by walk_at "lc") (bJ qU rfl B.abs_ boot_abs (aA (pv 0) aG)))
   (aD (bA (i:=3) sc_greatest_divisor.nd rfl (by walk_at "lc") (bJ qU rfl B.abs_ boot_abs (aA (pv 1) aG)))
   (aD (zB PassesOwn.never (bB (vV hu) (pv 3) aC (bH _)) (aD (bA (i:=4) sc_greatest_divisor.nd rfl (by walk_at "lc") (bQ pP (pv 2) (pv 3)))
   (aD (bA (i:=2) sc_greatest_divisor.nd rfl (by walk_at "lc") (pv 3))
   (aL (bA (i:=3) sc_greatest_divisor.nd rfl (by walk_at "lc") (pv 4))))))
   (aL (b8 (pv 2)))))),
  ((aQ (bD (aW (a2I aB)))
   (aQ (bD (aW (a2I aB)))
   (aQ (zG (bF (a3Y aB aF)) (aQ (bD (aW (aKE aB aB)))
   (aQ (bD (aW aB))
   (bD (aW aB)))))
   (bK (aW aB))))):VS P0 _ iB)⟩
abbrev nP:Stmt:=top 9
theorem sc_number_of:FnScope ["top", "bottom", "divisor"] ["top", "bottom"] (aN nP):=scM
theorem a5W  (F:Fun K "number_of" "number_of" nP f fd)(B:Bl K mg)(Kt:Kit K)
  (c_greatest_divisor:cT P0 P w K mg base)
  (c_is_whole:iK P0 P w K mg base) :
  FnOk P w K mg base CX0 2 f fd ["top", "bottom"] (spM P0 2 fV):=
 F.okV sc_number_of rfl rfl fun cdv A outer s H E hr=>
 have hu:=hr.units
 ⟨_,(aD (cP (PW.pt (v9 (j6 (dG (aJ c_is_whole hr rfl (aA (pv 0) aG)))) (v9 (j6 (dG (aJ c_is_whole hr rfl (aA (pv 1) aG)))) (tD (bB (dR hu) (pv 1) aC (bH _)))))) (aL vO) bL)
   (aD (bA (i:=2) sc_number_of.nd rfl (by walk_at "lc") (aJ c_greatest_divisor hr rfl (aA (pv 0) (aA (pv 1) aG))))
   (aD (cP (bB vG (pv 1) aC (bH _)) (aL (bA (i:=2) sc_number_of.nd rfl (by walk_at "lc") (aHC a68 (pv 2)))) bL)
   (aL (b8 (dY (aA (bQ z8 (pv 0) (pv 2)) (aA (bQ z8 (pv 1) (pv 2)) aG)))))))),
  ((aQ (cX (lX (eO (jB (aP (aX (aH aB aR))))) (lX (eO (jB (aP (aX (aH aB aR))))) (bF (jH aB aF)))) vM dM)
   (aQ (bD (aW (aP (aX (aH aB (aH aB aR))))))
   (aQ (cX (bF (wQ aB aF)) (bD (aW (a72 aB))) dM)
   (bK (aW (eU (aZ (a5H aB aB) (aZ (a5H aB aB) cA)))))))):VS P0 _ uG)⟩
abbrev z9:Stmt:=top 10
theorem aHJ:FnScope ["a", "b"] ["a", "b"] (aN z9):=scM
theorem aGZ  (F:Fun K "sum_of" "sum_of" z9 f fd)(B:Bl K mg)(Kt:Kit K)
  (c_number_of:dN P0 P w K mg base) :
  FnOk P w K mg base CX0 3 f fd ["a", "b"] (spM P0 2 z7):=
 F.okV aHJ rfl rfl fun cdv A outer s H E hr=>
 have hu:=hr.units
 ⟨_,(aL (b8 (aJ c_number_of hr rfl (aA (bQ j7 (bQ bY (aU aK (pv 0) aC (fun _ _=>rfl)) (aU aK (pv 1) aC (fun _ _=>rfl))) (bQ bY (aU aK (pv 1) aC (fun _ _=>rfl)) (aU aK (pv 0) aC (fun _ _=>rfl)))) (aA (bQ bY (aU aK (pv 0) aC (fun _ _=>rfl)) (aU aK (pv 1) aC (fun _ _=>rfl))) aG))))),
  ((bK (aX (aH (xY (f9 (aY aB aF) (aY aB aF)) (f9 (aY aB aF) (aY aB aF))) (aH (f9 (aY aB aF) (aY aB aF)) aR)))):VS P0 _ a4Q)⟩
abbrev gO:Stmt:=top 11
theorem yK:FnScope ["a", "b"] ["a", "b"] (aN gO):=scM
theorem yN  (F:Fun K "difference_of" "difference_of" gO f fd)(B:Bl K mg)(Kt:Kit K)
  (c_number_of:dN P0 P w K mg base) :
  FnOk P w K mg base CX0 3 f fd ["a", "b"] (spM P0 2 cZ):=
 F.okV yK rfl rfl fun cdv A outer s H E hr=>
 have hu:=hr.units
 ⟨_,(aL (b8 (aJ c_number_of hr rfl (aA (bQ a2L (bQ bY (aU aK (pv 0) aC (fun _ _=>rfl)) (aU aK (pv 1) aC (fun _ _=>rfl))) (bQ bY (aU aK (pv 1) aC (fun _ _=>rfl)) (aU aK (pv 0) aC (fun _ _=>rfl)))) (aA (bQ bY (aU aK (pv 0) aC (fun _ _=>rfl)) (aU aK (pv 1) aC (fun _ _=>rfl))) aG))))),
  ((bK (aX (aH (a74 (f9 (aY aB aF) (aY aB aF)) (f9 (aY aB aF) (aY aB aF))) (aH (f9 (aY aB aF) (aY aB aF)) aR)))):VS P0 _ lH)⟩
abbrev lM:Stmt:=top 12
theorem a3Q:FnScope ["a", "b"] ["a", "b"] (aN lM):=scM
theorem a5G  (F:Fun K "product_of" "product_of" lM f fd)(B:Bl K mg)(Kt:Kit K)
  (c_number_of:dN P0 P w K mg base) :
  FnOk P w K mg base CX0 3 f fd ["a", "b"] (spM P0 2 j8):=
 F.okV a3Q rfl rfl fun cdv A outer s H E hr=>
 have hu:=hr.units
 ⟨_,(aL (b8 (aJ c_number_of hr rfl (aA (bQ bY (aU aK (pv 0) aC (fun _ _=>rfl)) (aU aK (pv 1) aC (fun _ _=>rfl))) (aA (bQ bY (aU aK (pv 0) aC (fun _ _=>rfl)) (aU aK (pv 1) aC (fun _ _=>rfl))) aG))))),
  ((bK (aX (aH (f9 (aY aB aF) (aY aB aF)) (aH (f9 (aY aB aF) (aY aB aF)) aR)))):VS P0 _ q8)⟩
abbrev jP:Stmt:=top 13
theorem a1S:FnScope ["a", "b"] ["a", "b"] (aN jP):=scM
theorem a1R  (F:Fun K "quotient_of" "quotient_of" jP f fd)(B:Bl K mg)(Kt:Kit K)
  (c_number_of:dN P0 P w K mg base) :
  FnOk P w K mg base CX0 3 f fd ["a", "b"] (spM P0 2 jT):=
 F.okV a1S rfl rfl fun cdv A outer s H E hr=>
 have hu:=hr.units
 ⟨_,(aL (b8 (aJ c_number_of hr rfl (aA (bQ bY (aU aK (pv 0) aC (fun _ _=>rfl)) (aU aK (pv 1) aC (fun _ _=>rfl))) (aA (bQ bY (aU aK (pv 0) aC (fun _ _=>rfl)) (aU aK (pv 1) aC (fun _ _=>rfl))) aG))))),
  ((bK (aX (aH (f9 (aY aB aF) (aY aB aF)) (aH (f9 (aY aB aF) (aY aB aF)) aR)))):VS P0 _ nO)⟩
abbrev uN:Stmt:=top 14
theorem aCL:FnScope ["a", "b"] ["a", "b"] (aN uN):=scM
theorem aD2  (F:Fun K "is_less" "is_less" uN f fd)(B:Bl K mg)(Kt:Kit K) :
  FnOk P w K mg base CX0 1 f fd ["a", "b"] (spM P0 2 eF):=
 F.okV aCL rfl rfl fun cdv A outer s H E hr=>
 have hu:=hr.units
 ⟨_,(aL (b8 (gU vG (bQ bY (aU aK (pv 0) aC (fun _ _=>rfl)) (aU aK (pv 1) aC (fun _ _=>rfl))) (bQ bY (aU aK (pv 1) aC (fun _ _=>rfl)) (aU aK (pv 0) aC (fun _ _=>rfl))) (bH _)))),
  ((bK (aW (wQ (f9 (aY aB aF) (aY aB aF)) (f9 (aY aB aF) (aY aB aF))))):VS P0 _ a1D)⟩
abbrev rP:Stmt:=top 16
theorem a8W:FnScope ["line", "time"] ["line", "time"] (aN rP):=scM
theorem a90  (F:Fun K "place_at" "place_at" rP f fd)(B:Bl K mg)(Kt:Kit K)
  (c_sum_of:a4F P0 P w K mg base)
  (c_product_of:iY P0 P w K mg base) :
  FnOk P w K mg base CX0 4 f fd ["line", "time"] (spM P0 2 mR):=
 F.okV a8W rfl rfl fun cdv A outer s H E hr=>
 have hu:=hr.units
 ⟨_,(aL (b8 (aJ c_sum_of hr rfl (aA (aU aK (pv 0) aC (fun _ _=>rfl)) (aA (aJ c_product_of hr rfl (aA (aU aK (pv 0) aC (fun _ _=>rfl)) (aA (pv 1) aG))) aG))))),
  ((bK (aX (aH (aY aB aF) (aH (aP (aX (aH (aY aB aF) (aH aB aR)))) aR)))):VS P0 _ wC)⟩
abbrev iU:Stmt:=top 17
theorem a0C:FnScope ["time", "place", "slope"] ["time", "place", "slope"] (aN iU):=scM
theorem a1L  (F:Fun K "line_through" "line_through" iU f fd)(B:Bl K mg)(Kt:Kit K)
  (c_difference_of:eQ P0 P w K mg base)
  (c_product_of:iY P0 P w K mg base) :
  FnOk P w K mg base CX0 4 f fd ["time", "place", "slope"] (spM P0 3 fO):=
 F.okV a0C rfl rfl fun cdv A outer s H E hr=>
 have hu:=hr.units
 ⟨_,(aL (b8 (dY (aA (aJ c_difference_of hr rfl (aA (pv 1) (aA (aJ c_product_of hr rfl (aA (pv 2) (aA (pv 0) aG))) aG))) (aA (pv 2) aG))))),
  ((bK (aW (eU (aZ (aP (aX (aH aB (aH (aP (aX (aH aB (aH aB aR)))) aR)))) (aZ aB cA))))):VS P0 _ mD)⟩
abbrev v7:Stmt:=top 18
theorem sc_meeting:FnScope ["one", "other", "gap", "closing"] ["one", "other"] (aN v7):=scM
theorem aDL  (F:Fun K "meeting" "meeting" v7 f fd)(B:Bl K mg)(Kt:Kit K)
  (c_quotient_of:nY P0 P w K mg base)
  (c_difference_of:eQ P0 P w K mg base) :
  FnOk P w K mg base CX0 4 f fd ["one", "other"] (spM P0 2 uL):=
 F.okV sc_meeting rfl rfl fun cdv A outer s H E hr=>
 have hu:=hr.units
 ⟨_,(aD (cP (bB (dR hu) (aU aK (pv 0) aC (fun _ _=>rfl)) (aU aK (pv 1) aC (fun _ _=>rfl)) (bH _)) (aL (b8 (aAX (bB (dR hu) (aU aK (pv 0) aC (fun _ _=>rfl)) (aU aK (pv 1) aC (fun _ _=>rfl)) (bH _)) (dY (aA jM aG)) (dY (aA jM aG))))) bL)
   (aD (bA (i:=2) sc_meeting.nd rfl (by walk_at "lc") (aJ c_difference_of hr rfl (aA (aU aK (pv 1) aC (fun _ _=>rfl)) (aA (aU aK (pv 0) aC (fun _ _=>rfl)) aG))))
   (aD (bA (i:=3) sc_meeting.nd rfl (by walk_at "lc") (aJ c_difference_of hr rfl (aA (aU aK (pv 0) aC (fun _ _=>rfl)) (aA (aU aK (pv 1) aC (fun _ _=>rfl)) aG))))
   (aL (b8 (dY (aA jM (aA (aJ c_quotient_of hr rfl (aA (pv 2) (aA (pv 3) aG))) aG)))))))),
  ((aQ (cX (bF (jH (aY aB aF) (aY aB aF))) (bK (aPS (bF (jH (aY aB aF) (aY aB aF))) (aW (eU (aZ jL cA))) (aW (eU (aZ jL cA))))) dM)
   (aQ (bD (aW (aP (aX (aH (aY aB aF) (aH (aY aB aF) aR))))))
   (aQ (bD (aW (aP (aX (aH (aY aB aF) (aH (aY aB aF) aR))))))
   (bK (aW (eU (aZ jL (aZ (aP (aX (aH aB (aH aB aR)))) cA)))))))):VS P0 _ a0U)⟩
abbrev rC:Stmt:=top 19
theorem a8P:FnScope ["lines", "runner", "time"] ["lines", "runner", "time"] (aN rC):=scM
theorem a9H  (F:Fun K "standing" "standing" rC f fd)(B:Bl K mg)(Kt:Kit K)
  (c_place_at:rK P0 P w K mg base) :
  FnOk P w K mg base CX0 5 f fd ["lines", "runner", "time"] (spM P0 3 kI):=
 F.okV a8P rfl rfl fun cdv A outer s H E hr=>
 have hu:=hr.units
 ⟨_,(aL (b8 (dY (aA (aJ c_place_at hr rfl (aA (aBK (aU aK (pv 0) (pv 1) (fun _ _=>rfl)) (dW (hu1 hu) (pv 0) (pv 1) (fun _ _=>rfl))) (aA (pv 2) aG))) (aA (aU aK (aBK (aU aK (pv 0) (pv 1) (fun _ _=>rfl)) (dW (hu1 hu) (pv 0) (pv 1) (fun _ _=>rfl))) aC (fun _ _=>rfl)) (aA (pv 1) aG)))))),
  ((bK (aW (eU (aZ (aP (aX (aH (aAZ (aY aB aB) (fQ aB aB)) (aH aB aR)))) (aZ (aY (aAZ (aY aB aB) (fQ aB aB)) aF) (aZ aB cA)))))):VS P0 _ wW)⟩
abbrev iW:Stmt:=top 20
theorem a0W:FnScope ["one", "other"] ["one", "other"] (aN iW):=scM
theorem zP  (F:Fun K "stands_ahead" "stands_ahead" iW f fd)(B:Bl K mg)(Kt:Kit K)
  (c_is_less:dU P0 P w K mg base) :
  FnOk P w K mg base CX0 2 f fd ["one", "other"] (spM P0 2 fM):=
 F.okV a0W rfl rfl fun cdv A outer s H E hr=>
 have hu:=hr.units
 ⟨_,(aD (cP (bB (vV hu) (aU aK (pv 0) aC (fun _ _=>rfl)) (aU aK (pv 1) aC (fun _ _=>rfl)) (bH _)) (aL (b8 (aJ c_is_less hr rfl (aA (aU aK (pv 1) aC (fun _ _=>rfl)) (aA (aU aK (pv 0) aC (fun _ _=>rfl)) aG))))) bL)
   (aD (cP (bB (vV hu) (aU aK (pv 0) aC (fun _ _=>rfl)) (aU aK (pv 1) aC (fun _ _=>rfl)) (bH _)) (aL (b8 (aJ c_is_less hr rfl (aA (aU aK (pv 1) aC (fun _ _=>rfl)) (aA (aU aK (pv 0) aC (fun _ _=>rfl)) aG))))) bL)
   (aL (b8 (gU vG (aU aK (pv 0) aC (fun _ _=>rfl)) (aU aK (pv 1) aC (fun _ _=>rfl)) (bH _)))))),
  ((aQ (cX (bF (a3Y (aY aB aF) (aY aB aF))) (bK (aX (aH (aY aB aF) (aH (aY aB aF) aR)))) dM)
   (aQ (cX (bF (a3Y (aY aB aF) (aY aB aF))) (bK (aX (aH (aY aB aF) (aH (aY aB aF) aR)))) dM)
   (bK (aW (wQ (aY aB aF) (aY aB aF)))))):VS P0 _ mH)⟩
abbrev rY:Stmt:=top 21
theorem a8Q:FnScope ["lines", "one", "other", "time"] ["lines", "one", "other", "time"] (aN rY):=scM
theorem a9I  (F:Fun K "is_ahead" "is_ahead" rY f fd)(B:Bl K mg)(Kt:Kit K)
  (c_stands_ahead:fK P0 P w K mg base)
  (c_standing:mY P0 P w K mg base) :
  FnOk P w K mg base CX0 6 f fd ["lines", "one", "other", "time"] (spM P0 4 rT):=
 F.okV a8Q rfl rfl fun cdv A outer s H E hr=>
 have hu:=hr.units
 ⟨_,(aL (b8 (aJ c_stands_ahead hr rfl (aA (aJ c_standing hr rfl (aA (pv 0) (aA (pv 1) (aA (pv 3) aG)))) (aA (aJ c_standing hr rfl (aA (pv 0) (aA (pv 2) (aA (pv 3) aG)))) aG))))),
  ((bK (aX (aH (aP (aX (aH aB (aH aB (aH aB aR))))) (aH (aP (aX (aH aB (aH aB (aH aB aR))))) aR)))):VS P0 _ wM)⟩
abbrev jR:Stmt:=top 22
theorem sc_next_change:FnScope ["lines", "one", "other", "time", "met"] ["lines", "one", "other", "time"] (aN jR):=scM
theorem a1P  (F:Fun K "next_change" "next_change" jR f fd)(B:Bl K mg)(Kt:Kit K)
  (c_is_less:dU P0 P w K mg base)
  (c_meeting:a08 P0 P w K mg base) :
  FnOk P w K mg base CX0 5 f fd ["lines", "one", "other", "time"] (spM P0 4 jQ):=
 F.okV sc_next_change rfl rfl fun cdv A outer s H E hr=>
 have hu:=hr.units
 ⟨_,(aD (bA (i:=4) sc_next_change.nd rfl (by walk_at "lc") (aJ c_meeting hr rfl (aA (aBK (aU aK (pv 0) (pv 1) (fun _ _=>rfl)) (dW (hu1 hu) (pv 0) (pv 1) (fun _ _=>rfl))) (aA (aBK (aU aK (pv 0) (pv 2) (fun _ _=>rfl)) (dW (hu1 hu) (pv 0) (pv 2) (fun _ _=>rfl))) aG))))
   (aD (cP (PW.pt (vH (bB (dR hu) (aU aK (pv 4) aC (fun _ _=>rfl)) jM (bH _)) (oR (dG (aJ c_is_less hr rfl (aA (pv 3) (aA (aU aK (pv 4) aC (fun _ _=>rfl)) aG))))))) (aL (b8 (aU aK (pv 4) aC (fun _ _=>rfl)))) bL)
   (aL (b8 gB)))),
  ((aQ (bD (aW (aP (aX (aH (aAZ (aY aB aB) (fQ aB aB)) (aH (aAZ (aY aB aB) (fQ aB aB)) aR))))))
   (aQ (cX (oF (bF (jH (aY aB aF) jL)) (jB (aP (aX (aH aB (aH (aY aB aF) aR)))))) (bK (aW (aY aB aF))) dM)
   (bK (aW vQ)))):VS P0 _ oA)⟩
abbrev nU:Stmt:=top 8
theorem a81:FnScope ["thing"] ["thing"] (aN nU):=scM
theorem a66  (F:Fun K "is_number" "is_number" nU f fd)(B:Bl K mg)(Kt:Kit K)
  (c_greatest_divisor:cT P0 P w K mg base)
  (c_is_whole:iK P0 P w K mg base) :
  FnOk P w K mg base CX0 2 f fd ["thing"] (spM P0 1 nZ):=
 F.okV a81 rfl rfl fun cdv A outer s H E hr=>
 have hu:=hr.units
 ⟨_,(aD (cP (PW.pt (v9 (j6 (dG (bJ jN rfl B.isinstance_ boot_isinstance (aA (pv 0) (aA (oX (v:=.ty "tuple") rfl B.tuple_ boot_tuple rfl) aG))))) (tD (bB (vV hu) (bJ bU rfl B.len_ boot_len (aA (pv 0) aG)) aC (bH _))))) (aL (b8 a2A)) bL)
   (aD (cP (PW.pt (v9 (j6 (dG (aJ c_is_whole hr rfl (aA (aU aK (pv 0) aC (fun _ _=>rfl)) aG)))) (tD (j6 (dG (aJ c_is_whole hr rfl (aA (aU aK (pv 0) aC (fun _ _=>rfl)) aG))))))) (aL (b8 a2A)) bL)
   (aL (b8 (sZ (gU aOH (aU aK (pv 0) aC (fun _ _=>rfl)) aC (bH _)) (a1I (gU (dR hu) (aJ c_greatest_divisor hr rfl (aA (aU aK (pv 0) aC (fun _ _=>rfl)) (aA (aU aK (pv 0) aC (fun _ _=>rfl)) aG))) aC (bH _)))))))),
  ((aQ (cX (lX (eO (jB (vD Kt (by decide) aB))) (bF (a3Y (p7 aB) aF))) (bK (aW a1U)) dM)
   (aQ (cX (lX (eO (jB (aP (aX (aH (aY aB aF) aR))))) (eO (jB (aP (aX (aH (aY aB aF) aR)))))) (bK (aW a1U)) dM)
   (bK (aW (sE (aTC (aY aB aF) aF) (jH (aP (aX (aH (aY aB aF) (aH (aY aB aF) aR)))) aF)))))):VS P0 _ tW)⟩
abbrev gW:Stmt:=top 27
theorem sc_order_among:FnScope ["lines", "runners", "time", "order", "runner", "stand", "at"] ["lines", "runners", "time"] (aN gW):=scM
theorem a1Q  (F:Fun K "order_among" "order_among" gW f fd)(B:Bl K mg)(Kt:Kit K)
  (c_stands_ahead:fK P0 P w K mg base)
  (c_standing:mY P0 P w K mg base) :
  FnOk P w K mg base CX0 6 f fd ["lines", "runners", "time"] (spM P0 3 gG):=
 F.okV sc_order_among rfl rfl fun cdv A outer s H E hr=>
 have hu:=hr.units
 ⟨_,(aD (bA (i:=3) sc_order_among.nd rfl (by walk_at "lc") (eE aG))
   (aD (a2M PassesOwn.never rfl (kZ (pv 1)) (dC (i:=4) sc_order_among.nd rfl (by walk_at "lc")) (aD (bA (i:=5) sc_order_among.nd rfl (by walk_at "lc") (aJ c_standing hr rfl (aA (pv 0) (aA (pv 4) (aA (pv 2) aG)))))
   (aD (bA (i:=6) sc_order_among.nd rfl (by walk_at "lc") aC)
   (aD (zB PassesOwn.never (PW.pt (vH (bB vG (pv 6) (bJ bU rfl B.len_ boot_len (aA (pv 3) aG)) (bH _)) (oR (dG (aJ c_stands_ahead hr rfl (aA (aU aK (pv 3) (pv 6) (fun _ _=>rfl)) (aA (pv 5) aG))))))) (aL (aO3 (i:=6) sc_order_among.nd rfl (by walk_at "lc") aC aQG)))
   (aL (iR (aIC PySem.F.plainAttrs_list PySem.F.slot_list_insert PySem.F.type_list_insert a6I (pv 3) (aA (pv 6) (aA (pv 5) aG)))))))))
   (aL (b8 (gZ (N:=["stand"]) (nt:=1) (fv:=[]) rfl (qM (osc:=aN gW) (ON:=["lines", "runners", "time", "order", "runner", "stand", "at"]) (by decide +kernel)) (kZ (pv 3)) (fun _ _ _ _=>(dC (i:=0) (show(["stand"]:List Str).Nodup by decide +kernel) rfl (by walk_at "lc"))) (fun _ _ _ _=>uE) (fun _ _ _ _=>(aU aK (pv 0) aC (fun _ _=>rfl)))))))),
  ((aQ (bD (jA cA))
   (aQ (a82 (lG aB) dJ (aQ (bD (aW (aP (aX (aH aB (aH aB (aH aB aR)))))))
   (aQ (bD (aW aF))
   (aQ (zG (a4R (oF (bF (wQ aB (p7 aB))) (jB (aP (aX (aH (aY aB aB) (aH aB aR))))))) (aP2 aF))
   (a7K aB aB)))))
   (aK1 (bK (lA (lG aB) dJ oO (aY aB aF)))))):VS P0 _ o8)⟩
abbrev qZ:Stmt:=top 28
theorem a9Q:FnScope ["lines", "time"] ["lines", "time"] (aN qZ):=scM
theorem a9W  (F:Fun K "order_at" "order_at" qZ f fd)(B:Bl K mg)(Kt:Kit K)
  (c_order_among:jW P0 P w K mg base) :
  FnOk P w K mg base CX0 7 f fd ["lines", "time"] (spM P0 2 jY):=
 F.okV a9Q rfl rfl fun cdv A outer s H E hr=>
 have hu:=hr.units
 ⟨_,(aL (b8 (aJ c_order_among hr rfl (aA (pv 0) (aA (gH (a5T rfl) rfl B.list_ boot_list (aA (gH a7C rfl B.range_ boot_range (aA (bJ bU rfl B.len_ boot_len (aA (pv 0) aG)) aG)) aG)) (aA (pv 1) aG)))))),
  ((bK (aX (aH aB (aH (aP (aCK (p7 aB))) (aH aB aR))))):VS P0 _ wA)⟩
abbrev lQ:Stmt:=top 29
theorem a4Z:FnScope ["order"] ["order"] (aN lQ):=scM
theorem a3X  (F:Fun K "neighbours" "neighbours" lQ f fd)(B:Bl K mg)(Kt:Kit K) :
  FnOk P w K mg base CX0 1 f fd ["order"] (spM P0 1 lU):=
 F.okV a4Z rfl rfl fun cdv A outer s H E hr=>
 have hu:=hr.units
 ⟨_,(aL (b8 (aCU rfl rfl B.list_ rfl B.zip_ (aA (pv 0) (aA (a5B aGO (pv 0) (a96 aC) a94) aG))))),
  ((bK (aD1 aB (aP (aK0 aB (aMB aF) aMH)))):VS P0 _ qI)⟩
abbrev vX:Stmt:=top 38
theorem aCM:FnScope ["lines", "one", "other", "time"] ["lines", "one", "other", "time"] (aN vX):=scM
theorem aD7  (F:Fun K "till_of" "till_of" vX f fd)(B:Bl K mg)(Kt:Kit K)
  (c_next_change:nM P0 P w K mg base)
  (c_is_ahead:wL P0 P w K mg base) :
  FnOk P w K mg base CX0 7 f fd ["lines", "one", "other", "time"] (spM P0 4 uY):=
 F.okV aCM rfl rfl fun cdv A outer s H E hr=>
 have hu:=hr.units
 ⟨_,(aD (cP (dG (aJ c_is_ahead hr rfl (aA (pv 0) (aA (pv 2) (aA (pv 1) (aA (pv 3) aG)))))) (aL (b8 (pv 3))) bL)
   (aL (b8 (aJ c_next_change hr rfl (aA (pv 0) (aA (pv 1) (aA (pv 2) (aA (pv 3) aG)))))))),
  ((aQ (cX (jB (aP (aX (aH aB (aH aB (aH aB (aH aB aR))))))) (bK (aW aB)) dM)
   (bK (aX (aH aB (aH aB (aH aB (aH aB aR))))))):VS P0 _ a02)⟩
abbrev fG:Stmt:=top 39
theorem zV:FnScope ["lines", "order", "time", "pair"] ["lines", "order", "time"] (aN fG):=scM
theorem a0D  (F:Fun K "papers_among" "papers_among" fG f fd)(B:Bl K mg)(Kt:Kit K)
  (c_neighbours:pY P0 P w K mg base)
  (c_till_of:a1H P0 P w K mg base) :
  FnOk P w K mg base CX0 8 f fd ["lines", "order", "time"] (spM P0 3 fC):=
 F.okV zV rfl rfl fun cdv A outer s H E hr=>
 have hu:=hr.units
 ⟨_,(aL (b8 (gZ (N:=["pair", "lines", "time"]) (nt:=1) (fv:=[0,2]) rfl (qM (osc:=aN fG) (ON:=["lines", "order", "time", "pair"]) (by decide +kernel)) (kZ (aJ c_neighbours hr rfl (aA (pv 1) aG))) (fun _ _ _ _=>(dC (i:=0) (show(["pair", "lines", "time"]:List Str).Nodup by decide +kernel) rfl (by walk_at "lc"))) (fun _ _ _ _=>uE) (fun _ _ _ _=>(dY (aA (aU aK (pv 0) aC (fun _ _=>rfl)) (aA (aU aK (pv 0) aC (fun _ _=>rfl)) (aA (aJ c_till_of hr rfl (aA (pv 1) (aA (aU aK (pv 0) aC (fun _ _=>rfl)) (aA (aU aK (pv 0) aC (fun _ _=>rfl)) (aA (pv 2) aG))))) aG)))))))),
  ((bK (lA (lG (aP (aX (aH aB aR)))) dJ oO (eU (aZ (aY aB aF) (aZ (aY aB aF) (aZ (aP (aX (aH aB (aH (aY aB aF) (aH (aY aB aF) (aH aB aR)))))) cA)))))):VS P0 _ mL)⟩
abbrev gK:Stmt:=top 40
theorem sc_first_to_fail:FnScope ["papers", "told", "at", "paper"] ["papers"] (aN gK):=scM
theorem yI  (F:Fun K "first_to_fail" "first_to_fail" gK f fd)(B:Bl K mg)(Kt:Kit K)
  (c_is_less:dU P0 P w K mg base) :
  FnOk P w K mg base CX0 2 f fd ["papers"] (spM P0 1 gY):=
 F.okV sc_first_to_fail rfl rfl fun cdv A outer s H E hr=>
 have hu:=hr.units
 ⟨_,(aD (bA (i:=1) sc_first_to_fail.nd rfl (by walk_at "lc") gB)
   (aD (a2M PassesOwn.never rfl (aEH rfl B.enumerate_ (aA (pv 0) aG)) (aH5 rfl (qW (dC (i:=2) sc_first_to_fail.nd rfl (by walk_at "lc")) (qW (dC (i:=3) sc_first_to_fail.nd rfl (by walk_at "lc")) a8N))) (aL (cP (PW.pt (vH (bB a0S (aU aK (pv 3) aC (fun _ _=>rfl)) gB (bH _)) (oR (PW.pt (v9 (bB aC6 (pv 1) gB (bH _)) (tD (dG (aJ c_is_less hr rfl (aA (aU aK (pv 3) aC (fun _ _=>rfl)) (aA (aU aK (aU aK (pv 0) (pv 1) (fun _ _=>rfl)) aC (fun _ _=>rfl)) aG)))))))))) (aL (bA (i:=1) sc_first_to_fail.nd rfl (by walk_at "lc") (pv 2))) bL)))
   (aL (b8 (pv 1))))),
  ((aQ (bD (aW vQ))
   (aQ (a82 (aH9 aB) (aGU (rH dJ (rH dJ aA0))) (cX (oF (bF (a1M (aY aB aF))) (lX (bF (aBS aB)) (jB (aP (aX (aH (aY aB aF) (aH (aY (aY aB aB) aF) aR))))))) (bD (aW aB)) dM))
   (bK (aW aB)))):VS P0 _ lJ)⟩
abbrev fH:Stmt:=top 45
theorem a0J:FnScope ["papers", "others", "paper"] ["papers", "others"] (aN fH):=scM
theorem a0K  (F:Fun K "those_not_in" "those_not_in" fH f fd)(B:Bl K mg)(Kt:Kit K) :
  FnOk P w K mg base CX0 1 f fd ["papers", "others"] (spM P0 2 fJ):=
 F.okV a0J rfl rfl fun cdv A outer s H E hr=>
 have hu:=hr.units
 ⟨_,(aL (b8 (gZ (N:=["paper", "others"]) (nt:=1) (fv:=[1]) rfl (qM (osc:=aN fH) (ON:=["papers", "others", "paper"]) (by decide +kernel)) (kZ (pv 0)) (fun _ _ _ _=>(dC (i:=0) (show(["paper", "others"]:List Str).Nodup by decide +kernel) rfl (by walk_at "lc"))) (fun _ _ _ _=>(a4X (bB (a0E hu) (pv 0) (pv 1) (by with_unfolding_all rfl)))) (fun _ _ _ _=>(pv 0))))),
  ((bK (lA (lG aB) dJ (bF (aMX aB aB)) aB)):VS P0 _ lZ)⟩
local macro_rules|`(tactic| walk_at "rd1")=>`(tactic| first
 | refine⟨_,rfl,?_⟩
 | refine⟨_,_,rfl,rfl,?_⟩
 | refine And.intro rfl ?_
 | refine And.intro (u9 rfl) ?_
 | refine⟨_,_,_,_,rfl,rfl,SqT.of (by assumption),rfl,?_⟩
 | refine⟨_,_,_,_,rfl,rfl,SqL.of (by assumption),rfl,?_⟩
 | refine⟨_,_,_,_,rfl,rfl,SqL.of aV,rfl,?_⟩
 | refine⟨_,_,_,_,rfl,rfl,(by assumption),rfl,?_⟩
 | refine⟨_,_,_,_,rfl,rfl,aV,rfl,?_⟩
 | refine⟨_,_,by assumption,by assumption,qY _,qY _,?_⟩
 | refine⟨_,_,by assumption,by assumption,good_line _,good_line _,?_⟩
 | refine And.intro (aSQ (by assumption) (by assumption)) ?_
 | refine And.intro (.inl (by decide)) ?_
 | refine And.intro (CMul_mod (by decide) (by decide)) ?_
 | refine And.intro (.inr (by decide)) ?_
 | refine⟨_,_,rfl,.inl (by assumption),?_⟩
 | refine⟨_,_,rfl,.inr (SqT.of (by assumption)),?_⟩
 | refine And.intro (by assumption) ?_
 | refine And.intro ⟨by decide,by decide⟩ ?_
 | refine And.intro ⟨by decide,by decide,by decide⟩ ?_
 | refine And.intro (show(0:Int)<_ by decide) ?_
 | refine And.intro (by decide) ?_
 | refine⟨_,_,rfl,?_⟩)
local macro_rules|`(tactic| walk_at "rd")=>`(tactic| repeat walk_at "rd1")
abbrev uJ:Stmt:=top 48
theorem sc_law_pen:FnScope ["_law_script", "_law_k", "_law_cell"] ["_law_script", "_law_k"] (aN uJ):=scM
theorem aDG  (F:Fun K "_law_pen" "_law_pen" uJ f fd)(B:Bl K mg) :
  FnOk P w K mg base CX0 1 f fd ["_law_script", "_law_k"] (aBP K):=by
 refine F.ok sc_law_pen (fun vs H Q E h=>?_) (fun cdv A outer s H vs Q E hr h=>?_)
 ·obtain⟨a,ns,j,rfl,hS,j0,j1,q⟩:=h;rfl
 have hu:=hr.units;obtain⟨a,ns,j,rfl,hS,j0,j1,q⟩:=h;refine⟨_,(aD (bA (i:=2) sc_law_pen.nd rfl (Or.inl rfl) (bQ j7 (bQ j7 (bQ bY (bQ bY aC (pv 1)) (pv 1)) (bQ bY aC (pv 1))) aC))
   (aD (cP (bB vG (pv 1) (bJ bU rfl B.len_ boot_len (aA (pv 0) aG)) (bH _)) (aL (bA (i:=2) sc_law_pen.nd rfl (Or.inl rfl) (aU ix_list (pv 0) (pv 1) (fun _ _=>rfl)))) (aL (cP (bB aM0 (bJ bU rfl B.len_ boot_len (aA (pv 0) aG)) aC (bH _)) (aL (bA (i:=2) sc_law_pen.nd rfl (Or.inl rfl) (bQ j7 (bQ pP (aU ix_list (pv 0) (bQ pP (bQ bY (pv 1) aC) (bJ bU rfl B.len_ boot_len (aA (pv 0) aG))) (fun _ _=>rfl)) (a4D (v:=100000000000000000) (by decide) ⟨by decide,by decide,by decide⟩)) (bQ bY aC (pv 1))))) bL)))
   (aD (cP (bB aOH (pv 2) (a4D (v:=1000000000000000000) (by decide) ⟨by decide,by decide,by decide⟩) (bH _)) (aL (b8 (eE (aA (bQ a2L (pv 2) (a4D (v:=1000000000000000000) (by decide) ⟨by decide,by decide,by decide⟩)) (aA (bQ j7 (bQ pP (pv 2) aC) (pv 1)) (aA aC aG)))))) bL)
   (aL (b8 (eE (aA aC (aA (bQ j7 (bQ pP (pv 2) aC) (bQ bY aC (pv 1))) (aA aC aG))))))))),?_⟩
 have hl:(ns.map V.int).length=ns.length:=List.length_map _;have bs:∀ x:Int,0≤x→x<2147483648→LT.Bt 31 x:=fun x h1 h2=>by
  show x.natAbs<2^31;omega
 have a1:=bs j (by omega) (by omega);have a2:=bs 104729 (by decide) (by decide);have a3:=bs 7 (by decide) (by decide);have a4:=bs 65537 (by decide) (by decide);have a5:=bs 40503 (by decide) (by decide);have a6:=a2.mul a1;have fin:∀ cell x:Int,0≤x→x<100000000→0≤cell%2147483629+x∧cell%2147483629+x<1099511627776:=fun cell x h1 h2=>by
  have h3:=Int.emod_nonneg cell (b:=2147483629) (by decide);have h4:=Int.emod_lt_of_pos cell (b:=2147483629) (by decide);omega
 walk_at "!mmm;;55Ğ;5";refine iC (fun e=>?a) (fun e=>?b)
 case' a=>
  have e':j<(ns.length:Int):=by rw[hl] at e; exact e
  obtain⟨i,rfl⟩:∃ i:Nat,j=(i:Int):=⟨j.toNat,by omega⟩;have hi:i<ns.length:=by omega
  have hv:atI (ns.map V.int) (i:Int)=some (.int ns[i]):=by
   refine a9G ?_;rw[List.getElem?_map,List.getElem?_eq_getElem hi];rfl
  walk_at "!55";refine⟨_,_,_,_,rfl,rfl,hS,hv,?_⟩
 case' b=>
  walk_at "!5Ğ;5";refine iC (fun e2=>?b1) (fun e2=>?b2)
  case' b1=>
   have e3:0<(ns.length:Int):=by rw[hl] at e2; exact e2
   have h1:=Int.emod_nonneg (j*7) (b:=(ns.length:Int)) (by omega);have h2:=Int.emod_lt_of_pos (j*7) e3;obtain⟨i,hi0⟩:∃ i:Nat,j*7%(ns.length:Int)=(i:Int):=⟨(j*7%(ns.length:Int)).toNat,by omega⟩;have hi:i<ns.length:=by omega
   have hv:atI (ns.map V.int) (j*7%((ns.map V.int).length:Int))=some (.int ns[i]):=by
    rw[hl,hi0];refine a9G ?_;rw[List.getElem?_map,List.getElem?_eq_getElem hi];rfl
   have hpos:0<((ns.map V.int).length:Int):=by rw[hl]; exact e3
   walk_at "!5m5Ğ;Ē";refine⟨_,_,_,_,rfl,rfl,hS,hv,?_⟩
 all_goals
  (first|walk_at "!;Ăm;Q5"|walk_at "!Q5");refine iC (fun e9=>?_) (fun e9=>?_)
  ·walk_at "!QQĂQı";intro p hp;exact q _ _ _ hp (by omega) (fin _ _ (by omega) (by omega)).1 (fin _ _ (by omega) (by omega)).2
  ·walk_at "!QĂm;ı";intro p hp;exact q _ _ _ hp (by decide) (fin _ _ (by omega) (by omega)).1 (fin _ _ (by omega) (by omega)).2
local macro_rules|`(tactic| walk_at "rd1")=>`(tactic| first
 | refine⟨_,rfl,?_⟩
 | refine⟨_,_,rfl,rfl,?_⟩
 | refine And.intro rfl ?_
 | refine And.intro (u9 rfl) ?_
 | refine⟨_,_,_,_,rfl,rfl,SqT.of (by assumption),rfl,?_⟩
 | refine⟨_,_,_,_,rfl,rfl,SqL.of (by assumption),rfl,?_⟩
 | refine⟨_,_,_,_,rfl,rfl,SqL.of aV,rfl,?_⟩
 | refine⟨_,_,_,_,rfl,rfl,(by assumption),rfl,?_⟩
 | refine⟨_,_,_,_,rfl,rfl,aV,rfl,?_⟩
 | refine⟨_,_,by assumption,by assumption,qY _,qY _,?_⟩
 | refine⟨_,_,by assumption,by assumption,good_line _,good_line _,?_⟩
 | refine And.intro (aSQ (by assumption) (by assumption)) ?_
 | refine And.intro (.inl (by decide)) ?_
 | refine And.intro (CMul_mod (by decide) (by decide)) ?_
 | refine And.intro (.inr (by decide)) ?_
 | refine⟨_,_,rfl,.inl (by assumption),?_⟩
 | refine⟨_,_,rfl,.inr (SqT.of (by assumption)),?_⟩
 | refine And.intro (by assumption) ?_
 | refine And.intro ⟨by decide,by decide⟩ ?_
 | refine And.intro ⟨by decide,by decide,by decide⟩ ?_
 | refine And.intro (show(0:Int)<_ by decide) ?_
 | refine And.intro (by decide) ?_
 | refine⟨_,_,rfl,?_⟩)
local macro_rules|`(tactic| walk_at "rd")=>`(tactic| repeat walk_at "rd1")
abbrev mW:Stmt:=top 49
theorem sc_law_take:FnScope ["_law_pen_here", "_law_many", "_law_digit", "_law_number"] ["_law_pen_here", "_law_many"] (aN mW):=scM
theorem a9B  (F:Fun K "_law_take" "_law_take" mW f fd)(B:Bl K mg) :
  FnOk P w K mg base CX0 1 f fd ["_law_pen_here", "_law_many"] aFC:=by
 refine F.ok sc_law_take (fun vs H Q E h=>?_) (fun cdv A outer s H vs Q E hr h=>?_)
 ·obtain⟨pen,m,z,c,k,n,rfl,hp,hz,hc,hc2,hk,hkn,hn,hm,hm2,q⟩:=h;rfl
 have hu:=hr.units;obtain⟨pen,m,z,c,k,n,rfl,hp,hz,hc,hc2,hk,hkn,hn,hm,hm2,q⟩:=h;refine⟨_,(aD (cP (bB aM0 (aU ix_list (pv 0) aC (fun _ _=>rfl)) aC (bH _)) (aD (bA (i:=2) sc_law_take.nd rfl (Or.inl rfl) (bQ pP (aU ix_list (pv 0) aC (fun _ _=>rfl)) (pv 1)))
   (aD (aB6 (bQ aAF (aU ix_list (pv 0) aC (fun _ _=>rfl)) (pv 1)) (aC3 (pv 0) aC set_list))
   (aL (b8 (pv 2))))) bL)
   (aD (aB6 (bQ j7 (aU ix_list (pv 0) aC (fun _ _=>rfl)) aC) (aC3 (pv 0) aC set_list))
   (aD (bA (i:=3) sc_law_take.nd rfl (Or.inl rfl) (bQ pP (bQ bY (bQ pP (bQ j7 (aU ix_list (pv 0) aC (fun _ _=>rfl)) (bQ bY (bQ bY (aU ix_list (pv 0) aC (fun _ _=>rfl)) (aU ix_list (pv 0) aC (fun _ _=>rfl))) aC)) aC) aC) aC))
   (aD (bA (i:=3) sc_law_take.nd rfl (Or.inl rfl) (bQ pP (bQ j7 (bQ j7 (bQ bY (pv 3) (pv 3)) (bQ bY aC (pv 3))) (aU ix_list (pv 0) aC (fun _ _=>rfl))) aC))
   (aL (b8 (bQ pP (bQ aAF (pv 3) aC) (pv 1)))))))),?_⟩
 have hcd:aQR z m:=⟨hm,hm2⟩;walk_at "!5ē;5";refine iC (fun e=>?_) (fun e=>?_)
 ·walk_at "!5ēQĒ5ēQĒ5Ĳ5";exact q _ _ (Int.emod_nonneg _ (by omega)) (Int.emod_lt_of_pos _ hm) ⟨z/m,c,k,aV,Int.ediv_nonneg hz (by omega),hc,hc2,hk,by omega⟩ (a6Q _)
 ·have bm:∀ x y:Int,0<y→y<2147483648→LT.Bt 31 (x%y):=fun x y h1 h2=>by
   have:=Int.emod_nonneg x (b:=y) (by omega);have:=Int.emod_lt_of_pos x h1
   show(x%y).natAbs<2^31
   omega
  have bs:∀ x:Int,0≤x→x<2147483648→LT.Bt 31 x:=fun x h1 h2=>by
   show x.natAbs<2^31;omega
  have a1:=bs (k+1) (by omega) (by omega);have a2:=bs 7919 (by decide) (by decide);have a3:=bs 48271 (by decide) (by decide);have a4:=bs 69621 (by decide) (by decide);have a5:=a1.mul a1;have a6:=bm (c+(k+1)*(k+1)*7919) 2147483629 (by decide) (by decide);have a7:=bm ((c+(k+1)*(k+1)*7919)%2147483629*48271) 2147483587 (by decide) (by decide);walk_at "!5ē;5Ĳ5Ĕ5Ĕ5Ĕ;ĕ;ĕ;;Ă;ĕ;Ă5mm;5Ĕ;;ĂQŌQĒ";exact q _ _ (Int.emod_nonneg _ (by omega)) (Int.emod_lt_of_pos _ hm) ⟨z,c,k+1,aV,hz,hc,hc2,by omega,by omega⟩ (a6Q _)
theorem a83  (F:Fun K "_law_take" "_law_take" mW f fd)(B:Bl K mg) :
  FnOk P w K mg base CX0 1 f fd ["_law_pen_here", "_law_many"] (spL P0 penF 2 fL):=(a9B F B).imp aIP
abbrev oK:Stmt:=top 42
theorem sc_fail_next:FnScope ["lines", "order", "time", "limit", "papers", "at", "till"] ["lines", "order", "time", "limit"] (aN oK):=scM
theorem a88  (F:Fun K "fail_next" "fail_next" oK f fd)(B:Bl K mg)(Kt:Kit K)
  (c_papers_among:iV P0 P w K mg base)
  (c_is_less:dU P0 P w K mg base)
  (c_first_to_fail:kO P0 P w K mg base) :
  FnOk P w K mg base CX0 9 f fd ["lines", "order", "time", "limit"] (aN6 P0 lstF 1 4 nW):=
 F.okLj sc_fail_next rfl (by decide) rfl fun cdv A outer s H E hr=>
 have hu:=hr.units
 ⟨_,(aD (bA (i:=4) sc_fail_next.nd rfl (by walk_at "lc") (aJ c_papers_among hr rfl (aA (pv 0) (aA (pv 1) (aA (pv 2) aG)))))
   (aD (bA (i:=5) sc_fail_next.nd rfl (by walk_at "lc") (aJ c_first_to_fail hr rfl (aA (pv 4) aG)))
   (aD (cP (bB aC6 (pv 5) gB (bH _)) (aL (b8 gB)) bL)
   (aD (bA (i:=6) sc_fail_next.nd rfl (by walk_at "lc") (aU aK (aU aK (pv 4) (pv 5) (fun _ _=>rfl)) aC (fun _ _=>rfl)))
   (aD (cP (PW.pt (vH (bB a0S (pv 3) gB (bH _)) (oR (dG (aJ c_is_less hr rfl (aA (pv 3) (aA (pv 6) aG))))))) (aL (b8 gB)) bL)
   (aD (aB6 (aU aK (aU aK (pv 4) (pv 5) (fun _ _=>rfl)) aC (fun _ _=>rfl)) (aC3 (pv 1) (pv 5) set_list))
   (aD (aB6 (aU aK (aU aK (pv 4) (pv 5) (fun _ _=>rfl)) aC (fun _ _=>rfl)) (aC3 (pv 1) (bQ j7 (pv 5) aC) set_list))
   (aL (b8 (dY (aA (pv 5) (aA (pv 6) aG)))))))))))),
  ((aQ (bD (aW (aP (a0T (aX (aH aB (aH aB (aH aB aR))))))))
   (aQ (bD (aW (aP (aX (aH aB aR)))))
   (aQ (cX (bF (aBS aB)) (a3O (aW vQ)) dM)
   (aQ (bD (aW (aY (aY aB aB) aF)))
   (aQ (cX (oF (bF (a1M aB)) (jB (aP (aX (aH aB (aH aB aR)))))) (a3O (aW vQ)) dM)
   (aQ (a6X (aY (aY aB aB) aF) aB)
   (aQ (a6X (aY (aY aB aB) aF) (xY aB aF))
   (a3O (aW (eU (aZ aB (aZ aB cA)))))))))))):VS P0 _ nJ)⟩
theorem lD {H:Hp}{a b:Addr}{o:HO}(h:H a=some o)(g:H b=none):b≠a:=fun z=>by rw[z,h] at g; cases g
abbrev a3T:Stmt:=inClass (top 43) 0
theorem aH8:FnScope ["self", "lines", "time"] ["self", "lines", "time"] (aN a3T):=scM
theorem aDE  {c:Addr}(cl:Cls K c)(n_lines:NoAttr K c "lines")(n_now:NoAttr K c "now")(n_listed:NoAttr K c "listed")(F:Fun K "__init__" "Walk.__init__" a3T f fd)(B:Bl K mg)
  (c_order_at:a3I P0 P w K mg base) :
  FnOk P w K mg base CX0 8 f fd ["self", "lines", "time"] (a5N P0 c jY):=by
 refine F.ok aH8 (fun vs H Q E h=>?_) (fun cdv A outer s H vs Q E hr h=>?_)
 ·obtain⟨F0,w,d,l,t,ls,tm,os,rfl,_⟩:=h;rfl
 have hu:=hr.units;obtain⟨F0,w,d,l,t,ls,tm,os,rfl,hH,rf,gw,gd,hdw,hw,hd,dl,dt,hl,z1,z2,z3,hf,q⟩:=h;refine⟨_,(aD (gR (pv 0) (gH lR rfl B.list_ boot_list (aA (pv 1) aG)) rfl) (aD (gR (pv 0) (pv 2) rfl) (aL (gR (pv 0) (aJ c_order_at hr rfl (aA (pv 1) (aA (pv 2) aG))) rfl)))),?_⟩
 cases dl with
 | @lst pl us _ hpl rs=>
 have hplH:=rf.sub _ _ hpl;have Fw:F0.H0 w=none:=by rw[hH,if_pos (.inl rfl)]
 have Fd:F0.H0 d=none:=by rw[hH,if_pos (.inr rfl)]
 refine⟨_,rfl,_,us,rfl,.inl (SqL.of hplH),fun ll hll=>?_⟩;have lw:ll≠w:=lD hw hll;have ld:ll≠d:=lD hd hll;refine⟨_,rfl,w,c,d,[],rfl,by rw[aM (Ne.symm lw)]; exact hw,cl,n_lines,by decide,?_⟩;refine⟨_,rfl,_,rfl,w,c,d,_,rfl,aV,cl,n_now,(by show 1<1000; decide),?_⟩;generalize hH3:upd (upd (upd H ll (.lst us)) w (.ins c d (xJ "lines" (.ref ll) []))) w (.ins c d (xJ "now" t (xJ "lines" (.ref ll) [])))=H3;have h3w:H3 w=some (.ins c d [("lines", .ref ll),("now", t)]):=by rw[← hH3]; exact aV
 have h3o:∀ b,b≠w→b≠ll→H3 b=H b:=fun b h1 h2=>by rw[← hH3,aM h1,aM h1,aM h2]
 have h3l:H3 ll=some (.lst us):=by rw[← hH3,aM lw,aM lw]; exact aV
 have h3s:∀ b o,H b=some o→b≠w→H3 b=some o:=fun b o e h1=>by rw[h3o b h1 (b7 e hll)]; exact e
 have f0:∀ b o,F0.H0 b=some o→b≠w∧H b=some o:=fun b o e=>by
  rw[hH] at e
  split at e
  ·cases e
  ·rename_i hn
   exact⟨fun z=>hn (.inl z),e⟩
 have rf3:Rf F0 F0.G0 H3:=by
  refine⟨fun b o e=>h3s b o (rf.sub b o e) (fun z=>by rw[z,gw] at e; cases e),fun _ _ _=>rfl,fun b o e _=>h3s b o (f0 b o e).2 (f0 b o e).1,F0.stab' H H3 (fun b o e=>?_) rf.pn⟩;rw[h3s b o (f0 b o e).2 (f0 b o e).1,(f0 b o e).2]
 refine⟨_,rfl,_,rfl,F0.sub rf3,[.val (.list ls),.val tm],fun rv=>rv=.own os,rfl,F0.subRf rf3,.cons (show Dt F0.G0 (.ref pl) (.list ls) from .lst hpl rs) (.cons dt .nil),rfl,hf,fun rv r G' H' hq f' hr'=>?_⟩;subst hq;obtain⟨lo,vs,rfl,e1,e2,e3,e4⟩:=hr';have e1:H3 lo=none:=e1;obtain⟨fb,gb⟩:=rf3.back f';have keep:∀ b o,H3 b=some o→F0.H0 b=none→H' b=some o∧G' b=F0.G0 b:=fun b o e hn=>⟨f'.h0 b o e (F0.pen_ne hn),f'.g0 b o e⟩;have kw:=keep w _ h3w Fw;have hd3:H3 d=some (.own w):=h3s d _ hd hdw;have kd:=keep d _ hd3 Fd;have Fl:F0.H0 ll=none:=rf.fresh hll;have kl:=keep ll _ h3l Fl;have ow:lo≠w:=lD h3w e1;have od:lo≠d:=lD hd3 e1;have ol:lo≠ll:=lD h3l e1;refine⟨_,rfl,w,c,d,_,rfl,kw.1,cl,n_listed,(by show 2<1000; decide),?_⟩;refine q ll lo [w,d,ll,lo] G' _ (fb.priv Fw (kw.2.trans gw)) ⟨rfl,rfl,⟨Ne.symm ol,z1,z2,z3⟩,us,t,vs,⟨aV,?_,?_,?_⟩,⟨Dts.same gb _ _ rs,Dt.same gb _ _ dt,e4⟩⟩ fun b hb=>?_
 ·show upd H' w _ d=_;rw[aM hdw]; exact kd.1
 ·show upd H' w _ ll=_;rw[aM lw]; exact kl.1
 ·show upd H' w _ lo=_;rw[aM ow]; exact e3
 ·simp only[List.mem_cons,List.not_mem_nil,or_false] at hb;rcases hb with rfl|rfl|rfl|rfl
  ·exact⟨Fw,kw.2.trans gw⟩
  ·exact⟨Fd,kd.2.trans gd⟩
  ·exact⟨Fl,kl.2.trans (rf.gfresh hll)⟩
  ·exact⟨rf3.fresh e1,e2⟩
abbrev tR:Stmt:=inClass (top 43) 4
theorem sc_w_step_by:FnScope ["self", "limit", "failed", "at"] ["self", "limit"] (aN tR):=scM
theorem a5Z  {c:Addr}(cl:Cls K c)(n_lines:NoAttr K c "lines")(n_now:NoAttr K c "now")(n_listed:NoAttr K c "listed")(F:Fun K "step_by" "Walk.step_by" tR f fd)(B:Bl K mg)(Kt:Kit K)
  (c_fail_next:a03 P0 P w K mg base) :
  FnOk P w K mg base CX0 10 f fd ["self", "limit"] (spL P0 (dZ c) 2 (iI c)):=
 F.okL sc_w_step_by rfl rfl fun cdv A outer s H E hr=>
 have hu:=hr.units
 ⟨_,(aD (bA (i:=2) sc_w_step_by.nd rfl (by walk_at "lc") (aJ c_fail_next hr rfl (aA (cL (pv 0) rfl) (aA (cL (pv 0) rfl) (aA (cL (pv 0) rfl) (aA (pv 1) aG))))))
   (aD (cP (bB aC6 (pv 2) gB (bH _)) (aL (b8 gB)) bL)
   (aD (bA (i:=3) sc_w_step_by.nd rfl (by walk_at "lc") (aU aK (pv 2) aC (fun _ _=>rfl)))
   (aD (gR (pv 0) (aU aK (pv 2) aC (fun _ _=>rfl)) rfl)
   (aL (b8 (dY (aA (cL (pv 0) rfl) (aA (aU aK (cL (pv 0) rfl) (bQ j7 (pv 3) aC) (fun _ _=>rfl)) (aA (aU aK (cL (pv 0) rfl) (pv 3) (fun _ _=>rfl)) aG)))))))))),
  ((aQ (bD (aW (aJF cl n_lines n_listed n_now)))
   (aQ (cX (bF (aBS aB)) (dH (aW vQ)) dM)
   (aQ (bD (aW (aY aB aF)))
   (aQ (a6A cl n_now (aY aB aF))
   (dH (aW (eU (aZ (aAL cl n_now) (aZ (aFB cl n_listed (xY aB aF)) (aZ (aFB cl n_listed aB) cA)))))))))):VS P0 _ (tO c))⟩
abbrev aFQ:Stmt:=inClass (top 43) 6
theorem sc_w_go:FnScope ["self", "time", "told", "step"] ["self", "time"] (aN aFQ):=scM
theorem aL0  {c:Addr}(cl:Cls K c)(n_lines:NoAttr K c "lines")(n_now:NoAttr K c "now")(n_listed:NoAttr K c "listed"){f_step_by:Addr}{fd_step_by:FuncData}(M_step_by:Meth K c "step_by" f_step_by)(F_step_by:FnOk P w K mg base CX0 10 f_step_by fd_step_by ["self", "limit"] (spL P0 (dZ c) 2 (iI c)))(b_step_by:Binds K fd_step_by ["self", "limit"] [])(F:Fun K "go" "Walk.go" aFQ f fd)(B:Bl K mg)(Kt:Kit K)
  (c_is_less:dU P0 P w K mg base) :
  FnOk P w K mg base CX0 11 f fd ["self", "time"] (spL P0 (dZ c) 2 (aB1 c)):=
 F.okL sc_w_go rfl rfl fun cdv A outer s H E hr=>
 have hu:=hr.units
 ⟨_,(aD (cP (dG (aJ c_is_less hr rfl (aA (pv 1) (aA (cL (pv 0) rfl) aG)))) (aL vO) bL)
   (aD (bA (i:=2) sc_w_go.nd rfl (by walk_at "lc") (eE aG))
   (aD (bA (i:=3) sc_w_go.nd rfl (by walk_at "lc") (iJ (pv 0) cl M_step_by F_step_by (hr.mono (by decide)) b_step_by .nil iD (aA (pv 1) aG)))
   (aD (zB PassesOwn.never (bB a0S (pv 3) gB (bH _)) (aD (iR (aIC PySem.F.plainAttrs_list PySem.F.slot_list_append PySem.F.type_list_append a85 (pv 2) (aA (pv 3) aG)))
   (aL (bA (i:=3) sc_w_go.nd rfl (by walk_at "lc") (iJ (pv 0) cl M_step_by F_step_by (hr.mono (by decide)) b_step_by .nil iD (aA (pv 1) aG))))))
   (aD (gR (pv 0) (pv 1) rfl)
   (aL (b8 (pv 2)))))))),
  ((aQ (cX (jB (aP (aX (aH aB (aH (aAL cl n_now) aR))))) vM dM)
   (aQ (bD (jA cA))
   (aQ (bD (aW (aP (uO (aEU (fun _ _=>rfl)) (aH aB aR)))))
   (aQ (zG (bF (a1M aB)) (aQ (a7E aB)
   (bD (aW (aP (uO (aEU (fun _ _=>rfl)) (aH aB aR)))))))
   (aQ (a6A cl n_now aB)
   (dH a98)))))):VS P0 _ (aFJ c))⟩
abbrev tK:Stmt:=inClass (top 25) 4
theorem a76:FnScope ["self"] ["self"] (aN tK):=scM
theorem a3P  {c:Addr}(cl:Cls K c)(n_running:NoAttr K c "running")(n_joined:NoAttr K c "joined")(n_last:NoAttr K c "last")(F:Fun K "runners" "Field.runners" tK f fd)(B:Bl K mg):FnOk P w K mg base CX0 1 f fd ["self"] (mO c):=by
 refine F.ok a76 (fun vs H Q E h=>?_) (fun cdv A outer s H vs Q E hr h=>?_)
 ·obtain⟨w,d,p,fs,kvs,ns,rfl,_⟩:=h;rfl
 have hu:=hr.units;obtain⟨w,d,p,fs,kvs,ns,rfl,hw,hl,hp,hk,h64,q⟩:=h;refine⟨_,(aL (b8 (bJ (wJ rfl) rfl B.sorted_ boot_sorted (aA (cL (pv 0) rfl) aG)))),?_⟩;exact⟨_,rfl,w,c,d,fs,.ref p,rfl,hw,cl,n_running,hl,p,kvs,ns,rfl,hp,hk,h64,fun ns' l h1 h2 h3=>q ns' l h1 h2 h3⟩
abbrev a5I:Stmt:=inClass (top 25) 0
theorem aE9:FnScope ["self"] ["self"] (aN a5I):=scM
theorem aUA {H:Hp}{w:Addr}{o o':HO}:upd (upd H w o) w o'=upd H w o':=by
 funext b
 by_cases h:b=w
 ·rw[h,aV,aV]
 ·rw[aM h,aM h,aM h]
theorem a2P  {c:Addr}(cl:Cls K c)(n_running:NoAttr K c "running")(n_joined:NoAttr K c "joined")(n_last:NoAttr K c "last")(F:Fun K "__init__" "Field.__init__" a5I f fd)(B:Bl K mg):FnOk P w K mg base CX0 1 f fd ["self"] (z6 c):=by
 refine F.ok aE9 (fun vs H Q E h=>?_) (fun cdv A outer s H vs Q E hr h=>?_)
 ·obtain⟨w,d,rfl,_⟩:=h;rfl
 have hu:=hr.units;obtain⟨w,d,rfl,hw,q⟩:=h;refine⟨_,(aD (gR (pv 0) aJD rfl) (aD (gR (pv 0) aC rfl) (aL (gR (pv 0) gB rfl)))),?_⟩;intro p hp;have pw:w≠p:=fun z=>by rw[z,hp] at hw; cases hw
 refine⟨_,rfl,w,c,d,[],rfl,by rw[aM pw]; exact hw,cl,n_running,by decide,?_⟩;refine⟨_,rfl,w,c,d,_,rfl,aV,cl,n_joined,(by show 1<1000; decide),?_⟩;refine⟨_,rfl,w,c,d,_,rfl,aV,cl,n_last,(by show 2<1000; decide),?_⟩;have z:=q p hp;rw[aUA,aUA];exact z
abbrev mG:Stmt:=inClass (top 25) 3
theorem sc_f_add_runner:FnScope ["self", "line", "runner"] ["self", "line"] (aN mG):=scM
theorem a01  {c:Addr}(cl:Cls K c)(n_running:NoAttr K c "running")(n_joined:NoAttr K c "joined")(n_last:NoAttr K c "last")(F:Fun K "add_runner" "Field.add_runner" mG f fd)(B:Bl K mg)(Kt:Kit K) :
  FnOk P w K mg base CX0 1 f fd ["self", "line"] (spL P0 (bG c) 2 (iT c)):=
 F.okL sc_f_add_runner rfl rfl fun cdv A outer s H E hr=>
 have hu:=hr.units
 ⟨_,(aD (bA (i:=2) sc_f_add_runner.nd rfl (by walk_at "lc") (cL (pv 0) rfl))
   (aD (a4Y (hu1 hu) (cL (pv 0) rfl) (pv 2) (pv 1) rfl)
   (aD (aEA (pv 0) aC aQ9)
   (aL (b8 (pv 2)))))),
  ((aQ (bD (aW (a9P cl n_joined)))
   (aQ (aBZ cl n_running aB aB)
   (aQ (aCF cl n_joined)
   (dH (aW aB))))):VS P0 _ (m8 c))⟩
abbrev aF1:Stmt:=inClass (top 25) 2
theorem sc_f_do:FnScope ["self", "deed", "place"] ["self", "deed"] (aN aF1):=scM
theorem aKP  {c:Addr}(cl:Cls K c)(n_running:NoAttr K c "running")(n_joined:NoAttr K c "joined")(n_last:NoAttr K c "last"){f_add_runner:Addr}{fd_add_runner:FuncData}(M_add_runner:Meth K c "add_runner" f_add_runner)(F_add_runner:FnOk P w K mg base CX0 1 f_add_runner fd_add_runner ["self", "line"] (spL P0 (bG c) 2 (iT c)))(b_add_runner:Binds K fd_add_runner ["self", "line"] [])(F:Fun K "do" "Field.do" aF1 f fd)(B:Bl K mg)(Kt:Kit K)
  (c_line_through:sO P0 P w K mg base)
  (c_place_at:rK P0 P w K mg base) :
  FnOk P w K mg base CX0 5 f fd ["self", "deed"] (spL P0 (bG c) 2 (a2U c)):=
 F.okL sc_f_do rfl rfl fun cdv A outer s H E hr=>
 have hu:=hr.units
 ⟨_,(aD (gR (pv 0) (aU aK (pv 1) aC (fun _ _=>rfl)) rfl)
   (aD (cP (bB (dR hu) (aU aK (pv 1) aC (fun _ _=>rfl)) jM (bH _)) (aL (b8 (iJ (pv 0) cl M_add_runner F_add_runner (hr.mono (by decide)) b_add_runner .nil iD (aA (aJ c_line_through hr rfl (aA (aU aK (pv 1) aC (fun _ _=>rfl)) (aA (aU aK (pv 1) aC (fun _ _=>rfl)) (aA (aU aK (pv 1) aC (fun _ _=>rfl)) aG)))) aG)))) bL)
   (aD (cP (bB (dR hu) (aU aK (pv 1) aC (fun _ _=>rfl)) jM (bH _)) (aL (iR (aC9 (cL (pv 0) rfl) (aU aK (pv 1) aC (fun _ _=>rfl)) ⟨rfl,rfl,rfl,rfl⟩))) (aD (bA (i:=2) sc_f_do.nd rfl (by walk_at "lc") (aJ c_place_at hr rfl (aA (dW (hu1 hu) (cL (pv 0) rfl) (aU aK (pv 1) aC (fun _ _=>rfl)) (fun _ _=>rfl)) (aA (aU aK (pv 1) aC (fun _ _=>rfl)) aG))))
   (aL (a4Y (hu1 hu) (cL (pv 0) rfl) (aU aK (pv 1) aC (fun _ _=>rfl)) (aJ c_line_through hr rfl (aA (aU aK (pv 1) aC (fun _ _=>rfl)) (aA (pv 2) (aA (aU aK (pv 1) aC (fun _ _=>rfl)) aG)))) rfl))))
   (aL (b8 gB))))),
  ((aQ (aD3 cl n_last (aY aB aF))
   (aQ (cX (bF (jH (aY aB aF) jL)) (dH (uO (aEC (fun _ _=>rfl)) (aH (aP (aX (aH (aY aB aF) (aH (aY aB aF) (aH (aY aB aF) aR))))) aR))) dM)
   (aQ (cX (bF (jH (aY aB aF) jL)) (o7 (aIF cl n_running (aY aB aF))) (aQ (bD (aW (aP (aX (aH (aGE cl n_running (aY aB aF)) (aH (aY aB aF) aR))))))
   (aBZ cl n_running (aP (aX (aH (aY aB aF) (aH aB (aH (aY aB aF) aR))))) (aY aB aF))))
   (dH (aW vQ))))):VS P0 _ (aFD c))⟩
abbrev wD:Stmt:=inClass (top 25) 1
theorem aA4:FnScope ["self", "deed"] ["self", "deed"] (aN wD):=scM
theorem a9D  {c:Addr}(cl:Cls K c)(n_running:NoAttr K c "running")(n_joined:NoAttr K c "joined")(n_last:NoAttr K c "last"){tk_MOST_RUNNERS:Tok}(hg_MOST_RUNNERS:mg "MOST_RUNNERS" = some (.int 8 tk_MOST_RUNNERS))(F:Fun K "allows" "Field.allows" wD f fd)(B:Bl K mg)(Kt:Kit K)
  (c_is_less:dU P0 P w K mg base) :
  FnOk P w K mg base CX0 2 f fd ["self", "deed"] (spL P0 (bG c) 2 (rN c)):=
 F.okL aA4 rfl rfl fun cdv A outer s H E hr=>
 have hu:=hr.units
 ⟨_,(aD (cP (PW.pt (vH (bB a0S (cL (pv 0) rfl) gB (bH _)) (oR (dG (aJ c_is_less hr rfl (aA (aU aK (pv 1) aC (fun _ _=>rfl)) (aA (cL (pv 0) rfl) aG))))))) (aL (b8 a2A)) bL)
   (aD (cP (bB (dR hu) (aU aK (pv 1) aC (fun _ _=>rfl)) jM (bH _)) (aL (b8 (gU vG (bJ aER rfl B.len_ boot_len (aA (cL (pv 0) rfl) aG)) (a3U (v:=.int 8) rfl hg_MOST_RUNNERS ⟨_,rfl⟩) (bH _)))) bL)
   (aL (b8 (aO9 (aQN (hu1 hu) (aU aK (pv 1) aC (fun _ _=>rfl)) (cL (pv 0) rfl))))))),
  ((aQ (cX (oF (bF (a1M (a86 cl n_last))) (jB (aP (aX (aH (aY aB aF) (aH (a86 cl n_last) aR)))))) (dH (aW a1U)) dM)
   (aQ (cX (bF (jH (aY aB aF) jL)) (dH (aW (wQ (aIA cl n_running) aF))) dM)
   (dH (aW (aKT cl n_running (aY aB aF)))))):VS P0 _ (wZ c))⟩
abbrev jJ:Stmt:=top 34
theorem wF:FnScope ["thing"] ["thing"] (aN jJ):=scM
theorem wK  {tk_GREATEST_TOP:Tok}(hg_GREATEST_TOP:mg "GREATEST_TOP" = some (.int 999999999 tk_GREATEST_TOP)){tk_GREATEST_BOTTOM:Tok}(hg_GREATEST_BOTTOM:mg "GREATEST_BOTTOM" = some (.int 12 tk_GREATEST_BOTTOM))(F:Fun K "is_deed_number" "is_deed_number" jJ f fd)(B:Bl K mg)(Kt:Kit K)
  (c_is_number:a0Z P0 P w K mg base) :
  FnOk P w K mg base CX0 3 f fd ["thing"] (spM P0 1 cD):=
 F.okV wF rfl rfl fun cdv A outer s H E hr=>
 have hu:=hr.units
 ⟨_,(aD (cP (j6 (dG (aJ c_is_number hr rfl (aA (pv 0) aG)))) (aL (b8 a2A)) bL)
   (aL (b8 (sZ (gU aQ2 (bJ qU rfl B.abs_ boot_abs (aA (aU aK (pv 0) aC (fun _ _=>rfl)) aG)) (a3U (v:=.int 999999999) rfl hg_GREATEST_TOP ⟨_,rfl⟩) (bH _)) (a1I (gU aQ2 (aU aK (pv 0) aC (fun _ _=>rfl)) (a3U (v:=.int 12) rfl hg_GREATEST_BOTTOM ⟨_,rfl⟩) (bH _))))))),
  ((aQ (cX (eO (jB (aP (aX (aH aB aR))))) (bK (aW a1U)) dM)
   (bK (aW (sE (aQ3 (a2I (aY aB aF)) aF) (aQ3 (aY aB aF) aF))))):VS P0 _ jE)⟩
abbrev pQ:Stmt:=top 35
theorem aCY:FnScope ["thing", "part"] ["thing"] (aN pQ):=scM
theorem aD9  (F:Fun K "is_deed" "is_deed" pQ f fd)(B:Bl K mg)(Kt:Kit K)
  (c_is_deed_number:pI P0 P w K mg base)
  (c_is_whole:iK P0 P w K mg base) :
  FnOk P w K mg base CX0 4 f fd ["thing"] (spM P0 1 uZ):=
 F.okV aCY rfl rfl fun cdv A outer s H E hr=>
 have hu:=hr.units
 ⟨_,(aD (cP (PW.pt (v9 (j6 (dG (bJ jN rfl B.isinstance_ boot_isinstance (aA (pv 0) (aA (oX (v:=.ty "tuple") rfl B.tuple_ boot_tuple rfl) aG))))) (v9 (bB vG (bJ bU rfl B.len_ boot_len (aA (pv 0) aG)) aC (bH _)) (tD (j6 (dG (bJ jN rfl B.isinstance_ boot_isinstance (aA (aU aK (pv 0) aC (fun _ _=>rfl)) (aA (oX (v:=.ty "str") rfl B.str_ boot_str rfl) aG))))))))) (aL (b8 a2A)) bL)
   (aD (cP (bB (dR hu) (aU aK (pv 0) aC (fun _ _=>rfl)) jM (bH _)) (aL (b8 (sZ (gU (dR hu) (bJ bU rfl B.len_ boot_len (aA (pv 0) aG)) aC (bH _)) (a1I (bJ (a6Y rfl) rfl B.all_ boot_all (aA (gZ (N:=["part"]) (nt:=1) (fv:=[]) rfl (qM (osc:=aN pQ) (ON:=["thing", "part"]) (by decide +kernel)) (aJX (a5B aOX (pv 0) (a96 aC) a94)) (fun _ _ _ _=>(dC (i:=0) (show(["part"]:List Str).Nodup by decide +kernel) rfl (by walk_at "lc"))) (fun _ _ _ _=>uE) (fun _ _ _ _=>(aJ c_is_deed_number hr rfl (aA (pv 0) aG)))) aG)))))) bL)
   (aD (cP (bB (dR hu) (aU aK (pv 0) aC (fun _ _=>rfl)) jM (bH _)) (aL (b8 (sZ (gU (dR hu) (bJ bU rfl B.len_ boot_len (aA (pv 0) aG)) aC (bH _)) (sZ (aJ c_is_deed_number hr rfl (aA (aU aK (pv 0) aC (fun _ _=>rfl)) aG)) (a1I (aJ c_is_whole hr rfl (aA (aU aK (pv 0) aC (fun _ _=>rfl)) aG))))))) bL)
   (aD (cP (bB (dR hu) (aU aK (pv 0) aC (fun _ _=>rfl)) jM (bH _)) (aL (b8 (sZ (gU (dR hu) (bJ bU rfl B.len_ boot_len (aA (pv 0) aG)) aC (bH _)) (sZ (aJ c_is_whole hr rfl (aA (aU aK (pv 0) aC (fun _ _=>rfl)) aG)) (sZ (aJ c_is_deed_number hr rfl (aA (aU aK (pv 0) aC (fun _ _=>rfl)) aG)) (a1I (aJ c_is_deed_number hr rfl (aA (aU aK (pv 0) aC (fun _ _=>rfl)) aG)))))))) bL)
   (aL (b8 a2A)))))),
  ((aQ (cX (lX (eO (jB (vD Kt (by decide) aB))) (lX (bF (wQ (p7 aB) aF)) (eO (jB (vD Kt (by decide) (aY aB aF)))))) (bK (aW a1U)) dM)
   (aQ (cX (bF (jH (aY aB aF) jL)) (bK (aW (sE (jH (p7 aB) aF) (aK8 (aP (lA (aNG (aPI aB (aMB aF) aMH)) dJ oO (aP (aX (aH aB aR))))))))) dM)
   (aQ (cX (bF (jH (aY aB aF) jL)) (bK (aW (sE (jH (p7 aB) aF) (sE (aP (aX (aH (aY aB aF) aR))) (aP (aX (aH (aY aB aF) aR))))))) dM)
   (aQ (cX (bF (jH (aY aB aF) jL)) (bK (aW (sE (jH (p7 aB) aF) (sE (aP (aX (aH (aY aB aF) aR))) (sE (aP (aX (aH (aY aB aF) aR))) (aP (aX (aH (aY aB aF) aR)))))))) dM)
   (bK (aW a1U)))))):VS P0 _ a1B)⟩
abbrev a4T:Stmt:=top 36
theorem sc_log_of:FnScope ["thing", "field", "at", "deed"] ["thing"] (aN a4T):=scM
theorem aFH  {c:Addr}(cl:Cls K c)(n_running:NoAttr K c "running")(n_joined:NoAttr K c "joined")(n_last:NoAttr K c "last"){fI:Addr}{fdI:FuncData}(hmF:mg "Field" = some (.ref c))(MI:Mk K c fI)(FI:FnOk P w K mg base CX0 1 fI fdI ["self"] (z6 c))(bI:Binds K fdI ["self"] []){f_allows:Addr}{fd_allows:FuncData}(M_allows:Meth K c "allows" f_allows)(F_allows:FnOk P w K mg base CX0 2 f_allows fd_allows ["self", "deed"] (spL P0 (bG c) 2 (rN c)))(b_allows:Binds K fd_allows ["self", "deed"] []){f_do:Addr}{fd_do:FuncData}(M_do:Meth K c "do" f_do)(F_do:FnOk P w K mg base CX0 5 f_do fd_do ["self", "deed"] (spL P0 (bG c) 2 (a2U c)))(b_do:Binds K fd_do ["self", "deed"] []){tk_MOST_DEEDS:Tok}(hg_MOST_DEEDS:mg "MOST_DEEDS" = some (.int 40 tk_MOST_DEEDS))(F:Fun K "log_of" "log_of" a4T f fd)(B:Bl K mg)(Kt:Kit K)
  (c_is_deed:a7X P0 P w K mg base) :
  FnOk P w K mg base CX0 6 f fd ["thing"] (spM P0 1 (uR c)):=
 F.okV sc_log_of rfl rfl fun cdv A outer s H E hr=>
 have hu:=hr.units
 ⟨_,(aD (cP (j6 (dG (bJ jN rfl B.isinstance_ boot_isinstance (aA (pv 0) (aA (oX (v:=.ty "list") rfl B.list_ boot_list rfl) aG))))) (aL vO) bL)
   (aD (bA (i:=1) sc_log_of.nd rfl (by walk_at "lc") (yU MI FI (hr.mono (by decide)) rfl hmF bI .nil iD))
   (aD (a2M PassesOwn.never rfl (aEH rfl B.enumerate_ (aA (pv 0) aG)) (aH5 rfl (qW (dC (i:=2) sc_log_of.nd rfl (by walk_at "lc")) (qW (dC (i:=3) sc_log_of.nd rfl (by walk_at "lc")) a8N))) (aD (cP (PW.pt (v9 (bB (dR hu) (pv 2) (a3U (v:=.int 40) rfl hg_MOST_DEEDS ⟨_,rfl⟩) (bH _)) (v9 (j6 (dG (aJ c_is_deed hr rfl (aA (pv 3) aG)))) (tD (j6 (dG (iJ (pv 1) cl M_allows F_allows (hr.mono (by decide)) b_allows .nil iD (aA (pv 3) aG)))))))) (aL vO) bL)
   (aL (iR (iJ (pv 1) cl M_do F_do (hr.mono (by decide)) b_do .nil iD (aA (pv 3) aG))))))
   (aL (b8 (gH lR rfl B.list_ boot_list (aA (pv 0) aG))))))),
  ((aQ (cX (eO (jB (vD Kt (by decide) aB))) vM dM)
   (aQ (bD aIS)
   (aQ (a82 (aH9 aB) (aGU (rH dJ (rH dJ aA0))) (aQ (cX (lX (bF (jH aB aF)) (lX (eO (jB (aP (aX (aH aB aR))))) (eO (jB (aP (uO (aEC (fun _ _=>rfl)) (aH aB aR))))))) vM dM)
   (o7 (aP (uO (aEC (fun _ _=>rfl)) (aH aB aR))))))
   (bK (zM aB))))):VS P0 _ (a3Z c))⟩
abbrev a4M:Stmt:=inClass (top 46) 0
theorem aGK:FnScope ["self"] ["self"] (aN a4M):=scM
theorem aDF  {c cF:Addr}(cl:Cls K c)(clF:Cls K cF)(n_deeds:NoAttr K c "deeds")(n_field:NoAttr K c "field")(n_now:NoAttr K c "now")(n_gone:NoAttr K c "gone")(n_come:NoAttr K c "come")(nF_running:NoAttr K cF "running"){fI:Addr}{fdI:FuncData}(hmF:mg "Field" = some (.ref cF))(MI:Mk K cF fI)(FI:FnOk P w K mg base CX0 1 fI fdI ["self"] (z6 cF))(bI:Binds K fdI ["self"] [])(F:Fun K "__init__" "Race.__init__" a4M f fd)(B:Bl K mg) :
  FnOk P w K mg base CX0 3 f fd ["self"] (a4U c cF):=by
 refine F.ok aGK (fun vs H Q E h=>?_) (fun cdv A outer s H vs Q E hr h=>?_)
 ·obtain⟨w,d,rfl,_⟩:=h;rfl
 have hu:=hr.units;obtain⟨w,d,rfl,hw,hd,q⟩:=h;refine⟨_,(aD (gR (pv 0) (eE aG) rfl) (aD (gR (pv 0) (yU MI FI (hr.mono (by decide)) rfl hmF bI .nil iD) rfl) (aD (gR (pv 0) gB rfl) (aD (gR (pv 0) (eE aG) rfl) (aL (gR (pv 0) (eE aG) rfl)))))),?_⟩;have nw:∀{Z:Hp} {b:Addr} {o:HO},Z w=some o→Z b=none→b≠w:=fun h g z=>by rw[z,h] at g; cases g
 refine⟨u9 rfl,fun ld hld=>?_⟩;have e1:ld≠w:=nw hw hld;refine⟨_,rfl,w,c,d,[],rfl,by rw[aM (Ne.symm e1)]; exact hw,cl,n_deeds,by decide,?_⟩;intro x dx hx hdx hne;refine⟨x,dx,rfl,aV,fun p hp=>⟨rfl,?_⟩⟩;generalize hH1:upd (upd H ld (.lst [])) w (.ins c d (xJ "deeds" (.ref ld) []))=H1 at *;have w1:H1 w=some (.ins c d [("deeds", .ref ld)]):=by rw[← hH1]; exact aV
 have l1:H1 ld=some (.lst []):=by rw[← hH1,aM e1]; exact aV
 have o1:∀ b o,H b=some o→b≠w→H1 b=some o:=fun b o e hb=>by rw[← hH1,aM hb,aM (b7 e hld)]; exact e
 have back1:∀ b,H1 b=none→H b=none:=fun b hb=>by
  cases e:H b with
  | none=>rfl
  | some o=>
   by_cases hbw:b=w
   ·rw[hbw,w1] at hb; cases hb
   ·rw[o1 b o e hbw] at hb; cases hb
 have xw:x≠w:=nw w1 hx;have dxw:dx≠w:=nw w1 hdx;have px:p≠x:=fun z=>by rw[z,aV] at hp; cases hp
 have pdx:p≠dx:=fun z=>by rw[z,aM hne,aV] at hp; cases hp
 have hp1:H1 p=none:=by rw[aM px,aM pdx] at hp; exact hp
 have pw:p≠w:=nw w1 hp1;generalize hH2:upd (upd (upd (upd H1 dx (.own x)) x (.ins cF dx [])) p (.dK [])) x (.ins cF dx [("running", .ref p),("joined", .int 0),("last", .non)])=H2;have o2:∀ b o,H1 b=some o→H2 b=some o:=fun b o e=>by rw[← hH2,aM (b7 e hx),aM (b7 e hp1),aM (b7 e hx),aM (b7 e hdx)]; exact e
 have f2:FdAt cF x ⟨dx,p,[],0,.none⟩ [] .non H2:=by
  rw[← hH2];refine⟨aV,?_,?_⟩
  ·show upd _ x _ dx=_;rw[aM hne,aM (Ne.symm pdx),aM hne,aV]
  ·show upd _ x _ p=_;rw[aM px,aV]
 refine⟨_,rfl,w,c,d,_,rfl,o2 _ _ w1,cl,n_field,(by show 1<1000; decide),?_⟩;generalize hH3:upd H2 w (.ins c d (xJ "field" (.ref x) [("deeds", .ref ld)]))=H3;have w3:H3 w=some (.ins c d [("deeds", .ref ld),("field", .ref x)]):=by rw[← hH3]; exact aV
 have o3:∀ b o,H2 b=some o→b≠w→H3 b=some o:=fun b o e hb=>by rw[← hH3,aM hb]; exact e
 refine⟨_,rfl,w,c,d,_,rfl,w3,cl,n_now,(by show 2<1000; decide),?_⟩;generalize hH4:upd H3 w (.ins c d (xJ "now" .non [("deeds", .ref ld),("field", .ref x)]))=H4;have w4:H4 w=some (.ins c d [("deeds", .ref ld),("field", .ref x),("now", .non)]):=by rw[← hH4]; exact aV
 have o4:∀ b o,H3 b=some o→b≠w→H4 b=some o:=fun b o e hb=>by rw[← hH4,aM hb]; exact e
 refine⟨u9 rfl,fun lg hlg=>?_⟩;have e2:lg≠w:=nw w4 hlg;refine⟨_,rfl,w,c,d,_,rfl,by rw[aM (Ne.symm e2)]; exact w4,cl,n_gone,(by show 3<1000; decide),?_⟩;generalize hH5:upd (upd H4 lg (.lst [])) w (.ins c d (xJ "gone" (.ref lg) [("deeds", .ref ld),("field", .ref x),("now", .non)]))=H5;have w5:H5 w=some (.ins c d [("deeds", .ref ld),("field", .ref x),("now", .non),("gone", .ref lg)]):=by rw[← hH5]; exact aV
 have l5:H5 lg=some (.lst []):=by rw[← hH5,aM e2]; exact aV
 have o5:∀ b o,H4 b=some o→b≠w→H5 b=some o:=fun b o e hb=>by rw[← hH5,aM hb,aM (b7 e hlg)]; exact e
 refine⟨u9 rfl,fun lc hlc=>?_⟩;have e3:lc≠w:=nw w5 hlc;refine⟨_,rfl,w,c,d,_,rfl,by rw[aM (Ne.symm e3)]; exact w5,cl,n_come,(by show 4<1000; decide),?_⟩;have o6:∀ b o,H5 b=some o→b≠w→upd (upd H5 lc (.lst [])) w (.ins c d (xJ "come" (.ref lc) [("deeds", .ref ld),("field", .ref x),("now", .non),("gone", .ref lg)])) b=some o:=fun b o e hb=>by rw[aM hb,aM (b7 e hlc)]; exact e
 have all:∀ b o,H2 b=some o→b≠w→upd (upd H5 lc (.lst [])) w (.ins c d (xJ "come" (.ref lc) [("deeds", .ref ld),("field", .ref x),("now", .non),("gone", .ref lg)])) b=some o:=fun b o e hb=>o6 b o (o5 b o (o4 b o (o3 b o e hb) hb) hb) hb;have dw:d≠w:=fun z=>by rw[z,hw] at hd; cases hd
 refine q ld x lg lc dx p _ (fun b o e hb=>all b o (o2 b o (o1 b o e hb)) hb) ⟨aV,all _ _ (o2 _ _ (o1 _ _ hd dw)) dw,all _ _ (o2 _ _ l1) e1,o6 _ _ l5 e2,(by show upd (upd H5 lc (.lst [])) w _ lc=_; rw[aM e3]; exact aV),⟨all _ _ f2.i xw,all _ _ f2.d dxw,all _ _ f2.k pw⟩⟩ (Ne.symm xw) fun b hb=>?_;have up:∀ b,H2 b=none→b≠w→H b=none:=fun b hb hbw=>by
  cases e:H b with
  | none=>rfl
  | some o=>rw[o2 b o (o1 b o e hbw)] at hb; cases hb
 have at4:∀ b,H4 b=none→b≠w→H b=none:=fun b hb hbw=>up b (by
  cases e:H2 b with
  | none=>rfl
  | some o=>rw[o4 b o (o3 b o e hbw) hbw] at hb; cases hb) hbw
 have at5:∀ b,H5 b=none→b≠w→H b=none:=fun b hb hbw=>at4 b (by
  cases e:H4 b with
  | none=>rfl
  | some o=>rw[o5 b o e hbw] at hb; cases hb) hbw
 simp only[List.mem_cons,List.not_mem_nil,or_false] at hb;rcases hb with rfl|rfl|rfl|rfl|rfl|rfl
 ·exact hld
 ·exact at4 _ hlg e2
 ·exact at5 _ hlc e3
 ·exact back1 _ hx
 ·exact back1 _ hdx
 ·exact back1 _ hp1
abbrev vI:Stmt:=inClass (top 25) 5
theorem aCS:FnScope ["self", "runner"] ["self"] (aN vI):=scM
theorem aD6  {c:Addr}(cl:Cls K c)(n_running:NoAttr K c "running")(n_joined:NoAttr K c "joined")(n_last:NoAttr K c "last"){f_runners:Addr}{fd_runners:FuncData}(M_runners:Meth K c "runners" f_runners)(F_runners:FnOk P w K mg base CX0 1 f_runners fd_runners ["self"] (mO c))(b_runners:Binds K fd_runners ["self"] [])(F:Fun K "lines_running" "Field.lines_running" vI f fd)(B:Bl K mg)(Kt:Kit K) :
  FnOk P w K mg base CX0 2 f fd ["self"] (spM P0 1 (uW c)):=
 F.okV aCS rfl rfl fun cdv A outer s H E hr=>
 have hu:=hr.units
 ⟨_,(aL (b8 (gZ (N:=["runner", "self"]) (nt:=1) (fv:=[0]) rfl (qM (osc:=aN vI) (ON:=["self", "runner"]) (by decide +kernel)) (kZ (jU (pv 0) cl M_runners F_runners (hr.mono (by decide)) b_runners .nil iD)) (fun _ _ _ _=>(dC (i:=0) (show(["runner", "self"]:List Str).Nodup by decide +kernel) rfl (by walk_at "lc"))) (fun _ _ _ _=>uE) (fun _ _ _ _=>(dW (hu1 hu) (cL (pv 1) rfl) (pv 0) (fun _ _=>rfl)))))),
  ((bK (lA (lG (aP a87)) dJ oO (aGE cl n_running aB))):VS P0 _ (zN c))⟩
abbrev a0L:Stmt:=inClass (top 46) 5
theorem aDC:FnScope ["self"] ["self"] (aN a0L):=scM
theorem aCI  {c cF cW:Addr}(cl:Cls K c)(clF:Cls K cF)(n_deeds:NoAttr K c "deeds")(n_field:NoAttr K c "field")(n_now:NoAttr K c "now")(n_gone:NoAttr K c "gone")(n_come:NoAttr K c "come")(nF_running:NoAttr K cF "running"){f_F_runners:Addr}{fd_F_runners:FuncData}(M_F_runners:Meth K cF "runners" f_F_runners)(F_F_runners:FnOk P w K mg base CX0 1 f_F_runners fd_F_runners ["self"] (mO cF))(b_F_runners:Binds K fd_F_runners ["self"] [])(F:Fun K "order" "Race.order" a0L f fd)(B:Bl K mg)(Kt:Kit K)
  (c_order_among:jW P0 P w K mg base) :
  FnOk P w K mg base CX0 7 f fd ["self"] (spM P0 1 (v6 c cF cW)):=
 F.okV aDC rfl rfl fun cdv A outer s H E hr=>
 have hu:=hr.units
 ⟨_,(aL (b8 (aJ c_order_among hr rfl (aA (cL (cL (pv 0) rfl) rfl) (aA (jU (cL (pv 0) rfl) clF M_F_runners F_F_runners (hr.mono (by decide)) b_F_runners .nil iD) (aA (cL (pv 0) rfl) aG)))))),
  ((bK (aX (aH (aAI cl n_field clF nF_running) (aH (aP (xQ cl n_field)) (aH (rZ cl n_now) aR))))):VS P0 _ (a0F c cF cW))⟩
abbrev vZ:Stmt:=inClass (top 46) 6
theorem a8Y:FnScope ["self"] ["self"] (aN vZ):=scM
theorem a9T  {c cF cW:Addr}(cl:Cls K c)(clF:Cls K cF)(n_deeds:NoAttr K c "deeds")(n_field:NoAttr K c "field")(n_now:NoAttr K c "now")(n_gone:NoAttr K c "gone")(n_come:NoAttr K c "come")(nF_running:NoAttr K cF "running"){f_order:Addr}{fd_order:FuncData}(M_order:Meth K c "order" f_order)(F_order:FnOk P w K mg base CX0 7 f_order fd_order ["self"] (spM P0 1 (v6 c cF cW)))(b_order:Binds K fd_order ["self"] [])(F:Fun K "papers" "Race.papers" vZ f fd)(B:Bl K mg)(Kt:Kit K)
  (c_papers_among:iV P0 P w K mg base) :
  FnOk P w K mg base CX0 9 f fd ["self"] (spM P0 1 (nA c cF cW)):=
 F.okV a8Y rfl rfl fun cdv A outer s H E hr=>
 have hu:=hr.units
 ⟨_,(aL (b8 (aJ c_papers_among hr rfl (aA (cL (cL (pv 0) rfl) rfl) (aA (jU (pv 0) cl M_order F_order (hr.mono (by decide)) b_order .nil iD) (aA (cL (pv 0) rfl) aG)))))),
  ((bK (aX (aH (aAI cl n_field clF nF_running) (aH (aP (nH aR)) (aH (rZ cl n_now) aR))))):VS P0 _ (xO c cF cW))⟩
abbrev gP:Stmt:=inClass (top 46) 1
theorem tU:FnScope ["self", "time"] ["self", "time"] (aN gP):=scM
theorem uB  {c cF cW:Addr}(cl:Cls K c)(clF:Cls K cF)(n_deeds:NoAttr K c "deeds")(n_field:NoAttr K c "field")(n_now:NoAttr K c "now")(n_gone:NoAttr K c "gone")(n_come:NoAttr K c "come")(nF_running:NoAttr K cF "running")(F:Fun K "refuse_earlier" "Race.refuse_earlier" gP f fd)(B:Bl K mg)(Kt:Kit K)
  (c_is_less:dU P0 P w K mg base) :
  FnOk P w K mg base CX0 2 f fd ["self", "time"] (spM P0 2 (cM c cF cW)):=
 F.okV tU rfl rfl fun cdv A outer s H E hr=>
 have hu:=hr.units
 ⟨_,(aL (cP (PW.pt (vH (bB a0S (cL (pv 0) rfl) gB (bH _)) (oR (dG (aJ c_is_less hr rfl (aA (pv 1) (aA (cL (pv 0) rfl) aG))))))) (aL vO) bL)),
  ((cX (oF (bF (a1M (rZ cl n_now))) (jB (aP (aX (aH aB (aH (rZ cl n_now) aR)))))) vM dM):VS P0 _ (gM c cF cW))⟩
abbrev aDR:Stmt:=inClass (top 46) 2
theorem sc_r_do:FnScope ["self", "deed", "log", "before", "told", "after"] ["self", "deed"] (aN aDR):=scM
theorem aLH  {c cF cW:Addr}(cl:Cls K c)(clF:Cls K cF)(n_deeds:NoAttr K c "deeds")(n_field:NoAttr K c "field")(n_now:NoAttr K c "now")(n_gone:NoAttr K c "gone")(n_come:NoAttr K c "come")(nF_running:NoAttr K cF "running"){f_refuse_earlier:Addr}{fd_refuse_earlier:FuncData}(M_refuse_earlier:Meth K c "refuse_earlier" f_refuse_earlier)(F_refuse_earlier:FnOk P w K mg base CX0 2 f_refuse_earlier fd_refuse_earlier ["self", "time"] (spM P0 2 (cM c cF cW)))(b_refuse_earlier:Binds K fd_refuse_earlier ["self", "time"] []){f_papers:Addr}{fd_papers:FuncData}(M_papers:Meth K c "papers" f_papers)(F_papers:FnOk P w K mg base CX0 9 f_papers fd_papers ["self"] (spM P0 1 (nA c cF cW)))(b_papers:Binds K fd_papers ["self"] []){f_F_do:Addr}{fd_F_do:FuncData}(M_F_do:Meth K cF "do" f_F_do)(F_F_do:FnOk P w K mg base CX0 5 f_F_do fd_F_do ["self", "deed"] (spL P0 (bG cF) 2 (a2U cF)))(b_F_do:Binds K fd_F_do ["self", "deed"] [])(F:Fun K "do" "Race.do" aDR f fd)(B:Bl K mg)(Kt:Kit K)
  (c_log_of:aIV P0 P w K mg base cF)
  (c_those_not_in:t8 P0 P w K mg base) :
  FnOk P w K mg base CX0 10 f fd ["self", "deed"] (spL P0 (cJ c cF) 2 (aBM c cF cW)):=
 F.okL sc_r_do rfl rfl fun cdv A outer s H E hr=>
 have hu:=hr.units
 ⟨_,(aD (bA (i:=2) sc_r_do.nd rfl (by walk_at "lc") (aJ c_log_of hr rfl (aA (bQ aOK (cL (pv 0) rfl) (eE (aA (pv 1) aG))) aG)))
   (aD (iR (iJ (pv 0) cl M_refuse_earlier F_refuse_earlier (hr.mono (by decide)) b_refuse_earlier .nil iD (aA (aU aK (pv 1) aC (fun _ _=>rfl)) aG)))
   (aD (gR (pv 0) (aU aK (pv 1) aC (fun _ _=>rfl)) rfl)
   (aD (bA (i:=3) sc_r_do.nd rfl (by walk_at "lc") (jU (pv 0) cl M_papers F_papers (hr.mono (by decide)) b_papers .nil iD))
   (aD (bA (i:=4) sc_r_do.nd rfl (by walk_at "lc") (iJ (cL (pv 0) rfl) clF M_F_do F_F_do (hr.mono (by decide)) b_F_do .nil iD (aA (pv 1) aG)))
   (aD (bA (i:=5) sc_r_do.nd rfl (by walk_at "lc") (jU (pv 0) cl M_papers F_papers (hr.mono (by decide)) b_papers .nil iD))
   (aD (gR (pv 0) (pv 2) rfl)
   (aD (gR (pv 0) (aJ c_those_not_in hr rfl (aA (pv 3) (aA (pv 5) aG))) rfl)
   (aD (gR (pv 0) (aJ c_those_not_in hr rfl (aA (pv 5) (aA (pv 3) aG))) rfl)
   (aL (b8 (pv 4)))))))))))),
  ((aQ (bD (a0T (aX (aH (aP (aP9 (aCN cl n_deeds) (aP (jA (aZ aB cA))))) aR))))
   (aQ (o7 (aAG (aP (nH (aH (aY aB aF) aR)))))
   (aQ (a2Y cl n_now (aY aB aF))
   (aQ (bD (aW (aP (a0T (nH aR)))))
   (aQ (bD (aW (aP (aM1 cl n_field (fun _ _=>rfl) (aH aB aR)))))
   (aQ (bD (aW (aP (a0T (nH aR)))))
   (aQ (aJQ cl n_deeds a98)
   (aQ (aHS cl n_gone (aX (aH aB (aH aB aR))))
   (aQ (aIB cl n_come (aX (aH aB (aH aB aR))))
   (dH (aW aB))))))))))):VS P0 _ (aG6 c cF cW))⟩
abbrev aBQ:Stmt:=inClass (top 46) 3
theorem sc_r_go:FnScope ["self", "time", "start", "steps", "runners", "step"] ["self", "time"] (aN aBQ):=scM
theorem aME  {c cF cW:Addr}(cl:Cls K c)(clF:Cls K cF)(n_deeds:NoAttr K c "deeds")(n_field:NoAttr K c "field")(n_now:NoAttr K c "now")(n_gone:NoAttr K c "gone")(n_come:NoAttr K c "come")(nF_running:NoAttr K cF "running"){f_refuse_earlier:Addr}{fd_refuse_earlier:FuncData}(M_refuse_earlier:Meth K c "refuse_earlier" f_refuse_earlier)(F_refuse_earlier:FnOk P w K mg base CX0 2 f_refuse_earlier fd_refuse_earlier ["self", "time"] (spM P0 2 (cM c cF cW)))(b_refuse_earlier:Binds K fd_refuse_earlier ["self", "time"] []){f_F_runners:Addr}{fd_F_runners:FuncData}(M_F_runners:Meth K cF "runners" f_F_runners)(F_F_runners:FnOk P w K mg base CX0 1 f_F_runners fd_F_runners ["self"] (mO cF))(b_F_runners:Binds K fd_F_runners ["self"] []){f_F_lines_running:Addr}{fd_F_lines_running:FuncData}(M_F_lines_running:Meth K cF "lines_running" f_F_lines_running)(F_F_lines_running:FnOk P w K mg base CX0 2 f_F_lines_running fd_F_lines_running ["self"] (spM P0 1 (uW cF)))(b_F_lines_running:Binds K fd_F_lines_running ["self"] []){fW:Addr}{fdW:FuncData}(hmW:mg "Walk" = some (.ref cW))(clW:Cls K cW)(MW:Mk K cW fW)(FW:FnOk P w K mg base CX0 8 fW fdW ["self", "lines", "time"] (a5N P0 cW jY))(bW:Binds K fdW ["self", "lines", "time"] []){f_W_go:Addr}{fd_W_go:FuncData}(M_W_go:Meth K cW "go" f_W_go)(F_W_go:FnOk P w K mg base CX0 11 f_W_go fd_W_go ["self", "time"] (spL P0 (dZ cW) 2 (aB1 cW)))(b_W_go:Binds K fd_W_go ["self", "time"] [])(F:Fun K "go" "Race.go" aBQ f fd)(B:Bl K mg)(Kt:Kit K) :
  FnOk P w K mg base CX0 12 f fd ["self", "time"] (spL P0 (cJ c cF) 2 (a2F c cF cW)):=
 F.okL sc_r_go rfl rfl fun cdv A outer s H E hr=>
 have hu:=hr.units
 ⟨_,(aD (iR (iJ (pv 0) cl M_refuse_earlier F_refuse_earlier (hr.mono (by decide)) b_refuse_earlier .nil iD (aA (pv 1) aG)))
   (aD (bA (i:=2) sc_r_go.nd rfl (by walk_at "lc") (aAX (bB aC6 (cL (pv 0) rfl) gB (bH _)) (pv 1) (cL (pv 0) rfl)))
   (aD (bA (i:=3) sc_r_go.nd rfl (by walk_at "lc") (iJ (aMY MW FW (hr.mono (by decide)) rfl hmW bW .nil iD (aA (jU (cL (pv 0) rfl) clF M_F_lines_running F_F_lines_running (hr.mono (by decide)) b_F_lines_running .nil iD) (aA (pv 2) aG))) clW M_W_go F_W_go (hr.mono (by decide)) b_W_go .nil iD (aA (pv 1) aG)))
   (aD (gR (pv 0) (pv 1) rfl)
   (aD (bA (i:=4) sc_r_go.nd rfl (by walk_at "lc") (jU (cL (pv 0) rfl) clF M_F_runners F_F_runners (hr.mono (by decide)) b_F_runners .nil iD))
   (aL (b8 (gZ (N:=["step", "runners"]) (nt:=1) (fv:=[4]) rfl (qM (osc:=aN aBQ) (ON:=["self", "time", "start", "steps", "runners", "step"]) (by decide +kernel)) (kZ (pv 3)) (fun _ _ _ _=>(dC (i:=0) (show(["step", "runners"]:List Str).Nodup by decide +kernel) rfl (by walk_at "lc"))) (fun _ _ _ _=>uE) (fun _ _ _ _=>(dY (aA (aU aK (pv 0) aC (fun _ _=>rfl)) (aA (aU aK (pv 1) (aU aK (pv 0) aC (fun _ _=>rfl)) (fun _ _=>rfl)) (aA (aU aK (pv 1) (aU aK (pv 0) aC (fun _ _=>rfl)) (fun _ _=>rfl)) aG))))))))))))),
  ((aQ (o7 (aAG (aP (nH (aH aB aR)))))
   (aQ (bD (aW (aPL (bF (aBS (rZ cl n_now))) aB (rZ cl n_now))))
   (aQ (bD (aW (aP (aIJ (aEU (fun _ _=>rfl)) (aID (aP (a0T (aIM cl n_field (fun _ _=>rfl)))) aB)))))
   (aQ (a2Y cl n_now aB)
   (aQ (bD (aW (aP (xQ cl n_field))))
   (dH (lA (lG aB) dJ oO (eU (aZ (aY aB aF) (aZ (aY aB (aY aB aF)) (aZ (aY aB (aY aB aF)) cA))))))))))):VS P0 _ (aGN c cF cW))⟩
abbrev uC:Stmt:=inClass (top 46) 8
theorem a7J:FnScope ["self"] ["self"] (aN uC):=scM
theorem a6Z  {c cF cW:Addr}(cl:Cls K c)(clF:Cls K cF)(n_deeds:NoAttr K c "deeds")(n_field:NoAttr K c "field")(n_now:NoAttr K c "now")(n_gone:NoAttr K c "gone")(n_come:NoAttr K c "come")(nF_running:NoAttr K cF "running")(F:Fun K "changed" "Race.changed" uC f fd)(B:Bl K mg)(Kt:Kit K) :
  FnOk P w K mg base CX0 1 f fd ["self"] (spM P0 1 (iH c cF cW)):=
 F.okV a7J rfl rfl fun cdv A outer s H E hr=>
 have hu:=hr.units
 ⟨_,(aL (b8 (dY (aA (gH lR rfl B.list_ boot_list (aA (cL (pv 0) rfl) aG)) (aA (gH lR rfl B.list_ boot_list (aA (cL (pv 0) rfl) aG)) aG))))),
  ((bK (aQ8 (zM (aFS cl n_gone)) (zM (aFT cl n_come)))):VS P0 _ (tQ c cF cW))⟩
abbrev lN:Stmt:=top 50
theorem sc_law_lowest:FnScope ["_law_top", "_law_bottom", "_law_one", "_law_other"] ["_law_top", "_law_bottom"] (aN lN):=scM
theorem a4S  (F:Fun K "_law_lowest" "_law_lowest" lN f fd)(B:Bl K mg)(Kt:Kit K) :
  FnOk P w K mg base CX0 1 f fd ["_law_top", "_law_bottom"] (spM P0 2 cR):=
 F.okV sc_law_lowest rfl rfl fun cdv A outer s H E hr=>
 have hu:=hr.units
 ⟨_,(aD (bA (i:=2) sc_law_lowest.nd rfl (by walk_at "lc") (bJ qU rfl B.abs_ boot_abs (aA (pv 0) aG)))
   (aD (bA (i:=3) sc_law_lowest.nd rfl (by walk_at "lc") (bJ qU rfl B.abs_ boot_abs (aA (pv 1) aG)))
   (aD (zB PassesOwn.never (bB aM0 (pv 3) aC (bH _)) (aL (aOD (i:=2) (j:=3) rfl sc_law_lowest.nd rfl rfl (by decide) rfl rfl (aA (pv 3) (aA (bQ pP (pv 2) (pv 3)) aG)) rfl)))
   (aD (cP (bB vG (pv 1) aC (bH _)) (aL (bA (i:=2) sc_law_lowest.nd rfl (by walk_at "lc") (bQ a2L aC (pv 2)))) bL)
   (aL (b8 (dY (aA (bQ z8 (pv 0) (pv 2)) (aA (bQ z8 (pv 1) (pv 2)) aG))))))))),
  ((aQ (bD (aW (a2I aB)))
   (aQ (bD (aW (a2I aB)))
   (aQ (zG (bF (aRW aB aF)) (aNA (aZ aB (aZ (aKE aB aB) cA))))
   (aQ (cX (bF (wQ aB aF)) (bD (aW (a74 aF aB))) dM)
   (bK (aW (eU (aZ (a5H aB aB) (aZ (a5H aB aB) cA))))))))):VS P0 _ qD)⟩
abbrev s8:Stmt:=top 51
theorem aAE:FnScope ["_law_a", "_law_b", "_law_sign"] ["_law_a", "_law_b", "_law_sign"] (aN s8):=scM
theorem a8M  (F:Fun K "_law_plus" "_law_plus" s8 f fd)(B:Bl K mg)(Kt:Kit K)
  (c_law_lowest:cH P0 P w K mg base) :
  FnOk P w K mg base CX0 2 f fd ["_law_a", "_law_b", "_law_sign"] (spM P0 3 fY):=
 F.okV aAE rfl rfl fun cdv A outer s H E hr=>
 have hu:=hr.units
 ⟨_,(aL (b8 (aJ c_law_lowest hr rfl (aA (bQ j7 (bQ bY (aU aK (pv 0) aC (fun _ _=>rfl)) (aU aK (pv 1) aC (fun _ _=>rfl))) (bQ bY (bQ bY (pv 2) (aU aK (pv 1) aC (fun _ _=>rfl))) (aU aK (pv 0) aC (fun _ _=>rfl)))) (aA (bQ bY (aU aK (pv 0) aC (fun _ _=>rfl)) (aU aK (pv 1) aC (fun _ _=>rfl))) aG))))),
  ((bK (aX (aH (xY (f9 (aY aB aF) (aY aB aF)) (f9 (f9 aB (aY aB aF)) (aY aB aF))) (aH (f9 (aY aB aF) (aY aB aF)) aR)))):VS P0 _ xM)⟩
abbrev nQ:Stmt:=top 52
theorem a77:FnScope ["_law_a", "_law_b"] ["_law_a", "_law_b"] (aN nQ):=scM
theorem a6F  (F:Fun K "_law_times" "_law_times" nQ f fd)(B:Bl K mg)(Kt:Kit K)
  (c_law_lowest:cH P0 P w K mg base) :
  FnOk P w K mg base CX0 2 f fd ["_law_a", "_law_b"] (spM P0 2 iG):=
 F.okV a77 rfl rfl fun cdv A outer s H E hr=>
 have hu:=hr.units
 ⟨_,(aL (b8 (aJ c_law_lowest hr rfl (aA (bQ bY (aU aK (pv 0) aC (fun _ _=>rfl)) (aU aK (pv 1) aC (fun _ _=>rfl))) (aA (bQ bY (aU aK (pv 0) aC (fun _ _=>rfl)) (aU aK (pv 1) aC (fun _ _=>rfl))) aG))))),
  ((bK (aX (aH (f9 (aY aB aF) (aY aB aF)) (aH (f9 (aY aB aF) (aY aB aF)) aR)))):VS P0 _ tZ)⟩
abbrev rM:Stmt:=top 53
theorem a8J:FnScope ["_law_a", "_law_b"] ["_law_a", "_law_b"] (aN rM):=scM
theorem a9J  (F:Fun K "_law_less" "_law_less" rM f fd)(B:Bl K mg)(Kt:Kit K) :
  FnOk P w K mg base CX0 1 f fd ["_law_a", "_law_b"] (spM P0 2 kE):=
 F.okV a8J rfl rfl fun cdv A outer s H E hr=>
 have hu:=hr.units
 ⟨_,(aL (b8 (gU vG (bQ bY (aU aK (pv 0) aC (fun _ _=>rfl)) (aU aK (pv 1) aC (fun _ _=>rfl))) (bQ bY (aU aK (pv 1) aC (fun _ _=>rfl)) (aU aK (pv 0) aC (fun _ _=>rfl))) (bH _)))),
  ((bK (aW (wQ (f9 (aY aB aF) (aY aB aF)) (f9 (aY aB aF) (aY aB aF))))):VS P0 _ xF)⟩
abbrev oM:Stmt:=top 54
theorem a7W:FnScope ["_law_pen_here", "_law_kind"] ["_law_pen_here", "_law_kind"] (aN oM):=scM
theorem a70  (F:Fun K "_law_small" "_law_small" oM f fd)(B:Bl K mg)(Kt:Kit K)
  (c_law_lowest:cH P0 P w K mg base)
  (c_law_take:iM P0 P w K mg base) :
  FnOk P w K mg base CX0 2 f fd ["_law_pen_here", "_law_kind"] (spL P0 penF 2 lC):=
 F.okL a7W rfl rfl fun cdv A outer s H E hr=>
 have hu:=hr.units
 ⟨_,(aD (cP (bB (dR hu) (pv 1) aC (bH _)) (aL (b8 (dY (aA (bQ a2L (aJ c_law_take hr rfl (aA (pv 0) (aA aC aG))) aC) (aA aC aG))))) bL)
   (aL (b8 (aJ c_law_lowest hr rfl (aA (bQ a2L (aJ c_law_take hr rfl (aA (pv 0) (aA aC aG))) aC) (aA (bQ j7 aC (aJ c_law_take hr rfl (aA (pv 0) (aA aC aG)))) aG)))))),
  ((aQ (cX (bF (jH aB aF)) (dH (aW (eU (aZ (a74 (aP (cN (aH aF aR))) aF) (aZ aF cA))))) dM)
   (dH (aX (aH (a74 (aP (cN (aH aF aR))) aF) (aH (xY aF (aP (cN (aH aF aR)))) aR))))):VS P0 _ tV)⟩
abbrev nG:Stmt:=top 55
theorem a6N:FnScope ["_law_line", "_law_time"] ["_law_line", "_law_time"] (aN nG):=scM
theorem a6U  (F:Fun K "_law_place" "_law_place" nG f fd)(B:Bl K mg)(Kt:Kit K)
  (c_law_plus:iQ P0 P w K mg base)
  (c_law_times:lW P0 P w K mg base) :
  FnOk P w K mg base CX0 3 f fd ["_law_line", "_law_time"] (spM P0 2 fU):=
 F.okV a6N rfl rfl fun cdv A outer s H E hr=>
 have hu:=hr.units
 ⟨_,(aL (b8 (aJ c_law_plus hr rfl (aA (aU aK (pv 0) aC (fun _ _=>rfl)) (aA (aJ c_law_times hr rfl (aA (aU aK (pv 0) aC (fun _ _=>rfl)) (aA (pv 1) aG))) (aA aC aG)))))),
  ((bK (aX (aH (aY aB aF) (aH (aP (aX (aH (aY aB aF) (aH aB aR)))) (aH aF aR))))):VS P0 _ uH)⟩
abbrev rQ:Stmt:=top 56
theorem sc_law_deed:FnScope ["_law_pen_here", "_law_lines", "_law_joined", "_law_time", "_law_kind", "_law_way", "_law_running", "_law_place_here", "_law_slope", "_law_like", "_law_there", "_law_runner"] ["_law_pen_here", "_law_lines", "_law_joined", "_law_time", "_law_kind"] (aN rQ):=scM
theorem a95  (F:Fun K "_law_deed" "_law_deed" rQ f fd)(B:Bl K mg)(Kt:Kit K)
  (c_law_take:iM P0 P w K mg base)
  (c_law_place:gC P0 P w K mg base)
  (c_law_small:pX P0 P w K mg base) :
  FnOk P w K mg base CX0 4 f fd ["_law_pen_here", "_law_lines", "_law_joined", "_law_time", "_law_kind"] (spL P0 penF 5 rA):=
 F.okL sc_law_deed rfl rfl fun cdv A outer s H E hr=>
 have hu:=hr.units
 ⟨_,(aD (bA (i:=5) sc_law_deed.nd rfl (by walk_at "lc") (aJ c_law_take hr rfl (aA (pv 0) (aA aC aG))))
   (aD (bA (i:=6) sc_law_deed.nd rfl (by walk_at "lc") (bJ (wJ rfl) rfl B.sorted_ boot_sorted (aA (pv 1) aG)))
   (aD (bA (i:=7) sc_law_deed.nd rfl (by walk_at "lc") (aJ c_law_small hr rfl (aA (pv 0) (aA (pv 4) aG))))
   (aD (bA (i:=8) sc_law_deed.nd rfl (by walk_at "lc") (aJ c_law_small hr rfl (aA (pv 0) (aA (pv 4) aG))))
   (aD (cP (PW.pt (vH (bB (vV hu) (pv 6) (eE aG) (bH _)) (oR (bB (dR hu) (aJ c_law_take hr rfl (aA (pv 0) (aA aC aG))) aC (bH _))))) (aD (bA (i:=9) sc_law_deed.nd rfl (by walk_at "lc") (dW (hu1 hu) (pv 1) (aU aK (pv 6) (aJ c_law_take hr rfl (aA (pv 0) (aA (bJ bU rfl B.len_ boot_len (aA (pv 6) aG)) aG))) (fun _ _=>rfl)) (fun _ _=>rfl)))
   (aD (bA (i:=10) sc_law_deed.nd rfl (by walk_at "lc") (aJ c_law_place hr rfl (aA (pv 9) (aA (pv 3) aG))))
   (aD (cP (PW.pt (vH (bB vG (bJ qU rfl B.abs_ boot_abs (aA (aU aK (pv 10) aC (fun _ _=>rfl)) aG)) (a4D (v:=1000000000) (by decide) ⟨by decide,by decide,by decide⟩) (bH _)) (oR (bB vG (aU aK (pv 10) aC (fun _ _=>rfl)) aC (bH _))))) (aL (bA (i:=7) sc_law_deed.nd rfl (by walk_at "lc") (pv 10))) bL)
   (aL (bA (i:=8) sc_law_deed.nd rfl (by walk_at "lc") (aU aK (eE (aA (pv 8) (aA (aU aK (pv 9) aC (fun _ _=>rfl)) aG))) (aJ c_law_take hr rfl (aA (pv 0) (aA aC aG))) (fun _ _=>rfl))))))) bL)
   (aD (cP (PW.pt (v9 (bB (dR hu) (pv 6) (eE aG) (bH _)) (tD (PW.pt (vH (bB vG (pv 5) aC (bH _)) (oR (bB vG (bJ bU rfl B.len_ boot_len (aA (pv 6) aG)) aC (bH _)))))))) (aL (b8 (dY (aA jM (aA (pv 3) (aA (pv 7) (aA (pv 8) aG))))))) bL)
   (aD (bA (i:=11) sc_law_deed.nd rfl (by walk_at "lc") (aU aK (pv 6) (aJ c_law_take hr rfl (aA (pv 0) (aA (bJ bU rfl B.len_ boot_len (aA (pv 6) aG)) aG))) (fun _ _=>rfl)))
   (aD (cP (bB (dR hu) (pv 5) aC (bH _)) (aL (b8 (dY (aA jM (aA (pv 3) (aA (pv 11) aG)))))) bL)
   (aL (b8 (dY (aA jM (aA (pv 3) (aA (pv 11) (aA (pv 8) aG))))))))))))))),
  ((aQ (bD (aW (aP (cN (aH aF aR)))))
   (aQ (bD (aW (aP (a7T aB))))
   (aQ (bD (aW (aP (cN (aH aB aR)))))
   (aQ (bD (aW (aP (cN (aH aB aR)))))
   (aQ (cX (oF (bF (a3Y aB (aP (jA cA)))) (bF (jH (aP (cN (aH aF aR))) aF))) (aQ (bD (aW (fQ aB (aY aB (aP (cN (aH (p7 aB) aR)))))))
   (aQ (bD (aW (aP (aX (aH aB (aH aB aR))))))
   (aQ (cX (oF (bF (wQ (a2I (aY aB aF)) aF)) (bF (wQ (aY aB aF) aF))) (bD (aW aB)) dM)
   (bD (aW (aY (aP (jA (aZ aB (aZ (aY aB aF) cA)))) (aP (cN (aH aF aR))))))))) dM)
   (aQ (cX (lX (bF (jH aB (aP (jA cA)))) (oF (bF (wQ aB aF)) (bF (wQ (p7 aB) aF)))) (dH (aW (eU (aZ jL (aZ aB (aZ aB (aZ aB cA))))))) dM)
   (aQ (bD (aW (aY aB (aP (cN (aH (p7 aB) aR))))))
   (aQ (cX (bF (jH aB aF)) (dH (aW (eU (aZ jL (aZ aB (aZ aB cA)))))) dM)
   (dH (aW (eU (aZ jL (aZ aB (aZ aB (aZ aB cA))))))))))))))):VS P0 _ xK)⟩
abbrev wR:Stmt:=top 57
theorem sc_law_done:FnScope ["_law_lines", "_law_deed_here", "_law_joined", "_law_found", "_law_place_here"] ["_law_lines", "_law_deed_here", "_law_joined"] (aN wR):=scM
theorem a8F  (hn_dict:mg "dict" = none)(F:Fun K "_law_done" "_law_done" wR f fd)(B:Bl K mg)(Kt:Kit K)
  (c_law_plus:iQ P0 P w K mg base)
  (c_law_times:lW P0 P w K mg base)
  (c_law_place:gC P0 P w K mg base) :
  FnOk P w K mg base CX0 4 f fd ["_law_lines", "_law_deed_here", "_law_joined"] (spM P0 3 mQ):=
 F.okV sc_law_done rfl rfl fun cdv A outer s H E hr=>
 have hu:=hr.units
 ⟨_,(aD (bA (i:=3) sc_law_done.nd rfl (by walk_at "lc") (gH aA6 rfl hn_dict PyProof.Rows.Boot.«dict» (aA (pv 0) aG)))
   (aD (cP (bB (dR hu) (aU aK (pv 1) aC (fun _ _=>rfl)) jM (bH _)) (aL (a4Y (hu1 hu) (pv 3) (pv 2) (dY (aA (aJ c_law_plus hr rfl (aA (aU aK (pv 1) aC (fun _ _=>rfl)) (aA (aJ c_law_times hr rfl (aA (aU aK (pv 1) aC (fun _ _=>rfl)) (aA (aU aK (pv 1) aC (fun _ _=>rfl)) aG))) (aA (aHC a68 aC) aG)))) (aA (aU aK (pv 1) aC (fun _ _=>rfl)) aG))) rfl)) (aL (cP (bB (dR hu) (aU aK (pv 1) aC (fun _ _=>rfl)) jM (bH _)) (aL (iR (aC9 (pv 3) (aU aK (pv 1) aC (fun _ _=>rfl)) ⟨rfl,rfl,rfl,rfl⟩))) (aD (bA (i:=4) sc_law_done.nd rfl (by walk_at "lc") (aJ c_law_place hr rfl (aA (dW (hu1 hu) (pv 3) (aU aK (pv 1) aC (fun _ _=>rfl)) (fun _ _=>rfl)) (aA (aU aK (pv 1) aC (fun _ _=>rfl)) aG))))
   (aL (a4Y (hu1 hu) (pv 3) (aU aK (pv 1) aC (fun _ _=>rfl)) (dY (aA (aJ c_law_plus hr rfl (aA (pv 4) (aA (aJ c_law_times hr rfl (aA (aU aK (pv 1) aC (fun _ _=>rfl)) (aA (aU aK (pv 1) aC (fun _ _=>rfl)) aG))) (aA (aHC a68 aC) aG)))) (aA (aU aK (pv 1) aC (fun _ _=>rfl)) aG))) rfl))))))
   (aL (b8 (pv 3))))),
  ((aQ (bD (aGF aB))
   (aQ (cX (bF (jH (aY aB aF) jL)) (aBX (eU (aZ (aP (aX (aH (aY aB aF) (aH (aP (aX (aH (aY aB aF) (aH (aY aB aF) aR)))) (aH (a72 aF) aR))))) (aZ (aY aB aF) cA))) aB) (cX (bF (jH (aY aB aF) jL)) (o7 (aHQ (aY aB aF))) (aQ (bD (aW (aP (aX (aH (aJH (aY aB aF)) (aH (aY aB aF) aR))))))
   (aBX (eU (aZ (aP (aX (aH aB (aH (aP (aX (aH (aY aB aF) (aH (aY aB aF) aR)))) (aH (a72 aF) aR))))) (aZ (aY aB aF) cA))) (aY aB aF)))))
   (bK a98))):VS P0 _ wU)⟩
abbrev oY:Stmt:=top 58
theorem sc_law_ahead:FnScope ["_law_lines", "_law_one", "_law_other", "_law_time", "_law_here", "_law_there"] ["_law_lines", "_law_one", "_law_other", "_law_time"] (aN oY):=scM
theorem a73  (F:Fun K "_law_ahead" "_law_ahead" oY f fd)(B:Bl K mg)(Kt:Kit K)
  (c_law_less:kY P0 P w K mg base)
  (c_law_place:gC P0 P w K mg base) :
  FnOk P w K mg base CX0 4 f fd ["_law_lines", "_law_one", "_law_other", "_law_time"] (spM P0 4 oW):=
 F.okV sc_law_ahead rfl rfl fun cdv A outer s H E hr=>
 have hu:=hr.units
 ⟨_,(aD (bA (i:=4) sc_law_ahead.nd rfl (by walk_at "lc") (aJ c_law_place hr rfl (aA (dW (hu1 hu) (pv 0) (pv 1) (fun _ _=>rfl)) (aA (pv 3) aG))))
   (aD (bA (i:=5) sc_law_ahead.nd rfl (by walk_at "lc") (aJ c_law_place hr rfl (aA (dW (hu1 hu) (pv 0) (pv 2) (fun _ _=>rfl)) (aA (pv 3) aG))))
   (aD (cP (bB (vV hu) (pv 4) (pv 5) (bH _)) (aL (b8 (aJ c_law_less hr rfl (aA (pv 5) (aA (pv 4) aG))))) bL)
   (aD (cP (bB (vV hu) (aU aK (dW (hu1 hu) (pv 0) (pv 1) (fun _ _=>rfl)) aC (fun _ _=>rfl)) (aU aK (dW (hu1 hu) (pv 0) (pv 2) (fun _ _=>rfl)) aC (fun _ _=>rfl)) (bH _)) (aL (b8 (aJ c_law_less hr rfl (aA (aU aK (dW (hu1 hu) (pv 0) (pv 2) (fun _ _=>rfl)) aC (fun _ _=>rfl)) (aA (aU aK (dW (hu1 hu) (pv 0) (pv 1) (fun _ _=>rfl)) aC (fun _ _=>rfl)) aG))))) bL)
   (aL (b8 (gU vG (pv 1) (pv 2) (bH _)))))))),
  ((aQ (bD (aW (aP (aX (aH (fQ aB aB) (aH aB aR))))))
   (aQ (bD (aW (aP (aX (aH (fQ aB aB) (aH aB aR))))))
   (aQ (cX (bF (a3Y aB aB)) (bK (aX (aH aB (aH aB aR)))) dM)
   (aQ (cX (bF (a3Y (aY (fQ aB aB) aF) (aY (fQ aB aB) aF))) (bK (aX (aH (aY (fQ aB aB) aF) (aH (aY (fQ aB aB) aF) aR)))) dM)
   (bK (aW (wQ aB aB))))))):VS P0 _ uD)⟩
abbrev rW:Stmt:=top 59
theorem sc_law_till:FnScope ["_law_lines", "_law_one", "_law_other", "_law_time", "_law_steep", "_law_apart", "_law_met"] ["_law_lines", "_law_one", "_law_other", "_law_time"] (aN rW):=scM
theorem a99  (F:Fun K "_law_till" "_law_till" rW f fd)(B:Bl K mg)(Kt:Kit K)
  (c_law_less:kY P0 P w K mg base)
  (c_law_lowest:cH P0 P w K mg base)
  (c_law_plus:iQ P0 P w K mg base) :
  FnOk P w K mg base CX0 3 f fd ["_law_lines", "_law_one", "_law_other", "_law_time"] (spM P0 4 rG):=
 F.okV sc_law_till rfl rfl fun cdv A outer s H E hr=>
 have hu:=hr.units
 ⟨_,(aD (bA (i:=4) sc_law_till.nd rfl (by walk_at "lc") (aJ c_law_plus hr rfl (aA (aU aK (dW (hu1 hu) (pv 0) (pv 1) (fun _ _=>rfl)) aC (fun _ _=>rfl)) (aA (aU aK (dW (hu1 hu) (pv 0) (pv 2) (fun _ _=>rfl)) aC (fun _ _=>rfl)) (aA (aHC a68 aC) aG)))))
   (aD (cP (bB (dR hu) (aU aK (pv 4) aC (fun _ _=>rfl)) aC (bH _)) (aL (b8 gB)) bL)
   (aD (bA (i:=5) sc_law_till.nd rfl (by walk_at "lc") (aJ c_law_plus hr rfl (aA (aU aK (dW (hu1 hu) (pv 0) (pv 2) (fun _ _=>rfl)) aC (fun _ _=>rfl)) (aA (aU aK (dW (hu1 hu) (pv 0) (pv 1) (fun _ _=>rfl)) aC (fun _ _=>rfl)) (aA (aHC a68 aC) aG)))))
   (aD (bA (i:=6) sc_law_till.nd rfl (by walk_at "lc") (aJ c_law_lowest hr rfl (aA (bQ bY (aU aK (pv 5) aC (fun _ _=>rfl)) (aU aK (pv 4) aC (fun _ _=>rfl))) (aA (bQ bY (aU aK (pv 5) aC (fun _ _=>rfl)) (aU aK (pv 4) aC (fun _ _=>rfl))) aG))))
   (aL (b8 (aU aK (eE (aA gB (aA (pv 6) aG))) (gH a80 rfl B.int_ boot_int (aA (aJ c_law_less hr rfl (aA (pv 3) (aA (pv 6) aG))) aG)) (fun _ _=>rfl)))))))),
  ((aQ (bD (aW (aP (aX (aH (aY (fQ aB aB) aF) (aH (aY (fQ aB aB) aF) (aH (a72 aF) aR)))))))
   (aQ (cX (bF (jH (aY aB aF) aF)) (bK (aW vQ)) dM)
   (aQ (bD (aW (aP (aX (aH (aY (fQ aB aB) aF) (aH (aY (fQ aB aB) aF) (aH (a72 aF) aR)))))))
   (aQ (bD (aW (aP (aX (aH (f9 (aY aB aF) (aY aB aF)) (aH (f9 (aY aB aF) (aY aB aF)) aR))))))
   (bK (aW (aY (aP (jA (aZ vQ (aZ aB cA)))) (aEB (aP (aX (aH aB (aH aB aR)))))))))))):VS P0 _ wY)⟩
abbrev gA:Stmt:=top 60
theorem sc_law_papers:FnScope ["_law_lines", "_law_time", "_law_order", "_law_one", "_law_other"] ["_law_lines", "_law_time"] (aN gA):=scM
theorem a5D  (F:Fun K "_law_papers" "_law_papers" gA f fd)(B:Bl K mg)(Kt:Kit K)
  (c_law_till:uF P0 P w K mg base)
  (c_law_ahead:q9 P0 P w K mg base) :
  FnOk P w K mg base CX0 5 f fd ["_law_lines", "_law_time"] (spM P0 2 jC):=
 F.okV sc_law_papers rfl rfl fun cdv A outer s H E hr=>
 have hu:=hr.units
 ⟨_,(aD (bA (i:=2) sc_law_papers.nd rfl (by walk_at "lc") (eE aG))
   (aD (a2M PassesOwn.never rfl (kZ (bJ (wJ rfl) rfl B.sorted_ boot_sorted (aA (pv 0) aG))) (dC (i:=3) sc_law_papers.nd rfl (by walk_at "lc")) (aL (iR (aIC PySem.F.plainAttrs_list PySem.F.slot_list_insert PySem.F.type_list_insert a6I (pv 2) (aA (bJ bU rfl B.len_ boot_len (aA (gZ (N:=["_law_other", "_law_lines", "_law_one", "_law_time"]) (nt:=1) (fv:=[0,3,1]) rfl (qM (osc:=aN gA) (ON:=["_law_lines", "_law_time", "_law_order", "_law_one", "_law_other"]) (by decide +kernel)) (kZ (pv 2)) (fun _ _ _ _=>(dC (i:=0) (show(["_law_other", "_law_lines", "_law_one", "_law_time"]:List Str).Nodup by decide +kernel) rfl (by walk_at "lc"))) (fun _ _ _ _=>(a4X (dG (aJ c_law_ahead hr rfl (aA (pv 1) (aA (pv 0) (aA (pv 2) (aA (pv 3) aG)))))))) (fun _ _ _ _=>(pv 0))) aG)) (aA (pv 3) aG))))))
   (aL (b8 (gZ (N:=["_law_one", "_law_other", "_law_lines", "_law_time"]) (nt:=2) (fv:=[0,1]) rfl (qM (osc:=aN gA) (ON:=["_law_lines", "_law_time", "_law_order", "_law_one", "_law_other"]) (by decide +kernel)) (aOR rfl B.zip_ (aA (pv 2) (aA (a5B aGO (pv 2) (a96 aC) a94) aG))) (fun _ _ _ _=>(aH5 rfl (qW (dC (i:=0) (show(["_law_one", "_law_other", "_law_lines", "_law_time"]:List Str).Nodup by decide +kernel) rfl (by walk_at "lc")) (qW (dC (i:=1) (show(["_law_one", "_law_other", "_law_lines", "_law_time"]:List Str).Nodup by decide +kernel) rfl (by walk_at "lc")) a8N)))) (fun _ _ _ _=>uE) (fun _ _ _ _=>(dY (aA (pv 0) (aA (pv 1) (aA (aJ c_law_till hr rfl (aA (pv 2) (aA (pv 0) (aA (pv 1) (aA (pv 3) aG))))) aG)))))))))),
  ((aQ (bD (jA cA))
   (aQ (a82 (lG (aP (a7T aB))) dJ (a7K (aAG (p7 (aP (lA (lG aB) dJ (jB (aP (aX (aH aB (aH aB (aH aB (aH aB aR))))))) aB)))) aB))
   (aK1 (bK (lA (aNP aB (aP (aK0 aB (aMB aF) aMH))) (aGU (rH dJ (rH dJ aA0))) oO (eU (aZ aB (aZ aB (aZ (aP (aX (aH aB (aH aB (aH aB (aH aB aR)))))) cA))))))))):VS P0 _ pW)⟩
abbrev oG:Stmt:=top 61
theorem sc_law_right:FnScope ["_law_race", "_law_due", "_law_found", "_law_some", "_law_paper"] ["_law_race", "_law_due"] (aN oG):=scM
theorem a5X  {c cF cW:Addr}(cl:Cls K c){f_changed:Addr}{fd_changed:FuncData}(M_changed:Meth K c "changed" f_changed)(F_changed:FnOk P w K mg base CX0 1 f_changed fd_changed ["self"] (spM P0 1 (iH c cF cW)))(b_changed:Binds K fd_changed ["self"] [])(F:Fun K "_law_right" "_law_right" oG f fd)(B:Bl K mg)(Kt:Kit K) :
  FnOk P w K mg base CX0 2 f fd ["_law_race", "_law_due"] (spL P0 (cJ c cF) 2 (cV c cF cW)):=
 F.okL sc_law_right rfl rfl fun cdv A outer s H E hr=>
 have hu:=hr.units
 ⟨_,(aD (bA (i:=2) sc_law_right.nd rfl (by walk_at "lc") (jU (pv 0) cl M_changed F_changed (hr.mono (by decide)) b_changed .nil iD))
   (aD (cP (PW.pt (v9 (j6 (dG (bJ jN rfl B.isinstance_ boot_isinstance (aA (pv 2) (aA (oX (v:=.ty "tuple") rfl B.tuple_ boot_tuple rfl) aG))))) (v9 (bB (vV hu) (bJ bU rfl B.len_ boot_len (aA (pv 2) aG)) aC (bH _)) (tD (bB (vV hu) (pv 2) (pv 1) (bH _)))))) (aL (b8 a2A)) bL)
   (aD (a2M PassesOwn.never rfl (aJX (pv 2)) (dC (i:=3) sc_law_right.nd rfl (by walk_at "lc")) (aD (cP (PW.pt (v9 (j6 (dG (bJ jN rfl B.isinstance_ boot_isinstance (aA (pv 3) (aA (oX (v:=.ty "list") rfl B.list_ boot_list rfl) aG))))) (tD (j6 (dG (bJ (a6Y rfl) rfl B.all_ boot_all (aA (gZ (N:=["_law_paper"]) (nt:=1) (fv:=[]) rfl (qM (osc:=aN oG) (ON:=["_law_race", "_law_due", "_law_found", "_law_some", "_law_paper"]) (by decide +kernel)) (kZ (pv 3)) (fun _ _ _ _=>(dC (i:=0) (show(["_law_paper"]:List Str).Nodup by decide +kernel) rfl (by walk_at "lc"))) (fun _ _ _ _=>uE) (fun _ _ _ _=>(bJ jN rfl B.isinstance_ boot_isinstance (aA (pv 0) (aA (oX (v:=.ty "tuple") rfl B.tuple_ boot_tuple rfl) aG))))) aG))))))) (aL (b8 a2A)) bL)
   (aL (iR (aIC PySem.F.plainAttrs_list PySem.F.slot_list_append PySem.F.type_list_append a85 (pv 3) (aA gB aG))))))
   (aL (b8 (gU (dR hu) (jU (pv 0) cl M_changed F_changed (hr.mono (by decide)) b_changed .nil iD) (pv 1) (bH _))))))),
  ((aQ (bD (aAV (nH aR)))
   (aQ (cX (a4R (lX (eO (jB (vD Kt (by decide) aB))) (lX (bF (a3Y (p7 aB) aF)) (bF (a3Y aB aB))))) (dH (aW a1U)) dM)
   (aQ (aLL (aQ (cX (a4R (lX (eO (jB (vD Kt (by decide) aB))) (eO (jB (aK8 (aP (lA (lG aB) dJ oO (vD Kt (by decide) aB)))))))) (dH (aW a1U)) dM)
   (a7E vQ)))
   (dH (aW (jH (aP (aAV (nH aR))) aB)))))):VS P0 _ (u5 c cF cW))⟩
abbrev aFR:Stmt:=top 62
theorem sc_law:FnScope ["_law_script", "_law_pen_here", "_law_kind", "_law_parts", "_law_turn", "_law_races", "_law_lines", "_law_joined", "_law_due", "_law_k", "_law_time", "_law_deed_here", "_law_before", "_law_behind", "_law_paper"] ["_law_script"] (aN aFR):=scM
theorem aPZ  {c cF cW:Addr}(cl:Cls K c){fR:Addr}{fdR:FuncData}(hmR:mg "Race" = some (.ref c))(MR:Mk K c fR)(FR:FnOk P w K mg base CX0 3 fR fdR ["self"] (a4U c cF))(bR:Binds K fdR ["self"] []){f_do:Addr}{fd_do:FuncData}(M_do:Meth K c "do" f_do)(F_do:FnOk P w K mg base CX0 10 f_do fd_do ["self", "deed"] (spL NoP (cJ c cF) 2 (aBM c cF cW)))(b_do:Binds K fd_do ["self", "deed"] []){f_go:Addr}{fd_go:FuncData}(M_go:Meth K c "go" f_go)(F_go:FnOk P w K mg base CX0 12 f_go fd_go ["self", "time"] (spL NoP (cJ c cF) 2 (a2F c cF cW)))(b_go:Binds K fd_go ["self", "time"] [])(F:Fun K "law" "law" aFR f fd)(B:Bl K mg)(Kt:Kit K)
  (c_law_pen:Cal P w K mg base 1 "_law_pen" ["_law_script", "_law_k"] (aBP K))
  (c_law_take:iM NoP P w K mg base)
  (c_law_papers:vL NoP P w K mg base)
  (c_law_done:aAC NoP P w K mg base)
  (c_law_deed:a04 NoP P w K mg base)
  (c_law_lowest:cH NoP P w K mg base)
  (c_law_right:a7Y NoP P w K mg base c cF cW)
  (hL:∀ pen,a07 c cF cW (.no::.box (penF.box pen 1)::List.replicate 13 .no) uA) :
  FnOk P w K mg base CX0 13 f fd ["_law_script"] (aIO K):=by
 refine F.ok sc_law (fun vs H Q E h=>?_) (fun cdv A outer s H vs Q E hr h=>?_)
 ·obtain⟨a,ns,rfl,hS,h63,q⟩:=h;rfl
 have hu:=hr.units;obtain⟨a,ns,rfl,hS,h63,q⟩:=h;exact law_bodyC (k:=13) ⟨by decide,by decide⟩ (bA (i:=1) sc_law.nd rfl (by walk_at "lc") (aJ c_law_pen hr rfl (aA (pv 0) (aA aC aG)))) ⟨_,(aD (bA (i:=2) sc_law.nd rfl (by walk_at "lc") (bQ aAF (aJ c_law_take hr rfl (aA (pv 1) (aA aC aG))) aC))
   (aD (bA (i:=3) sc_law.nd rfl (by walk_at "lc") (aU aK (eE (aA aC (aA aC (aA (bQ j7 aC (aJ c_law_take hr rfl (aA (pv 1) (aA aC aG)))) aG)))) (aJ c_law_take hr rfl (aA (pv 1) (aA aC aG))) (fun _ _=>rfl)))
   (aD (bA (i:=4) sc_law.nd rfl (by walk_at "lc") (bQ a2L (aJ c_law_take hr rfl (aA (pv 1) (aA aC aG))) aC))
   (aD (bA (i:=5) sc_law.nd rfl (by walk_at "lc") (eE (aA (yU MR FR (hr.mono (by decide)) rfl hmR bR .nil iD) (aA (yU MR FR (hr.mono (by decide)) rfl hmR bR .nil iD) aG))))
   (aD (bA (i:=6) sc_law.nd rfl (by walk_at "lc") aKW)
   (aD (bA (i:=7) sc_law.nd rfl (by walk_at "lc") aC)
   (aD (bA (i:=8) sc_law.nd rfl (by walk_at "lc") (dY (aA (eE aG) (aA (eE aG) aG))))
   (aD (a2M PassesOwn.never rfl (aGR rfl B.range_ (aA (aJ c_law_take hr rfl (aA (pv 1) (aA (aU aK (eE (aA aC (aA aC (aA aC (aA aC (aA aC (aA aC (aA aC (aA aC aG))))))))) (aJ c_law_take hr rfl (aA (pv 1) (aA aC aG))) (fun _ _=>rfl)) aG))) aG)) (dC (i:=9) sc_law.nd rfl (by walk_at "lc")) (aD (cP (PW.pt (v9 (j6 (dG (aJ c_law_right hr rfl (aA (aU aK (pv 5) aC (fun _ _=>rfl)) (aA (pv 8) aG))))) (tD (j6 (dG (aJ c_law_right hr rfl (aA (aU aK (pv 5) aC (fun _ _=>rfl)) (aA (dY (aA (eE aG) (aA (eE aG) aG))) aG)))))))) (aL (b8 a2A)) bL)
   (aD (bA (i:=4) sc_law.nd rfl (by walk_at "lc") (bQ j7 (pv 4) (aU aK (eE (aA aC (aA aC (aA aC (aA aC (aA aC (aA aC aG))))))) (aJ c_law_take hr rfl (aA (pv 1) (aA aC aG))) (fun _ _=>rfl))))
   (aD (bA (i:=10) sc_law.nd rfl (by walk_at "lc") (aJ c_law_lowest hr rfl (aA (pv 4) (aA (pv 3) aG))))
   (aD (cP (bB (dR hu) (aJ c_law_take hr rfl (aA (pv 1) (aA aC aG))) aC (bH _)) (aD (iR (iJ (aU aK (pv 5) aC (fun _ _=>rfl)) cl M_go F_go (hr.mono (by decide)) b_go .nil iD (aA (pv 10) aG)))
   (aD (iR (iJ (aU aK (pv 5) aC (fun _ _=>rfl)) cl M_go F_go (hr.mono (by decide)) b_go .nil iD (aA (pv 10) aG)))
   (aL (cP (j6 (dG (aJ c_law_right hr rfl (aA (aU aK (pv 5) aC (fun _ _=>rfl)) (aA (pv 8) aG))))) (aL (b8 a2A)) bL)))) bL)
   (aD (bA (i:=11) sc_law.nd rfl (by walk_at "lc") (aJ c_law_deed hr rfl (aA (pv 1) (aA (pv 6) (aA (pv 7) (aA (pv 10) (aA (pv 2) aG)))))))
   (aD (bA (i:=12) sc_law.nd rfl (by walk_at "lc") (aJ c_law_papers hr rfl (aA (pv 6) (aA (pv 10) aG))))
   (aD (bA (i:=6) sc_law.nd rfl (by walk_at "lc") (aJ c_law_done hr rfl (aA (pv 6) (aA (pv 11) (aA (pv 7) aG)))))
   (aD (bA (i:=7) sc_law.nd rfl (by walk_at "lc") (bQ j7 (pv 7) (gH a80 rfl B.int_ boot_int (aA (gU (dR hu) (aU aK (pv 11) aC (fun _ _=>rfl)) jM (bH _)) aG))))
   (aD (bA (i:=13) sc_law.nd rfl (by walk_at "lc") (aJ c_law_papers hr rfl (aA (pv 6) (aA (pv 10) aG))))
   (aD (iR (iJ (aU aK (pv 5) aC (fun _ _=>rfl)) cl M_do F_do (hr.mono (by decide)) b_do .nil iD (aA (pv 11) aG)))
   (aL (bA (i:=8) sc_law.nd rfl (by walk_at "lc") (dY (aA (gZ (N:=["_law_paper", "_law_behind"]) (nt:=1) (fv:=[13]) rfl (qM (osc:=aN aFR) (ON:=["_law_script", "_law_pen_here", "_law_kind", "_law_parts", "_law_turn", "_law_races", "_law_lines", "_law_joined", "_law_due", "_law_k", "_law_time", "_law_deed_here", "_law_before", "_law_behind", "_law_paper"]) (by decide +kernel)) (kZ (pv 12)) (fun _ _ _ _=>(dC (i:=0) (show(["_law_paper", "_law_behind"]:List Str).Nodup by decide +kernel) rfl (by walk_at "lc"))) (fun _ _ _ _=>(a4X (bB (a0E hu) (pv 0) (pv 1) (by with_unfolding_all rfl)))) (fun _ _ _ _=>(pv 0))) (aA (gZ (N:=["_law_paper", "_law_before"]) (nt:=1) (fv:=[12]) rfl (qM (osc:=aN aFR) (ON:=["_law_script", "_law_pen_here", "_law_kind", "_law_parts", "_law_turn", "_law_races", "_law_lines", "_law_joined", "_law_due", "_law_k", "_law_time", "_law_deed_here", "_law_before", "_law_behind", "_law_paper"]) (by decide +kernel)) (kZ (pv 13)) (fun _ _ _ _=>(dC (i:=0) (show(["_law_paper", "_law_before"]:List Str).Nodup by decide +kernel) rfl (by walk_at "lc"))) (fun _ _ _ _=>(a4X (bB (a0E hu) (pv 0) (pv 1) (by with_unfolding_all rfl)))) (fun _ _ _ _=>(pv 0))) aG))))))))))))))))
   (aD (iR (iJ (aU aK (pv 5) aC (fun _ _=>rfl)) cl M_go F_go (hr.mono (by decide)) b_go .nil iD (aA (dY (aA aC (aA aC aG))) aG)))
   (aL (b8 (sZ (aJ c_law_right hr rfl (aA (aU aK (pv 5) aC (fun _ _=>rfl)) (aA (pv 8) aG))) (a1I (aJ c_law_right hr rfl (aA (aU aK (pv 5) aC (fun _ _=>rfl)) (aA (dY (aA (eE aG) (aA (eE aG) aG))) aG)))))))))))))))),
  ((aQ (bD (aW (aOF (aP (cN (aH aF aR))) aF)))
   (aQ (bD (aW (aY (aP (jA (aZ aF (aZ aF (aZ (xY aF (aP (cN (aH aF aR)))) cA))))) (aP (cN (aH aF aR))))))
   (aQ (bD (aW (a74 (aP (cN (aH aF aR))) aF)))
   (aQ (bD (aKK aBO aBO))
   (aQ (bD (aW aKN))
   (aQ (bD (aW aF))
   (aQ (bD (aW (eU (aZ (aP (jA cA)) (aZ (aP (jA cA)) cA)))))
   (aQ (a82 (aM8 (aZ (aP (cN (aH (aY (aP (jA (aZ aF (aZ aF (aZ aF (aZ aF (aZ aF (aZ aF (aZ aF (aZ aF cA)))))))))) (aP (cN (aH aF aR)))) aR))) cA)) dJ (aQ (cX (lX (eO (jB (aP (qN aF (aH aB aR))))) (eO (jB (aP (qN aF (aH (eU (aZ (aP (jA cA)) (aZ (aP (jA cA)) cA))) aR)))))) (bK (aW a1U)) dM)
   (aQ (bD (aW (xY aB (aY (aP (jA (aZ aF (aZ aF (aZ aF (aZ aF (aZ aF (aZ aF cA)))))))) (aP (cN (aH aF aR)))))))
   (aQ (bD (aW (aP (aX (aH aB (aH aB aR))))))
   (aQ (cX (bF (jH (aP (cN (aH aF aR))) aF)) (aQ (o7 (aP (vB (aBF (fun _ _=>rfl)) aF (aH aB aR))))
   (aQ (o7 (aP (vB (aBF (fun _ _=>rfl)) aF (aH aB aR))))
   (cX (eO (jB (aP (qN aF (aH aB aR))))) (bK (aW a1U)) dM))) dM)
   (aQ (bD (aW (aP (cN (aH aB (aH aB (aH aB (aH aB aR))))))))
   (aQ (bD (aW (aP (aX (aH aB (aH aB aR))))))
   (aQ (bD (aW (aP (aX (aH aB (aH aB (aH aB aR)))))))
   (aQ (bD (aW (xY aB (aEB (jH (aY aB aF) jL)))))
   (aQ (bD (aW (aP (aX (aH aB (aH aB aR))))))
   (aQ (o7 (aP (vB (aBF (fun _ _=>rfl)) aF (aH aB aR))))
   (bD (aW (eU (aZ (aP (lA (lG aB) dJ (bF (aMX aB aB)) aB)) (aZ (aP (lA (lG aB) dJ (bF (aMX aB aB)) aB)) cA))))))))))))))))
   (aQ (o7 (aP (vB (aBF (fun _ _=>rfl)) aF (aH (eU (aZ aF (aZ aF cA))) aR))))
   (bK (aW (sE (aP (qN aF (aH aB aR))) (aP (qN aF (aH (eU (aZ (aP (jA cA)) (aZ (aP (jA cA)) cA))) aR))))))))))))))):VS NoP _ (a07 c cF cW))⟩ rfl hS hL q
end
section
variable {Q:Rv→Prop}
theorem wB {i:Int}(q:Q (.val (.bool true))):eZ [.val (.int i)] Q:=by
 refine nD ?_;unfold xH;walk_at "!1eĖōŎĈ<";exact q
theorem aPJ {a b:Int}(q:Q (.val (.int (Int.gcd a b:Nat)))):cU [.val (.int a),.val (.int b)] Q:=by
 refine nD ?_;unfold iB j9 j4;walk_at "!(ă%(ă%,#";refine vR (fun n Γ=>∃ d r x,Γ=[.val (.int a),.val (.int b),.val (.int d),.val (.int r),x]∧0≤d∧0≤r∧Int.gcd d r=Int.gcd a b∧n=r.toNat) _ ⟨_,_,.no,rfl,aBI a,aBI b,aF7 a b,rfl⟩ ?_;rintro m Γ ⟨d,r,x,rfl,hd,hr,hg,rfl⟩;walk_at "!.nKĄ#";refine a9V (fun c=>?_) (fun c=>?_)
 ·have hp:0<r:=by omega
  walk_at "!(]";refine⟨hp,?_⟩;walk_at "!(%vC<";have h1:=Int.emod_nonneg d (b:=r) (by omega);have h2:=Int.emod_lt_of_pos d hp;exact⟨_,by omega,_,_,_,rfl,hr,h1,(aC7 hd hp).trans hg,rfl⟩
 ·subst c;have e:=aDX hd;rw[hg] at e;walk_at "!1<";rw[e] at q;exact q
theorem oV {t b:Int}(h0:b≠0)(hb:Bt 9000 b)(q:Q (.val (bO (Rat.divInt t b)))):fV [.val (.int t),.val (.int b)] Q:=by
 have g0:=aJR (t:=t) h0;have g1:=aJT (t:=t) hb h0;refine nD ?_;unfold uG sV sY;walk_at "!7LD+";refine wB ?_;walk_at "!RLD+";refine wB ?_;walk_at "!R.EKĄ#";refine aNX h0 ?_;walk_at "!>(f";refine aPJ ?_;walk_at "!M-K#";refine iC (fun c=>?_) (fun c=>?_)
 ·have n:=aC4 (t:=t) c;walk_at "!vCĉ%1@]";refine⟨⟨by omega,g1.neg⟩,?_⟩;walk_at "!3]";refine⟨⟨by omega,g1.neg⟩,?_⟩;walk_at "!0";rw[n.1,n.2];exact q
 ·have n:=rD (t:=t) (b:=b) (by omega);walk_at "!>1@]";refine⟨⟨g0,g1⟩,?_⟩;walk_at "!3]";refine⟨⟨g0,g1⟩,?_⟩;walk_at "!0";rw[n.1,n.2];exact q
theorem aIN {a b:Rat}(ha:Sz 4000 a)(hb:Sz 4000 b)(q:Q (.val (bO (a+b)))):z7 [.val (bO a),.val (bO b)] Q:=by
 obtain⟨a0,a1⟩:=id ha;obtain⟨b0,b1⟩:=id hb;refine nD ?_;unfold a4Q;walk_at "!F-SS&TGw+";refine oV (Int.mul_ne_zero (dO a) (dO b)) ((a1.mul b1).mono (by decide)) ?_;rw[aGP];exact q
theorem lF {a b:Rat}(ha:Sz 4000 a)(hb:Sz 4000 b)(q:Q (.val (bO (a-b)))):cZ [.val (bO a),.val (bO b)] Q:=by
 obtain⟨a0,a1⟩:=id ha;obtain⟨b0,b1⟩:=id hb;refine nD ?_;unfold lH;walk_at "!F-SS&TGw+";refine oV (Int.mul_ne_zero (dO a) (dO b)) ((a1.mul b1).mono (by decide)) ?_;rw[aK2];exact q
theorem xU {a b:Rat}(ha:Sz 4000 a)(hb:Sz 4000 b)(q:Q (.val (bO (a*b)))):j8 [.val (bO a),.val (bO b)] Q:=by
 obtain⟨a0,a1⟩:=id ha;obtain⟨b0,b1⟩:=id hb;refine nD ?_;unfold q8;walk_at "!FėUą&TGw+";refine oV (Int.mul_ne_zero (dO a) (dO b)) ((a1.mul b1).mono (by decide)) ?_;rw[aDZ];exact q
theorem a4N {a b:Rat}(ha:Sz 4000 a)(hb:Sz 4000 b)(h0:b≠0)(q:Q (.val (bO (a/b)))):jT [.val (bO a),.val (bO b)] Q:=by
 obtain⟨a0,a1⟩:=id ha;obtain⟨b0,b1⟩:=id hb;refine nD ?_;unfold nO;walk_at "!FS&TGUą+";refine oV (Int.mul_ne_zero (dO a) (a6K h0)) ((a1.mul b0).mono (by decide)) ?_;rw[aE4 a h0];exact q
theorem iZ {a b:Rat}(ha:Sz 9000 a)(hb:Sz 9000 b)(q:Q (.val (.bool (decide (a<b))))):eF [.val (bO a),.val (bO b)] Q:=by
 obtain⟨a0,a1⟩:=id ha;obtain⟨b0,b1⟩:=id hb;refine nD ?_;unfold a1D;walk_at "!1-SS#";rw[aQM];exact q
theorem a2T {l:Rat×Rat}{t:Rat}(h1:Sz 900 l.1)(h2:Sz 900 l.2)(h3:Sz 2900 t)(q:Q (.val (bO (l.1+l.2*t)))):mR [.val (fX l),.val (bO t)] Q:=by
 refine nD ?_;unfold wC;walk_at "!F*x&g*Ho";refine xU (h2.mono (by decide)) (h3.mono (by decide)) ?_;walk_at "!+";exact aIN (h1.mono (by decide)) ((h2.mul h3).mono (by decide)) q
def aKI (l k:Rat×Rat):D:=if l.2=k.2 then(if l.1=k.1 then .tuple [.str "always"] else .tuple [.str "never"]) else .tuple [.str "at", bO ((k.1-l.1)/(l.2-k.2))]
theorem aHF {l k:Rat×Rat}(h1:Sz 900 l.1)(h2:Sz 900 l.2)(h3:Sz 900 k.1)(h4:Sz 900 k.2)(q:Q (.val (aKI l k))):uL [.val (fX l),.val (fX k)] Q:=by
 unfold aKI at q;refine nD ?_;unfold a0U yE;walk_at "!{*H*HĆ#";refine iC (fun c=>?_) (fun c=>?_)
 ·rw[if_pos c] at q;walk_at "!Ċŏ.E*x*xĆ#";refine iC (fun c2=>?_) (fun c2=>?_)
  ·rw[if_pos c2] at q;walk_at "!C^V0";exact q
  ·rw[if_neg c2] at q;walk_at "!C^V0";exact q
 ·rw[if_neg c] at q;walk_at "!>_*xNx+";refine lF (h3.mono (by decide)) (h1.mono (by decide)) ?_;walk_at "!_*HNH+";refine lF (h2.mono (by decide)) (h4.mono (by decide)) ?_;walk_at "!1^V3f";refine a4N ((h3.sub h1).mono (by decide)) ((h2.sub h4).mono (by decide)) (by grind) ?_;walk_at "!`";exact q
theorem yW {t b:Int}(h0:b≠0)(hb:Bt 9000 b)(q:Q (.val (bO (Rat.divInt t b)))):cR [.val (.int t),.val (.int b)] Q:=by
 have g0:=aJR (t:=t) h0;have g1:=aJT (t:=t) hb h0;refine nD ?_;unfold qD qQ pO pU;walk_at "!(ă%(ă%,#";refine vR (fun n Γ=>∃ d r,Γ=[.val (.int t),.val (.int b),.val (.int d),.val (.int r)]∧0≤d∧0≤r∧Int.gcd d r=Int.gcd t b∧n=r.toNat) _ ⟨_,_,rfl,aBI t,aBI b,aF7 t b,rfl⟩ ?_;rintro m Γ ⟨d,r,rfl,hd,hr,hg,rfl⟩;walk_at "!.-K#";refine iC (fun c=>?_) (fun c=>?_)
 ·walk_at "!Ő83]";refine⟨c,?_⟩;walk_at "!ğ#";have h1:=Int.emod_nonneg d (b:=r) (by omega);have h2:=Int.emod_lt_of_pos d c;exact⟨_,by omega,_,_,rfl,hr,h1,(aC7 hd c).trans hg,rfl⟩
 ·have c':r=0:=by omega
  subst c';have e:=aDX hd;rw[hg] at e;subst e;walk_at "!M-K#";refine iC (fun c=>?_) (fun c=>?_)
  ·have n:=aC4 (t:=t) c;walk_at "!vC-$%1@]";rw[Int.zero_sub];refine⟨⟨by omega,g1.neg⟩,?_⟩;walk_at "!3]";refine⟨⟨by omega,g1.neg⟩,?_⟩;walk_at "!0";rw[n.1,n.2];exact q
  ·have n:=rD (t:=t) (b:=b) (by omega);walk_at "!>1@]";refine⟨⟨g0,g1⟩,?_⟩;walk_at "!3]";refine⟨⟨g0,g1⟩,?_⟩;walk_at "!0";rw[n.1,n.2];exact q
theorem a79 {a b:Rat}{s:Int}(hs:s=1∨s = -1)(ha:Sz 4000 a)(hb:Sz 4000 b)(q:Q (.val (bO (pm s a b)))):fY [.val (bO a),.val (bO b),.val (.int s)] Q:=by
 obtain⟨a0,a1⟩:=id ha;obtain⟨b0,b1⟩:=id hb;have hs1:=aMO hs;have hs2:=hs1.mul b0;refine nD ?_;unfold xM;walk_at "!F-STT%Uąw&TGw+";refine yW (Int.mul_ne_zero (dO a) (dO b)) ((a1.mul b1).mono (by decide)) ?_;rw[aR9];exact q
theorem a93 {a b:Rat}(ha:Sz 4000 a)(hb:Sz 4000 b)(q:Q (.val (bO (a*b)))):iG [.val (bO a),.val (bO b)] Q:=by
 obtain⟨a0,a1⟩:=id ha;obtain⟨b0,b1⟩:=id hb;refine nD ?_;unfold tZ;walk_at "!FėUą&TGw+";refine yW (Int.mul_ne_zero (dO a) (dO b)) ((a1.mul b1).mono (by decide)) ?_;rw[aDZ];exact q
theorem aF4 {a b:Rat}(ha:Sz 9000 a)(hb:Sz 9000 b)(q:Q (.val (.bool (decide (a<b))))):kE [.val (bO a),.val (bO b)] Q:=by
 obtain⟨a0,a1⟩:=id ha;obtain⟨b0,b1⟩:=id hb;refine nD ?_;unfold xF;walk_at "!1-SS#";rw[aQM];exact q
end
theorem aB9 (i:Int):PyData.tuple [.int i,.int 1]=bO (i:Rat):=by
 unfold bO;rw[Rat.num_intCast,Rat.den_intCast];rfl
theorem aQQ {k:Nat}{i:Int}(h1 : -2147483648<i)(h2:i<2147483648)(hk:31≤k:=by decide):Bt k i:=by
 refine Bt.mono (k:=31) ?_ hk;show i.natAbs<2^31;have:(2:Nat)^31=2147483648:=by decide
 omega
def LinesOk (k:Nat)(ls:List (Rat×Rat)):Prop:=∀ l∈ls,Sz k l.1∧Sz k l.2
def fZ (ls:List (Rat×Rat)):List D:=ls.map fX
theorem LinesOk.get {k:Nat}{ls:List (Rat×Rat)}(h:LinesOk k ls){i:Nat}{l:Rat×Rat}(e:ls[i]?=some l):Sz k l.1∧Sz k l.2:=h l (List.mem_of_getElem? e)
theorem qL {ds:List D}{i:Nat}{d:D}(h:ds[i]?=some d):ixD (.list ds) (.int (i:Int))=some d:=a9G h
theorem a2N (ls:List (Rat×Rat)):(fZ ls).length=ls.length:=by simp[fZ]
section
variable {Q:Rv→Prop}
end
section
variable {p:Addr}{n:Nat}{Q:Rv→Nat→Prop}
end
section
variable {Q:Rv→Prop}{ls:List (Rat×Rat)}{i j:Nat}{l k:Rat×Rat}{t:Rat}
theorem aLU {ls:List (Rat×Rat)}{i:Nat}{l:Rat×Rat}(h:ls[i]?=some l):ixD (.list (fZ ls)) (.int (i:Int))=some (fX l):=qL (by unfold fZ; rw[List.getElem?_map,h]; rfl)
def a8U:Option Rat→D
 | none=>.none
 | some q=>bO q
theorem aN9 (o:Option Rat):Gd 1 (a8U o):=by
 cases o with
 | none=>exact gd_none.mono
 | some q=>exact aP8 q
theorem rO {l:Rat×Rat}{t:Rat}(h1:Sz 900 l.1)(h2:Sz 900 l.2)(h3:Sz 2900 t):Sz 9000 (pl l t):=(h1.add (h2.mul h3)).mono (by decide)
def pC (l:Rat×Rat)(t:Rat)(i:Nat):D:=.tuple [bO (pl l t),bO l.2,.int (i:Int)]
theorem aBU (l:Rat×Rat)(t:Rat)(i:Nat):ixD (pC l t i) (.int 0)=some (bO (pl l t)):=rfl
theorem aB3 (l:Rat×Rat)(t:Rat)(i:Nat):ixD (pC l t i) (.int 1)=some (bO l.2):=rfl
theorem aF2 (l:Rat×Rat)(t:Rat)(i:Nat):ixD (pC l t i) (.int 2)=some (.int (i:Int)):=rfl
theorem sW (h1:Sz 9000 (pl l t))(h2:Sz 9000 l.2)(h3:Sz 9000 (pl k t))(h4:Sz 9000 k.2)(q:Q (.val (.bool (ahB l k i j t)))) :
  fM [.val (pC l t i),.val (pC k t j)] Q:=by
 unfold ahB at q;refine nD ?_;unfold mH mV mZ;walk_at "!Mn6";refine cC (aBU _ _ _) ?_;walk_at "!*";refine cC (aBU _ _ _) ?_;walk_at "!Ć";refine a9V (fun c=>?_) (fun c=>?_)
 ·rw[if_neg c] at q;walk_at "!F6";refine cC (aBU _ _ _) ?_;walk_at "!N";refine cC (aBU _ _ _) ?_;walk_at "!)";exact iZ h3 h1 q
 ·rw[if_pos c] at q;walk_at "!>Mn6";refine cC (aB3 _ _ _) ?_;walk_at "!*";refine cC (aB3 _ _ _) ?_;walk_at "!Ć";refine a9V (fun c=>?_) (fun c=>?_)
  ·rw[if_neg c] at q;walk_at "!F6";refine cC (aB3 _ _ _) ?_;walk_at "!N";refine cC (aB3 _ _ _) ?_;walk_at "!)";exact iZ h4 h2 q
  ·rw[if_pos c] at q;walk_at "!>1-6";refine cC (aF2 _ _ _) ?_;walk_at "!*";refine cC (aF2 _ _ _) ?_;walk_at "!#";exact q
end
def cI (xs:List Nat):List D:=xs.map fun i:Nat=>PyData.int (i:Int)
theorem j5 (xs:List Nat):(cI xs).length=xs.length:=by simp[cI]
theorem a6G (xs:List Nat):Good (.list (cI xs)):=(aB4 (n:=0) fun d h=>by
 obtain⟨t,_,rfl⟩:=List.mem_map.mp h;exact a6W _).good
theorem aE8 {xs:List Nat}{i:Nat}(h:i<xs.length):ixD (.list (cI xs)) (.int (i:Int))=some (.int (xs[i]:Int)):=qL (by unfold cI; rw[List.getElem?_map,List.getElem?_eq_getElem h]; rfl)
theorem aGX (ls:List Ln):aN2 (.list (fZ ls))=some (.int (ls.length:Int)):=by show some (PyData.int ((fZ ls).length:Int))=_; rw[a2N]
theorem aB0 {α β:Type}(f:α→β)(xs:List α)(i:Int)(x:α):(a2B xs i x).map f=a2B (xs.map f) i (f x):=by
 unfold a2B;rw[List.map_append,List.map_cons,List.map_take,List.map_drop,List.length_map]
theorem aGS {α:Type}{xs:List α}{n:Nat}{x:α}(h:n≤xs.length):a2B xs (n:Int) x=xs.take n++x::xs.drop n:=by
 unfold a2B aHX;rw[if_neg (by omega)];simp[Nat.min_eq_left h]
theorem aRM {l k:Ln}{t:Rat}(h1:Sz 200 l.1)(h2:Sz 200 l.2)(h3:Sz 200 k.1)(h4:Sz 200 k.2)(h:mtO l k=some t):Sz 802 t:=by
 unfold mtO at h
 split at h
 ·cases h
 ·cases h
  exact((h3.sub h1).div (h2.sub h4) (by grind)).mono (by decide)
section
variable {Q:Rv→Prop}
end
section
variable {Q:Rv→Prop}{ls:List Ln}
def aN1 (ls:List Ln)(t:Rat)(i:Nat):D:=match ls[i]? with
 | some l=>pC l t i
 | none=>.none
theorem a8Z {t:Rat}{i:Nat}{l:Ln}(h:ls[i]?=some l):aN1 ls t i=pC l t i:=by unfold aN1; rw[h]
def aDO (ls:List Ln)(t:Rat)(xs:List Nat):List D:=xs.map (aN1 ls t)
theorem a3V (t:Rat)(xs:List Nat):(aDO ls t xs).length=xs.length:=by unfold aDO; rw[List.length_map]
theorem aAR {xs:List Nat}{n:Nat}{d:D}(h:(cI xs)[n]?=some d):∃ o,xs[n]?=some o∧d=.int (o:Int):=by
 unfold cI at h;rw[List.getElem?_map] at h
 cases e:xs[n]? with
 | none=>rw[e] at h; cases h
 | some o=>rw[e] at h; cases h; exact⟨o,rfl,rfl⟩
end
theorem aGQ (xs:List D):L2.VS.cutD xs (some 1) none=xs.drop 1:=by
 cases xs with
 | nil=>rfl
 | cons x xs=>
  have e1:HT.sIx (x::xs).length 0 (some 1)=1:=by
   unfold HT.sIx;simp
  have e2:HT.sIx (x::xs).length (x::xs).length none=(x::xs).length:=rfl;unfold L2.VS.cutD;rw[e1,e2];simp
def yF (xs:List Nat):List (Nat×Nat):=xs.zip (xs.drop 1)
def a78 (p:Nat×Nat):D:=.tuple [.int (p.1:Int),.int (p.2:Int)]
theorem aC0 (p:Nat×Nat):ixD (a78 p) (.int 0)=some (.int (p.1:Int)):=rfl
theorem aAU (p:Nat×Nat):ixD (a78 p) (.int 1)=some (.int (p.2:Int)):=rfl
theorem qX (xs:List Nat):(yF xs).length=xs.length-1:=by unfold yF; rw[List.length_zip,List.length_drop]; omega
theorem a4E {xs:List Nat}{n:Nat}(h:n+1<xs.length):(yF xs)[n]?=some (xs[n],xs[n+1]):=by
 unfold yF;rw[List.getElem?_zip_eq_some];exact⟨List.getElem?_eq_getElem (by omega),by rw[List.getElem?_drop,Nat.add_comm]; exact List.getElem?_eq_getElem h⟩
theorem zF {xs:List Nat}{p:Nat×Nat}(h:p∈yF xs):∃ n,∃ h:n+1<xs.length,p=(xs[n],xs[n+1]):=by
 obtain⟨n,hn⟩:=List.mem_iff_getElem?.mp h;have hl:=(List.getElem?_eq_some_iff.mp hn).1;rw[qX] at hl;refine⟨n,by omega,?_⟩;rw[a4E (by omega)] at hn;exact(Option.some.inj hn).symm
def mF (ls:List Ln)(t:Rat)(i j:Nat):Option Rat:=if ahN ls t j i=true then some t else nxN ls t i j
def lK (ls:List Ln)(t:Rat)(i j:Nat):D:=.tuple [.int (i:Int),.int (j:Int),a8U (mF ls t i j)]
section
variable {Q:Rv→Prop}{ls:List Ln}
theorem a7M {xs:List Nat}(q:Q (.own ((yF xs).map a78))):lU [.val (.list (cI xs))] Q:=by
 refine nD ?_;unfold qI;walk_at "!aő%hĳ%Ġ$ġ#";rw[aGQ];have e:aDP (cI xs) ((cI xs).drop 1)=(yF xs).map a78:=by
  unfold aDP cI yF;rw[← List.map_drop,List.zip_map,List.map_map];exact List.map_congr_left fun p _=>rfl
 rw[e];exact q
end
def LnAt (L:D)(i:Nat)(l:Ln):Prop:=(∃ ls:List Ln,L=.list (fZ ls)∧ls[i]?=some l)∨∃ kds:List (Int×D),L=.dict (dkD kds)∧qT kds (i:Int)=some (fX l)
theorem LnAt.list {ls:List Ln}{i:Nat}{l:Ln}(h:ls[i]?=some l):LnAt (.list (fZ ls)) i l:=.inl ⟨ls,rfl,h⟩
theorem LnAt.dict {kds:List (Int×D)}{i:Nat}{l:Ln}(h:qT kds (i:Int)=some (fX l)):LnAt (.dict (dkD kds)) i l:=.inr ⟨kds,rfl,h⟩
theorem aAK {L:D}{i a b:Nat}{l:Ln}{Γ:En}{Q:D→En→Prop}(h:LnAt L i l)(ha:Γ[a]?=some (.val L))(hb:Γ[b]?=some (.val (.int (i:Int))))(q:Q (fX l) Γ):aN7 (mIx (aO a) (aO b)) (pM (aO a) (aO b)) Γ Q:=by
 rcases h with⟨ls,rfl,h⟩|⟨kds,rfl,h⟩
 ·exact .inl (aTW (a8S ha (a8S hb (cC (aLU h) q))))
 ·exact .inr (aKA (a8S ha (aOW (a8S hb (yM h q)))))
section
variable {Q:Rv→Prop}{L:D}{ls:List Ln}{i j:Nat}{l k:Ln}{t:Rat}
theorem wH (hi:LnAt L i l)(h1:Sz 900 l.1)(h2:Sz 900 l.2)(ht:Sz 2900 t)(q:Q (.val (pC l t i))) :
  kI [.val L,.val (.int (i:Int)),.val (bO t)] Q:=by
 refine nD ?_;unfold wW;walk_at "!1@g#";refine aAK hi (by with_unfolding_all rfl) (by with_unfolding_all rfl) ?_;walk_at "!2)";refine a2T h1 h2 ht ?_;walk_at "!34#";refine aAK hi (by with_unfolding_all rfl) (by with_unfolding_all rfl) ?_;walk_at "!$H80";exact q
theorem aD8 (hi:LnAt L i l)(hj:LnAt L j k)(h1:Sz 900 l.1)(h2:Sz 900 l.2)(h3:Sz 900 k.1)(h4:Sz 900 k.2)(ht:Sz 2900 t)(q:Q (.val (.bool (ahB l k i j t)))) :
  rT [.val L,.val (.int (i:Int)),.val (.int (j:Int)),.val (bO t)] Q:=by
 refine nD ?_;unfold wM;walk_at "!Fpo";refine wH hi h1 h2 ht ?_;walk_at "!&po";refine wH hj h3 h4 ht ?_;walk_at "!+";exact sW (rO h1 h2 ht) (h2.mono (by decide)) (rO h3 h4 ht) (h4.mono (by decide)) q
theorem a4J (hi:LnAt L i l)(hj:LnAt L j k)(h1:Sz 900 l.1)(h2:Sz 900 l.2)(h3:Sz 900 k.1)(h4:Sz 900 k.2)(ht:Sz 2900 t)(q:Q (.val (a8U (nxC l k t)))) :
  jQ [.val L,.val (.int (i:Int)),.val (.int (j:Int)),.val (bO t)] Q:=by
 unfold nxC at q;refine nD ?_;unfold oA p8;walk_at "!_#";refine aAK hi (by with_unfolding_all rfl) (by with_unfolding_all rfl) ?_;walk_at "!&";refine aAK hj (by with_unfolding_all rfl) (by with_unfolding_all rfl) ?_;walk_at "!)";refine aHF h1 h2 h3 h4 ?_;walk_at "!7WE6";unfold aKI
 by_cases hs:l.2=k.2
 ·rw[if_pos hs] at q ⊢;obtain⟨s,hs1,hs2⟩:∃ s:Str,(if l.1=k.1 then PyData.tuple [.str "always"] else .tuple [.str "never"])=.tuple [.str s]∧(s = "always" ∨ s = "never"):=by
   by_cases c:l.1=k.1
   ·rw[if_pos c]; exact⟨_,rfl,.inl rfl⟩
   ·rw[if_neg c]; exact⟨_,rfl,.inr rfl⟩
  rw[hs1];refine cC (d:=.str s) rfl ?_;walk_at "!$";have hz:PyData.eqv (.str s) (.str "at")=false:=by rcases hs2 with rfl|rfl<;>decide
  refine⟨by rcases hs2 with rfl|rfl<;>exact good_str _,good_str _,?_⟩;rw[hz];walk_at "!bb>1A";exact q
 ·rw[if_neg hs] at q ⊢;have zm:Sz 3700 (mt l k):=((h3.sub h1).div (h2.sub h4) (by grind)).mono (by decide);refine cC (d:=.str "at") rfl ?_;walk_at "!$";refine⟨good_str _,good_str _,?_⟩;rw[yX (good_str "at")];walk_at "!9.D&6";refine cC (d:=bO (mt l k)) rfl ?_;walk_at "!)";refine iZ (ht.mono (by decide)) (zm.mono (by decide)) ?_;walk_at "!#";refine iC (fun c=>?_) (fun c=>?_)
  ·rw[if_pos c] at q;walk_at "!16";refine cC (d:=bO (mt l k)) rfl ?_;skip;exact q
  ·rw[if_neg c] at q;walk_at "!>1A";exact q
theorem aGH {i j:Nat}{l k:Ln}{t:Rat}(hi:ls[i]?=some l)(hj:ls[j]?=some k)(li:LnAt L i l)(lj:LnAt L j k)(h1:Sz 900 l.1)(h2:Sz 900 l.2)(h3:Sz 900 k.1)(h4:Sz 900 k.2)(ht:Sz 2900 t)(q:Q (.val (a8U (mF ls t i j)))) :
  uY [.val L,.val (.int (i:Int)),.val (.int (j:Int)),.val (bO t)] Q:=by
 unfold mF at q;refine nD ?_;unfold a02;walk_at "!MpX+";refine aD8 lj li h3 h4 h1 h2 ht ?_;rw[← pR hj hi]
 cases ha:ahN ls t j i with
 | true=>
  rw[if_pos ha] at q;walk_at "!91<";exact q
 | false=>
  rw[if_neg (by rw[ha]; decide)] at q;walk_at "!b/";unfold xR;walk_at "!ċXX+";refine a4J li lj h1 h2 h3 h4 ht ?_;rw[← aF9 hi hj];exact q
theorem sI {xs:List Nat}{t:Rat}(hz:LinesOk 200 ls)(hl:xs.length≤60)(hm:∀ x∈xs,x<ls.length)(hL:∀ x∈xs,∀ l,ls[x]?=some l→LnAt L x l)(ht:Sz 2900 t)(q:Q (.own ((yF xs).map fun p=>lK ls t p.1 p.2))) :
  fC [.val L,.val (.list (cI xs)),.val (bO t)] Q:=by
 refine nD ?_;unfold mL;walk_at "!aĘD+";refine a7M ?_;walk_at "!#";refine⟨by rw[List.length_map,qX]; omega,?_⟩;refine jG (α:=Nat×Nat) (fun _=>true) (fun p=>lK ls t p.1 p.2) a78 (yF xs) [] _ (fun p hp _ k k0 h1 h0=>?_) ?_
 ·obtain⟨n,hn,rfl⟩:=zF hp;have l1:xs[n]<ls.length:=hm _ (List.getElem_mem _);have l2:xs[n+1]<ls.length:=hm _ (List.getElem_mem _);have e1:ls[xs[n]]?=some ls[xs[n]]:=List.getElem?_eq_getElem l1;have e2:ls[xs[n+1]]?=some ls[xs[n+1]]:=List.getElem?_eq_getElem l2;obtain⟨z1,z2⟩:=hz.get e1;obtain⟨z3,z4⟩:=hz.get e2;walk_at "!?";unfold qJ;walk_at "!9@*";refine cC (aC0 _) ?_;walk_at "!36";refine cC (aAU _) ?_;walk_at "!3D&6";refine cC (aC0 _) ?_;walk_at "!&6";refine cC (aAU _) ?_;walk_at "!o";refine aGH e1 e2 (hL _ (List.getElem_mem _) _ e1) (hL _ (List.getElem_mem _) _ e2) (z1.mono (by decide)) (z2.mono (by decide)) (z3.mono (by decide)) (z4.mono (by decide)) ht ?_;walk_at "!`";exact h1 rfl
 ·have ef:List.filter (fun _=>true) (yF xs)=yF xs:=List.filter_eq_self.mpr fun _ _=>rfl;rw[ef,List.nil_append];skip;exact q
theorem uV {rs:List Nat}{t:Rat}(hz:LinesOk 200 ls)(hl:rs.length≤60)(hr:∀ x∈rs,x<ls.length)(hk0:∀ x∈rs,∀ l,ls[x]?=some l→LnAt L x l)(hn:rs.Nodup)(ht:Sz 2900 t)(q:Q (.own (cI (v5 (ahN ls t) rs)))) :
  gG [.val L,.val (.list (cI rs)),.val (bO t)] Q:=by
 refine nD ?_;unfold o8;walk_at "!ię0,ČĢ<";refine a0M (fun n Γ=>∃ a b c,Γ=[.val L,.val (.list (cI rs)),.val (bO t),.own (aDO ls t (v5 (ahN ls t) (rs.take n))),a,b,c]) ⟨_,_,_,rfl⟩ ?_ ?_
 ·rintro n d Γ K hd ⟨a,b,c,rfl⟩ hk;obtain⟨o,ho,rfl⟩:=aAR hd;have ho':o∈rs:=List.mem_of_getElem? ho;have hlt:=hr o ho';have e1:ls[o]?=some ls[o]:=List.getElem?_eq_getElem hlt;obtain⟨z1,z2⟩:=hz.get e1;have tk:rs.take (n+1)=rs.take n++[o]:=by rw[List.take_succ,ho]; rfl
  have hk3:=hk.nx;rw[tk,a1J] at hk3;have hno:o∉rs.take n:=by
   have:=hn.sublist (List.take_sublist (n+1) rs);rw[tk] at this;have:=(List.nodup_append.mp this).2.2;exact fun hm=>this o hm o (List.mem_singleton.mpr rfl) rfl
  have hsrt:=a3S (fD ls t) (rs:=rs.take n) (fun x hx=>hr x (List.mem_of_mem_take hx)) (hn.sublist (List.take_sublist n rs));have hxn:∀ x∈v5 (ahN ls t) (rs.take n),x<ls.length∧x≠o:=fun x hx=>by
   have hx:=ordL_mem.mp hx;exact⟨hr x (List.mem_of_mem_take hx),fun e=>hno (by rw[← e]; exact hx)⟩
  have hlen:(v5 (ahN ls t) (rs.take n)).length≤60:=by
   rw[oN,List.length_take];omega
  generalize hxs:v5 (ahN ls t) (rs.take n)=xs at *;have ft:=a0X (fD ls t) hlt hxn hsrt;have fl:(xs.filter fun x => !ahN ls t o x).length≤xs.length:=List.length_filter_le _ _;generalize hF:(xs.filter fun x => !ahN ls t o x).length=m at *;unfold pA;walk_at "!?(po";refine wH (hk0 o ho' _ e1) (z1.mono (by decide)) (z2.mono (by decide)) ht ?_;walk_at "!($,#";refine vR (fun w Γ=>∃ k:Nat,w=m-k∧k≤m∧Γ=[.val L,.val (.list (cI rs)),.val (bO t),.own (aDO ls t xs),.val (.int (o:Int)),.val (pC ls[o] t o),.val (.int (k:Int))]) m ⟨0,by omega,by omega,rfl⟩ ?_;rintro w Γ ⟨k,rfl,hkm,rfl⟩;have stop:k=m→jD [.val L,.val (.list (cI rs)),.val (bO t),.own (aDO ls t xs),.val (.int (o:Int)),.val (pC ls[o] t o),.val (.int (k:Int))] K:=by
   intro ek;unfold jD;walk_at "!Ĵ%%";refine aKF (ds:=aDO ls t xs) rfl (by omega) (by omega) (by rw[a3V]; omega) ?_;have ei:a2B (aDO ls t xs) (k:Int) (pC ls[o] t o)=aDO ls t (bT (ahN ls t) xs o):=by
    rw[← a8Z e1,ek];unfold aDO;rw[← aB0 (aN1 ls t),aGS fl,ft.1,ft.2];unfold bT;simp
   rw[ei];exact hk3 _ ⟨_,_,_,rfl⟩
  walk_at "!ĚW-%Y";refine cC (d:=.int (xs.length:Int)) (by show some (PyData.int ((aDO ls t xs).length:Int))=_; rw[a3V]) ?_;walk_at "!#";refine iC (fun c=>?_) (fun c=>?_)
  ·have hkx:k<xs.length:=by omega
   have m1:=(hxn xs[k] (List.getElem_mem _)).1;have e2:ls[xs[k]]?=some ls[xs[k]]:=List.getElem?_eq_getElem m1;obtain⟨z3,z4⟩:=hz.get e2;have ix:ixD (.list (aDO ls t xs)) (.int (k:Int))=some (pC ls[xs[k]] t xs[k]):=qL (by
    unfold aDO;rw[List.getElem?_map,List.getElem?_eq_getElem hkx];show some (aN1 ls t xs[k])=_;rw[a8Z e2])
   walk_at "!.g4y";refine cC ix ?_;walk_at "!2)";refine sW (rO (z3.mono (by decide)) (z4.mono (by decide)) ht) (z4.mono (by decide)) (rO (z1.mono (by decide)) (z2.mono (by decide)) ht) (z2.mono (by decide)) ?_;rw[← pR e2 e1]
   by_cases hkm2:k<m
   ·have hin:xs[k]∈xs.filter fun x => !ahN ls t o x:=by
     rw[← ft.1];exact List.mem_take_iff_getElem.mpr ⟨k,by omega,rfl⟩
    have ha:ahN ls t xs[k] o=true:=by
     rw[(fD ls t).flip hlt m1 (Ne.symm (hxn xs[k] (List.getElem_mem _)).2)];exact(List.mem_filter.mp hin).2
    rw[ha];walk_at "!O9";unfold pJ;walk_at "!ŒA";exact⟨m-(k+1),by omega,k+1,rfl,by omega,by rw[Int.natCast_add]; rfl⟩
   ·have ek:k=m:=by omega
    subst ek;have hin:xs[k]∈xs.filter fun x=>ahN ls t o x:=by
     rw[← ft.2];exact List.mem_drop_iff_getElem.mpr ⟨0,by omega,by simp⟩
    have ha:ahN ls t xs[k] o=false:=by
     rw[(fD ls t).flip hlt m1 (Ne.symm (hxn xs[k] (List.getElem_mem _)).2),(List.mem_filter.mp hin).2];rfl
    rw[ha];walk_at "!Ob";exact stop rfl
  ·walk_at "!Ob";exact stop (by omega)
 ·rintro Γ ⟨a,b,c,rfl⟩;rw[j5,List.take_length];have hm:∀ x∈v5 (ahN ls t) rs,x<ls.length:=fun x hx=>hr x (ordL_mem.mp hx);have hlen:(v5 (ahN ls t) rs).length≤60:=by rw[oN]; exact hl
  generalize v5 (ahN ls t) rs=xs at *;unfold pH;walk_at "!ĵaq";refine⟨by rw[a3V]; omega,?_⟩;refine jG (α:=Nat) (fun _=>true) (fun o=>.int (o:Int)) (aN1 ls t) xs [] _ (fun o ho _ k k0 h1 h0=>?_) ?_
  ·have hlt:=hm o ho;have e2:ls[o]?=some ls[o]:=List.getElem?_eq_getElem hlt;rw[a8Z e2];walk_at "!?";unfold qJ;walk_at "!9*";refine cC (aF2 _ _ _) ?_;skip;exact h1 rfl
  ·have ef:List.filter (fun _=>true) xs=xs:=List.filter_eq_self.mpr fun _ _=>rfl;rw[ef,List.nil_append];skip;exact q
theorem aCX {t:Rat}(hz:LinesOk 200 ls)(hl:ls.length≤30)(ht:Sz 2900 t)(q:Q (.own (cI (ord ls t)))):jY [.val (.list (fZ ls)),.val (bO t)] Q:=by
 refine nD ?_;unfold wA;walk_at "!ċ2&:œY";refine cC (aGX ls) ?_;walk_at "!#";refine⟨⟨by omega,by omega⟩,?_⟩;have e:jK 0 (ls.length:Int).toNat=cI (List.range ls.length):=by
  unfold jK cI;rw[Int.toNat_natCast];exact List.map_congr_left fun k _=>by rw[Int.zero_add]
 rw[e];walk_at "!2)";refine uV hz (by rw[List.length_range]; omega) (fun x hx=>List.mem_range.mp hx) (fun x _ l h=>.list h) List.nodup_range ht ?_;rw[wO];exact q
end
def ln (ls:List Ln)(i:Nat):Ln:=ls.getD i (0,0)
theorem a9Z {ls:List Ln}{i:Nat}(h:i<ls.length):ls[i]?=some (ln ls i):=by
 unfold ln;rw[List.getD_eq_getElem?_getD,List.getElem?_eq_getElem h];rfl
theorem a7B {ls:List Ln}{t:Rat}{i j:Nat}(hi:i<ls.length)(hj:j<ls.length):ahN ls t i j=ahB (ln ls i) (ln ls j) i j t:=pR (a9Z hi) (a9Z hj)
theorem a2Q {ls:List Ln}{t:Rat}{i j:Nat}(hi:i<ls.length)(hj:j<ls.length):nxN ls t i j=nxC (ln ls i) (ln ls j) t:=aF9 (a9Z hi) (a9Z hj)
theorem a9N {a b:Rat}(ha:0≤a)(hb:0≤b):0≤a*b:=Rat.mul_nonneg ha hb
theorem aLB {a b:Rat}(ha:a≤0)(hb:b≤0):0≤a*b:=by
 have:=a9N (a := -a) (b := -b) (by grind) (by grind);grind
theorem a9K {a b:Rat}(h:0≤a*b)(hb:b<0):a≤0:=by
 rcases Rat.le_total (a:=a) (b:=0) with z|z
 ·exact z
 ·have h1:=a9N (a:=a) (b := -b) z (by grind);have h2:a*b=0:=by grind
  have h3:a=0∨b=0:=Rat.mul_eq_zero.mp h2;rcases h3 with h3|h3
  ·rw[h3]; exact Rat.le_refl
  ·rw[h3] at hb; exact absurd hb (by grind)
theorem aMG {a b:Rat}(h:0≤a*b)(hb:0<b):0≤a:=by
 have:=a9K (a := -a) (b := -b) (by grind) (by grind);grind
def Wb (ls:List Ln)(t:Rat)(i j:Nat):Prop:=pl (ln ls j) t≤pl (ln ls i) t∧(ln ls i=ln ls j→i<j)
theorem Wb.on {ls:List Ln}{t u:Rat}{a b:Nat}(ha:a<ls.length)(hb:b<ls.length)(h:Wb ls t a b)(htu:t≤u)(hu:∀ v,mF ls t a b=some v→u≤v):Wb ls u a b:=by
 refine⟨?_,h.2⟩;have h1:=h.1;unfold mF at hu
 by_cases c:ahN ls t b a=true
 ·rw[if_pos c] at hu;have:u=t:=Rat.le_antisymm (hu t rfl) htu;rw[this]; exact h1
 ·rw[if_neg c,a2Q ha hb] at hu;rw[a7B hb ha] at c;generalize ln ls a=l at *;generalize ln ls b=k at *;unfold nxC at hu
  by_cases e:l.2=k.2
  ·unfold pl at *;rw[e] at h1 ⊢;grind
  ·rw[if_neg e] at hu;have s1:=a7Q e t;have s2:=a7Q e u
   by_cases m:t<mt l k
   ·rw[if_pos m] at hu;have hm:=hu _ rfl;have h2:0≤(l.2-k.2)*(t-mt l k):=by rw[← s1]; grind
    have h3:=a9K h2 (by grind);have h4:=aLB h3 (show u-mt l k≤0 by grind);rw[← s2] at h4;grind
   ·have h2:0≤(l.2-k.2)*(t-mt l k):=by rw[← s1]; grind
    have h5:0≤l.2-k.2:=by
     by_cases z:mt l k<t
     ·exact aMG h2 (by grind)
     ·have z:mt k l≤t:=by rw[aLQ e]; grind
      rw[aSF (fun y=>e y.symm) z] at c;have:¬l.2<k.2:=fun y=>c (decide_eq_true y);grind
    have h4:=a9N h5 (show 0≤u-mt l k by grind);rw[← s2] at h4;grind
theorem Wb.meet {ls:List Ln}{t u:Rat}{a b:Nat}(ha:a<ls.length)(hb:b<ls.length)(h:Wb ls t a b)(hu:mF ls t a b=some u):t≤u∧(ln ls a).2<(ln ls b).2∧pl (ln ls a) u=pl (ln ls b) u:=by
 obtain⟨h1,h2⟩:=h;unfold mF at hu
 by_cases c:ahN ls t b a=true
 ·rw[if_pos c] at hu
  cases hu
  rw[a7B hb ha,qO] at c;rcases c with c|⟨c1,c2|⟨c2,c3⟩⟩
  ·grind
  ·exact⟨Rat.le_refl,c2,c1.symm⟩
  ·exfalso;have:ln ls a=ln ls b:=by
    generalize ln ls a=l at *;generalize ln ls b=k at *;obtain⟨l1,l2⟩:=l;obtain⟨k1,k2⟩:=k;unfold pl at c1;dsimp only at c1 c2;subst c2;have:l1=k1:=by grind
    rw[this]
   have:=h2 this;omega
 ·rw[if_neg c,a2Q ha hb] at hu;obtain⟨e,htm,hm⟩:=a4O hu;have s1:=a7Q e t;rw[← hm] at s1;have h3:=a9K (a:=(ln ls a).2-(ln ls b).2) (b:=t-u) (by rw[← s1]; grind) (by grind);exact⟨by grind,by grind,(aK5 e).mpr hm⟩
def ffS (b:Option (Nat×Rat))(n:Nat)(u:Option Rat):Option (Nat×Rat):=match u,b with
 | none,b=>b
 | some u,none=>some (n,u)
 | some u,some c=>if u<c.2 then some (n,u) else some c
def ffN (us:List (Option Rat)):Nat→Option (Nat×Rat)
 | 0=>none
 | n+1=>ffS (ffN us n) n (us.getD n none)
def ff (us:List (Option Rat)):Option (Nat×Rat):=ffN us us.length
theorem aFP (us:List (Option Rat)):∀ n,n≤us.length→match ffN us n with
  | none=>∀ j,j<n→us[j]?=some none
  | some c=>c.1<n∧us[c.1]?=some (some c.2)∧∀ j v,j<n→us[j]?=some (some v)→c.2≤v
 | 0,_=>fun j hj=>absurd hj (Nat.not_lt_zero _)
 | n+1,h=>by
  have ih:=aFP us n (by omega);have hn:us[n]?=some (us.getD n none):=by rw[List.getD_eq_getElem?_getD,List.getElem?_eq_getElem (by omega)]; rfl
  show match ffS (ffN us n) n (us.getD n none) with
   | none=>∀ j,j<n+1→us[j]?=some none
   | some c=>c.1<n+1∧us[c.1]?=some (some c.2)∧∀ j v,j<n+1→us[j]?=some (some v)→c.2≤v
  generalize us.getD n none=x at *
  cases x with
  | none=>
   have e:ffS (ffN us n) n none=ffN us n:=by unfold ffS; cases ffN us n<;>rfl
   rw[e]
   cases hf:ffN us n with
   | none=>
    rw[hf] at ih;intro j hj
    by_cases hjn:j=n
    ·rw[hjn]; exact hn
    ·exact ih j (by omega)
   | some c=>
    rw[hf] at ih;refine⟨by have:=ih.1; omega,ih.2.1,fun j v hj hv=>?_⟩
    by_cases hjn:j=n
    ·rw[hjn,hn] at hv; cases hv
    ·exact ih.2.2 j v (by omega) hv
  | some u=>
   cases hf:ffN us n with
   | none=>
    rw[hf] at ih;refine⟨by show n<n+1; omega,hn,fun j v hj hv=>?_⟩
    by_cases hjn:j=n
    ·rw[hjn,hn] at hv; cases hv; exact Rat.le_refl
    ·rw[ih j (by omega)] at hv; cases hv
   | some c=>
    rw[hf] at ih;show match (if u<c.2 then some (n,u) else some c) with
     | none=>∀ j,j<n+1→us[j]?=some none
     | some c=>c.1<n+1∧us[c.1]?=some (some c.2)∧∀ j v,j<n+1→us[j]?=some (some v)→c.2≤v
    by_cases hc:u<c.2
    ·rw[if_pos hc];refine⟨by show n<n+1; omega,hn,fun j v hj hv=>?_⟩;show u≤v
     by_cases hjn:j=n
     ·rw[hjn,hn] at hv; cases hv; exact Rat.le_refl
     ·have:=ih.2.2 j v (by omega) hv;grind
    ·rw[if_neg hc];refine⟨by have:=ih.1; omega,ih.2.1,fun j v hj hv=>?_⟩
     by_cases hjn:j=n
     ·rw[hjn,hn] at hv; cases hv; grind
     ·exact ih.2.2 j v (by omega) hv
theorem aFY {us:List (Option Rat)}{k:Nat}{u:Rat}(h:ff us=some (k,u)):us[k]?=some (some u)∧∀(j:Nat) (v:Rat),us[j]?=some (some v)→u≤v:=by
 have:=aFP us us.length (Nat.le_refl _);unfold ff at h;rw[h] at this;exact⟨this.2.1,fun j v hv=>this.2.2 j v (List.getElem?_eq_some_iff.mp hv).1 hv⟩
def gF (ls:List Ln)(t:Rat)(xs:List Nat):List (Option Rat):=(yF xs).map fun p=>mF ls t p.1 p.2
theorem a7A (ls:List Ln)(t:Rat)(xs:List Nat):(gF ls t xs).length=xs.length-1:=by unfold gF; rw[List.length_map,qX]
theorem a5E {ls:List Ln}{t:Rat}{xs:List Nat}{n:Nat}(h:n+1<xs.length):(gF ls t xs)[n]?=some (mF ls t xs[n] xs[n+1]):=by
 unfold gF;rw[List.getElem?_map,a4E h];rfl
def swp (xs:List Nat)(k:Nat):List Nat:=xs.take k++[xs.getD (k+1) 0,xs.getD k 0]++xs.drop (k+2)
theorem aR0 {xs:List Nat}{k:Nat}(h:k+1<xs.length):xs=xs.take k++xs[k]::xs[k+1]::xs.drop (k+2):=by
 conv=>lhs; rw[← List.take_append_drop k xs]
 rw[List.drop_eq_getElem_cons (by omega),List.drop_eq_getElem_cons (by omega)]
theorem xP {xs:List Nat}{k:Nat}(h:k+1<xs.length):swp xs k=xs.take k++xs[k+1]::xs[k]::xs.drop (k+2):=by
 unfold swp;rw[List.getD_eq_getElem?_getD,List.getD_eq_getElem?_getD,List.getElem?_eq_getElem h,List.getElem?_eq_getElem (by omega:k<xs.length),List.append_assoc];rfl
theorem vN {xs:List Nat}{k:Nat}(h:k+1<xs.length):(swp xs k).Perm xs:=by
 rw[xP h]
 conv=>rhs; rw[aR0 h]
 exact List.Perm.append_left _ (List.Perm.swap _ _ _)
theorem aLG {xs:List Nat}{k:Nat}(h:k+1<xs.length):(swp xs k).length=xs.length:=(vN h).length_eq
theorem aKZ {xs:List Nat}{k:Nat}(h:k+1<xs.length):(xs.set k xs[k+1]).set (k+1) xs[k]=swp xs k:=by
 rw[xP h];apply List.ext_getElem?;intro j
 by_cases h1:j=k+1
 ·subst h1;rw[List.getElem?_set_self (by rw[List.length_set]; exact h),List.getElem?_append_right (by rw[List.length_take]; omega),List.length_take,Nat.min_eq_left (by omega),show k+1-k=1 by omega];rfl
 ·rw[List.getElem?_set_ne (fun z=>h1 z.symm)]
  by_cases h2:j=k
  ·subst h2;rw[List.getElem?_set_self (by omega),List.getElem?_append_right (by rw[List.length_take]; omega),List.length_take,Nat.min_eq_left (by omega),Nat.sub_self];rfl
  ·rw[List.getElem?_set_ne (fun z=>h2 z.symm)]
   by_cases h3:j<k
   ·rw[List.getElem?_append_left (by rw[List.length_take]; omega),List.getElem?_take_of_lt h3]
   ·rw[List.getElem?_append_right (by rw[List.length_take]; omega),List.length_take,Nat.min_eq_left (by omega)];obtain⟨m,hm⟩:∃ m,j-k=m+2:=⟨j-k-2,by omega⟩;rw[hm,List.getElem?_cons_succ,List.getElem?_cons_succ,List.getElem?_drop,show k+2+m=j by omega]
abbrev WInv (ls:List Ln)(t:Rat)(xs:List Nat):Prop:=xs.Pairwise (Wb ls t)
theorem aAS {R:Nat→Nat→Prop}(tr:∀ a b c,R a b→R b c→R a c):∀{xs:List Nat},(∀ n (h:n+1<xs.length),R xs[n] xs[n+1])→xs.Pairwise R
 | [],_=>.nil
 | [x],_=>List.pairwise_singleton _ _
 | x::y::xs,h=>by
  have ih:=aAS tr (xs:=y::xs) fun n hn=>h (n+1) (by simpa using hn);refine List.pairwise_cons.mpr ⟨fun z hz=>?_,ih⟩;have h0:=h 0 (by simp);rcases List.mem_cons.mp hz with rfl|hz
  ·exact h0
  ·exact tr _ _ _ h0 ((List.pairwise_cons.mp ih).1 z hz)
theorem WInv.on {ls:List Ln}{t u:Rat}{xs:List Nat}(hm:∀ x∈xs,x<ls.length)(h:WInv ls t xs)(htu:t≤u)(hu:∀(j:Nat) (v:Rat),(gF ls t xs)[j]?=some (some v)→u≤v):WInv ls u xs:=by
 have pw:xs.Pairwise (fun a b=>pl (ln ls b) u≤pl (ln ls a) u):=by
  refine aAS (R:=fun a b=>pl (ln ls b) u≤pl (ln ls a) u) (fun a b c h1 h2=>Rat.le_trans h2 h1) fun n hn=>?_;have h0:=List.pairwise_iff_getElem.mp h n (n+1) (by omega) hn (by omega);exact(h0.on (hm _ (List.getElem_mem _)) (hm _ (List.getElem_mem _)) htu fun v hv=>hu n v (by rw[a5E hn,hv])).1
 exact List.Pairwise.imp₂ (fun a b h1 h2=>⟨h1,h2.2⟩) pw h
theorem WInv.swp {ls:List Ln}{t:Rat}{xs:List Nat}{k:Nat}(h:WInv ls t xs)(hk:k+1<xs.length)(h1:pl (ln ls xs[k]) t=pl (ln ls xs[k+1]) t)(h2:ln ls xs[k]≠ln ls xs[k+1]):WInv ls t (My.swp xs k):=by
 rw[xP hk];have h':=h;unfold WInv at h';rw[aR0 hk] at h';generalize xs[k]=a at *;generalize xs[k+1]=b at *;generalize xs.take k=A at *;generalize xs.drop (k+2)=B at *;obtain⟨hA,hab,hc⟩:=List.pairwise_append.mp h';obtain⟨ha,hbB⟩:=List.pairwise_cons.mp hab;obtain⟨hb,hB⟩:=List.pairwise_cons.mp hbB;refine List.pairwise_append.mpr ⟨hA,List.pairwise_cons.mpr ⟨fun y hy=>?_,List.pairwise_cons.mpr ⟨fun y hy=>ha y (List.mem_cons_of_mem _ hy),hB⟩⟩,fun x hx y hy=>?_⟩
 ·rcases List.mem_cons.mp hy with rfl|hy
  ·exact⟨by rw[h1]; exact Rat.le_refl,fun z=>absurd z.symm h2⟩
  ·exact hb y hy
 ·rcases List.mem_cons.mp hy with rfl|hy
  ·exact hc x hx _ (by simp)
  ·rcases List.mem_cons.mp hy with rfl|hy
   ·exact hc x hx _ (by simp)
   ·exact hc x hx y (by simp[hy])
def aC2 (f:Nat→Rat):List Nat→Nat
 | []=>0
 | x::xs=>(xs.filter fun y=>decide (f x<f y)).length+aC2 f xs
theorem aA7 (f:Nat→Rat):∀ xs:List Nat,aC2 f xs≤xs.length*xs.length
 | []=>Nat.le_refl _
 | x::xs=>by
  have h1:=List.length_filter_le (fun y=>decide (f x<f y)) xs;have h2:=aA7 f xs
  show(xs.filter fun y=>decide (f x<f y)).length+aC2 f xs≤(xs.length+1)*(xs.length+1)
  have h3:(xs.length+1)*(xs.length+1)=xs.length*xs.length+2*xs.length+1:=by rw[Nat.add_mul,Nat.mul_add]; omega
  omega
theorem aAQ (f:Nat→Rat){a b:Nat}(h:f a<f b):∀ A B:List Nat,aC2 f (A++a::b::B)=aC2 f (A++b::a::B)+1
 | [],B=>by
  show((b::B).filter fun y=>decide (f a<f y)).length+((B.filter fun y=>decide (f b<f y)).length+aC2 f B)=((a::B).filter fun y=>decide (f b<f y)).length+((B.filter fun y=>decide (f a<f y)).length+aC2 f B)+1
  rw[List.filter_cons,if_pos (decide_eq_true h),List.filter_cons,if_neg (by rw[decide_eq_true_iff]; grind),List.length_cons];omega
 | x::A,B=>by
  have ih:=aAQ f h A B;have hp:((A++a::b::B).filter fun y=>decide (f x<f y)).length=((A++b::a::B).filter fun y=>decide (f x<f y)).length:=((List.Perm.append_left A (List.Perm.swap b a B)).filter _).length_eq
  show((A++a::b::B).filter fun y=>decide (f x<f y)).length+aC2 f (A++a::b::B)=((A++b::a::B).filter fun y=>decide (f x<f y)).length+aC2 f (A++b::a::B)+1
  omega
abbrev yO (ls:List Ln)(xs:List Nat):Nat:=aC2 (fun i=>(ln ls i).2) xs
theorem aLX {ls:List Ln}{t u:Rat}{xs:List Nat}{k:Nat}(hm:∀ x∈xs,x<ls.length)(h:WInv ls t xs)(hf:ff (gF ls t xs)=some (k,u)) :
  k+1<xs.length∧t≤u∧WInv ls u (swp xs k)∧yO ls xs=yO ls (swp xs k)+1∧(u=t∨∃ i j,i<ls.length∧j<ls.length∧mtO (ln ls i) (ln ls j)=some u):=by
 obtain⟨h1,h2⟩:=aFY hf;have hk:k+1<xs.length:=by
  have:=(List.getElem?_eq_some_iff.mp h1).1;rw[a7A] at this;omega
 rw[a5E hk] at h1;have h1:=Option.some.inj h1;have ha:=hm _ (List.getElem_mem (show k<xs.length by omega));have hb:=hm _ (List.getElem_mem hk);have hw:=List.pairwise_iff_getElem.mp h k (k+1) (by omega) hk (by omega);obtain⟨m1,m2,m3⟩:=hw.meet ha hb h1;refine⟨hk,m1,(h.on hm m1 h2).swp hk m3 (fun z=>by rw[z] at m2; exact absurd m2 (by grind)),?_,?_⟩
 ·rw[xP hk]
  conv=>lhs; rw[aR0 hk]
  exact aAQ (fun i=>(ln ls i).2) m2 _ _
 ·unfold mF at h1
  by_cases c:ahN ls t xs[k+1] xs[k]=true
  ·rw[if_pos c] at h1;exact .inl (Option.some.inj h1).symm
  ·rw[if_neg c,a2Q ha hb] at h1;obtain⟨e,_,hu⟩:=a4O h1;refine .inr ⟨_,_,ha,hb,?_⟩;unfold mtO;rw[if_neg e,hu]
theorem WInv.start (ls:List Ln)(t:Rat):WInv ls t (ord ls t):=by
 have hm:∀ x∈ord ls t,x<ls.length:=fun x hx=>(a8R ls t x).mp hx;refine List.Pairwise.imp_of_mem (fun{a b} ha hb h=>?_) (aMM ls t);rw[a7B (hm a ha) (hm b hb),qO] at h;refine⟨by rcases h with h|h<;>grind,fun e=>?_⟩;rw[e] at h;rcases h with h|⟨_,h|h⟩
 ·grind
 ·grind
 ·omega
abbrev Pt:=Nat×Nat×Option Rat
def pD (p:Pt):D:=.tuple [.int (p.1:Int),.int (p.2.1:Int),a8U p.2.2]
def aHO (ls:List Ln)(t:Rat)(xs:List Nat):List Pt:=(yF xs).map fun p=>(p.1,p.2,mF ls t p.1 p.2)
def aI6 (ls:List Ln)(t:Rat)(xs:List Nat):List D:=(yF xs).map fun p=>lK ls t p.1 p.2
theorem aHY (ls:List Ln)(t:Rat)(xs:List Nat):aI6 ls t xs=(aHO ls t xs).map pD:=by
 unfold aI6 aHO;rw[List.map_map];rfl
theorem aCD (ls:List Ln)(t:Rat)(xs:List Nat):(aHO ls t xs).map (fun p=>p.2.2)=gF ls t xs:=by
 unfold aHO gF;rw[List.map_map];rfl
def aTK (ps:List Pt):Prop:=∀ p∈ps,∀ u,p.2.2=some u→Sz 2900 u
theorem aAA {ls:List Ln}(hz:LinesOk 200 ls){t u:Rat}(ht:Sz 2900 t){i j:Nat}(hi:i<ls.length)(hj:j<ls.length)(h:mF ls t i j=some u):Sz 2900 u:=by
 unfold mF at h
 by_cases c:ahN ls t j i=true
 ·rw[if_pos c] at h;rw[← Option.some.inj h]; exact ht
 ·rw[if_neg c,a2Q hi hj] at h;obtain⟨e,_,hu⟩:=a4O h;obtain⟨z1,z2⟩:=hz.get (a9Z hi);obtain⟨z3,z4⟩:=hz.get (a9Z hj);exact(aRM (t:=u) z1 z2 z3 z4 (by unfold mtO; rw[if_neg e,hu])).mono (by decide)
theorem aKJ {ls:List Ln}(hz:LinesOk 200 ls){t:Rat}(ht:Sz 2900 t){xs:List Nat}(hm:∀ x∈xs,x<ls.length):aTK (aHO ls t xs):=fun p hp u hu=>by
 obtain⟨q,hq,rfl⟩:=List.mem_map.mp hp;obtain⟨n,hn,rfl⟩:=zF hq;exact aAA hz ht (hm _ (List.getElem_mem _)) (hm _ (List.getElem_mem _)) hu
def ffD:Option (Nat×Rat)→D
 | none=>.none
 | some c=>.int (c.1:Int)
theorem aG0:∀ ps:List Pt,bV (ps.map pD)=true
 | []=>rfl
 | p::ps=>by
  show(eN (pD p)&&bV (ps.map pD))=true
  rw[aG0 ps,Bool.and_true];obtain⟨i,j,o⟩:=p
  cases o<;>rfl
theorem aC8:∀ xs:List Nat,bV (cI xs)=true
 | []=>rfl
 | _::xs=>aC8 xs
theorem a1E:∀ ls:List Ln,bV (fZ ls)=true
 | []=>rfl
 | _::ls=>a1E ls
section
variable {Q:Rv→Prop}{ls:List Ln}
theorem aNV {ps:List Pt}(hz:aTK ps)(q:Q (.val (ffD (ff (ps.map fun p=>p.2.2))))):gY [.val (.list (ps.map pD))] Q:=by
 refine nD ?_;unfold lJ;walk_at "!($,Č#Ķ<";refine a0M (fun n Γ=>∃ a b,Γ=[.val (.list (ps.map pD)),.val (ffD (ffN (ps.map fun p=>p.2.2) n)),a,b]) ⟨_,_,rfl⟩ ?_ ?_
 ·rintro n d Γ K hd ⟨a,b,rfl⟩ hK;have hn:n<ps.length:=by
   have:=(List.getElem?_eq_some_iff.mp hd).1;unfold vA at this;rw[List.length_map,List.length_range,List.length_map] at this;exact this
  have hp:ps[n]?=some ps[n]:=List.getElem?_eq_getElem hn;have ed:d=.tuple [.int (n:Int),pD ps[n]]:=by
   unfold vA at hd;rw[List.getElem?_map,List.getElem?_range (by rw[List.length_map]; exact hn)] at hd;have:(ps.map pD).getD n .none=pD ps[n]:=by
    rw[List.getD_eq_getElem?_getD,List.getElem?_map,hp];rfl
   have h2:some (PyData.tuple [.int (n:Int),(ps.map pD).getD n .none])=some d:=hd;rw[this] at h2;exact(Option.some.inj h2).symm
  subst ed;have hg:(ps.map fun p=>p.2.2).getD n none=ps[n].2.2:=by rw[List.getD_eq_getElem?_getD,List.getElem?_map,hp]; rfl
  have hk:=hK.nx;have ok:=aFP (ps.map fun p=>p.2.2) n (by rw[List.length_map]; omega);have es:ffN (ps.map fun p=>p.2.2) (n+1)=ffS (ffN (ps.map fun p=>p.2.2) n) n ps[n].2.2:=by rw[← hg]; rfl
  rw[es] at hk;generalize ffN (ps.map fun p=>p.2.2) n=f at *;unfold lL;walk_at "!ģć?ć?Ĥ|W}6";refine cC (d:=a8U ps[n].2.2) rfl ?_;skip;have zp:=hz _ (List.getElem_mem hn)
  cases ho:ps[n].2.2 with
  | none=>
   rw[ho] at hk;skip;have:ffS f n none=f:=by unfold ffS; cases f<;>rfl
   rw[this] at hk;exact hk _ ⟨_,_,rfl⟩
  | some u=>
   rw[ho] at hk;skip
   cases f with
   | none=>
    skip;exact hk _ ⟨_,_,rfl⟩
   | some c=>
    have hc:=ok.2.1;rw[List.getElem?_map] at hc;obtain⟨pc,e1,e2⟩:=Option.map_eq_some_iff.mp hc;skip;refine cC (qL (show(ps.map pD)[c.1]?=some (pD pc) by rw[List.getElem?_map,e1]; rfl)) ?_;walk_at "!A";refine cC (d:=bO c.2) (by show some (a8U pc.2.2)=_; rw[e2]; rfl) ?_;walk_at "!)";have eu:a8U ps[n].2.2=bO u:=by rw[ho]; rfl
    rw[eu];refine iZ ((zp u ho).mono (by decide)) ((hz pc (List.mem_of_getElem? e1) c.2 e2).mono (by decide)) ?_;walk_at "!#";have e3:ffS (some c) n (some u)=if u<c.2 then some (n,u) else some c:=rfl
    rw[e3] at hk;refine iC (fun h=>?_) (fun h=>?_)
    ·rw[if_pos h] at hk;walk_at "!vC<";exact hk _ ⟨_,_,rfl⟩
    ·rw[if_neg h] at hk;walk_at "!>";exact hk _ ⟨_,_,rfl⟩
 ·rintro Γ ⟨a,b,rfl⟩;have hle:(vA (ps.map pD)).length=ps.length:=by unfold vA; rw[List.length_map,List.length_range,List.length_map]
  rw[hle];unfold lY;walk_at "!1<";unfold ff at q;rw[List.length_map] at q;exact q
end
section
variable {Q:Rv→Prop}{ls:List Ln}
end
theorem aLJ {ls:List Ln}{t:Rat}{xs:List Nat}{n:Nat}(h:n+1<xs.length):(aHO ls t xs)[n]?=some (xs[n],xs[n+1],mF ls t xs[n] xs[n+1]):=by
 unfold aHO;rw[List.getElem?_map,a4E h];rfl
theorem aGD {ls:List Ln}{t:Rat}{xs:List Nat}{k:Nat}{u:Rat}(h:ff (gF ls t xs)=some (k,u)):∃ hk:k+1<xs.length,mF ls t xs[k] xs[k+1]=some u:=by
 obtain⟨h1,_⟩:=aFY h;have hk:k+1<xs.length:=by
  have:=(List.getElem?_eq_some_iff.mp h1).1;rw[a7A] at this;omega
 rw[a5E hk] at h1;exact⟨hk,Option.some.inj h1⟩
theorem aO2 {b:Bool}{A B:Prop}(h:b=true)(a:A):if b=true then A else B:=by rw[h]; exact a5U a
theorem aI0 {A B:Prop}(h:A):if isN (ffD none)=true then A else B:=a5U h
theorem aJN {c:Nat×Rat}{A B:Prop}(h:B):if isN (ffD (some c))=true then A else B:=a2W h
theorem aAN {n i:Nat}(h:i<n):ixN n (i:Int)=some i:=by
 unfold ixN;rw[if_pos (by omega),if_pos (by omega),Int.toNat_natCast]
theorem a6H (xs:List Nat)(k a:Nat):(cI xs).set k (.int (a:Int))=cI (xs.set k a):=by unfold cI; rw[List.map_set]
section
variable {ls:List Ln}{xs:List Nat}{t:Rat}{lim:Option Rat}
theorem a9E {p:Addr}{Q:Rv→List D→Prop}(hz:LinesOk 200 ls)(hl:xs.length≤30)(hm:∀ x∈xs,x<ls.length)(ht:Sz 2900 t)(hlim:∀ v,lim=some v→Sz 2900 v)
  (q0:ff (gF ls t xs)=none∨(∃ k u v,ff (gF ls t xs)=some (k,u)∧lim=some v∧v<u)→Q (.val .none) (cI xs))
  (q1:∀ k u,ff (gF ls t xs)=some (k,u)→(∀ v,lim=some v→¬v<u)→Q (.val (.tuple [.int (k:Int),bO u])) (cI (swp xs k))) :
  nW p (cI xs) [.val (.list (fZ ls)),.val (bO t),.val (a8U lim)] Q:=by
 show nJ [.val (.list (fZ ls)),.box (lstF.box p (cI xs)),.val (bO t),.val (a8U lim),.no,.no,.no] _;unfold nJ;walk_at "!(hč~Xo";refine sI hz (by omega) hm (fun x _ l h=>.list h) ht ?_;have ep:((yF xs).map fun p=>lK ls t p.1 p.2)=(aHO ls t xs).map pD:=aHY ls t xs;rw[ep];refine⟨aG0 _,rfl,?_⟩;walk_at "!(D+";refine aNV (aKJ hz ht hm) ?_;rw[aCD];walk_at "!Mě<"
 cases hf:ff (gF ls t xs) with
 | none=>
  refine aI0 ?_;walk_at "!ĥC$ĦĎ";exact q0 (.inl hf)
 | some c=>
  obtain⟨k,u⟩:=c;obtain⟨hk,hu⟩:=aGD hf;have su:Sz 2900 u:=aAA hz ht (hm _ (List.getElem_mem _)) (hm _ (List.getElem_mem _)) hu;have ek:((aHO ls t xs).map pD)[k]?=some (.tuple [.int (xs[k]:Int),.int (xs[k+1]:Int),bO u]):=by
   rw[List.getElem?_map,aLJ hk,hu];rfl
  have fin:(∀ v,lim=some v→¬v<u)→mK [.val (.list (fZ ls)),.box (lstF.box p (cI xs)),.val (bO t),.val (a8U lim),.val (.list ((aHO ls t xs).map pD)),.val (.int (k:Int)),.val (bO u)] fun fl=>match fl with
    | .rt rv=>∃ rv0 s',rv=.box (bKp lstF rv0 p s')∧Q rv0 s'
    | .nx Γ=>∃ s',Γ[1]?=some (.box (lstF.box p s'))∧Q (.val .none) s'
    | _=>False:=fun hv=>by
   unfold mK;walk_at "!,ķ44%%";refine cC (qL ek) ?_;walk_at "!$";refine cC (d:=.int (xs[k+1]:Int)) rfl ?_;walk_at "!ĸ%";refine aPA rfl (aAN (by rw[j5]; omega)) ?_;walk_at "!,ķ44%%";refine cC (qL ek) ?_;walk_at "!$";refine cC (d:=.int (xs[k]:Int)) rfl ?_;walk_at "!ĸ-K#";refine aPA (j:=k+1) rfl (by rw[show((k:Int)+1)=((k+1:Nat):Int) by omega]; exact aAN (by rw[List.length_set,j5]; omega)) ?_;walk_at "!#ĥC^880ĦĎ";rw[a6H,a6H,aKZ hk];exact q1 k u hf hv
  refine aJN (c:=(k,u)) ?_;walk_at "!/";unfold sJ;walk_at "!(44y";refine cC (qL ek) ?_;walk_at "!$";refine cC (d:=bO u) rfl ?_;walk_at "!7W}<"
  cases lim with
  | none=>
   skip;exact fin fun v z=>nomatch z
  | some v=>
   refine aO2 rfl ?_;walk_at "!.f";refine iZ ((hlim v rfl).mono (by decide)) (su.mono (by decide)) ?_;walk_at "!#";refine iC (fun c=>?_) (fun c=>?_)
   ·walk_at "!ĥC$ĦĎ";exact q0 (.inr ⟨k,u,v,hf,rfl,c⟩)
   ·walk_at "!/";exact fin fun w z=>by cases z; exact c
end
def wS (s:WS)(ls:List Ln)(t:Rat)(xs:List Nat):WS:={ s with ls:=fZ ls,now:=bO t,os:=cI xs }
section
variable {c w:Addr}{s:WS}{ls:List Ln}{xs:List Nat}{t:Rat}{lim:Option Rat}{Q:Rv→WS→Prop}
theorem a8B (hz:LinesOk 200 ls)(hl:xs.length≤30)(hm:∀ x∈xs,x<ls.length)(ht:Sz 2900 t)(hlim:∀ v,lim=some v→Sz 2900 v)
  (q0:ff (gF ls t xs)=none∨(∃ k u v,ff (gF ls t xs)=some (k,u)∧lim=some v∧v<u)→Q (.val .none) (wS s ls t xs))
  (q1:∀ k u,ff (gF ls t xs)=some (k,u)→(∀ v,lim=some v→¬v<u)→∀ hk:k+1<xs.length,Q (.val (.tuple [bO u,.int (xs[k]:Int),.int (xs[k+1]:Int)])) (wS s ls u (swp xs k))) :
  iI c w (wS s ls t xs) [.val (a8U lim)] Q:=by
 refine a1O ?_;unfold tO;walk_at "!(#";refine⟨w,wS s ls t xs,a8U lim,rfl,rfl,?_⟩;refine a9E hz hl hm ht hlim (fun h=>?_) fun k u h hv=>?_
 ·refine⟨_,rfl,rfl,?_⟩;walk_at "!Mě<9B$=";exact q0 h
 ·obtain⟨hk,hu⟩:=aGD h;refine⟨_,rfl,rfl,?_⟩;walk_at "!Mě<b/";unfold sX;walk_at "!(6";refine cC (d:=.int (k:Int)) rfl ?_;walk_at "!,";refine aBJ ?_;walk_at "!*";refine cC (d:=bO u) rfl ?_;refine aQ0 (w:=w) (s:=wS s ls t (swp xs k)) rfl rfl ?_;walk_at "!#B@";refine aDT (w:=w) (s:=wS s ls u (swp xs k)) rfl (.inl rfl) ?_;walk_at "!3";have e1:(swp xs k)[k]?=some xs[k+1]:=by
   rw[xP hk,List.getElem?_append_right (by rw[List.length_take]; omega),List.length_take,Nat.min_eq_left (by omega),Nat.sub_self];rfl
  have e2:(swp xs k)[k+1]?=some xs[k]:=by
   rw[xP hk,List.getElem?_append_right (by rw[List.length_take]; omega),List.length_take,Nat.min_eq_left (by omega),show k+1-k=1 by omega];rfl
  refine aK7 (w:=w) (s:=wS s ls u (swp xs k)) rfl (.inl rfl) ?_;walk_at "!-K#";refine aP4 rfl (.inl rfl) ?_;refine cC (d:=.int (xs[k]:Int)) ?_ ?_
  ·rw[show((k:Int)+1)=((k+1:Nat):Int) by omega];exact qL (by show(cI (swp xs k))[k+1]?=_; unfold cI; rw[List.getElem?_map,e2]; rfl)
  walk_at "!3";refine aK7 (w:=w) (s:=wS s ls u (swp xs k)) rfl (.inl rfl) ?_;walk_at "!%";refine aP4 rfl (.inl rfl) ?_;refine cC (d:=.int (xs[k+1]:Int)) (qL (by show(cI (swp xs k))[k]?=_; unfold cI; rw[List.getElem?_map,e1]; rfl)) ?_;walk_at "!0=";exact q1 k u h hv hk
end
theorem eqF {A B:Prop}{d:D}(g:Good d)(b:B):if (!PyData.eqv d d)=true then A else B:=by rw[yX g]; exact a2W b
structure WkOk (ls:List Ln)(t:Rat)(xs:List Nat):Prop where
 inv:WInv ls t xs
 mem:∀ x∈xs,x<ls.length
 len:xs.length=ls.length
 sz:Sz 2900 t
theorem WkOk.step {ls:List Ln}{t u:Rat}{xs:List Nat}{k:Nat}(hz:LinesOk 200 ls)(h:WkOk ls t xs)(hf:ff (gF ls t xs)=some (k,u)):WkOk ls u (swp xs k)∧yO ls xs=yO ls (swp xs k)+1:=by
 obtain⟨hk,_,h2,h3,_⟩:=aLX h.mem h.inv hf;obtain⟨hk',hu⟩:=aGD hf;exact⟨⟨h2,fun x hx=>h.mem x ((vN hk).mem_iff.mp hx),by rw[aLG hk]; exact h.len,aAA hz h.sz (h.mem _ (List.getElem_mem _)) (h.mem _ (List.getElem_mem _)) hu⟩,h3⟩
theorem WkOk.start {ls:List Ln}{t:Rat}(ht:Sz 2900 t):WkOk ls t (ord ls t):=⟨WInv.start ls t,fun x hx=>(a8R ls t x).mp hx,aEG ls t,ht⟩
def a91 (u:Rat)(a b:Nat):D:=.tuple [bO u,.int (a:Int),.int (b:Int)]
def goN (ls:List Ln)(v:Rat):Nat→Rat→List Nat→List D×List Nat
 | 0,_,xs=>([],xs)
 | m+1,t,xs=>match ff (gF ls t xs) with
  | none=>([],xs)
  | some (k,u)=>if v<u then([],xs) else(a91 u (xs.getD k 0) (xs.getD (k+1) 0)::(goN ls v m u (swp xs k)).1,(goN ls v m u (swp xs k)).2)
def goX (ls:List Ln)(v t:Rat)(xs:List Nat):List D×List Nat:=goN ls v (yO ls xs) t xs
theorem aHW {ls:List Ln}{v t:Rat}{xs:List Nat}(h:ff (gF ls t xs)=none):goX ls v t xs=([],xs):=by
 unfold goX
 cases yO ls xs with
 | zero=>rfl
 | succ m=>unfold goN; rw[h]
theorem aJI {ls:List Ln}{v t u:Rat}{xs:List Nat}{k:Nat}(h:ff (gF ls t xs)=some (k,u))(hv:v<u):goX ls v t xs=([],xs):=by
 unfold goX
 cases yO ls xs with
 | zero=>rfl
 | succ m=>unfold goN; rw[h]; dsimp only; rw[if_pos hv]
theorem aIH {ls:List Ln}(hz:LinesOk 200 ls){v t u:Rat}{xs:List Nat}{k:Nat}(ok:WkOk ls t xs)(h:ff (gF ls t xs)=some (k,u))(hv:¬v<u) :
  goX ls v t xs=(a91 u (xs.getD k 0) (xs.getD (k+1) 0)::(goX ls v u (swp xs k)).1,(goX ls v u (swp xs k)).2):=by
 obtain⟨_,hg⟩:=ok.step hz h;unfold goX;rw[hg]
 conv=>lhs; unfold goN
 rw[h];dsimp only;rw[if_neg hv]
section
variable {ls:List Ln}{v:Rat}{c w:Addr}{s:WS}
theorem aPD {t0:Rat}{xs0:List Nat}{Q:Rv→WS→Prop}(hz:LinesOk 200 ls)(hl:ls.length≤10)(ok0:WkOk ls t0 xs0)(htv:t0≤v)(hv:Sz 2900 v)
  (q:Q (.own (goX ls v t0 xs0).1) (wS s ls v (goX ls v t0 xs0).2)):aB1 c w (wS s ls t0 xs0) [.val (bO v)] Q:=by
 have htg:yO ls xs0≤100:=Nat.le_trans (aA7 _ xs0) (by rw[ok0.len]; exact Nat.mul_le_mul hl hl);refine a1O ?_;unfold aFJ;walk_at "!MD&#";refine aDT (s:=wS s ls t0 xs0) rfl (.inl rfl) ?_;walk_at "!)";refine iZ (hv.mono (by decide)) (ok0.sz.mono (by decide)) ?_;walk_at "!#";refine iC (fun c=>absurd c (by grind)) (fun _=>?_);walk_at "!/";unfold a67;walk_at "!ię0(r2Z";have I:Nat→En→Prop:=fun m Γ=>True;clear I;have nxt:∀{t:Rat} {xs:List Nat},WkOk ls t xs→t≤v→∀{Q':Rv→WS→Prop},(goX ls v t xs=([],xs)→Q' (.val .none) (wS s ls t xs)) →
   (∀ k u (hk:k+1<xs.length),WkOk ls u (swp xs k)→u≤v→yO ls xs=yO ls (swp xs k)+1→goX ls v t xs=(a91 u xs[k] xs[k+1]::(goX ls v u (swp xs k)).1,(goX ls v u (swp xs k)).2)→Q' (.val (a91 u xs[k] xs[k+1])) (wS s ls u (swp xs k))) →
   iI c w (wS s ls t xs) [.val (bO v)] Q':=fun{t xs} ok ht {Q'} q0 q1=>by
  refine a8B (lim:=some v) hz (by rw[ok.len]; omega) ok.mem ok.sz (fun u h=>by cases h; exact hv) (fun h=>?_) fun k u hf hvu hk=>?_
  ·rcases h with h|⟨k,u,v',h,e,hlt⟩
   ·exact q0 (aHW h)
   ·cases e
    exact q0 (aJI h hlt)
  ·obtain⟨ok2,htog⟩:=ok.step hz hf;have hvu:=hvu v rfl;have gs:=aIH hz ok hf hvu;have ga:xs.getD k 0=xs[k]:=by rw[List.getD_eq_getElem?_getD,List.getElem?_eq_getElem (by omega)]; rfl
   have gb:xs.getD (k+1) 0=xs[k+1]:=by rw[List.getD_eq_getElem?_getD,List.getElem?_eq_getElem hk]; rfl
   rw[ga,gb] at gs;exact q1 k u hk ok2 (by grind) htog gs
 have ends:∀{t:Rat} {xs:List Nat} {acc:List D},acc=(goX ls v t0 xs0).1→xs=(goX ls v t0 xs0).2→vK c [.box ((dZ c).box w (wS s ls t xs)),.val (bO v),.own acc,.val .none] fun fl=>match fl with
   | .rt rv=>∃ rv0 s',rv=.box (bKp (dZ c) rv0 w s')∧Q rv0 s'
   | .nx Γ=>∃ s',Γ[0]?=some (.box ((dZ c).box w s'))∧Q (.val .none) s'
   | _=>False:=fun{t xs acc} e1 e2=>by
  rw[← e1,←e2] at q;unfold vK;walk_at "!,Ŕ%";refine aQ0 (w:=w) (s:=wS s ls t xs) rfl rfl ?_;walk_at "!#ďĹ=";exact q
 have loop:∀ Γ,(∃ t xs acc st,Γ=[.box ((dZ c).box w (wS s ls t xs)),.val (bO v),.own acc,.val st]∧WkOk ls t xs∧t≤v∧((st=.none∧acc=(goX ls v t0 xs0).1∧xs=(goX ls v t0 xs0).2)∨(∃ u a b,st=a91 u a b∧acc++st::(goX ls v t xs).1=(goX ls v t0 xs0).1∧(goX ls v t xs).2=(goX ls v t0 xs0).2∧acc.length+yO ls xs≤200))) →
   a0R (dF (a7Z (aO 3))) (a0V c) Γ fun fl=>match fl with
    | .nx Γ1=>vK c Γ1 fun fl=>match fl with
     | .rt rv=>∃ rv0 s',rv=.box (bKp (dZ c) rv0 w s')∧Q rv0 s'
     | .nx Γ=>∃ s',Γ[0]?=some (.box ((dZ c).box w s'))∧Q (.val .none) s'
     | _=>False
    | fl=>(match fl with
     | .rt rv=>∃ rv0 s',rv=.box (bKp (dZ c) rv0 w s')∧Q rv0 s'
     | .nx Γ=>∃ s',Γ[0]?=some (.box ((dZ c).box w s'))∧Q (.val .none) s'
     | _=>False):=fun Γ h=>by
  obtain⟨t1,xs1,acc1,st1,e,h1,h2,h3⟩:=h;refine vR (fun m Γ=>∃ t xs acc st,Γ=[.box ((dZ c).box w (wS s ls t xs)),.val (bO v),.own acc,.val st]∧m=yO ls xs+(if isN st then 0 else 1)∧WkOk ls t xs∧t≤v∧((st=.none∧acc=(goX ls v t0 xs0).1∧xs=(goX ls v t0 xs0).2)∨(∃ u a b,st=a91 u a b∧acc++st::(goX ls v t xs).1=(goX ls v t0 xs0).1∧(goX ls v t xs).2=(goX ls v t0 xs0).2∧acc.length+yO ls xs≤200))) (yO ls xs1+(if isN st1 then 0 else 1)) ⟨t1,xs1,acc1,st1,e,rfl,h1,h2,h3⟩ ?_;rintro m Γ ⟨t,xs,acc,st,rfl,rfl,ok,ht,h⟩;walk_at "!.}<";rcases h with⟨rfl,e1,e2⟩|⟨u,a,b,rfl,e1,e2,hla⟩
  ·walk_at "!R";exact ends e1 e2
  ·refine aO2 rfl ?_;unfold a0V;walk_at "!,ħ%";refine aFN rfl (by omega) ?_;walk_at "!vCr2Z";refine nxt ok ht (fun hg=>?_) fun k u' hk ok2 hu htog hg=>?_
   ·rw[hg] at e1 e2;walk_at "!#";exact⟨yO ls xs,Nat.lt_succ_self _,t,xs,_,_,rfl,rfl,ok,ht,.inl ⟨rfl,e1,e2⟩⟩
   ·rw[hg] at e1 e2;walk_at "!#";refine⟨yO ls (swp xs k)+1,by show _<yO ls xs+1; omega,u',swp xs k,_,_,rfl,rfl,ok2,hu,.inr ⟨u',xs[k],xs[k+1],rfl,?_,e2,?_⟩⟩
    ·rw[List.append_assoc]; exact e1
    ·rw[List.length_append,List.length_singleton]; omega
 refine nxt ok0 htv (fun hg=>?_) fun k u hk ok2 hu htog hg=>?_
 ·walk_at "!,#";exact loop _ ⟨t0,xs0,_,_,rfl,ok0,htv,.inl ⟨rfl,by rw[hg],by rw[hg]⟩⟩
 ·walk_at "!,#";refine loop _ ⟨u,swp xs0 k,[],_,rfl,ok2,hu,.inr ⟨u,xs0[k],xs0[k+1],rfl,by rw[hg]; rfl,by rw[hg],?_⟩⟩;show 0+_≤200;omega
end
inductive Deed where
 | join (t p m:Rat)
 | leave (t:Rat) (r:Nat)
 | turn (t:Rat) (r:Nat) (m:Rat)
def Deed.t:Deed→Rat
 | .join t _ _=>t
 | .leave t _=>t
 | .turn t _ _=>t
def eY:Deed→D
 | .join t p m=>.tuple [.str "join", bO t,bO p,bO m]
 | .leave t r=>.tuple [.str "leave", bO t,.int (r:Int)]
 | .turn t r m=>.tuple [.str "turn", bO t,.int (r:Int),bO m]
structure Rn where
 ls:List Ln
 rs:List Nat
def Rn.at (s:Rn)(r:Nat):Ln:=s.ls.getD r (0,0)
def stp (s:Rn):Deed→Rn
 | .join t p m=>⟨s.ls++[(p-m*t,m)],s.rs++[s.ls.length]⟩
 | .leave _ r=>⟨s.ls,s.rs.filter fun x=>decide (x≠r)⟩
 | .turn t r m=>⟨s.ls.set r (pl (s.at r) t-m*t,m),s.rs⟩
def Deed.ok (s:Rn):Deed→Prop
 | .join _ _ _=>True
 | .leave _ r=>r∈s.rs
 | .turn _ r _=>r∈s.rs
def run (ds:List Deed):Rn:=ds.foldl stp ⟨[],[]⟩
theorem vC (ds:List Deed)(d:Deed):run (ds++[d])=stp (run ds) d:=by unfold run; rw[List.foldl_append]; rfl
def LogP (P:Rn→Deed→Prop)(ds:List Deed):Prop:=∀(n:Nat) d,ds[n]?=some d→P (run (ds.take n)) d
def LogOk (ds:List Deed):Prop:=LogP (fun s d=>d.ok s) ds
theorem LogP.snoc {P:Rn→Deed→Prop}{ds:List Deed}{d:Deed}(h:LogP P ds)(hd:P (run ds) d):LogP P (ds++[d]):=fun n e he=>by
 by_cases hn:n<ds.length
 ·rw[List.getElem?_append_left hn] at he;rw[List.take_append_of_le_length (Nat.le_of_lt hn)];exact h n e he
 ·have hn2:n=ds.length:=by
   have:=(List.getElem?_eq_some_iff.mp he).1;rw[List.length_append,List.length_singleton] at this;omega
  subst hn2;rw[List.getElem?_append_right (Nat.le_refl _),Nat.sub_self] at he
  cases he
  rw[List.take_append_of_le_length (Nat.le_refl _),List.take_length];exact hd
theorem LogP.take {P:Rn→Deed→Prop}{ds:List Deed}(h:LogP P ds)(k:Nat):LogP P (ds.take k):=fun n e he=>by
 rw[List.getElem?_take] at he
 split at he
 ·rename_i hn
  rw[List.take_take,Nat.min_eq_left (Nat.le_of_lt hn)];exact h n e he
 ·cases he
theorem LogOk.snoc {ds:List Deed}{d:Deed}(h:LogOk ds)(hd:d.ok (run ds)):LogOk (ds++[d]):=LogP.snoc h hd
theorem LogOk.take {ds:List Deed}(h:LogOk ds)(k:Nat):LogOk (ds.take k):=LogP.take h k
def Deed.few (s:Rn):Deed→Prop
 | .join _ _ _=>s.rs.length<8
 | _=>True
def Few (ds:List Deed):Prop:=LogP (fun s d=>d.few s) ds
structure RnOk (s:Rn):Prop where
 up:s.rs.Pairwise (·<·)
 lt:∀ r∈s.rs,r<s.ls.length
theorem aNZ {s:Rn}(h:RnOk s)(d:Deed):RnOk (stp s d):=by
 cases d with
 | join t p m=>
  refine⟨List.pairwise_append.mpr ⟨h.up,List.pairwise_singleton _ _,fun a ha b hb=>?_⟩,fun r hr=>?_⟩
  ·rw[List.mem_singleton.mp hb]; exact h.lt a ha
  ·show r<(s.ls++[_]).length;rw[List.length_append,List.length_singleton];rcases List.mem_append.mp hr with z|z
   ·have:=h.lt r z; omega
   ·rw[List.mem_singleton.mp z]; omega
 | leave t r=>exact⟨h.up.sublist List.filter_sublist,fun x hx=>h.lt x (List.mem_filter.mp hx).1⟩
 | turn t r m=>
  refine⟨h.up,fun x hx=>?_⟩;show x<(s.ls.set r _).length;rw[List.length_set];exact h.lt x hx
theorem aBN:∀(ds:List Deed) {s:Rn},RnOk s→RnOk (ds.foldl stp s)
 | [],_,h=>h
 | d::ds,_,h=>aBN ds (aNZ h d)
theorem pL (ds:List Deed):RnOk (run ds):=aBN ds ⟨List.Pairwise.nil,fun _ h=>nomatch h⟩
theorem RnOk.nd {s:Rn}(h:RnOk s):s.rs.Nodup:=h.up.imp fun h=>Nat.ne_of_lt h
theorem aDK (s:Rn)(d:Deed):(stp s d).rs.length≤s.rs.length+1:=by
 cases d with
 | join t p m=>show(s.rs++[_]).length≤_; rw[List.length_append,List.length_singleton]; exact Nat.le_refl _
 | leave t r=>exact Nat.le_succ_of_le (List.length_filter_le _ _)
 | turn t r m=>exact Nat.le_succ _
theorem yD:∀(ds:List Deed) (s:Rn),(ds.foldl stp s).rs.length≤s.rs.length+ds.length
 | [],s=>Nat.le_refl _
 | d::ds,s=>by
  have h1:=yD ds (stp s d);have h2:=aDK s d
  show(ds.foldl stp (stp s d)).rs.length≤_
  rw[List.length_cons]; omega
theorem a2R (ds:List Deed):(run ds).rs.length≤ds.length:=by
 have h:(run ds).rs.length≤([]:List Nat).length+ds.length:=yD ds ⟨[],[]⟩;rw[List.length_nil] at h;omega
def a8A (ls:List Ln)(rs:List Nat):List (Int×D):=rs.map fun r:Nat=>((r:Int),fX (ls.getD r (0,0)))
def cQ (s:Rn):List (Int×D):=a8A s.ls s.rs
theorem kds_len (s:Rn):(cQ s).length=s.rs.length:=List.length_map _
theorem aMQ (ls:List Ln):∀(rs:List Nat) (r:Nat),qT (a8A ls rs) (r:Int)=if r∈rs then some (fX (ls.getD r (0,0))) else none
 | [],r=>by rw[if_neg (by exact fun h=>nomatch h)]; rfl
 | x::rs,r=>by
  show(if (x:Int)=(r:Int) then _ else qT (a8A ls rs) (r:Int))=_
  by_cases e:x=r
  ·subst e;rw[if_pos rfl,if_pos List.mem_cons_self]
  ·rw[if_neg (by omega),aMQ ls rs r]
   by_cases h:r∈rs
   ·rw[if_pos h,if_pos (List.mem_cons_of_mem _ h)]
   ·rw[if_neg h,if_neg (fun z=>(List.mem_cons.mp z).elim (fun y=>e y.symm) h)]
theorem tX {s:Rn}{r:Nat}(h:r∈s.rs):qT (cQ s) (r:Int)=some (fX (s.at r)):=by
 unfold cQ;rw[aMQ,if_pos h];rfl
theorem aBA {s:Rn}(h:RnOk s)(t p m:Rat):qR (cQ s) (s.ls.length:Int) (fX (p-m*t,m))=cQ (stp s (.join t p m)):=by
 have hn:qT (cQ s) (s.ls.length:Int)=none:=by
  unfold cQ;rw[aMQ,if_neg (fun z=>Nat.lt_irrefl _ (h.lt _ z))]
 unfold qR;rw[hn,if_neg (by decide)];show a8A s.ls s.rs++_=a8A (s.ls++[(p-m*t,m)]) (s.rs++[s.ls.length]);unfold a8A;rw[List.map_append]
 congr 1
 ·refine List.map_congr_left fun r hr=>?_;have:=h.lt r hr;rw[List.getD_eq_getElem?_getD,List.getD_eq_getElem?_getD,List.getElem?_append_left this]
 ·rw[List.map_singleton,List.getD_eq_getElem?_getD,List.getElem?_append_right (Nat.le_refl _),Nat.sub_self];rfl
theorem a7G (s:Rn)(t:Rat)(r:Nat):lB (cQ s) (r:Int)=cQ (stp s (.leave t r)):=by
 show lB (a8A s.ls s.rs) _=a8A s.ls (s.rs.filter _)
 induction s.rs with
 | nil=>rfl
 | cons x rs ih=>
  show(if (x:Int)=(r:Int) then lB (a8A s.ls rs) (r:Int) else((x:Int),fX (s.ls.getD x (0,0)))::lB (a8A s.ls rs) (r:Int))=_
  by_cases e:x=r
  ·rw[if_pos (by omega),ih,List.filter_cons_of_neg (by simpa using e)]
  ·rw[if_neg (by omega),ih,List.filter_cons_of_pos (by simpa using e)];rfl
theorem aB8 {s:Rn}(h:RnOk s){t m:Rat}{r:Nat}(hr:r∈s.rs):qR (cQ s) (r:Int) (fX (pl (s.at r) t-m*t,m))=cQ (stp s (.turn t r m)):=by
 have hl:=h.lt r hr;unfold qR;rw[tX hr,if_pos (show(some (fX (s.at r))).isSome=true from rfl)];show a2K (a8A s.ls s.rs) _ _=a8A (s.ls.set r _) s.rs;generalize (pl (s.at r) t-m*t,m)=l;clear hr
 induction s.rs with
 | nil=>rfl
 | cons x rs ih=>
  show(if (x:Int)=(r:Int) then((x:Int),fX l) else((x:Int),fX (s.ls.getD x (0,0))))::a2K (a8A s.ls rs) (r:Int) (fX l)=((x:Int),fX ((s.ls.set r l).getD x (0,0)))::a8A (s.ls.set r l) rs
  rw[ih]
  congr 1
  by_cases e:x=r
  ·subst e;rw[if_pos rfl,List.getD_eq_getElem?_getD,List.getElem?_set_self hl];rfl
  ·rw[if_neg (by omega),List.getD_eq_getElem?_getD,List.getD_eq_getElem?_getD,List.getElem?_set_ne (Ne.symm e)]
theorem aIZ (s:Rn):(cQ s).map (·.1)=s.rs.map fun r:Nat=>(r:Int):=by
 show(a8A s.ls s.rs).map (·.1)=_
 unfold a8A;rw[List.map_map];rfl
theorem a0Q {s:Rn}(h:RnOk s):(p6 ((cQ s).map (·.1))).map PyData.int=cI s.rs:=by
 have up:(s.rs.map fun r:Nat=>(r:Int)).Pairwise (·≤·):=List.pairwise_map.mpr (h.up.imp fun h=>by omega);rw[aIZ,uI (List.Perm.refl _) up,List.map_map];rfl
theorem tH {s:Rn}(h:RnOk s){r:Nat}(hr:r∈s.rs):s.ls[r]?=some (s.at r):=by
 have:=h.lt r hr;unfold Rn.at;rw[List.getD_eq_getElem?_getD,List.getElem?_eq_getElem this];rfl
def Rising (ds:List Deed):Prop:=ds.Pairwise fun a b=>a.t≤b.t
theorem Rising.snoc {ds:List Deed}{d:Deed}(h:Rising ds)(hd:∀ e∈ds,e.t≤d.t):Rising (ds++[d]):=
 List.pairwise_append.mpr ⟨h,List.pairwise_singleton _ _,fun a ha b hb=>by rw[List.mem_singleton.mp hb]; exact hd a ha⟩
def G1 (B:Nat)(q:Rat):Prop:=∃ z:Int,q*27720=(z:Rat)∧z.natAbs≤B
def G2 (B:Nat)(q:Rat):Prop:=∃ z:Int,q*768398400=(z:Rat)∧z.natAbs≤B
theorem G1.mul {A B:Nat}{a b:Rat}(h:G1 A a)(g:G1 B b):G2 (A*B) (a*b):=by
 obtain⟨x,hx,bx⟩:=h;obtain⟨y,hy,dy⟩:=g;refine⟨x*y,?_,by rw[Int.natAbs_mul]; exact Nat.mul_le_mul bx dy⟩;rw[Rat.intCast_mul,←hx,←hy];grind
theorem G1.up {A:Nat}{a:Rat}(h:G1 A a):G2 (A*27720) a:=by
 obtain⟨x,hx,bx⟩:=h;refine⟨x*27720,?_,by rw[Int.natAbs_mul]; exact Nat.mul_le_mul bx (Nat.le_refl _)⟩;rw[Rat.intCast_mul,←hx];show a*768398400=a*27720*((27720:Int):Rat);rw[show((27720:Int):Rat)=27720 from rfl];grind
theorem G2.mono {A B:Nat}{a:Rat}(h:G2 A a)(l:A≤B):G2 B a:=let ⟨x,hx,bx⟩:=h; ⟨x,hx,Nat.le_trans bx l⟩
theorem G2.add {A B:Nat}{a b:Rat}(h:G2 A a)(g:G2 B b):G2 (A+B) (a+b):=by
 obtain⟨x,hx,bx⟩:=h;obtain⟨y,hy,dy⟩:=g;refine⟨x+y,?_,Nat.le_trans (Int.natAbs_add_le _ _) (Nat.add_le_add bx dy)⟩;rw[Rat.intCast_add,←hx,←hy];grind
theorem G2.sub {A B:Nat}{a b:Rat}(h:G2 A a)(g:G2 B b):G2 (A+B) (a-b):=by
 obtain⟨x,hx,bx⟩:=h;obtain⟨y,hy,dy⟩:=g;refine⟨x-y,?_,?_⟩
 ·rw[Rat.intCast_sub,←hx,←hy];grind
 ·omega
theorem G2.sz {B k:Nat}{q:Rat}(h:G2 B q)(hB:B<2^k)(hk:30≤k):Sz k q:=by
 obtain⟨z,hz,bz⟩:=h;rw[← dI (t:=z) (b:=768398400) (q:=q) (by decide) hz.symm];refine Sz.divInt (Nat.lt_of_le_of_lt bz hB) (Bt.mono (k:=30) (by show Int.natAbs 768398400<2^30; decide) hk) (by decide)
theorem G1.sz {B k:Nat}{q:Rat}(h:G1 B q)(hB:B<2^k)(hk:30≤k):Sz k q:=by
 obtain⟨z,hz,bz⟩:=h;rw[← dI (t:=z) (b:=27720) (q:=q) (by decide) hz.symm];refine Sz.divInt (Nat.lt_of_le_of_lt bz hB) (Bt.mono (k:=30) (by show Int.natAbs 27720<2^30; decide) hk) (by decide)
theorem aHH {a b:Int}{B:Nat}(ha:a.natAbs*27720≤B)(b0:1≤b)(b1:b≤12):G1 B (Rat.divInt a b):=by
 obtain⟨c,hc,c0,c1⟩:∃ c:Int,b*c=27720∧0≤c∧c≤27720:=by
  have:b=1∨b=2∨b=3∨b=4∨b=5∨b=6∨b=7∨b=8∨b=9∨b=10∨b=11∨b=12:=by omega
  rcases this with rfl|rfl|rfl|rfl|rfl|rfl|rfl|rfl|rfl|rfl|rfl|rfl
  ·exact⟨27720,by decide⟩
  ·exact⟨13860,by decide⟩
  ·exact⟨9240,by decide⟩
  ·exact⟨6930,by decide⟩
  ·exact⟨5544,by decide⟩
  ·exact⟨4620,by decide⟩
  ·exact⟨3960,by decide⟩
  ·exact⟨3465,by decide⟩
  ·exact⟨3080,by decide⟩
  ·exact⟨2772,by decide⟩
  ·exact⟨2520,by decide⟩
  ·exact⟨2310,by decide⟩
 refine⟨a*c,?_,Nat.le_trans ?_ ha⟩
 ·have hb:(b:Rat)≠0:=fun z=>by
   have:b=0:=by exact_mod_cast z
   omega
  have hc':(b:Rat)*(c:Rat)=27720:=by
   rw[← Rat.intCast_mul,hc]; rfl
  rw[Rat.divInt_eq_div,Rat.intCast_mul,←hc'];grind
 ·rw[Int.natAbs_mul];exact Nat.mul_le_mul (Nat.le_refl _) (by omega)
def DeedZ:Deed→Prop
 | .join t p m=>G1 (2^45) t∧G1 (2^45) p∧G1 (2^45) m
 | .leave t _=>G1 (2^45) t
 | .turn t _ m=>G1 (2^45) t∧G1 (2^45) m
theorem DeedZ.tz {d:Deed}(h:DeedZ d):Sz 60 d.t:=by
 cases d with
 | join t p m=>exact G1.sz (q:=t) h.1 (by decide) (by decide)
 | leave t r=>exact G1.sz (q:=t) h (by decide) (by decide)
 | turn t r m=>exact G1.sz (q:=t) h.1 (by decide) (by decide)
def RnZ (n:Nat)(s:Rn):Prop:=∀ l∈s.ls,G2 ((n+1)*2^91) l.1∧G1 (2^45) l.2
theorem aT4 {n:Nat}{s:Rn}{d:Deed}(h:RnZ n s)(hs:RnOk s)(hd:d.ok s)(hz:DeedZ d):RnZ (n+1) (stp s d):=by
 have old:∀ l∈s.ls,G2 ((n+1+1)*2^91) l.1∧G1 (2^45) l.2:=fun l hl=>⟨(h l hl).1.mono (Nat.mul_le_mul_right _ (by omega)),(h l hl).2⟩
 cases d with
 | join t p m=>
  obtain⟨h1,h2,h3⟩:=hz;intro l hl;rcases List.mem_append.mp hl with z|z
  ·exact old l z
  ·rw[List.mem_singleton.mp z];refine⟨(h2.up.sub (h3.mul h1)).mono ?_,h3⟩;refine Nat.le_trans (m:=1*2^91) (by decide) (Nat.mul_le_mul_right _ (by omega))
 | leave t r=>exact old
 | turn t r m=>
  obtain⟨h1,h3⟩:=hz;intro l hl;rcases List.mem_or_eq_of_mem_set hl with z|z
  ·exact old l z
  ·rw[z];have hm:s.at r∈s.ls:=List.mem_of_getElem? (tH hs hd);obtain⟨a,b⟩:=h _ hm;refine⟨((a.add (b.mul h1)).sub (h3.mul h1)).mono ?_,h3⟩;have e:2^45*2^45+2^45*2^45=2^91:=by decide
   have:(n+1+1)*2^91=(n+1)*2^91+2^91:=Nat.succ_mul _ _;omega
theorem aRO {ds:List Deed}(hl:LogOk ds)(hz:∀ d∈ds,DeedZ d):RnZ ds.length (run ds):=by
 have aux:∀ n,n≤ds.length→RnZ n (run (ds.take n)):=by
  intro n
  induction n with
  | zero=>intro _ l hl; exact nomatch hl
  | succ n ih=>
   intro hn;have hn':n<ds.length:=by omega
   have e:ds[n]?=some ds[n]:=List.getElem?_eq_getElem hn';rw[List.take_succ,e];show RnZ (n+1) (run (ds.take n++[ds[n]]));rw[vC];exact aT4 (ih (by omega)) (pL _) (hl n _ e) (hz _ (List.getElem_mem hn'))
 have:=aux ds.length (Nat.le_refl _);rw[List.take_length] at this;exact this
theorem aK6 {ds:List Deed}(hl:LogOk ds)(hz:∀ d∈ds,DeedZ d)(h40:ds.length≤40):LinesOk 200 (run ds).ls:=fun l h=>by
 obtain⟨a,b⟩:=aRO hl hz l h;refine⟨a.sz ?_ (by decide),b.sz (by decide) (by decide)⟩;exact Nat.lt_of_le_of_lt (Nat.mul_le_mul_right _ (show ds.length+1≤41 by omega)) (by decide)
def a1T (q:Rat):Prop:=q.num.natAbs≤999999999∧q.den≤12
theorem aLS {a b:Int}(ha:a.natAbs≤999999999)(b0:1≤b)(b1:b≤12):a1T (Rat.divInt a b):=by
 obtain⟨h1,h2⟩:=rD (t:=a) (b:=b) (by omega);rw[fd] at h1 h2;refine⟨?_,?_⟩
 ·rw[← h1];exact Nat.le_trans (Int.natAbs_ediv_le_natAbs _ _) ha
 ·have h3:((Rat.divInt a b).den:Int).natAbs≤b.natAbs:=by
   rw[← h2];exact Int.natAbs_ediv_le_natAbs _ _
  omega
def a8H:Deed→Prop
 | .join t p m=>a1T t∧a1T p∧a1T m
 | .leave t _=>a1T t
 | .turn t _ m=>a1T t∧a1T m
structure LogB (ds:List Deed):Prop where
 ok:LogOk ds
 up:Rising ds
 z:∀ d∈ds,DeedZ d
 nm:∀ d∈ds,a8H d
 few:Few ds
theorem a69 {Q:Rv→Prop}{t b:Int}(h0:0<b)(hb:Bt 9000 b)(q:Q (.val (bO (Rat.divInt t b)))):cR [.val (.int t),.val (.int b)] Q:=yW (by omega) hb q
section
variable {p:Addr}{n:Nat}{Q:Rv→Nat→Prop}
end
theorem aK3 {A B:Prop}{d:D}(g:Good d)(a:A):Good d∧Good d∧(if PyData.eqv d d=true then A else B):=⟨g,g,by rw[yX g]; exact a5U a⟩
theorem aFO {A B:Prop}{d e:D}(g:Good d)(f:Good e)(h:PyData.eqv d e=false)(b:B):Good d∧Good e∧(if PyData.eqv d e=true then A else B):=⟨g,f,by rw[h]; exact a2W b⟩
theorem gJ:Good (.str "join"):=good_str _
theorem gL:Good (.str "leave"):=good_str _
theorem gT':Good (.str "turn"):=good_str _
section
variable {Q:Rv→Prop}{s:Rn}{t T:Rat}
theorem aHV (d:Deed):ixD (eY d) (.int 1)=some (bO d.t):=by cases d<;>rfl
theorem pm1 (a b t:Rat):pm 1 a (b*t)=pl (a,b) t:=by rw[aNM]; rfl
end
section
variable {Q:Rv→Prop}{ls:List Ln}{kds:List (Int×D)}{i j:Nat}{l k:Ln}{t:Rat}{s:Rn}
theorem a4H {l:Ln}(h1:Sz 900 l.1)(h2:Sz 900 l.2)(ht:Sz 2900 t)(q:Q (.val (bO (pl l t)))):fU [.val (fX l),.val (bO t)] Q:=by
 refine nD ?_;unfold uH;walk_at "!F*x&g*Ho";refine a93 (h2.mono (by decide)) (ht.mono (by decide)) ?_;walk_at "!&$+";refine a79 (.inl rfl) (h1.mono (by decide)) ((h2.mul ht).mono (by decide)) ?_;rw[pm1];exact q
theorem aLI (hi:qT kds (i:Int)=some (fX l))(hj:qT kds (j:Int)=some (fX k))(h1:Sz 900 l.1)(h2:Sz 900 l.2)(h3:Sz 900 k.1)(h4:Sz 900 k.2)(ht:Sz 2900 t)(q:Q (.val (.bool (ahB l k i j t)))) :
  oW [.val (.dict (dkD kds)),.val (.int (i:Int)),.val (.int (j:Int)),.val (bO t)] Q:=by
 unfold ahB at q;refine nD ?_;unfold uD;walk_at "!_#c";refine yM hi ?_;walk_at "!2)";refine a4H h1 h2 ht ?_;walk_at "!_#c";refine yM hj ?_;walk_at "!2)";refine a4H h3 h4 ht ?_;walk_at "!Mn%%Ć#";refine a9V (fun c=>?_) (fun c=>?_)
 ·rw[if_neg c] at q;walk_at "!ċX+";exact aF4 (rO h3 h4 ht) (rO h1 h2 ht) q
 ·rw[if_pos c] at q;unfold sU;walk_at "!>Mn4#c";refine yM hi ?_;walk_at "!$H4c";refine yM hj ?_;walk_at "!$HĆ";refine a9V (fun c=>?_) (fun c=>?_)
  ·rw[if_neg c] at q;walk_at "!F4#c";refine yM hj ?_;walk_at "!$H&4c";refine yM hi ?_;walk_at "!$H)";exact aF4 (h4.mono (by decide)) (h2.mono (by decide)) q
  ·rw[if_pos c] at q;unfold t6;walk_at "!>1-y";exact q
end
section
theorem sH {Q:Rv→Prop}{t p m:Rat}(h1:Sz 900 t)(h2:Sz 4000 p)(h3:Sz 900 m)(q:Q (.val (fX (p-m*t,m)))):fO [.val (bO t),.val (bO p),.val (bO m)] Q:=by
 refine nD ?_;unfold mD;walk_at "!1@D&f";refine xU (h3.mono (by decide)) (h1.mono (by decide)) ?_;walk_at "!+";refine lF h2 ((h3.mul h1).mono (by decide)) ?_;walk_at "!8`";exact q
end
def fdS (a b:Addr)(s:Rn)(la:D):FS:=⟨a,b,cQ s,(s.ls.length:Int),la⟩
section
variable {c w a b:Addr}{s:Rn}{la:D}{Q:Rv→FS→Prop}
theorem aKX {l:D}(hs:s.rs.length<1000)(q:Q (.val (.int (s.ls.length:Int))) ⟨a,b,qR (cQ s) (s.ls.length:Int) l,(s.ls.length:Int)+1,la⟩):iT c w (fdS a b s la) [.val l] Q:=by
 refine a1O ?_;unfold m8;walk_at "!(#ŕ,ĺ%Ļ%";refine aOP (by with_unfolding_all rfl) (by show(cQ s).length<1000; rw[kds_len]; exact hs) ?_;walk_at "!,Ŗ#B%=";exact q
def aNC (s:Rn):Deed→D
 | .join _ _ _=>.int (s.ls.length:Int)
 | _=>.none
theorem aJV {d:Deed}(hs:RnOk s)(hd:d.ok s)(hz:DeedZ d)(lz:LinesOk 200 s.ls)(hl:s.rs.length<1000)(q:Q (.val (aNC s d)) (fdS a b (stp s d) (bO d.t))):a2U c w (fdS a b s la) [.val (eY d)] Q:=by
 refine a1O ?_;unfold aFD;walk_at "!,ŗ*";refine cC (aHV d) ?_;walk_at "!ŘI"
 cases d with
 | join t p m=>
  obtain⟨z1,z2,z3⟩:=hz;have z1:=G1.sz (k:=60) z1 (by decide) (by decide);have z2:=G1.sz (k:=60) z2 (by decide) (by decide);have z3:=G1.sz (k:=60) z3 (by decide) (by decide);refine cC (d:=.str "join") rfl ?_;walk_at "!$";refine aK3 gJ ?_;walk_at "!ďļ&d";refine cC (d:=bO t) rfl ?_;walk_at "!N";refine cC (d:=bO p) rfl ?_;walk_at "!N";refine cC (d:=bO m) rfl ?_;walk_at "!)";refine sH (z1.mono (by decide)) (z2.mono (by decide)) (z3.mono (by decide)) ?_;walk_at "![#Ľ";refine aKX (s:=s) (la:=bO t) hl ?_;walk_at "!=";have e:(⟨a,b,qR (cQ s) (s.ls.length:Int) (fX (p-m*t,m)),(s.ls.length:Int)+1,bO t⟩:FS)=fdS a b (stp s (.join t p m)) (bO t):=by
   rw[aBA hs];unfold fdS
   congr 1
   show _=(((s.ls++[_]).length:Nat):Int);rw[List.length_append,List.length_singleton];rfl
  have z:Q (.val (.int (s.ls.length:Int))) (fdS a b (stp s (.join t p m)) (bO t)):=q;rw[← e] at z;exact z
 | leave t r=>
  have e1:=tX hd;refine cC (d:=.str "leave") rfl ?_;walk_at "!$";refine aFO gL gJ rfl ?_;unfold a09;walk_at "!>I";refine cC (d:=.str "leave") rfl ?_;walk_at "!$";refine aK3 gL ?_;walk_at "!s#ř*";refine cC (d:=.int (r:Int)) rfl ?_;refine aRI (by with_unfolding_all rfl) e1 ?_;unfold zJ;walk_at "!#B$=";have e:(⟨a,b,lB (cQ s) (r:Int),(s.ls.length:Int),bO t⟩:FS)=fdS a b (stp s (.leave t r)) (bO t):=by
   rw[a7G s t r];rfl
  exact e▸q
 | turn t r m=>
  obtain⟨z1,z3⟩:=hz;have z1:=G1.sz (k:=60) z1 (by decide) (by decide);have z3:=G1.sz (k:=60) z3 (by decide) (by decide);have e1:=tX hd;obtain⟨z4,z5⟩:=lz.get (tH hs hd);refine cC (d:=.str "turn") rfl ?_;walk_at "!$";refine aFO gT' gJ rfl ?_;unfold a09;walk_at "!>I";refine cC (d:=.str "turn") rfl ?_;walk_at "!$";refine aFO gT' gL rfl ?_;walk_at "!_#Ś*";refine cC (d:=.int (r:Int)) rfl ?_;refine aSB (by with_unfolding_all rfl) e1 ?_;walk_at "!N";refine cC (d:=bO t) rfl ?_;walk_at "!)";refine a2T (z4.mono (by decide)) (z5.mono (by decide)) (z1.mono (by decide)) ?_;walk_at "!#ĺd";refine cC (d:=bO t) rfl ?_;walk_at "!2N";refine cC (d:=bO m) rfl ?_;walk_at "!)";refine sH (z1.mono (by decide)) ((z4.add (z5.mul z1)).mono (by decide)) (z3.mono (by decide)) ?_;walk_at "!#Ļ*";refine cC (d:=.int (r:Int)) rfl ?_;refine aOP (by with_unfolding_all rfl) (by show(cQ s).length<1000; rw[kds_len]; exact hl) ?_;unfold zJ;walk_at "!#B$=";have e:(⟨a,b,qR (cQ s) (r:Int) (fX (pl (s.at r) t-m*t,m)),(s.ls.length:Int),bO t⟩:FS)=fdS a b (stp s (.turn t r m)) (bO t):=by
   rw[aB8 hs hd];unfold fdS
   congr 1
   show _=(((s.ls.set r _).length:Nat):Int);rw[List.length_set]
  exact e▸q
end
section
variable {c:Addr}{ds:List Deed}{T:Rat}{Q:Rv→Prop}
structure LogG (ds:List Deed):Prop where
 ok:LogOk ds
 up:Rising ds
 z:∀ d∈ds,DeedZ d
 n:ds.length≤40
theorem LogG.take {ds:List Deed}(h:LogG ds)(k:Nat):LogG (ds.take k):=⟨h.ok.take k,h.up.sublist (List.take_sublist k ds),fun d hd=>h.z d (List.mem_of_mem_take hd),by rw[List.length_take]; have:=h.n; omega⟩
theorem LogG.sz {ds:List Deed}(h:LogG ds):LinesOk 200 (run ds).ls:=aK6 h.ok h.z h.n
theorem LogG.rs {ds:List Deed}(h:LogG ds):(run ds).rs.length≤40:=Nat.le_trans (a2R ds) h.n
end
section
variable {Q:Rv→Prop}
theorem a8L {t:Rat}(q:Q (.val (.bool true))):nZ [.val (bO t)] Q:=by
 refine nD ?_;unfold tW;walk_at "!7Lt.nY";refine cC (d:=.int 2) rfl ?_;walk_at "!j";rw[decide_eq_true rfl];walk_at "!R/";unfold tE;walk_at "!7LgU+";refine wB ?_;walk_at "!RPgG+";refine wB ?_;walk_at "!R/";unfold sS;walk_at "!1e-GA";have hd:=t.den_pos;rw[decide_eq_true (show(1:Int)≤(t.den:Int) by omega)];walk_at "!9EgU&G+";refine aPJ ?_;have e:Int.gcd t.num t.den=1:=t.reduced;rw[e];walk_at "!j";exact q
theorem fP {t:Rat}(h:a1T t)(q:Q (.val (.bool true))):cD [.val (bO t)] Q:=by
 obtain⟨h1,h2⟩:=h;refine nD ?_;unfold jE;walk_at "!7PD+";refine a8L ?_;walk_at "!R/";unfold kW;walk_at "!1e-ăUA";rw[decide_eq_true (show(if t.num<0 then -t.num else t.num)≤999999999 by split<;>omega)];walk_at "!9-GA";rw[decide_eq_true (show(t.den:Int)≤12 by omega)];exact q
theorem aGC {d:Deed}(h:a8H d)(q:Q (.val (.bool true))):uZ [.val (eY d)] Q:=by
 refine nD ?_;unfold a1B
 cases d with
 | join t p m=>
  obtain⟨h1,h2,h3⟩:=h;walk_at "!7LtĀ.-Y";refine cC (d:=.int 4) rfl ?_;walk_at "!A";refine iC (fun c=>absurd c (by decide)) (fun _=>?_);walk_at "!PĈ6";refine cC (d:=.str "join") rfl ?_;walk_at "!Ĝ/";unfold lV;walk_at "!I";refine cC (d:=.str "join") rfl ?_;walk_at "!$";refine aK3 gJ ?_;walk_at "!1eEY";refine cC (d:=.int 4) rfl ?_;walk_at "!j";rw[decide_eq_true rfl];walk_at "!9Ĩ:ĩś#Ŝ%Ġ$ġ#";refine And.intro (fun z=>absurd z.1 (show ¬HT.sIx 4 0 (some 1)=0 by decide)) (And.intro (show(3:Nat)≤1000 by decide) ?_);show wX _ _ _ _ ([t,p,m].map bO) [] _;refine jG (α:=Rat) (fun _=>true) (fun _=>.bool true) bO [t,p,m] [] _ (fun x hx _ k k0 g1 g0=>?_) ?_
  ·have hx:a1T x:=by
    simp only[List.mem_cons,List.not_mem_nil,or_false] at hx;rcases hx with rfl|rfl|rfl
    ·exact h1
    ·exact h2
    ·exact h3
   walk_at "!?";unfold qJ;walk_at "!9D+";refine fP hx ?_;walk_at "!#";exact g1 rfl
  ·exact q
 | leave t r=>
  walk_at "!7LtĀ.-Y";refine cC (d:=.int 3) rfl ?_;walk_at "!A";refine iC (fun c=>absurd c (by decide)) (fun _=>?_);walk_at "!PĈ6";refine cC (d:=.str "leave") rfl ?_;walk_at "!Ĝ/";unfold lV;walk_at "!I";refine cC (d:=.str "leave") rfl ?_;walk_at "!$";refine aFO gL gJ rfl ?_;unfold qP;walk_at "!>I";refine cC (d:=.str "leave") rfl ?_;walk_at "!$";refine aK3 gL ?_;walk_at "!1eEY";refine cC (d:=.int 3) rfl ?_;walk_at "!j";rw[decide_eq_true rfl];walk_at "!9ed";refine cC (d:=bO t) rfl ?_;walk_at "!)";refine fP h ?_;walk_at "!9d";refine cC (d:=.int (r:Int)) rfl ?_;walk_at "!)";refine wB ?_;walk_at "!#";exact q
 | turn t r m=>
  obtain⟨h1,h2⟩:=h;walk_at "!7LtĀ.-Y";refine cC (d:=.int 4) rfl ?_;walk_at "!A";refine iC (fun c=>absurd c (by decide)) (fun _=>?_);walk_at "!PĈ6";refine cC (d:=.str "turn") rfl ?_;walk_at "!Ĝ/";unfold lV;walk_at "!I";refine cC (d:=.str "turn") rfl ?_;walk_at "!$";refine aFO gT' gJ rfl ?_;unfold qP;walk_at "!>I";refine cC (d:=.str "turn") rfl ?_;walk_at "!$";refine aFO gT' gL rfl ?_;unfold xW;walk_at "!>I";refine cC (d:=.str "turn") rfl ?_;walk_at "!$";refine aK3 gT' ?_;walk_at "!1eEY";refine cC (d:=.int 4) rfl ?_;walk_at "!j";rw[decide_eq_true rfl];walk_at "!9ed";refine cC (d:=.int (r:Int)) rfl ?_;walk_at "!)";refine wB ?_;walk_at "!9ed";refine cC (d:=bO t) rfl ?_;walk_at "!)";refine fP h1 ?_;walk_at "!9d";refine cC (d:=bO m) rfl ?_;walk_at "!)";refine fP h2 ?_;walk_at "!#";exact q
end
section
variable {c w a b:Addr}{s:Rn}{la:D}{Q:Rv→FS→Prop}
def aTH (la:D)(T:Rat):Prop:=la=.none∨∃ q:Rat,la=bO q∧q≤T∧Sz 60 q
theorem aD5 {d:Deed}(hs:RnOk s)(hd:d.ok s)(hf:d.few s)(hz:Sz 60 d.t)(hl:aTH la d.t)(q:Q (.val (.bool true)) (fdS a b s la)):rN c w (fdS a b s la) [.val (eY d)] Q:=by
 have r2:oU c (.box ((bG c).box w (fdS a b s la))::([.val (eY d)]++List.replicate 0 .no)) fun fl=>
   match fl with
   | .rt rv=>∃ rv0 s',rv=.box (bKp (bG c) rv0 w s')∧Q rv0 s'
   | .nx Γ=>∃ s',Γ[0]?=some (.box ((bG c).box w s'))∧Q (.val .none) s'
   | _=>False:=by
  unfold oU
  cases d with
  | join t p m=>
   walk_at "!I";refine cC (d:=.str "join") rfl ?_;walk_at "!$";refine aK3 gJ ?_;walk_at "!B-ŝA=";rw[decide_eq_true (show(((fdS a b s la).kds.length:Nat):Int)<8 by show(((cQ s).length:Nat):Int)<8; rw[kds_len]; have hf:s.rs.length<8:=hf; omega)];exact q
  | leave t r=>
   walk_at "!I";refine cC (d:=.str "leave") rfl ?_;walk_at "!$";refine aFO gL gJ rfl ?_;unfold oJ;walk_at "!/Bľ*";refine cC (d:=.int (r:Int)) rfl ?_;walk_at "!Ŀ=";rw[show(fdS a b s la).kds=cQ s from rfl,tX hd];exact q
  | turn t r m=>
   walk_at "!I";refine cC (d:=.str "turn") rfl ?_;walk_at "!$";refine aFO gT' gJ rfl ?_;unfold oJ;walk_at "!/Bľ*";refine cC (d:=.int (r:Int)) rfl ?_;walk_at "!Ŀ=";rw[show(fdS a b s la).kds=cQ s from rfl,tX hd];exact q
 refine a1O ?_;unfold wZ;rcases hl with rfl|⟨t0,rfl,ht,zt⟩
 ·walk_at "!7W}#Ī";exact r2
 ·walk_at "!7W}#Ī";refine cC (aHV d) ?_;walk_at "!&#Ī)";refine iZ (hz.mono (by decide)) (zt.mono (by decide)) ?_;rw[decide_eq_false (show ¬d.t<t0 by grind)];walk_at "!b/";exact r2
end
section
variable {c:Addr}{ds:List Deed}{Q:Rv→Prop}
theorem LogB.snoc {ds:List Deed}{d:Deed}(h:LogB ds)(h1:d.ok (run ds))(h2:d.few (run ds))(h3:∀ e∈ds,e.t≤d.t)(h4:DeedZ d)(h5:a8H d):LogB (ds++[d]):=by
 have mem:∀{P:Deed→Prop},(∀ e∈ds,P e)→P d→∀ e∈ds++[d],P e:=fun ha hb e he=>by
  rcases List.mem_append.mp he with u|u
  ·exact ha e u
  ·rw[List.mem_singleton.mp u]; exact hb
 exact⟨h.ok.snoc h1,h.up.snoc h3,mem h.z h4,mem h.nm h5,LogP.snoc h.few h2⟩
theorem aI7 (h:LogB ds)(hl:ds.length≤40)(q:Q (.own (ds.map eY))):uR c [.val (.list (ds.map eY))] Q:=by
 refine nD ?_;unfold a3Z;walk_at "!7Pt/";unfold vJ;walk_at "!i#";refine aLW fun w a b=>?_;walk_at "!,Č#Ķ<";have hle:(vA (ds.map eY)).length=ds.length:=by unfold vA; rw[List.length_map,List.length_range,List.length_map]
 have hen:∀(n:Nat) d,(vA (ds.map eY))[n]?=some d→∃ e,ds[n]?=some e∧d=.tuple [.int (n:Int),eY e]:=fun n d hd=>by
  have hn:n<ds.length:=by have:=(List.getElem?_eq_some_iff.mp hd).1; omega
  unfold vA at hd;rw[List.getElem?_map,List.getElem?_range (by rw[List.length_map]; exact hn)] at hd
  cases hd
  refine⟨ds[n],List.getElem?_eq_getElem hn,?_⟩;show PyData.tuple [.int (n:Int),(ds.map eY).getD n .none]=_;rw[List.getD_eq_getElem?_getD,List.getElem?_map,List.getElem?_eq_getElem hn];rfl
 refine a0M (fun n Γ=>∃ x y la,Γ=[.val (.list (ds.map eY)),.box ((bG c).box w (fdS a b (run (ds.take n)) la)),x,y]∧(la=.none∨∃(i:Nat) (e:Deed),i<n∧ds[i]?=some e∧la=bO e.t)) ⟨_,_,_,rfl,.inl rfl⟩ ?_ ?_
 ·rintro n d Γ K hd ⟨x,y,la,rfl,hla⟩ hK;obtain⟨e,he,rfl⟩:=hen n d hd;have hn:=(List.getElem?_eq_some_iff.mp he).1;have hem:e∈ds:=List.mem_of_getElem? he;have hk3:=hK.nx;have tk:ds.take (n+1)=ds.take n++[e]:=by rw[List.take_succ,he]; rfl
  rw[tk,vC] at hk3;have g:LogG ds:=⟨h.ok,h.up,h.z,hl⟩;have gn:=g.take n;have lo:aTH la e.t:=by
   rcases hla with z|⟨i,e',hi,he',z⟩
   ·exact .inl z
   ·refine .inr ⟨e'.t,z,?_,(h.z e' (List.mem_of_getElem? he')).tz⟩;have h1:=(List.getElem?_eq_some_iff.mp he');have h2:=(List.getElem?_eq_some_iff.mp he);have:=List.pairwise_iff_getElem.mp h.up i n h1.1 h2.1 hi;rw[h1.2,h2.2] at this;exact this
  unfold vP;walk_at "!ģć?ć?Ĥ7Ā.EKĄ#";refine iC (fun cc=>absurd cc (by omega)) (fun _=>?_);walk_at "!LD+";refine aGC (h.nm e hem) ?_;walk_at "!RPr2Z";refine aD5 (pL _) (h.ok n e he) (h.few n e he) (h.z e hem).tz lo ?_;walk_at "!R/";unfold v4;walk_at "!sr2Z";refine aJV (pL _) (h.ok n e he) (h.z e hem) gn.sz (Nat.lt_of_le_of_lt gn.rs (by decide)) ?_;walk_at "!#";exact hk3 _ ⟨_,_,_,rfl,.inr ⟨n,e,by omega,he,rfl⟩⟩
 ·rintro Γ ⟨x,y,la,rfl,hla⟩;unfold uP;walk_at "!Ċī<";exact q
end
section
variable {C CF w:Addr}{i:Nat}{Γ:En}{Q:D→En→Prop}{Qo:Rv→En→Prop}{s:RS}
theorem aJ4 (h0:Γ[i]?=some (.pub (mJ C CF w s)))(h:Q s.now Γ):tG C CF i Γ Q:=⟨w,s,_,h0,.inr rfl,h⟩
theorem aBV (h0:Γ[i]?=some (.box ((cJ C CF).box w s)))(h:Q s.now Γ):tG C CF i Γ Q:=⟨w,s,_,h0,.inl rfl,h⟩
theorem aL7 {mth:Str}{n:Nat}{f:Fm}{ma:MA}(h0:Γ[i]?=some (.pub (mJ C CF w s)))(hm:∀ s vn,(aLK s vn).lookup mth=none)(h:ma Γ fun as Γ1=>as.length+1=n∧f (.pub (mJ C CF w s)::as) fun rv=>Qo rv Γ1):uK C mth n f i ma Γ Qo:=⟨_,h0,aIQ hm,h⟩
end
structure RA where
 d:Addr
 ld:Addr
 f:Addr
 lg:Addr
 lc:Addr
 fd:Addr
 fp:Addr
 gn:List D
 cm:List D
 la:D
def rcS (a:RA)(es:List D)(ds:List Deed)(now:Option Rat):RS:=⟨a.d,a.ld,a.f,a.lg,a.lc,fdS a.fd a.fp (run ds) a.la,es,a8U now,a.gn,a.cm⟩
def aHD (ds:List Deed)(T:Rat):List Nat:=v5 (ahN (run ds).ls T) (run ds).rs
section
variable {Q:Rv→Prop}{c cF cW w:Addr}{a:RA}{es:List D}{ds:List Deed}{now:Option Rat}{T:Rat}
theorem aEM (h:LogG ds)(hT:Sz 900 T)(q:Q (.own (cI (aHD ds T)))):v6 c cF cW [.pub (mJ c cF w (rcS a es ds (some T)))] Q:=by
 have ro:=pL ds;refine nD ?_;unfold a0F;walk_at "!F#ŀ&:";refine a0B (w:=w) (s:=rcS a es ds (some T)) (by with_unfolding_all rfl) (.inr rfl) (by show(cQ _).length<64; rw[kds_len]; exact Nat.lt_of_le_of_lt h.rs (by decide)) ?_;rw[show(rcS a es ds (some T)).fs.kds=cQ (run ds) from rfl,a0Q ro];walk_at "!&#Đ)";refine uV (ls:=(run ds).ls) h.sz (Nat.le_trans h.rs (by decide)) ro.lt (fun x hx l hl=>?_) ro.nd (hT.mono (by decide)) ?_
 ·refine .dict ?_;rw[tX hx];rw[tH ro hx] at hl
  cases hl
  rfl
 ·skip;exact q
theorem a2G (h:LogG ds)(hT:Sz 900 T)(q:Q (.own ((yF (aHD ds T)).map fun p=>lK (run ds).ls T p.1 p.2))):nA c cF cW [.pub (mJ c cF w (rcS a es ds (some T)))] Q:=by
 have ro:=pL ds;have hm:∀ x∈aHD ds T,x∈(run ds).rs:=fun x hx=>ordL_mem.mp hx;have hl:(aHD ds T).length≤40:=by unfold aHD; rw[oN]; exact h.rs
 refine nD ?_;unfold xO;walk_at "!F#ŀ&:ā)";refine aEM h hT ?_;walk_at "!&#Đ)";refine sI (ls:=(run ds).ls) h.sz (by omega) (fun x hx=>ro.lt x (hm x hx)) (fun x hx l hl=>?_) (hT.mono (by decide)) ?_
 ·refine .dict ?_;rw[show(rcS a es ds (some T)).fs.kds=cQ (run ds) from rfl,tX (hm x hx)];rw[tH ro (hm x hx)] at hl
  cases hl
  rfl
 ·skip;exact q
theorem a2D {t:Rat}(h:∀ n,now=some n→n≤t∧Sz 900 n)(ht:Sz 900 t)(q:Q (.val .none)):cM c cF cW [.pub (mJ c cF w (rcS a es ds now)),.val (bO t)] Q:=by
 refine nD ?_;unfold gM
 cases now with
 | none=>
  walk_at "!|W}#Đ";exact q
 | some n=>
  obtain⟨h1,h2⟩:=h n rfl;walk_at "!|W}#Đ";refine a5U ?_;walk_at "!.D&#Đ)";refine iZ (ht.mono (by decide)) (h2.mono (by decide)) ?_;rw[decide_eq_false (show ¬t<n by grind)];walk_at "!b/";exact q
theorem aEE (h:LogG ds){la:D}{f fd fp:Addr}(q:Q (.own (fZ ((run ds).rs.map (run ds).at)))):uW cF [.pub (a1K cF f (fdS fd fp (run ds) la))] Q:=by
 have ro:=pL ds;refine nD ?_;unfold zN;walk_at "!aĘ:";refine a9S (w:=f) (s:=fdS fd fp (run ds) la) (by with_unfolding_all rfl) (.inr rfl) (by show(cQ _).length<64; rw[kds_len]; exact Nat.lt_of_le_of_lt h.rs (by decide)) ?_;rw[show(fdS fd fp (run ds) la).kds=cQ (run ds) from rfl,a0Q ro];walk_at "!#";refine⟨by rw[j5]; have:=h.rs; omega,?_⟩;refine jG (α:=Nat) (fun _=>true) (fun r=>fX ((run ds).at r)) (fun r=>.int (r:Int)) (run ds).rs [] _ (fun r hr _ k k0 h1 h0=>?_) ?_
 ·walk_at "!?";unfold qJ;walk_at "!9";refine⟨f,fdS fd fp (run ds) la,⟨_,by with_unfolding_all rfl,.inr rfl⟩,?_⟩;walk_at "!<";exact⟨⟨_,by with_unfolding_all rfl,.inr rfl⟩,(r:Int),_,rfl,tX hr,h1 rfl⟩
 ·rw[List.filter_eq_self.mpr fun _ _=>rfl,List.nil_append];skip;have e:(run ds).rs.map (fun r=>fX ((run ds).at r))=fZ ((run ds).rs.map (run ds).at):=by unfold fZ; rw[List.map_map]; rfl
  rw[e];exact q
def aEP (xs ys:List D):List D:=xs.filter fun x => !(ys.any fun y=>PyData.eqv y x)
def aMD (ds:List Deed)(T:Rat):List D:=(yF (aHD ds T)).map fun p=>lK (run ds).ls T p.1 p.2
theorem aEW {xs ys:List D}(hx:∀ x∈xs,Good x)(hy:Goods ys)(hl:xs.length≤1000)(q:Q (.own (aEP xs ys))):fJ [.val (.list xs),.val (.list ys)] Q:=by
 refine nD ?_;unfold lZ;walk_at "!aq";refine⟨hl,?_⟩;rw[show xs=xs.map id from(List.map_id xs).symm];refine jG (α:=D) (fun x => !(ys.any fun y=>PyData.eqv y x)) id id xs [] _ (fun x hx' _ k k0 h1 h0=>?_) (by rw[List.nil_append,List.map_id]; exact q);walk_at "!?.Ły";refine⟨hx x hx',hy,?_⟩;rw[if_pos rfl]
 cases hb:(ys.any fun e=>PyData.eqv e x) with
 | true=>exact(show(if (!(ys.any fun e=>PyData.eqv e x))=true then _ else k0) by rw[hb]; exact h0 (by rw[hb]; rfl))
 | false=>exact(show(if (!(ys.any fun e=>PyData.eqv e x))=true then aO 0 _ _ else k0) by rw[hb]; walk_at "!ł%"; exact h1 (by rw[hb]; rfl))
end
theorem a9F (ls:List Ln)(t:Rat)(i j:Nat):Gd 2 (lK ls t i j):=aEF (n:=1) fun x hx=>by
 simp only[List.mem_cons,List.not_mem_nil,or_false] at hx;rcases hx with rfl|rfl|rfl
 ·exact(a6W _).mono
 ·exact(a6W _).mono
 ·exact aN9 _
theorem aKC {ls:List Ln}{t:Rat}{ps:List (Nat×Nat)}{x:D}(h:x∈ps.map fun p=>lK ls t p.1 p.2):Good x:=by
 obtain⟨p,_,rfl⟩:=List.mem_map.mp h;exact(a9F ls t p.1 p.2).good
theorem a2S (ls:List Ln)(t:Rat)(ps:List (Nat×Nat)):Goods (ps.map fun p=>lK ls t p.1 p.2):=aBD (n:=2) fun x hx=>by
 obtain⟨p,_,rfl⟩:=List.mem_map.mp hx;exact a9F ls t p.1 p.2
theorem aAJ {ds:List Deed}(h:LogG ds){T:Rat}:((yF (aHD ds T)).map fun p=>lK (run ds).ls T p.1 p.2).length≤1000:=by
 rw[List.length_map,qX];unfold aHD;rw[oN];have:=h.rs;omega
theorem zA (ls:List Ln)(t:Rat):∀ ps:List (Nat×Nat),bV (ps.map fun p=>lK ls t p.1 p.2)=true
 | []=>rfl
 | p::ps=>by
  show(eN (lK ls t p.1 p.2)&&bV (ps.map fun p=>lK ls t p.1 p.2))=true
  rw[zA ls t ps,Bool.and_true];unfold lK
  cases mF ls t p.1 p.2<;>rfl
theorem aI3 (d:Deed):eN (eY d)=true:=by cases d<;>rfl
theorem a6O:∀ ds:List Deed,bV (ds.map eY)=true
 | []=>rfl
 | d::ds=>by
  show(eN (eY d)&&bV (ds.map eY))=true
  rw[aI3,a6O ds];rfl
section
variable {c cF cW w:Addr}{a:RA}{ds:List Deed}{now:Option Rat}{Q:Rv→RS→Prop}
theorem aPO {d:Deed}(h:LogB (ds++[d]))(hl:(ds++[d]).length≤40)(hn:∀ n,now=some n→n≤d.t∧Sz 900 n)(q:∀ a',a'.gn=aEP (aMD ds d.t) (aMD (ds++[d]) d.t)→a'.cm=aEP (aMD (ds++[d]) d.t) (aMD ds d.t)→Q (.val (aNC (run ds) d)) (rcS a' ((ds++[d]).map eY) (ds++[d]) (some d.t))) :
  aBM c cF cW w (rcS a (ds.map eY) ds now) [.val (eY d)] Q:=by
 have g:LogG (ds++[d]):=⟨h.ok,h.up,h.z,hl⟩;have g0:LogG ds:=by
  have:=g.take ds.length;rwa[List.take_append_of_le_length (Nat.le_refl _),List.take_length] at this
 have dz:=h.z d (List.mem_append_right _ (List.mem_singleton.mpr rfl));have hT:Sz 900 d.t:=dz.tz.mono (by decide);have e1:ds.map eY++[eY d]=(ds++[d]).map eY:=by rw[List.map_append]; rfl
 have hll:ds.length≤40:=by rw[List.length_append,List.length_singleton] at hl; omega
 have dok:d.ok (run ds):=by
  have:=h.ok ds.length d (by rw[List.getElem?_append_right (Nat.le_refl _),Nat.sub_self]; rfl);rwa[List.take_append_of_le_length (Nat.le_refl _),List.take_length] at this
 refine a1O ?_;unfold aG6;walk_at "!ič~&hŞ#şz8`";refine⟨by rw[show(rcS a (ds.map eY) ds now).ds=ds.map eY from rfl,List.length_map]; show ds.length+1≤1000; omega,?_⟩;rw[show(rcS a (ds.map eY) ds now).ds=ds.map eY from rfl,e1];walk_at "!)";refine aI7 h hl ?_;walk_at "!#";refine⟨a6O _,rfl,?_⟩;walk_at "!,sĬ:āN";refine cC (aHV d) ?_;walk_at "!)";refine a2D hn hT ?_;walk_at "!OO,Ń*";refine cC (aHV d) ?_;walk_at "!ń(hč#ā)";refine a2G (a:=a) (es:=ds.map eY) (ds:=ds) (T:=d.t) g0 hT ?_;walk_at "!#";refine⟨zA _ _ _,rfl,?_⟩;walk_at "!(:Š2)O#";refine aJV (s:=run ds) (la:=a.la) (pL ds) dok dz g0.sz (Nat.lt_of_le_of_lt g0.rs (by decide)) ?_;rw[← vC];walk_at "!(hč#ā)";refine a2G (a:={ a with la:=bO d.t }) (es:=ds.map eY) (ds:=ds++[d]) (T:=d.t) g hT ?_;walk_at "!#";refine⟨zA _ _ _,rfl,?_⟩;walk_at "!,ĭĹĮ,ĭ~X)";refine aEW (fun x hx=>aKC hx) (a2S _ _ _) (aAJ g0) ?_;walk_at "!Į,ĭ~X)";refine aEW (fun x hx=>aKC hx) (a2S _ _ _) (aAJ g) ?_;walk_at "!Į#B%=";exact q ⟨a.d,_,a.f,_,_,a.fd,a.fp,_,_,bO d.t⟩ rfl rfl
end
def lab (rs:List Nat)(k:Nat):Nat:=rs.getD k 0
def lsR (ls:List Ln)(rs:List Nat):List Ln:=rs.map (ln ls)
theorem a0Y {rs:List Nat}{k:Nat}(h:k<rs.length):lab rs k=rs[k]:=by
 unfold lab;rw[List.getD_eq_getElem?_getD,List.getElem?_eq_getElem h];rfl
theorem wG (ls:List Ln)(rs:List Nat):(lsR ls rs).length=rs.length:=List.length_map _
theorem a6M {ls:List Ln}{rs:List Nat}{k:Nat}(h:k<rs.length):ln (lsR ls rs) k=ln ls (lab rs k):=by
 rw[a0Y h];unfold lsR
 conv=>lhs; unfold ln
 rw[List.getD_eq_getElem?_getD,List.getElem?_map,List.getElem?_eq_getElem h];rfl
section
variable {ls:List Ln}{rs:List Nat}{t:Rat}
theorem a5O {k:Nat}(h:k<rs.length):lab rs k∈rs:=by rw[a0Y h]; exact List.getElem_mem h
theorem aNR (up:rs.Pairwise (·<·)){a b:Nat}(ha:a<rs.length)(hb:b<rs.length):lab rs a<lab rs b↔a<b:=by
 rw[a0Y ha,a0Y hb];have h:=List.pairwise_iff_getElem.mp up;constructor
 ·intro h1;apply Classical.byContradiction;intro h2
  by_cases e:a=b
  ·subst e; omega
  ·have:=h b a hb ha (by omega);omega
 ·exact h a b ha hb
theorem aTR (up:rs.Pairwise (·<·))(hr:∀ x∈rs,x<ls.length){a b:Nat}(ha:a<rs.length)(hb:b<rs.length):ahN (lsR ls rs) t a b=ahN ls t (lab rs a) (lab rs b):=by
 have:=aNR up ha hb;rw[a7B (by rw[wG]; exact ha) (by rw[wG]; exact hb),a7B (hr _ (a5O ha)) (hr _ (a5O hb)),a6M ha,a6M hb,Bool.eq_iff_iff,qO,qO];have e:((a:Int)<(b:Int))↔((lab rs a:Int)<(lab rs b:Int)):=by omega
 rw[e]
theorem aNF (up:rs.Pairwise (·<·))(hr:∀ x∈rs,x<ls.length){a b:Nat}(ha:a<rs.length)(hb:b<rs.length):mF (lsR ls rs) t a b=mF ls t (lab rs a) (lab rs b):=by
 unfold mF;rw[aTR up hr hb ha,a2Q (by rw[wG]; exact ha) (by rw[wG]; exact hb),a2Q (hr _ (a5O ha)) (hr _ (a5O hb)),a6M ha,a6M hb]
theorem aM9 (up:rs.Pairwise (·<·))(hr:∀ x∈rs,x<ls.length){xs:List Nat}(hx:∀ x∈xs,x<rs.length):gF ls t (xs.map (lab rs))=gF (lsR ls rs) t xs:=by
 unfold gF yF;rw[← List.map_drop,List.zip_map,List.map_map];refine List.map_congr_left fun p hp=>?_;obtain⟨n,hn,rfl⟩:=zF hp;exact(aNF up hr (hx _ (List.getElem_mem _)) (hx _ (List.getElem_mem _))).symm
end
theorem aL8 (f:Nat→Nat){xs:List Nat}{k:Nat}(h:k+1<xs.length):swp (xs.map f) k=(swp xs k).map f:=by
 rw[xP (xs:=xs.map f) (by rw[List.length_map]; exact h),xP h,List.map_append,List.map_cons,List.map_cons,List.map_take,List.map_drop,List.getElem_map,List.getElem_map]
theorem aAW {g h:Nat→Rat}(f:Nat→Nat):∀{xs:List Nat},(∀ x∈xs,g (f x)=h x)→aC2 g (xs.map f)=aC2 h xs
 | [],_=>rfl
 | x::xs,e=>by
  have ih:=aAW f (xs:=xs) fun y hy=>e y (List.mem_cons_of_mem _ hy)
  show((xs.map f).filter fun y=>decide (g (f x)<g y)).length+aC2 g (xs.map f)=(xs.filter fun y=>decide (h x<h y)).length+aC2 h xs
  rw[ih,List.filter_map,List.length_map,e x List.mem_cons_self]
  congr 2
  refine List.filter_congr fun y hy=>?_;show decide (h x<g (f y))=_;rw[e y (List.mem_cons_of_mem _ hy)]
def goP (ls:List Ln)(v:Rat):Nat→Rat→List Nat→List (Rat×Nat×Nat)
 | 0,_,_=>[]
 | m+1,t,xs=>match ff (gF ls t xs) with
  | none=>[]
  | some (k,u)=>if v<u then[] else(u,xs.getD k 0,xs.getD (k+1) 0)::goP ls v m u (swp xs k)
theorem aJ8 (ls:List Ln)(v:Rat):∀(m:Nat) (t:Rat) (xs:List Nat),(goN ls v m t xs).1=(goP ls v m t xs).map fun p=>a91 p.1 p.2.1 p.2.2
 | 0,_,_=>rfl
 | m+1,t,xs=>by
  unfold goN goP
  cases ff (gF ls t xs) with
  | none=>rfl
  | some c=>
   obtain⟨k,u⟩:=c;dsimp only
   by_cases h:v<u
   ·rw[if_pos h,if_pos h]; rfl
   ·rw[if_neg h,if_neg h,List.map_cons,aJ8 ls v m u]
theorem aGL (ls:List Ln)(v:Rat):∀(m:Nat) (t:Rat) (xs:List Nat),∀ p∈goP ls v m t xs,p.2.1∈xs∧p.2.2∈xs
 | 0,_,_=>fun p h=>nomatch h
 | m+1,t,xs=>fun p h=>by
  unfold goP at h
  cases hf:ff (gF ls t xs) with
  | none=>rw[hf] at h; exact nomatch h
  | some c=>
   obtain⟨k,u⟩:=c;rw[hf] at h;dsimp only at h;obtain⟨hk,_⟩:=aGD hf
   by_cases hv:v<u
   ·rw[if_pos hv] at h; exact nomatch h
   ·rw[if_neg hv] at h;rcases List.mem_cons.mp h with rfl|h
    ·refine⟨?_,?_⟩
     ·show xs.getD k 0∈xs;rw[List.getD_eq_getElem?_getD,List.getElem?_eq_getElem (by omega)];exact List.getElem_mem _
     ·show xs.getD (k+1) 0∈xs;rw[List.getD_eq_getElem?_getD,List.getElem?_eq_getElem hk];exact List.getElem_mem _
    ·obtain⟨h1,h2⟩:=aGL ls v m u (swp xs k) p h;exact⟨(vN hk).mem_iff.mp h1,(vN hk).mem_iff.mp h2⟩
theorem aOE {ls:List Ln}{rs:List Nat}(up:rs.Pairwise (·<·))(hr:∀ x∈rs,x<ls.length)(v:Rat):∀(m:Nat) (t:Rat) (xs:List Nat),(∀ x∈xs,x<rs.length)→goP ls v m t (xs.map (lab rs))=(goP (lsR ls rs) v m t xs).map fun p=>(p.1,lab rs p.2.1,lab rs p.2.2)
 | 0,_,_,_=>rfl
 | m+1,t,xs,hx=>by
  unfold goP;rw[aM9 up hr hx]
  cases hf:ff (gF (lsR ls rs) t xs) with
  | none=>rfl
  | some c=>
   obtain⟨k,u⟩:=c;obtain⟨hk,_⟩:=aGD hf;dsimp only
   by_cases h:v<u
   ·rw[if_pos h,if_pos h]; rfl
   ·have e1:(xs.map (lab rs)).getD k 0=lab rs (xs.getD k 0):=by
     rw[List.getD_eq_getElem?_getD,List.getD_eq_getElem?_getD,List.getElem?_map,List.getElem?_eq_getElem (by omega)]; rfl
    have e2:(xs.map (lab rs)).getD (k+1) 0=lab rs (xs.getD (k+1) 0):=by
     rw[List.getD_eq_getElem?_getD,List.getD_eq_getElem?_getD,List.getElem?_map,List.getElem?_eq_getElem hk]; rfl
    rw[if_neg h,if_neg h,List.map_cons,aL8 _ hk,aOE up hr v m u (swp xs k) (fun x hx'=>hx x ((vN hk).mem_iff.mp hx')),e1,e2]
theorem aQ1 {ls:List Ln}{rs xs:List Nat}(hx:∀ x∈xs,x<rs.length):yO ls (xs.map (lab rs))=yO (lsR ls rs) xs:=
 aAW (lab rs) fun x h=>by rw[a6M (hx x h)]
theorem aSY {ls:List Ln}{rs:List Nat}(up:rs.Pairwise (·<·))(hr:∀ x∈rs,x<ls.length)(v t:Rat){xs:List Nat}(hx:∀ x∈xs,x<rs.length) :
  (goX ls v t (xs.map (lab rs))).1=(goP (lsR ls rs) v (yO (lsR ls rs) xs) t xs).map fun p=>a91 p.1 (lab rs p.2.1) (lab rs p.2.2):=by
 unfold goX;rw[aJ8,aQ1 hx,aOE up hr v _ t xs hx,List.map_map];rfl
theorem aBT {a b:Nat→Nat→Bool}(f:Nat→Nat):∀(rs acc:List Nat),(∀ x y,(x∈acc∨x∈rs)→(y∈acc∨y∈rs)→a (f x) (f y)=b x y)→(rs.map f).foldl (bT a) (acc.map f)=(rs.foldl (bT b) acc).map f
 | [],_,_=>rfl
 | r::rs,acc,h=>by
  have e:bT a (acc.map f) (f r)=(bT b acc r).map f:=by
   unfold bT;rw[List.map_append,List.map_append,List.filter_map,List.filter_map];have e1:acc.filter ((fun o => !a (f r) o)∘f)=acc.filter fun o => !b r o:=List.filter_congr fun x hx=>by
    show(!a (f r) (f x))=_
    rw[h r x (.inr List.mem_cons_self) (.inl hx)]
   have e2:acc.filter ((fun o=>a (f r) o)∘f)=acc.filter fun o=>b r o:=List.filter_congr fun x hx=>by
    show a (f r) (f x)=_;rw[h r x (.inr List.mem_cons_self) (.inl hx)]
   rw[e1,e2];rfl
  show(rs.map f).foldl (bT a) (bT a (acc.map f) (f r))=(rs.foldl (bT b) (bT b acc r)).map f
  rw[e];have up:∀ x,(x∈bT b acc r∨x∈rs)→(x∈acc∨x∈r::rs):=fun x hx=>by
   rcases hx with hx|hx
   ·rcases ordStep_mem.mp hx with hx|hx
    ·exact .inl hx
    ·rw[hx]; exact .inr List.mem_cons_self
   ·exact .inr (List.mem_cons_of_mem _ hx)
  exact aBT f rs _ fun x y hx hy=>h x y (up x hx) (up y hy)
theorem aG8 (rs:List Nat):(List.range rs.length).map (lab rs)=rs:=by
 refine List.ext_getElem? fun n=>?_;rw[List.getElem?_map]
 by_cases h:n<rs.length
 ·rw[List.getElem?_range h,List.getElem?_eq_getElem h];show some (lab rs n)=_;rw[a0Y h]
 ·rw[List.getElem?_eq_none (by rw[List.length_range]; omega),List.getElem?_eq_none (by omega)];rfl
theorem aQX {ls:List Ln}{rs:List Nat}(up:rs.Pairwise (·<·))(hr:∀ x∈rs,x<ls.length)(t:Rat):(ord (lsR ls rs) t).map (lab rs)=v5 (ahN ls t) rs:=by
 unfold ord;rw[wG,←wO];unfold v5;rw[← aBT (a:=ahN ls t) (lab rs) (List.range rs.length) [] (fun x y hx hy=>?_),aG8]
 ·rfl
 ·rcases hx with hx|hx
  ·exact nomatch hx
  ·rcases hy with hy|hy
   ·exact nomatch hy
   ·exact(aTR up hr (List.mem_range.mp hx) (List.mem_range.mp hy)).symm
theorem aQD {ls:List Ln}{rs:List Nat}{k:Nat}(hz:LinesOk k ls)(hr:∀ x∈rs,x<ls.length):LinesOk k (lsR ls rs):=fun l hl=>by
 obtain⟨r,hr',rfl⟩:=List.mem_map.mp hl;exact hz _ (List.mem_of_getElem? (a9Z (hr r hr')))
def goR (ds:List Deed)(v t:Rat):List D:=(goX (run ds).ls v t (aHD ds t)).1
theorem aRF (u:Rat)(x y:Nat):ixD (a91 u x y) (.int 0)=some (bO u):=rfl
theorem aS9 (u:Rat)(x y:Nat):ixD (a91 u x y) (.int 1)=some (.int (x:Int)):=rfl
theorem aRZ (u:Rat)(x y:Nat):ixD (a91 u x y) (.int 2)=some (.int (y:Int)):=rfl
theorem aG3 (ls:List Ln)(v:Rat):∀(m:Nat) (t:Rat) (xs:List Nat),(goP ls v m t xs).length≤m
 | 0,_,_=>Nat.le_refl _
 | m+1,t,xs=>by
  unfold goP
  cases ff (gF ls t xs) with
  | none=>exact Nat.zero_le _
  | some c=>
   obtain⟨k,u⟩:=c;dsimp only
   by_cases h:v<u
   ·rw[if_pos h]; exact Nat.zero_le _
   ·rw[if_neg h,List.length_cons];have:=aG3 ls v m u (swp xs k);omega
theorem aKR {ls:List Ln}{xs:List Nat}(h:xs.length≤10):yO ls xs≤100:=Nat.le_trans (aA7 _ xs) (Nat.mul_le_mul h h)
theorem aLE {ls:List Ln}{v t:Rat}{xs:List Nat}(h:xs.length≤10):(goX ls v t xs).1.length≤100:=by
 have e:(goX ls v t xs).1=_:=aJ8 ls v _ t _;rw[e,List.length_map];exact Nat.le_trans (aG3 ls v _ t xs) (aKR h)
section
variable {c cF cW w:Addr}{a:RA}{es:List D}{ds:List Deed}{now:Option Rat}{Q:Rv→RS→Prop}
theorem aUV {Γ:En}{K:D→En→Prop}{v:Rat}(h0:Γ[0]?=some (.box ((cJ c cF).box w (rcS a es ds now))))(h1:Γ[1]?=some (.val (bO v)))(h:K (bO (now.getD v)) Γ):if isN (rcS a es ds now).now=true then aO 1 Γ K else tG c cF 0 Γ K:=by
 cases now with
 | none=>exact a5U (a8S h1 h)
 | some n=>exact a2W (aBV h0 h)
theorem aFX {v:Rat}(h:LogG ds)(h8:(run ds).rs.length≤10)(hn:∀ n,now=some n→n≤v∧Sz 900 n)(hv:Sz 900 v)(q:Q (.own (goR ds v (now.getD v))) (rcS a es ds (some v))) :
  a2F c cF cW w (rcS a es ds now) [.val (bO v)] Q:=by
 have ro:=pL ds;have hst:now.getD v≤v∧Sz 900 (now.getD v):=by
  cases now with
  | none=>exact⟨Rat.le_refl,hv⟩
  | some n=>exact hn n rfl
 have lz:=aQD h.sz ro.lt;have ll:=wG (run ds).ls (run ds).rs;have en:fZ ((run ds).rs.map (run ds).at)=fZ (lsR (run ds).ls (run ds).rs):=rfl;have hm:∀ x∈ord (lsR (run ds).ls (run ds).rs) (now.getD v),x<(run ds).rs.length:=fun x hx=>by rw[← ll]; exact(a8R _ _ x).mp hx
 have hg:goR ds v (now.getD v)=(goP (lsR (run ds).ls (run ds).rs) v (yO (lsR (run ds).ls (run ds).rs) (ord (lsR (run ds).ls (run ds).rs) (now.getD v))) (now.getD v) (ord (lsR (run ds).ls (run ds).rs) (now.getD v))).map fun p=>a91 p.1 (lab (run ds).rs p.2.1) (lab (run ds).rs p.2.2):=by
  unfold goR aHD;rw[← aQX ro.up ro.lt,aSY ro.up ro.lt v _ hm]
 refine a1O ?_;unfold aGN;walk_at "!,sĬ:ā2)";refine a2D hn hv ?_;walk_at "!OO(š.ě#Ţ";refine aUV (by with_unfolding_all rfl) (by with_unfolding_all rfl) ?_;rw[hg] at q;generalize now.getD v=st at *;obtain⟨h1,h2⟩:=hst;walk_at "!(:ţ";refine aMP ?_;walk_at "!hč#Ť";refine aEE h ?_;rw[en];generalize hL:lsR (run ds).ls (run ds).rs=L at *;have pm:=aGL L v (yO L (ord L st)) st (ord L st);walk_at "!#";refine⟨a1E L,rfl,?_⟩;walk_at "!%";refine⟨fZ L,cI (ord L st),rfl,by rw[a2N]; omega,a1E L,rfl,aC8 _,aCX lz (by omega) (h2.mono (by decide)) rfl,fun p d l1 l2=>?_⟩;skip;refine aS5 (by with_unfolding_all rfl) ?_;refine aPD (s:=⟨d,l1,l2,[],.none,[]⟩) lz (by omega) (WkOk.start (h2.mono (by decide))) h1 (hv.mono (by decide)) ?_;have eg:(goX L v st (ord L st)).1=(goP L v (yO L (ord L st)) st (ord L st)).map fun p=>a91 p.1 p.2.1 p.2.2:=aJ8 L v _ st _;have gl:(goX L v st (ord L st)).1.length≤1000:=Nat.le_trans (aLE (by rw[aEG]; omega)) (by decide);rw[eg] at gl ⊢;generalize goP L v (yO L (ord L st)) st (ord L st)=ps at *;walk_at "!,#Ń%ń(:";refine a0B (w:=w) (s:=rcS a es ds (some v)) (by with_unfolding_all rfl) (.inl rfl) (by show(cQ _).length<64; rw[kds_len]; omega) ?_;rw[show(rcS a es ds (some v)).fs.kds=cQ (run ds) from rfl,a0Q ro];walk_at "!#ďq";refine⟨gl,?_⟩;refine jG (α:=Rat×Nat×Nat) (fun _=>true) (fun p=>a91 p.1 (lab (run ds).rs p.2.1) (lab (run ds).rs p.2.2)) (fun p=>a91 p.1 p.2.1 p.2.2) ps [] _ (fun p hp _ k k0 g1 g0=>?_) ?_
 ·obtain⟨m1,m2⟩:=pm p hp;have m1:=hm _ m1;have m2:=hm _ m2;walk_at "!?";unfold qJ;walk_at "!9@*";refine cC (aRF _ _ _) ?_;walk_at "!34%*";refine cC (aS9 _ _ _) ?_;skip;refine cC (aE8 m1) ?_;walk_at "!34%*";refine cC (aRZ _ _ _) ?_;skip;refine cC (aE8 m2) ?_;walk_at "!0";rw[← a0Y m1,←a0Y m2];exact g1 rfl
 ·rw[List.filter_eq_self.mpr fun _ _=>rfl,List.nil_append];walk_at "!=";exact q
end
section
variable {p:Addr}{n:Nat}{Q:Rv→Nat→Prop}
theorem aF8 {kd:Int}(hn:n<900000)(q:∀(r:Rat) n',G1 (2^45) r∧a1T r→n'≤n+5→Q (.val (bO r)) n'):lC p n [.val (.int kd)] Q:=by
 refine a1O ?_;unfold tV;walk_at "!{KĄ#";refine iC (fun c=>?_) (fun c=>?_)
 ·walk_at "!B@-J";refine fB (by decide) (by decide) (by omega) fun a a0 a1=>?_;walk_at "!$V0=";rw[aB9];refine q _ _ ?_ (by omega);have:=And.intro (aHH (a:=a-3) (b:=1) (B:=2^45) (by omega) (by decide) (by decide)) (aLS (a:=a-3) (b:=1) (by omega) (by decide) (by decide));rwa[dI (t:=a-3) (b:=1) (q:=((a-3:Int):Rat)) (by decide) (by rw[show((1:Int):Rat)=1 from rfl]; grind)] at this
 ·unfold t7;walk_at "!/ď~&-J";refine fB (by decide) (by decide) (by omega) fun a a0 a1=>?_;walk_at "!$&-$J";refine fB (by decide) (by decide) (by omega) fun b b0 b1=>?_;walk_at "!)";refine a69 (by omega) (aQQ (by omega) (by omega)) ?_;walk_at "!=";exact q _ _ ⟨aHH (by omega) (by omega) (by omega),aLS (by omega) (by omega) (by omega)⟩ (by omega)
end
section
variable {Q:Rv→Prop}{s:Rn}{t:Rat}{i j:Nat}
theorem aMT (hs:RnOk s)(hz:LinesOk 200 s.ls)(hi:i∈s.rs)(hj:j∈s.rs)(ha:ahN s.ls t j i=false)(ht:Sz 2900 t)(q:Q (.val (a8U (mF s.ls t i j)))) :
  rG [.val (.dict (dkD (cQ s))),.val (.int (i:Int)),.val (.int (j:Int)),.val (bO t)] Q:=by
 have e1:=tH hs hi;have e2:=tH hs hj;have d1:=tX hi;have d2:=tX hj;obtain⟨z1,z2⟩:=hz.get e1;obtain⟨z3,z4⟩:=hz.get e2;unfold mF at q;rw[if_neg (by rw[ha]; decide),aF9 e1 e2] at q;unfold nxC at q;generalize s.at i=l at *;generalize s.at j=k at *;refine nD ?_;unfold wY;walk_at "!_4#c";refine yM d1 ?_;walk_at "!$H&4c";refine yM d2 ?_;walk_at "!$H&ĉ$)";refine a79 (.inr rfl) (z2.mono (by decide)) (z4.mono (by decide)) ?_;rw[aAM];walk_at "!{Uj#";refine iC (fun c=>?_) (fun c=>?_)
 ·have c:l.2-k.2=0:=num_zero.mp c;rw[if_pos (by grind)] at q;walk_at "!1A";exact q
 ·have c:l.2-k.2≠0:=fun z=>c (num_zero.mpr z);rw[if_neg (by grind)] at q;have s1:Sz 401 (l.2-k.2):=(z2.sub z4).mono (by decide);have s2:Sz 401 (k.1-l.1):=(z3.sub z1).mono (by decide);obtain⟨b0,b1⟩:=id s1;obtain⟨c0,c1⟩:=id s2;unfold vW;walk_at "!>_4#c";refine yM d2 ?_;walk_at "!$x&4c";refine yM d1 ?_;walk_at "!$x&ĉ$)";refine a79 (.inr rfl) (z3.mono (by decide)) (z1.mono (by decide)) ?_;rw[aAM];walk_at "!_S&TGUą+";refine yW (Int.mul_ne_zero (dO _) (a6K c)) ((c1.mul b0).mono (by decide)) ?_;rw[aE4 _ c];have em:(k.1-l.1)/(l.2-k.2)=mt l k:=rfl;rw[em];have sm:Sz 802 (mt l k):=(s2.div s1 c).mono (by decide);walk_at "!14zV8`Ņf";refine aF4 (ht.mono (by decide)) (sm.mono (by decide)) ?_;walk_at "!#"
  by_cases d:t<mt l k
  ·rw[decide_eq_true d];rw[if_pos d] at q;refine cC (d:=bO (mt l k)) rfl ?_;skip;exact q
  ·rw[decide_eq_false d];rw[if_neg d] at q;refine cC (d:=.none) rfl ?_;skip;exact q
theorem a6R (hs:RnOk s)(hz:LinesOk 200 s.ls)(hl:s.rs.length≤60)(ht:Sz 2900 t)(q:Q (.own (aI6 s.ls t (v5 (ahN s.ls t) s.rs)))) :
  jC [.val (.dict (dkD (cQ s))),.val (bO t)] Q:=by
 refine nD ?_;unfold pW;walk_at "!ię0,ČĢ:ņ%";refine aP1 (by rw[kds_len]; omega) ?_;rw[a0Q hs];walk_at "!#";refine a0M (fun n Γ=>∃ a b,Γ=[.val (.dict (dkD (cQ s))),.val (bO t),.own (cI (v5 (ahN s.ls t) (s.rs.take n))),a,b]) ⟨_,_,rfl⟩ ?_ ?_
 ·rintro n d Γ K hd ⟨a,b,rfl⟩ hk;obtain⟨o,ho,rfl⟩:=aAR hd;have ho':o∈s.rs:=List.mem_of_getElem? ho;have hlt:=hs.lt o ho';have e1:=tH hs ho';obtain⟨z1,z2⟩:=hz.get e1;have tk:s.rs.take (n+1)=s.rs.take n++[o]:=by rw[List.take_succ,ho]; rfl
  have hk3:=hk.nx;rw[tk,a1J] at hk3;have hno:o∉s.rs.take n:=by
   have:=hs.nd.sublist (List.take_sublist (n+1) s.rs);rw[tk] at this;have:=(List.nodup_append.mp this).2.2;exact fun hm=>this o hm o (List.mem_singleton.mpr rfl) rfl
  have hsrt:=a3S (fD s.ls t) (rs:=s.rs.take n) (fun x hx=>hs.lt x (List.mem_of_mem_take hx)) (hs.nd.sublist (List.take_sublist n s.rs));have hxm:∀ x∈v5 (ahN s.ls t) (s.rs.take n),x∈s.rs∧x≠o:=fun x hx=>by
   have hx:=ordL_mem.mp hx;exact⟨List.mem_of_mem_take hx,fun e=>hno (by rw[← e]; exact hx)⟩
  have hlen:(v5 (ahN s.ls t) (s.rs.take n)).length≤60:=by
   rw[oN,List.length_take];omega
  generalize hxs:v5 (ahN s.ls t) (s.rs.take n)=xs at *;have hxn:∀ x∈xs,x<s.ls.length∧x≠o:=fun x hx=>⟨hs.lt x (hxm x hx).1,(hxm x hx).2⟩;have ft:=a0X (fD s.ls t) hlt hxn hsrt;have fe:(xs.filter fun x=>ahN s.ls t x o)=xs.filter fun x => !ahN s.ls t o x:=by
   refine List.filter_congr fun x hx=>?_;rw[(fD s.ls t).flip hlt (hxn x hx).1 (Ne.symm (hxn x hx).2)]
  have fl:(xs.filter fun x => !ahN s.ls t o x).length≤xs.length:=List.length_filter_le _ _;unfold qC;walk_at "!?ĴĬĝ:q";refine⟨by rw[j5]; omega,?_⟩;refine jG (α:=Nat) (fun x=>ahN s.ls t x o) (fun x=>.int (x:Int)) (fun x=>.int (x:Int)) xs [] _ (fun x hx _ k k0 h1 h0=>?_) ?_
  ·have hx':=(hxm x hx).1;have e2:=tH hs hx';obtain⟨z3,z4⟩:=hz.get e2;walk_at "!?.pX+";refine aLI (tX hx') (tX ho') (z3.mono (by decide)) (z4.mono (by decide)) (z1.mono (by decide)) (z2.mono (by decide)) ht ?_;rw[← pR e2 e1]
   cases hb:ahN s.ls t x o with
   | true=>walk_at "!9%"; exact h1 hb
   | false=>walk_at "!b"; exact h0 hb
  ·rw[List.nil_append,fe];generalize hF:(xs.filter fun x => !ahN s.ls t o x)=ys at *;skip;refine cC (d:=.int (ys.length:Int)) (by show some (PyData.int ((ys.map _).length:Int))=_; rw[List.length_map]) ?_;walk_at "!OO%";refine aKF (ds:=cI xs) rfl (by omega) (by omega) (by rw[j5]; omega) ?_;have ei:a2B (cI xs) (ys.length:Int) (.int (o:Int))=cI (bT (ahN s.ls t) xs o):=by
    unfold cI;rw[← aB0 (fun i:Nat=>PyData.int (i:Int)),aGS fl,ft.1,ft.2];unfold bT;rw[hF];simp
   rw[ei];exact hk3 _ ⟨_,_,rfl⟩
 ·rintro Γ ⟨a,b,rfl⟩;rw[j5,List.take_length];have hsrt:=a3S (fD s.ls t) hs.lt hs.nd;have hm:∀ x∈v5 (ahN s.ls t) s.rs,x∈s.rs:=fun x hx=>ordL_mem.mp hx;have hlen:(v5 (ahN s.ls t) s.rs).length≤60:=by rw[oN]; exact hl
  generalize v5 (ahN s.ls t) s.rs=xs at *;unfold qK;walk_at "!ĵaĩť%hĳ%Ġ$ġ#";rw[aGQ];have e:aDP (cI xs) ((cI xs).drop 1)=(yF xs).map a78:=by
   unfold aDP cI yF;rw[← List.map_drop,List.zip_map,List.map_map];exact List.map_congr_left fun p _=>rfl
  rw[e];refine⟨by rw[List.length_map,qX]; omega,?_⟩;refine jG (α:=Nat×Nat) (fun _=>true) (fun p=>lK s.ls t p.1 p.2) a78 (yF xs) [] _ (fun p hp _ k k0 h1 h0=>?_) ?_
  ·obtain⟨n,hn,rfl⟩:=zF hp;have m1:=hm _ (List.getElem_mem (show n<xs.length by omega));have m2:=hm _ (List.getElem_mem hn);have hab:=List.pairwise_iff_getElem.mp hsrt n (n+1) (by omega) hn (by omega);have hba:ahN s.ls t xs[n+1] xs[n]=false:=(fD s.ls t).asymm _ _ (hs.lt _ m1) (hs.lt _ m2) hab;unfold a78;walk_at "!ģć?ć?Ĥ#";unfold qJ;walk_at "!9^883pX+";refine aMT hs hz m1 m2 hba ht ?_;walk_at "!`";exact h1 rfl
  ·have ef:List.filter (fun _=>true) (yF xs)=yF xs:=List.filter_eq_self.mpr fun _ _=>rfl;rw[ef,List.nil_append];exact q
theorem aLD {d:Deed}(ro:RnOk s)(dk:d.ok s)(dz:DeedZ d)(rz:LinesOk 200 s.ls)(hl:s.rs.length≤60)(q:Q (.box (bDk (cQ (stp s d))))):mQ [.val (.dict (dkD (cQ s))),.val (eY d),.val (.int (s.ls.length:Int))] Q:=by
 refine nD ?_;unfold wU;walk_at "!i#Ŧ%";refine aSZ ?_;walk_at "!I"
 cases d with
 | join t p m=>
  obtain⟨z1,z2,z3⟩:=dz;have z1:=G1.sz (k:=60) z1 (by decide) (by decide);have z2:=G1.sz (k:=60) z2 (by decide) (by decide);have z3:=G1.sz (k:=60) z3 (by decide) (by decide);refine cC (d:=.str "join") rfl ?_;walk_at "!$";refine aK3 gJ ?_;walk_at "!Ň@d";refine cC (d:=bO p) rfl ?_;walk_at "!&d";refine cC (d:=bO m) rfl ?_;walk_at "!N";refine cC (d:=bO t) rfl ?_;walk_at "!)";refine a93 (z3.mono (by decide)) (z1.mono (by decide)) ?_;walk_at "!&ĉ$+";refine a79 (.inr rfl) (z2.mono (by decide)) ((z3.mul z1).mono (by decide)) ?_;rw[aAM];walk_at "!36";refine cC (d:=bO m) rfl ?_;walk_at "!0ň%";refine aPN (by with_unfolding_all rfl) (by rw[kds_len]; omega) ?_;have e:qR (cQ s) (s.ls.length:Int) (.tuple [bO (p-m*t),bO m])=cQ (stp s (.join t p m)):=aBA ro t p m;rw[e];unfold jV;walk_at "!a";exact q
 | leave t r=>
  refine cC (d:=.str "leave") rfl ?_;walk_at "!$";refine aFO gL gJ rfl ?_;walk_at "!|.E6";refine cC (d:=.str "leave") rfl ?_;walk_at "!$";refine aK3 gL ?_;walk_at "!s#ŧ*";refine cC (d:=.int (r:Int)) rfl ?_;refine aT1 (by with_unfolding_all rfl) (tX dk) ?_;skip;rw[a7G s t r];unfold jV;walk_at "!a";exact q
 | turn t r m=>
  obtain⟨z1,z3⟩:=dz;have z1:=G1.sz (k:=60) z1 (by decide) (by decide);have z3:=G1.sz (k:=60) z3 (by decide) (by decide);obtain⟨z4,z5⟩:=rz.get (tH ro dk);refine cC (d:=.str "turn") rfl ?_;walk_at "!$";refine aFO gT' gJ rfl ?_;walk_at "!|.E6";refine cC (d:=.str "turn") rfl ?_;walk_at "!$";refine aFO gT' gL rfl ?_;walk_at "!_#Ũ*";refine cC (d:=.int (r:Int)) rfl ?_;refine aSG (by with_unfolding_all rfl) (tX dk) ?_;walk_at "!N";refine cC (d:=bO t) rfl ?_;walk_at "!)";refine a4H (z4.mono (by decide)) (z5.mono (by decide)) (z1.mono (by decide)) ?_;walk_at "!#Ň@D&d";refine cC (d:=bO m) rfl ?_;walk_at "!N";refine cC (d:=bO t) rfl ?_;walk_at "!)";refine a93 (z3.mono (by decide)) (z1.mono (by decide)) ?_;walk_at "!&ĉ$+";refine a79 (.inr rfl) ((z4.add (z5.mul z1)).mono (by decide)) ((z3.mul z1).mono (by decide)) ?_;rw[aAM];walk_at "!36";refine cC (d:=bO m) rfl ?_;walk_at "!0ň*";refine cC (d:=.int (r:Int)) rfl ?_;refine aPN (by with_unfolding_all rfl) (by rw[kds_len]; omega) ?_;have e:qR (cQ s) (r:Int) (.tuple [bO (pl (s.at r) t-m*t),bO m])=cQ (stp s (.turn t r m)):=aB8 ro dk;rw[e];unfold jV;walk_at "!a";exact q
end
theorem a2O {q:Rat}(h:a1T q):G1 (2^45) q:=by
 have e:Rat.divInt q.num q.den=q:=Rat.num_divInt_den q;have hd:=q.den_pos;rw[← e];exact aHH (by have:=h.1; omega) (by omega) (by have:=h.2; omega)
theorem aLO {ds:List Deed}(h:∀ d∈ds,a8H d):∀ l∈(run ds).ls,a1T l.2:=by
 have st:∀(s:Rn) (d:Deed),(∀ l∈s.ls,a1T l.2)→a8H d→∀ l∈(stp s d).ls,a1T l.2:=fun s d hs hd l hl=>by
  cases d with
  | join t p m=>
   rcases List.mem_append.mp hl with z|z
   ·exact hs l z
   ·rw[List.mem_singleton.mp z]; exact hd.2.2
  | leave t r=>exact hs l hl
  | turn t r m=>
   rcases List.mem_or_eq_of_mem_set hl with z|z
   ·exact hs l z
   ·rw[z]; exact hd.2
 have aux:∀(ds:List Deed) (s:Rn),(∀ l∈s.ls,a1T l.2)→(∀ d∈ds,a8H d)→∀ l∈(ds.foldl stp s).ls,a1T l.2:=by
  intro ds
  induction ds with
  | nil=>exact fun s hs _=>hs
  | cons d ds ih=>exact fun s hs hd=>ih (stp s d) (st s d hs (hd d List.mem_cons_self)) fun e he=>hd e (List.mem_cons_of_mem _ he)
 exact aux ds ⟨[],[]⟩ (fun l hl=>nomatch hl) h
theorem a65 (xs:List Nat):PyData.eqv (.list (cI xs)) (.list [])=decide (xs=[]):=by
 cases xs with
 | nil=>rfl
 | cons x xs=>rw[decide_eq_false (fun h=>nomatch h)]; rfl
theorem a7U:Good (.list []):=(aB4 (n:=0) (ds:=[]) fun _ h=>nomatch h).good
theorem aH6 {xs:List Nat}{k r:Nat}(h:xs[k]?=some r):(cI xs)[k]?=some (.int (r:Int)):=by
 unfold cI;rw[List.getElem?_map,h];rfl
theorem zH (xs:List Nat):aN2 (.list (cI xs))=some (.int (xs.length:Int)):=by
 show some (PyData.int ((cI xs).length:Int))=_;rw[j5]
section
variable {p:Addr}{n:Nat}{Q:Rv→Nat→Prop}
theorem aTE {ds:List Deed}{T pp mm x:Rat}{l:Ln}{kd w:Int}{jd:D}{x11:Sl}{K:Fl→Prop}(hn:n<900000)
  (hK:∀ mm':Rat,mm'=mm∨mm'=l.2→K (.nx [.box (penF.box p (n+1)),.val (.dict (dkD (cQ (run ds)))),.val jd,.val (bO T),.val (.int kd),.val (.int w),.val (.list (cI (run ds).rs)),.val (bO pp),.val (bO mm'),.val (fX l),.val (bO x),x11])) :
  nR [.box (penF.box p n),.val (.dict (dkD (cQ (run ds)))),.val jd,.val (bO T),.val (.int kd),.val (.int w),.val (.list (cI (run ds).rs)),.val (bO pp),.val (bO mm),.val (fX l),.val (bO x),x11] K:=by
 unfold nR;walk_at "!vC4z83*H`J";refine fB (by decide) (by decide) (by omega) fun y y0 y1=>?_;have:y=0∨y=1:=by omega
 rcases this with rfl|rfl
 ·refine cC (d:=bO mm) rfl ?_;skip;exact hK mm (.inl rfl)
 ·refine cC (d:=bO l.2) rfl ?_;skip;exact hK l.2 (.inr rfl)
theorem aPW {ds:List Deed}{T:Rat}{kd:Int}{jd:D}(lb:LogB ds)(hl:ds.length≤40)(nT:a1T T)(hn:n<800000)
  (q:∀(d:Deed) n',d.ok (run ds)→d.few (run ds)→DeedZ d→a8H d→d.t=T→n'≤n+20→Q (.val (eY d)) n') :
  rA p n [.val (.dict (dkD (cQ (run ds)))),.val jd,.val (bO T),.val (.int kd)] Q:=by
 have zT:=a2O nT;have ro:=pL ds;have rl:=a2R ds;have sn:=aLO lb.nm;have rz:=aK6 lb.ok lb.z hl;have r3:∀(w:Int) (pp mm:Rat) (n':Nat) (x9 x10 x11:Sl),a1T pp→a1T mm→n'≤n+15→o9 [.box (penF.box p n'),.val (.dict (dkD (cQ (run ds)))),.val jd,.val (bO T),.val (.int kd),.val (.int w),.val (.list (cI (run ds).rs)),.val (bO pp),.val (bO mm),x9,x10,x11] fun fl=>match fl with
   | .rt rv=>∃ rv0 s',rv=.box (bKp penF rv0 p s')∧Q rv0 s'
   | .nx Γ=>∃ s',Γ[0]?=some (.box (penF.box p s'))∧Q (.val .none) s'
   | _=>False:=fun w pp mm n' x9 x10 x11 h1 h2 hn'=>by
  have rest:(run ds).rs≠[]→oE [.box (penF.box p n'),.val (.dict (dkD (cQ (run ds)))),.val jd,.val (bO T),.val (.int kd),.val (.int w),.val (.list (cI (run ds).rs)),.val (bO pp),.val (bO mm),x9,x10,x11] fun fl=>match fl with
    | .rt rv=>∃ rv0 s',rv=.box (bKp penF rv0 p s')∧Q rv0 s'
    | .nx Γ=>∃ s',Γ[0]?=some (.box (penF.box p s'))∧Q (.val .none) s'
    | _=>False:=fun c=>by
   have hpos:0<(run ds).rs.length:=List.length_pos_iff.mpr c;unfold oE;walk_at "!(4%đĝ%";refine cC (zH _) ?_;walk_at "!Z";refine fB (by omega) (by omega) (by omega) fun u u0 u1=>?_;obtain⟨k,rfl⟩:∃ k:Nat,u=(k:Int):=⟨u.toNat,by omega⟩;have hk:k<(run ds).rs.length:=by omega
   have hr:(run ds).rs[k]?=some (run ds).rs[k]:=List.getElem?_eq_getElem hk;walk_at "!#";refine cC (qL (aH6 hr)) ?_;walk_at "!{KĄ#";refine iC (fun _=>?_) (fun _=>?_)
   ·walk_at "!B^V880=";exact q (.leave T (run ds).rs[k]) _ (List.mem_of_getElem? hr) trivial zT nT rfl (by omega)
   ·unfold uQ;walk_at "!/B^V8880=";exact q (.turn T (run ds).rs[k] mm) _ (List.mem_of_getElem? hr) trivial ⟨zT,a2O h2⟩ ⟨nT,h2⟩ rfl (by omega)
  have jn:(run ds).rs.length<8→Q (.val (eY (.join T pp mm))) n':=fun h8=>q (.join T pp mm) _ trivial h8 ⟨zT,a2O h1,a2O h2⟩ ⟨nT,h1,h2⟩ rfl (by omega);unfold o9;walk_at "!7Ā.E%u";refine⟨a6G _,a7U,?_⟩;rw[a65];refine iC (fun c=>?_) (fun c=>?_)
  ·walk_at "!9B^V8880=";exact jn (by rw[c]; decide)
  ·walk_at "!W-K#";refine iC (fun c2=>?_) (fun c2=>?_)
   ·walk_at "!.-Y";refine cC (zH _) ?_;walk_at "!A";refine iC (fun c3=>?_) (fun c3=>?_)
    ·walk_at "!B^V8880=";exact jn (by omega)
    ·walk_at "!/";exact rest c
   ·walk_at "!b/";exact rest c
 refine a1O ?_;unfold xK;walk_at "!(J";refine fB (by decide) (by decide) (by omega) fun w w0 w1=>?_;walk_at "!(:ņ%";refine aP1 (by rw[kds_len]; omega) ?_;rw[a0Q ro];walk_at "!(r2Z";refine aF8 (by omega) fun pp n1 g1 hn1=>?_;walk_at "!(r2Z";refine aF8 (by omega) fun mm n2 g2 hn2=>?_;walk_at "!7Wn%u";refine⟨a6G _,a7U,?_⟩;rw[a65];refine a9V (fun c=>?_) (fun c=>?_)
 ·walk_at "!.EJ";refine fB (by decide) (by decide) (by omega) fun v v0 v1=>?_;walk_at "!j";refine iC (fun c2=>?_) (fun c2=>?_)
  ·have hpos:0<(run ds).rs.length:=List.length_pos_iff.mpr c;walk_at "!(#į4%đĝ%";refine cC (zH _) ?_;walk_at "!Z";refine fB (by omega) (by omega) (by omega) fun u u0 u1=>?_;obtain⟨k,rfl⟩:∃ k:Nat,u=(k:Int):=⟨u.toNat,by omega⟩;have hk:k<(run ds).rs.length:=by omega
   have hr:(run ds).rs[k]?=some (run ds).rs[k]:=List.getElem?_eq_getElem hk;have hrm:=List.mem_of_getElem? hr;have eg:=tH ro hrm;obtain⟨z1,z2⟩:=rz.get eg;have nl:=sn _ (List.mem_of_getElem? eg);walk_at "!#";refine cC (qL (aH6 hr)) ?_;skip;refine yM (tX hrm) ?_;generalize (run ds).at (run ds).rs[k]=l at *;walk_at "!(f";refine a4H (z1.mono (by decide)) (z2.mono (by decide)) ((G1.sz (k:=60) zT (by decide) (by decide)).mono (by decide)) ?_;generalize pl l T=x at *;walk_at "!7W-ăUA";refine iC (fun c3=>?pl1) (fun c3=>?pl2)
   case' pl1=>
    walk_at "!.-GA";refine iC (fun c4=>?pl3) (fun c4=>?pl4)
   case pl3=>
    with_reducible apply aP0
    with_reducible apply aQA
    with_reducible refine a8S (by with_unfolding_all rfl) ?_
    refine aTE (by omega) fun mm' hmm=>?_;exact r3 _ _ _ _ _ _ _ ⟨by split at c3<;>omega,by omega⟩ (by rcases hmm with rfl|rfl; exact g2.2; exact nl) (by omega)
   case pl4=>
    with_reducible apply aQP
    refine aTE (by omega) fun mm' hmm=>?_;exact r3 _ _ _ _ _ _ _ g1.2 (by rcases hmm with rfl|rfl; exact g2.2; exact nl) (by omega)
   case pl2=>
    first
    | with_reducible apply aQP
    | (refine a2W ?_; with_reducible apply aQP)
    refine aTE (by omega) fun mm' hmm=>?_;exact r3 _ _ _ _ _ _ _ g1.2 (by rcases hmm with rfl|rfl; exact g2.2; exact nl) (by omega)
  ·walk_at "!/";exact r3 _ _ _ _ _ _ _ g1.2 g2.2 (by omega)
 ·walk_at "!b/";exact r3 _ _ _ _ _ _ _ g1.2 g2.2 (by omega)
end
theorem aC5 {Γ:En}{nm:String}{ps:List D}(h:∀ d∈ps,aET (pZ d) nm=true){Q:List D→Prop}(q:Q (ps.map fun _=>.bool true)):wX (gN 0) qJ (aCO nm (aO 0)) (aJ2 1 [] Γ) ps [] Q:=by
 have cf:=jG (α:=D) (mg:=gN 0) (mt:=qJ) (me:=aCO nm (aO 0)) (Γb:=aJ2 1 [] Γ) (fun _=>true) (fun _=>.bool true) (fun d=>d) ps [] Q (fun d hd K k k0 k1 k2=>by
  walk_at "!?";unfold qJ;walk_at "!9Ė";rw[h d hd];exact k1 rfl) (by rw[List.nil_append,List.filter_eq_self.mpr fun _ _=>rfl]; exact q)
 rwa[List.map_id'] at cf
theorem a3G (ps:List D):v8 (ps.map fun _=>PyData.bool true)=some (ps.map fun _=>true):=by
 rw[show(ps.map fun _=>PyData.bool true)=(ps.map fun _=>true).map PyData.bool by rw[List.map_map]; rfl];exact aDD _
theorem a8O {ds:List Deed}(h:Few ds):∀ k,(run (ds.take k)).rs.length≤8
 | 0=>Nat.zero_le _
 | k+1=>by
  have ih:=a8O h k;rw[List.take_succ]
  cases he:ds[k]? with
  | none=>rw[Option.toList_none,List.append_nil]; exact ih
  | some d=>
   have hf:=h k d he;rw[Option.toList_some,vC]
   cases d with
   | join t p m=>
    show(_++[_]:List Nat).length≤8
    rw[List.length_append,List.length_singleton];exact hf
   | leave t r=>exact Nat.le_trans (List.length_filter_le _ _) ih
   | turn t r m=>exact ih
structure Gn (xs:List D):Prop where
 g:∀ d∈xs,Gd 2 d
 nl:bV xs=true
 tp:∀ d∈xs,aET (pZ d) "tuple" = true
 n:xs.length≤100
theorem aBR:Gn []:=⟨fun _ h=>(nomatch h),rfl,fun _ h=>(nomatch h),Nat.zero_le _⟩
theorem a3C {p:D→Bool}:∀{xs:List D},bV xs=true→bV (xs.filter p)=true
 | [],_=>rfl
 | x::xs,h=>by
  have h:(eN x&&bV xs)=true:=h;obtain⟨h1,h2⟩:=Bool.and_eq_true_iff.mp h;have ih:=a3C (p:=p) h2;rw[List.filter_cons]
  split
  ·show(eN x&&bV (xs.filter p))=true
   rw[h1,ih]; rfl
  ·exact ih
theorem aJU {xs ys:List D}(h:Gn xs):Gn (aEP xs ys):=
 ⟨fun d hd=>h.g d (List.mem_filter.mp hd).1,a3C h.nl,fun d hd=>h.tp d (List.mem_filter.mp hd).1,Nat.le_trans (List.length_filter_le _ _) h.n⟩
theorem aFF {ds:List Deed}(h:(run ds).rs.length≤40)(T:Rat):Gn (aMD ds T):=by
 refine⟨fun d hd=>?_,zA _ _ _,fun d hd=>?_,?_⟩
 ·obtain⟨p,_,rfl⟩:=List.mem_map.mp hd;exact a9F _ _ _ _
 ·obtain⟨p,_,rfl⟩:=List.mem_map.mp hd;rfl
 ·unfold aMD aHD;rw[List.length_map,qX,oN];omega
theorem aOB {xs ys:List D}(h1:Gn xs)(h2:Gn ys):Good (.tuple [.list xs,.list ys]):=(aEF (n:=3) fun d hd=>by
 simp only[List.mem_cons,List.not_mem_nil,or_false] at hd;rcases hd with rfl|rfl
 ·exact aB4 (n:=2) h1.g
 ·exact aB4 (n:=2) h2.g).good
theorem aEK {m:MO}{Γ:En}{Q:Rv→En→Prop}(h:m (a0O Γ) fun rv Γ1=>(∃ B,rv=.box B∧B.Cut)∧Γ1=a0O Γ∧Q rv Γ):aB5 m Γ Q:=h
section
variable {c cF cW w:Addr}{a:RA}{es:List D}{ds:List Deed}{now:Option Rat}
theorem aE0 {Q:Rv→Prop}(q:Q (.box (aHP a.gn a.cm))):iH c cF cW [.pub (mJ c cF w (rcS a es ds now))] Q:=by
 refine nD ?_;unfold tQ;walk_at "!a";refine aRE ?_;walk_at "!ī#";refine aHU (by with_unfolding_all rfl) ?_;walk_at "!#";refine⟨_,rfl,?_⟩;walk_at "!ī#";refine aIK (by with_unfolding_all rfl) ?_;walk_at "!#";refine⟨_,rfl,?_⟩;exact q
theorem a3R {Q:Rv→RS→Prop}(h1:Gn a.gn)(h2:Gn a.cm)(q:Q (.val (.bool true)) (rcS a es ds now)) :
  cV c cF cW w (rcS a es ds now) [.val (.tuple [.list a.gn,.list a.cm])] Q:=by
 have gt:=aOB h1 h2;have ct:(aHP a.gn a.cm).Cut:=aIG h1.nl h2.nl;have tell:∀{Q':Rv→Prop},Q' (.box (aHP a.gn a.cm))→iH c cF cW [.pub (mJ c cF w (rcS a es ds now))] Q':=fun q=>aE0 q;refine a1O ?_;unfold u5;walk_at "!i#";refine aEK ?_;walk_at "!ā)";refine tell ?_;walk_at "!#";refine⟨⟨_,rfl,ct⟩,rfl,?_⟩;walk_at "!7ĚLtĀ.nY";refine cC (d:=.int 2) rfl ?_;walk_at "!j";refine a9V (fun h=>absurd rfl h) (fun _=>?_);walk_at "!.ny";refine⟨gt,gt,rfl,eqF gt ?_⟩;walk_at "!/";unfold pF;walk_at "!,";refine aOU (by with_unfolding_all rfl) (by decide) ?_;unfold oZ;walk_at "!7ĚLtP#Ĩ:q";refine⟨Nat.le_trans h1.n (by decide),aC5 h1.tp ?_⟩;rw[a3G];refine⟨rfl,?_⟩;rw[show(a.gn.map fun _=>true).all id=true by simp];refine a2W ?_;walk_at "!/";unfold pK;walk_at "!ħ$";refine aFN (by with_unfolding_all rfl) (Nat.lt_of_le_of_lt h1.n (by decide)) ?_;walk_at "!7ĚLtPĨ:q";refine⟨Nat.le_trans h2.n (by decide),aC5 h2.tp ?_⟩;rw[a3G];refine⟨rfl,?_⟩;rw[show(a.cm.map fun _=>true).all id=true by simp];refine a2W ?_;walk_at "!>ħ$";refine aFN (by with_unfolding_all rfl) (Nat.lt_of_le_of_lt h2.n (by decide)) ?_;walk_at "!#";unfold pG;walk_at "!BE:";refine aEK ?_;walk_at "!ā)";refine tell ?_;walk_at "!#";refine⟨⟨_,rfl,ct⟩,rfl,?_⟩;walk_at "!O%";refine⟨gt,gt,?_⟩;rw[show(aHP a.gn a.cm).view.getD PyData.none=.tuple [.list a.gn,.list a.cm] from rfl,yX gt];walk_at "!=";exact q
end
theorem aDW {a b c:Int}(hc:0<c)(h:a≤b):Rat.divInt a c≤Rat.divInt b c:=by
 rw[Rat.divInt_eq_div,Rat.divInt_eq_div];have hc':(0:Rat)<(c:Rat):=by exact_mod_cast hc
 have h':(a:Rat)≤(b:Rat):=by exact_mod_cast h
 rw[Rat.div_def,Rat.div_def];exact Rat.mul_le_mul_of_nonneg_right h' (Rat.le_of_lt (Rat.inv_pos.mpr hc'))
theorem aTA {m p B:Int}(hp:1≤p)(hB:0≤B)(h:m≤B):Rat.divInt m p≤(B:Rat):=by
 apply Classical.byContradiction;intro c;have h1:Rat.divInt m p*(p:Rat)=(m:Rat):=by
  rw[Rat.divInt_eq_div,Rat.div_mul_cancel];intro z;have:p=0:=by exact_mod_cast z
  omega
 have p1:(1:Rat)≤(p:Rat):=by exact_mod_cast hp
 have b0:(0:Rat)≤(B:Rat):=by exact_mod_cast hB
 have h':(m:Rat)≤(B:Rat):=by exact_mod_cast h
 have a1:=Rat.mul_nonneg (show 0≤Rat.divInt m p-(B:Rat) by grind) (show 0≤(p:Rat)-1 by grind);have a2:=Rat.mul_nonneg b0 (show 0≤(p:Rat)-1 by grind);grind
def jn:Deed→Nat
 | .join _ _ _=>1
 | _=>0
theorem aQH (s:Rn)(d:Deed):((s.ls.length:Int)+(jn d:Int))=((stp s d).ls.length:Int):=by
 cases d with
 | join t p m=>
  show _=(((s.ls++[_]).length:Nat):Int);rw[List.length_append,List.length_singleton];rfl
 | leave t r=>exact Int.add_zero _
 | turn t r m=>
  show _=(((s.ls.set r _).length:Nat):Int);rw[List.length_set];exact Int.add_zero _
abbrev eG (c cF pen L w0 w1:Addr)(kd pa tn:Int)(n:Nat)(E:List Deed)(a0 a1:RA)(m0 m1:Option Rat)(x9 x10 x11 x12 x13 x14:Sl):En:=
 [.no,.box (penF.box pen n),.val (.int kd),.val (.int pa),.val (.int tn),.box (bW2 (cJ c cF) L w0 w1 (rcS a0 (E.map eY) E m0) (rcS a1 [] [] m1)),.val (.dict (dkD (cQ (run E)))),.val (.int ((run E).ls.length:Int)),.val (.tuple [.list a0.gn,.list a0.cm]),x9,x10,x11,x12,x13,x14]
structure GpI (i:Nat)(E:List Deed)(pa tn:Int)(a0 a1:RA)(m0 m1:Option Rat)(n:Nat):Prop where
 len:E.length=i
 lb:LogB E
 up:∀ d∈E,d.t≤Rat.divInt tn pa
 tz:tn.natAbs≤20+5*i
 h0:∀ m,m0=some m→m≤Rat.divInt tn pa∧Sz 900 m
 h1:∀ m,m1=some m→m≤Rat.divInt tn pa∧Sz 900 m
 gn:Gn a0.gn
 cm:Gn a0.cm
 e0:a1.gn=[]
 e1:a1.cm=[]
 n0:n≤10+40*i
theorem aSU:LogG []:=⟨fun n d h=>(by cases n<;>cases h),List.Pairwise.nil,fun d h=>absurd h List.not_mem_nil,by decide⟩
theorem aND (E:List Deed)(T:Rat):aI6 (run E).ls T (v5 (ahN (run E).ls T) (run E).rs)=aMD E T:=rfl
section
variable {c cF cW pen L w0 w1:Addr}{kd pa tn:Int}{n:Nat}{E:List Deed}{a0 a1:RA}{m0 m1:Option Rat}{x9 x11 x12 x13 x14:Sl}{K:Fl→Prop}
theorem aBG {xs ys:List D}(hx:Gn xs)(hy:Gn ys){Γb:En}{Q:List D→Prop}(hΓ:Γb=[.no,.val (.list ys)])(q:Q (aEP xs ys)):wX (gN 0) (dF (mIn true (aO 0) (aO 1))) (aO 0) Γb xs [] Q:=by
 subst hΓ;have hx':=fun x h=>(hx.g x h).good;have hy':Goods ys:=aBD (n:=2) hy.g;rw[show xs=xs.map id from(List.map_id xs).symm];refine jG (α:=D) (fun x => !(ys.any fun y=>PyData.eqv y x)) id id xs [] _ (fun x hx1 _ k k0 h1 h0=>?_) (by rw[List.nil_append,List.map_id]; exact q);walk_at "!?.Ły";refine⟨hx' x hx1,hy',?_⟩;rw[if_pos rfl]
 cases hb:(ys.any fun e=>PyData.eqv e x) with
 | true=>exact(show(if (!(ys.any fun e=>PyData.eqv e x))=true then _ else k0) by rw[hb]; exact h0 (by rw[hb]; rfl))
 | false=>exact(show(if (!(ys.any fun e=>PyData.eqv e x))=true then aO 0 _ _ else k0) by rw[hb]; walk_at "!ł%"; exact h1 (by rw[hb]; rfl))
theorem aB7 {w:Addr}{a:RA}{es:List D}{ds:List Deed}{now:Option Rat}{Q:Rv→RS→Prop}(e0:a.gn=[])(e1:a.cm=[])(q:Q (.val (.bool true)) (rcS a es ds now)) :
  cV c cF cW w (rcS a es ds now) [.val (.tuple [.list [],.list []])] Q:=by
 have h:=a3R (c:=c) (cF:=cF) (cW:=cW) (w:=w) (a:=a) (by rw[e0]; exact aBR) (by rw[e1]; exact aBR) q;rwa[e0,e1] at h
theorem aUY {T:Rat}(lb:LogB E)(hl:E.length<40)(up:∀ d∈E,d.t≤T)(nT:a1T T)(hm:∀ m,m0=some m→m≤T∧Sz 900 m)(hn:n<700000)
  (hK:∀ d a' n' y11 y12 y13 y14,LogB (E++[d])→d.t=T→Gn a'.gn→Gn a'.cm→n'≤n+20→K (.nx (eG c cF pen L w0 w1 kd pa tn n' (E++[d]) a' a1 (some T) m1 x9 (.val (bO T)) y11 y12 y13 y14))) :
  rJ c cF cW (eG c cF pen L w0 w1 kd pa tn n E a0 a1 m0 m1 x9 (.val (bO T)) x11 x12 x13 x14) K:=by
 have g0:LogG E:=⟨lb.ok,lb.up,lb.z,by omega⟩;have h8:=g0.rs;have zT:Sz 60 T:=G1.sz (a2O nT) (by decide) (by decide);unfold rJ;walk_at "!(rXXZ";refine aPW lb (by omega) nT (by omega) fun d n' dok dfew dz dn dt hn'=>?_;have lb1:=lb.snoc dok dfew (fun e he=>by rw[dt]; exact up e he) dz dn;have ln1:(E++[d]).length≤40:=by rw[List.length_append,List.length_singleton]; omega
 have g1:LogG (E++[d]):=⟨lb1.ok,lb1.up,lb1.z,ln1⟩;have h81:=g1.rs;have p0:=aFF (ds:=E) (by omega) T;have p1:=aFF (ds:=E++[d]) (by omega) T;walk_at "!(f";refine a6R (pL E) g0.sz (by omega) (zT.mono (by decide)) ?_;rw[aND];walk_at "!(po";refine aLD (pL E) dok dz g0.sz (by omega) ?_;obtain⟨st,h1,hg,h2⟩:∃ st:Str,ixD (eY d) (.int 0)=some (.str st)∧Good (.str st)∧(if PyData.eqv (.str st) (.str "join")=true then(1:Int) else 0)=(jn d:Int):=by
  cases d with
  | join t p m=>exact⟨_,rfl,gJ,rfl⟩
  | leave t r=>exact⟨_,rfl,gL,rfl⟩
  | turn t r m=>exact⟨_,rfl,gT',rfl⟩
 walk_at "!O(-%ŅE6";refine cC h1 ?_;walk_at "!$";refine⟨hg,gJ,?_⟩;rw[h2,aQH,←vC];walk_at "!(f";refine a6R (pL _) g1.sz (by omega) (zT.mono (by decide)) ?_;rw[aND];walk_at "!,sk";refine a4B rfl (.inl rfl) ?_;walk_at "!2[";refine a3A rfl rfl ?_;refine aPO lb1 ln1 (fun m h=>by rw[dt]; exact hm m h) fun a' ha1 ha2=>?_;rw[dt] at ha1 ha2 ⊢;walk_at "!vC@:q";refine⟨Nat.le_trans p0.n (by decide),aBG p0 p1 (by with_unfolding_all rfl) ?_⟩;walk_at "!3:q";refine⟨Nat.le_trans p1.n (by decide),aBG p1 p0 (by with_unfolding_all rfl) ?_⟩;walk_at "!0";rw[← ha1,←ha2];exact hK d a' n' _ _ _ _ lb1 dt (by rw[ha1]; exact aJU p0) (by rw[ha2]; exact aJU p1) hn'
end
theorem law_true (c cF cW pen:Addr):a07 c cF cW (.no::.box (penF.box pen 1)::List.replicate 13 .no) uA:=by
 unfold a07;walk_at "!(TJ";refine fB (by decide) (by decide) (by omega) fun a a0 a1=>?_;walk_at "!A";refine⟨⟨by decide,by decide⟩,?_⟩;generalize a/2=kd;walk_at "!(4zl3-$J";refine fB (by decide) (by decide) (by omega) fun b b0 b1=>?_;walk_at "!0J";refine fB (by decide) (by decide) (by omega) fun g g0 g1=>?_;walk_at "!#";obtain⟨pa,hpa,p1,p12⟩:∃ pa:Int,ixD (.list [.int 1,.int 1,.int (1+b)]) (.int g)=some (.int pa)∧1≤pa∧pa≤12:=by
  have:g=0∨g=1∨g=2:=by omega
  rcases this with rfl|rfl|rfl
  ·exact⟨1,rfl,by decide,by decide⟩
  ·exact⟨1,rfl,by decide,by decide⟩
  ·exact⟨1+b,rfl,by omega,by omega⟩
 refine cC hpa ?_;walk_at "!(-J";refine fB (by decide) (by decide) (by omega) fun e e0 e1=>?_;walk_at "!$i#";refine aOY ?_;walk_at "!#";refine aHM fun w0 d ld f lg lc fd fp=>?_;rw[show rs0 d ld f lg lc fd fp=rcS ⟨d,ld,f,lg,lc,fd,fp,[],[],.none⟩ ([].map eY) [] none from rfl];obtain⟨A0,hA0,hA1⟩:∃ A0:RA,A0=⟨d,ld,f,lg,lc,fd,fp,[],[],.none⟩∧A0.gn=[]:=⟨_,rfl,rfl⟩;have hA2:A0.cm=[]:=by rw[hA0]
 rw[← hA0];clear hA0;refine⟨_,_,rfl,?_⟩;skip;refine aHM fun w1 d ld f lg lc fd fp=>?_;rw[show rs0 d ld f lg lc fd fp=rcS ⟨d,ld,f,lg,lc,fd,fp,[],[],.none⟩ [] [] none from rfl];obtain⟨B0,hB0,hB1⟩:∃ A0:RA,A0=⟨d,ld,f,lg,lc,fd,fp,[],[],.none⟩∧A0.gn=[]:=⟨_,rfl,rfl⟩;have hB2:B0.cm=[]:=by rw[hB0]
 rw[← hB0];clear hB0;refine⟨_,_,rfl,fun L=>?_⟩;walk_at "!(#ũ($(@u3u0,ČŪ3đ4zllll`J";refine fB (by decide) (by decide) (by omega) fun r r0 r1=>?_;walk_at "!#";obtain⟨m,hm,m0,m21⟩:∃ m:Int,ixD (.list [.int 11,.int 11,.int 11,.int 11,.int 11,.int 11,.int 11,.int 21]) (.int r)=some (.int m)∧0<m∧m≤21:=by
  have:r=0∨r=1∨r=2∨r=3∨r=4∨r=5∨r=6∨r=7:=by omega
  rcases this with rfl|rfl|rfl|rfl|rfl|rfl|rfl|rfl
  ·exact⟨11,rfl,by decide,by decide⟩
  ·exact⟨11,rfl,by decide,by decide⟩
  ·exact⟨11,rfl,by decide,by decide⟩
  ·exact⟨11,rfl,by decide,by decide⟩
  ·exact⟨11,rfl,by decide,by decide⟩
  ·exact⟨11,rfl,by decide,by decide⟩
  ·exact⟨11,rfl,by decide,by decide⟩
  ·exact⟨21,rfl,by decide,by decide⟩
 refine cC hm ?_;walk_at "!Z";refine fB m0 (by omega) (by omega) fun k k0 k1=>?_;walk_at "!ğ#";refine⟨by omega,by omega,?_⟩;refine aEZ (fun i Γ=>∃ E tn a0 a1 t0 t1 n x9 x10 x11 x12 x13 x14,Γ=eG c cF pen L w0 w1 kd pa tn n E a0 a1 t0 t1 x9 x10 x11 x12 x13 x14∧GpI i E pa tn a0 a1 t0 t1 n) ⟨[],e-20,A0,B0,none,none,_,_,_,_,_,_,_,by unfold eG; rw[hA1,hA2]; rfl,⟨rfl,⟨fun n d h=>(by cases n<;>cases h),List.Pairwise.nil,fun d h=>absurd h List.not_mem_nil,fun d h=>absurd h List.not_mem_nil,fun n d h=>(by cases n<;>cases h)⟩,fun d h=>absurd h List.not_mem_nil,by omega,fun m h=>(nomatch h),fun m h=>(nomatch h),by rw[hA1]; exact aBR,by rw[hA2]; exact aBR,hB1,hB2,by omega⟩⟩ ?_ ?_
 ·rintro i Γ K hi ⟨E,tn,a0,a1,t0,t1,n,x9,x10,x11,x12,x13,x14,rfl,gp⟩ hK;have hi:i<21:=by omega
  obtain⟨len,lb,up,tz,h0,h1,gn,cm,z0,z1,n0⟩:=gp;have lg:LogG E:=⟨lb.ok,lb.up,lb.z,by omega⟩;have h8:=a8O lb.few E.length;rw[List.take_length] at h8;unfold a3F;walk_at "!?7Lk";refine a4B rfl (.inl rfl) ?_;walk_at "!2[";refine a3A rfl rfl (a3R gn cm ?_);walk_at "!RPk";refine a4B rfl (.inr rfl) ?_;walk_at "!&@u3u0[";refine aHG rfl rfl (aB7 z0 z1 ?_);walk_at "!R/";unfold a2X;walk_at "!(-%4zlll`J";refine fB (by decide) (by decide) (by omega) fun f f0 f1=>?_;walk_at "!#";obtain⟨st,hst,s0,s5⟩:∃ st:Int,ixD (.list [.int 0,.int 1,.int 2,.int 1,.int 0,.int 5]) (.int f)=some (.int st)∧0≤st∧st≤5:=by
   have:f=0∨f=1∨f=2∨f=3∨f=4∨f=5:=by omega
   rcases this with rfl|rfl|rfl|rfl|rfl|rfl
   ·exact⟨0,rfl,by decide,by decide⟩
   ·exact⟨1,rfl,by decide,by decide⟩
   ·exact⟨2,rfl,by decide,by decide⟩
   ·exact⟨1,rfl,by decide,by decide⟩
   ·exact⟨0,rfl,by decide,by decide⟩
   ·exact⟨5,rfl,by decide,by decide⟩
  refine cC hst ?_;walk_at "!(f";refine a69 (by omega) (aQQ (by omega) (by omega)) ?_;have nT:a1T (Rat.divInt (tn+st) pa):=aLS (by omega) p1 p12;have le:Rat.divInt tn pa≤Rat.divInt (tn+st) pa:=aDW (by omega) (by omega);have zT:Sz 900 (Rat.divInt (tn+st) pa):=(G1.sz (k:=60) (a2O nT) (by decide) (by decide)).mono (by decide);have up':∀ d∈E,d.t≤Rat.divInt (tn+st) pa:=fun d hd=>Rat.le_trans (up d hd) le;have h0':∀ m,t0=some m→m≤Rat.divInt (tn+st) pa∧Sz 900 m:=fun m h=>⟨Rat.le_trans (h0 m h).1 le,(h0 m h).2⟩;have h1':∀ m,t1=some m→m≤Rat.divInt (tn+st) pa∧Sz 900 m:=fun m h=>⟨Rat.le_trans (h1 m h).1 le,(h1 m h).2⟩;have fin:∀(u0 u1:Option Rat) (x11 x12 x13 x14:Sl) (n':Nat),n'≤n+3→(∀ m,u0=some m→m≤Rat.divInt (tn+st) pa∧Sz 900 m)→(∀ m,u1=some m→m≤Rat.divInt (tn+st) pa∧Sz 900 m)→rJ c cF cW (eG c cF pen L w0 w1 kd pa (tn+st) n' E a0 a1 u0 u1 (.val (.int (0+(i:Int)))) (.val (bO (Rat.divInt (tn+st) pa))) x11 x12 x13 x14) K:=fun u0 u1 x11 x12 x13 x14 n' hn' hu0 hu1=>
   aUY lb (by omega) up' nT hu0 (by omega) fun d a' n2 y11 y12 y13 y14 lb1 dt g1 g2 hn2=>hK.nx _ ⟨E++[d],tn+st,a',a1,_,u1,n2,_,_,_,_,_,_,rfl,⟨by rw[List.length_append,List.length_singleton,len],lb1,fun e he=>by
    rcases List.mem_append.mp he with z|z
    ·exact up' e z
    ·rw[List.mem_singleton.mp z,dt]; exact Rat.le_refl,by omega,fun m h=>by cases h; exact⟨Rat.le_refl,zT⟩,hu1,g1,g2,z0,z1,by omega⟩⟩
  generalize Rat.divInt (tn+st) pa=T at *;walk_at "!{J";refine fB (by decide) (by decide) (by omega) fun v v0 v1=>?_;walk_at "!j";refine iC (fun cc=>?_) (fun cc=>?_)
  ·walk_at "!,sk";refine a4B rfl (.inl rfl) ?_;walk_at "!2[";refine a3A rfl rfl (aFX lg (by omega) h0' zT ?_);walk_at "!,sk";refine a4B rfl (.inr rfl) ?_;walk_at "!2[";refine aHG rfl rfl (aFX aSU (by decide) h1' zT ?_);walk_at "!|Pk";refine a4B rfl (.inl rfl) ?_;walk_at "!2[";refine a3A rfl rfl (a3R gn cm ?_);walk_at "!R/";exact fin _ _ _ _ _ _ _ (by omega) (fun m h=>by cases h; exact⟨Rat.le_refl,zT⟩) (fun m h=>by cases h; exact⟨Rat.le_refl,zT⟩)
  ·walk_at "!/";exact fin _ _ _ _ _ _ _ (by omega) h0' h1'
 ·rintro Γ ⟨E,tn,a0,a1,t0,t1,n,x9,x10,x11,x12,x13,x14,rfl,gp⟩;obtain⟨len,lb,up,tz,h0,h1,gn,cm,z0,z1,n0⟩:=gp;have lg:LogG E:=⟨lb.ok,lb.up,lb.z,by omega⟩;have h8:=a8O lb.few E.length;rw[List.take_length] at h8;have le:Rat.divInt tn pa≤((1000:Int):Rat):=aTA p1 (by decide) (by omega);unfold a3J;walk_at "!,sk";refine a4B rfl (.inl rfl) ?_;walk_at "!&^l0[";rw[aB9];refine a3A rfl rfl (aFX lg (by omega) (fun m h=>⟨Rat.le_trans (h0 m h).1 le,(h0 m h).2⟩) ?_ ?_)
  ·have:=(Sz.divInt (k:=900) (t:=1000) (b:=1) (aQQ (by decide) (by decide)) (aQQ (by decide) (by decide)) (by decide));rwa[dI (t:=1000) (b:=1) (q:=((1000:Int):Rat)) (by decide) (by rw[show((1:Int):Rat)=1 from rfl]; grind)] at this
  walk_at "!1ek";refine a4B rfl (.inl rfl) ?_;walk_at "!2[";refine a3A rfl rfl (a3R gn cm ?_);walk_at "!9k";refine a4B rfl (.inr rfl) ?_;walk_at "!&@u3u0[";refine aHG rfl rfl (aB7 z0 z1 ?_);walk_at "!#";rfl
theorem ln1 {α:Type}{us:List α}(h:us.length=1):∃ x0,us=[x0]:=by
 match us,h with
 | [_],_=>exact⟨_,rfl⟩
theorem ln2 {α:Type}{us:List α}(h:us.length=2):∃ x0 x1,us=[x0,x1]:=by
 match us,h with
 | [_,_],_=>exact⟨_,_,rfl⟩
theorem ln3 {α:Type}{us:List α}(h:us.length=3):∃ x0 x1 x2,us=[x0,x1,x2]:=by
 match us,h with
 | [_,_,_],_=>exact⟨_,_,_,rfl⟩
theorem ln4 {α:Type}{us:List α}(h:us.length=4):∃ x0 x1 x2 x3,us=[x0,x1,x2,x3]:=by
 match us,h with
 | [_,_,_,_],_=>exact⟨_,_,_,_,rfl⟩
theorem ln5 {α:Type}{us:List α}(h:us.length=5):∃ x0 x1 x2 x3 x4,us=[x0,x1,x2,x3,x4]:=by
 match us,h with
 | [_,_,_,_,_],_=>exact⟨_,_,_,_,_,rfl⟩
theorem aRV {K:Fg}{h:Heap}{mg:Mg}(X:K.In h)(G:h.Ns mainGlobals mg)
  (z_len:PySem.W.nsIn K mainGlobals "len" = some none)
  (z_abs:PySem.W.nsIn K mainGlobals "abs" = some none)
  (z_range:PySem.W.nsIn K mainGlobals "range" = some none)
  (z_isinstance:PySem.W.nsIn K mainGlobals "isinstance" = some none)
  (z_int:PySem.W.nsIn K mainGlobals "int" = some none)
  (z_bool:PySem.W.nsIn K mainGlobals "bool" = some none)
  (z_tuple:PySem.W.nsIn K mainGlobals "tuple" = some none)
  (z_max:PySem.W.nsIn K mainGlobals "max" = some none)
  (z_min:PySem.W.nsIn K mainGlobals "min" = some none)
  (z_list:PySem.W.nsIn K mainGlobals "list" = some none)
  (z_all:PySem.W.nsIn K mainGlobals "all" = some none)
  (z_any:PySem.W.nsIn K mainGlobals "any" = some none)
  (z_sorted:PySem.W.nsIn K mainGlobals "sorted" = some none)
  (z_zip:PySem.W.nsIn K mainGlobals "zip" = some none)
  (z_set:PySem.W.nsIn K mainGlobals "set" = some none)
  (z_sum:PySem.W.nsIn K mainGlobals "sum" = some none)
  (z_str:PySem.W.nsIn K mainGlobals "str" = some none)
  (z_enumerate:PySem.W.nsIn K mainGlobals "enumerate" = some none)
  (kt_int_bool:PySem.W.kitOne K (.type "int") (.type "bool")=some false)    (kt_bool_int:PySem.W.kitOne K (.type "bool") (.type "int")=some true):Bl K mg:=⟨PySem.W.mg_none_of X G z_len,PySem.W.mg_none_of X G z_abs,PySem.W.mg_none_of X G z_range,PySem.W.mg_none_of X G z_isinstance,PySem.W.mg_none_of X G z_int,PySem.W.mg_none_of X G z_bool,PySem.W.mg_none_of X G z_tuple,PySem.W.mg_none_of X G z_max,PySem.W.mg_none_of X G z_min,PySem.W.mg_none_of X G z_list,PySem.W.mg_none_of X G z_all,PySem.W.mg_none_of X G z_any,PySem.W.mg_none_of X G z_sorted,PySem.W.mg_none_of X G z_zip,PySem.W.mg_none_of X G z_set,PySem.W.mg_none_of X G z_sum,PySem.W.mg_none_of X G z_str,PySem.W.mg_none_of X G z_enumerate,kt_int_bool,kt_bool_int⟩
theorem aN8 {K:Fg}
  (kt_NoneType_bool:PySem.W.kitOne K (.type "NoneType") (.type "bool")=some false)
  (kt_NoneType_int:PySem.W.kitOne K (.type "NoneType") (.type "int")=some false)
  (kt_NoneType_str:PySem.W.kitOne K (.type "NoneType") (.type "str")=some false)
  (kt_NoneType_list:PySem.W.kitOne K (.type "NoneType") (.type "list")=some false)
  (kt_NoneType_tuple:PySem.W.kitOne K (.type "NoneType") (.type "tuple")=some false)
  (kt_NoneType_dict:PySem.W.kitOne K (.type "NoneType") (.type "dict")=some false)
  (kt_bool_NoneType:PySem.W.kitOne K (.type "bool") (.type "NoneType")=some false)
  (kt_bool_int:PySem.W.kitOne K (.type "bool") (.type "int")=some true)
  (kt_bool_str:PySem.W.kitOne K (.type "bool") (.type "str")=some false)
  (kt_bool_list:PySem.W.kitOne K (.type "bool") (.type "list")=some false)
  (kt_bool_tuple:PySem.W.kitOne K (.type "bool") (.type "tuple")=some false)
  (kt_bool_dict:PySem.W.kitOne K (.type "bool") (.type "dict")=some false)
  (kt_int_NoneType:PySem.W.kitOne K (.type "int") (.type "NoneType")=some false)
  (kt_int_bool:PySem.W.kitOne K (.type "int") (.type "bool")=some false)
  (kt_int_str:PySem.W.kitOne K (.type "int") (.type "str")=some false)
  (kt_int_list:PySem.W.kitOne K (.type "int") (.type "list")=some false)
  (kt_int_tuple:PySem.W.kitOne K (.type "int") (.type "tuple")=some false)
  (kt_int_dict:PySem.W.kitOne K (.type "int") (.type "dict")=some false)
  (kt_str_NoneType:PySem.W.kitOne K (.type "str") (.type "NoneType")=some false)
  (kt_str_bool:PySem.W.kitOne K (.type "str") (.type "bool")=some false)
  (kt_str_int:PySem.W.kitOne K (.type "str") (.type "int")=some false)
  (kt_str_list:PySem.W.kitOne K (.type "str") (.type "list")=some false)
  (kt_str_tuple:PySem.W.kitOne K (.type "str") (.type "tuple")=some false)
  (kt_str_dict:PySem.W.kitOne K (.type "str") (.type "dict")=some false)
  (kt_list_NoneType:PySem.W.kitOne K (.type "list") (.type "NoneType")=some false)
  (kt_list_bool:PySem.W.kitOne K (.type "list") (.type "bool")=some false)
  (kt_list_int:PySem.W.kitOne K (.type "list") (.type "int")=some false)
  (kt_list_str:PySem.W.kitOne K (.type "list") (.type "str")=some false)
  (kt_list_tuple:PySem.W.kitOne K (.type "list") (.type "tuple")=some false)
  (kt_list_dict:PySem.W.kitOne K (.type "list") (.type "dict")=some false)
  (kt_tuple_NoneType:PySem.W.kitOne K (.type "tuple") (.type "NoneType")=some false)
  (kt_tuple_bool:PySem.W.kitOne K (.type "tuple") (.type "bool")=some false)
  (kt_tuple_int:PySem.W.kitOne K (.type "tuple") (.type "int")=some false)
  (kt_tuple_str:PySem.W.kitOne K (.type "tuple") (.type "str")=some false)
  (kt_tuple_list:PySem.W.kitOne K (.type "tuple") (.type "list")=some false)
  (kt_tuple_dict:PySem.W.kitOne K (.type "tuple") (.type "dict")=some false)
  (kt_dict_NoneType:PySem.W.kitOne K (.type "dict") (.type "NoneType")=some false)
  (kt_dict_bool:PySem.W.kitOne K (.type "dict") (.type "bool")=some false)
  (kt_dict_int:PySem.W.kitOne K (.type "dict") (.type "int")=some false)
  (kt_dict_str:PySem.W.kitOne K (.type "dict") (.type "str")=some false)
  (kt_dict_list:PySem.W.kitOne K (.type "dict") (.type "list")=some false)
  (kt_dict_tuple:PySem.W.kitOne K (.type "dict") (.type "tuple")=some false)
  : Kit K:=Kit.mk' (by
  intro a ha b hb;simp only[tyL,List.mem_cons,List.not_mem_nil,or_false] at ha hb;rcases ha with rfl|rfl|rfl|rfl|rfl|rfl|rfl<;>rcases hb with rfl|rfl|rfl|rfl|rfl|rfl|rfl<;>intro e<;>first|assumption|exact absurd e (by decide))
def DfP (K:Fg)(mg:Mg)(x:Str)(st:Stmt):Prop:=∃(f:Addr) (fd:FuncData),Fun K x x st f fd∧mg x=some (.ref f)
theorem cY {K:Fg}{h:Heap}{mg:Mg}(X:K.In h)(G:h.Ns mainGlobals mg){x:Str}{st:Stmt}{f:Addr}{od an:Option Addr}{sl:Array (Option Value)}{oc kV dc pm cd ct:Value}
  (a:PySem.W.nsIn K mainGlobals x=some (some (.ref f))) (l:K.lookup f=some ⟨oc,od,.func (PySem.W.fnOf x x (tM st) (lE st) (aN st) .none kV dc pm an cd ct),sl⟩) (c:PySem.W.codeIn K cd x=true) (k:PySem.W.keepIn K (.ref f)=true):DfP K mg x st:=
 ⟨f,_,aF3 l c k,PySem.W.mg_of X G a⟩
def MeP (K:Fg)(C:Addr)(m q:Str)(st:Stmt):Prop:=∃(f:Addr) (fd:FuncData),Fun K m q st f fd∧Meth K C m f
theorem xG {K:Fg}{C:Addr}{m q:Str}{st:Stmt}{f:Addr}{od an:Option Addr}{sl:Array (Option Value)}{oc kV dc pm cd ct:Value}
  (a:PySem.W.findIn K (.ref C) m=some (some (.ref f))) (n:PySem.W.isFn K (.ref f)=true) (l:K.lookup f=some ⟨oc,od,.func (PySem.W.fnOf m q (tM st) (lE st) (aN st) .none kV dc pm an cd ct),sl⟩) (c:PySem.W.codeIn K cd q=true) (k:PySem.W.keepIn K (.ref f)=true):MeP K C m q st:=⟨f,_,aF3 l c k,a,n,k⟩
def InP (K:Fg)(C:Addr)(q:Str)(st:Stmt):Prop:=∃(f:Addr) (fd:FuncData),Fun K "__init__" q st f fd∧Mk K C f
theorem aMW {K:Fg}{C:Addr}{q:Str}{st:Stmt}{f:Addr}{od an:Option Addr}{sl:Array (Option Value)}{oc kV dc pm cd ct:Value}
  (y:PySem.W.makesIn K C=true) (a:PySem.W.findIn K (.ref C) "__init__" = some (some (.ref f))) (n:PySem.W.isFn K (.ref f)=true) (z:PySem.W.keepIn K (.ref C)=true) (l:K.lookup f=some ⟨oc,od,.func (PySem.W.fnOf "__init__" q (tM st) (lE st) (aN st) .none kV dc pm an cd ct),sl⟩) (c:PySem.W.codeIn K cd q=true) (k:PySem.W.keepIn K (.ref f)=true):InP K C q st:=⟨f,_,aF3 l c k,y,a,n,z⟩
theorem a1A {K:Fg}{C:Addr}{f:Str}(h:PySem.W.findIn K (.ref C) f=some none):NoAttr K C f:=h
section
variable {P:Program}{w:World}{K:Fg}{mg:Mg}{base:Heap}
theorem aA8  (B:Bl K mg)(Kt:Kit K)(d:DfP K mg "is_whole" rE) :
  iK NoP P w K mg base:=by
 obtain⟨f,fd,F,hm⟩:=d;exact⟨f,fd,aA1 F B Kt,hm,F.kp,F.binds fun _ _ _ _ _ _ us hl=>by
  obtain⟨_,rfl⟩:=ln1 hl;rfl⟩
theorem tY  (B:Bl K mg)(Kt:Kit K)(d:DfP K mg "greatest_divisor" dX) :
  cT NoP P w K mg base:=by
 obtain⟨f,fd,F,hm⟩:=d;exact⟨f,fd,tL F B Kt,hm,F.kp,F.binds fun _ _ _ _ _ _ us hl=>by
  obtain⟨_,_,rfl⟩:=ln2 hl;rfl⟩
theorem a7I  (B:Bl K mg)(Kt:Kit K)(d:DfP K mg "number_of" nP)(C_greatest_divisor:cT NoP P w K mg base)(C_is_whole:iK NoP P w K mg base) :
  dN NoP P w K mg base:=by
 obtain⟨f,fd,F,hm⟩:=d;exact⟨f,fd,a5W F B Kt C_greatest_divisor C_is_whole,hm,F.kp,F.binds fun _ _ _ _ _ _ us hl=>by
  obtain⟨_,_,rfl⟩:=ln2 hl;rfl⟩
theorem aGG  (B:Bl K mg)(Kt:Kit K)(d:DfP K mg "sum_of" z9)(C_number_of:dN NoP P w K mg base) :
  a4F NoP P w K mg base:=by
 obtain⟨f,fd,F,hm⟩:=d;exact⟨f,fd,aGZ F B Kt C_number_of,hm,F.kp,F.binds fun _ _ _ _ _ _ us hl=>by
  obtain⟨_,_,rfl⟩:=ln2 hl;rfl⟩
theorem yH  (B:Bl K mg)(Kt:Kit K)(d:DfP K mg "difference_of" gO)(C_number_of:dN NoP P w K mg base) :
  eQ NoP P w K mg base:=by
 obtain⟨f,fd,F,hm⟩:=d;exact⟨f,fd,yN F B Kt C_number_of,hm,F.kp,F.binds fun _ _ _ _ _ _ us hl=>by
  obtain⟨_,_,rfl⟩:=ln2 hl;rfl⟩
theorem a3M  (B:Bl K mg)(Kt:Kit K)(d:DfP K mg "product_of" lM)(C_number_of:dN NoP P w K mg base) :
  iY NoP P w K mg base:=by
 obtain⟨f,fd,F,hm⟩:=d;exact⟨f,fd,a5G F B Kt C_number_of,hm,F.kp,F.binds fun _ _ _ _ _ _ us hl=>by
  obtain⟨_,_,rfl⟩:=ln2 hl;rfl⟩
theorem a1V  (B:Bl K mg)(Kt:Kit K)(d:DfP K mg "quotient_of" jP)(C_number_of:dN NoP P w K mg base) :
  nY NoP P w K mg base:=by
 obtain⟨f,fd,F,hm⟩:=d;exact⟨f,fd,a1R F B Kt C_number_of,hm,F.kp,F.binds fun _ _ _ _ _ _ us hl=>by
  obtain⟨_,_,rfl⟩:=ln2 hl;rfl⟩
theorem aCQ  (B:Bl K mg)(Kt:Kit K)(d:DfP K mg "is_less" uN) :
  dU NoP P w K mg base:=by
 obtain⟨f,fd,F,hm⟩:=d;exact⟨f,fd,aD2 F B Kt,hm,F.kp,F.binds fun _ _ _ _ _ _ us hl=>by
  obtain⟨_,_,rfl⟩:=ln2 hl;rfl⟩
theorem a8E  (B:Bl K mg)(Kt:Kit K)(d:DfP K mg "place_at" rP)(C_sum_of:a4F NoP P w K mg base)(C_product_of:iY NoP P w K mg base) :
  rK NoP P w K mg base:=by
 obtain⟨f,fd,F,hm⟩:=d;exact⟨f,fd,a90 F B Kt C_sum_of C_product_of,hm,F.kp,F.binds fun _ _ _ _ _ _ us hl=>by
  obtain⟨_,_,rfl⟩:=ln2 hl;rfl⟩
theorem a0H  (B:Bl K mg)(Kt:Kit K)(d:DfP K mg "line_through" iU)(C_difference_of:eQ NoP P w K mg base)(C_product_of:iY NoP P w K mg base) :
  sO NoP P w K mg base:=by
 obtain⟨f,fd,F,hm⟩:=d;exact⟨f,fd,a1L F B Kt C_difference_of C_product_of,hm,F.kp,F.binds fun _ _ _ _ _ _ us hl=>by
  obtain⟨_,_,_,rfl⟩:=ln3 hl;rfl⟩
theorem aDJ  (B:Bl K mg)(Kt:Kit K)(d:DfP K mg "meeting" v7)(C_quotient_of:nY NoP P w K mg base)(C_difference_of:eQ NoP P w K mg base) :
  a08 NoP P w K mg base:=by
 obtain⟨f,fd,F,hm⟩:=d;exact⟨f,fd,aDL F B Kt C_quotient_of C_difference_of,hm,F.kp,F.binds fun _ _ _ _ _ _ us hl=>by
  obtain⟨_,_,rfl⟩:=ln2 hl;rfl⟩
theorem a8I  (B:Bl K mg)(Kt:Kit K)(d:DfP K mg "standing" rC)(C_place_at:rK NoP P w K mg base) :
  mY NoP P w K mg base:=by
 obtain⟨f,fd,F,hm⟩:=d;exact⟨f,fd,a9H F B Kt C_place_at,hm,F.kp,F.binds fun _ _ _ _ _ _ us hl=>by
  obtain⟨_,_,_,rfl⟩:=ln3 hl;rfl⟩
theorem a00  (B:Bl K mg)(Kt:Kit K)(d:DfP K mg "stands_ahead" iW)(C_is_less:dU NoP P w K mg base) :
  fK NoP P w K mg base:=by
 obtain⟨f,fd,F,hm⟩:=d;exact⟨f,fd,zP F B Kt C_is_less,hm,F.kp,F.binds fun _ _ _ _ _ _ us hl=>by
  obtain⟨_,_,rfl⟩:=ln2 hl;rfl⟩
theorem a8C  (B:Bl K mg)(Kt:Kit K)(d:DfP K mg "is_ahead" rY)(C_stands_ahead:fK NoP P w K mg base)(C_standing:mY NoP P w K mg base) :
  wL NoP P w K mg base:=by
 obtain⟨f,fd,F,hm⟩:=d;exact⟨f,fd,a9I F B Kt C_stands_ahead C_standing,hm,F.kp,F.binds fun _ _ _ _ _ _ us hl=>by
  obtain⟨_,_,_,_,rfl⟩:=ln4 hl;rfl⟩
theorem a1W  (B:Bl K mg)(Kt:Kit K)(d:DfP K mg "next_change" jR)(C_is_less:dU NoP P w K mg base)(C_meeting:a08 NoP P w K mg base) :
  nM NoP P w K mg base:=by
 obtain⟨f,fd,F,hm⟩:=d;exact⟨f,fd,a1P F B Kt C_is_less C_meeting,hm,F.kp,F.binds fun _ _ _ _ _ _ us hl=>by
  obtain⟨_,_,_,_,rfl⟩:=ln4 hl;rfl⟩
theorem a5V  (B:Bl K mg)(Kt:Kit K)(d:DfP K mg "is_number" nU)(C_greatest_divisor:cT NoP P w K mg base)(C_is_whole:iK NoP P w K mg base) :
  a0Z NoP P w K mg base:=by
 obtain⟨f,fd,F,hm⟩:=d;exact⟨f,fd,a66 F B Kt C_greatest_divisor C_is_whole,hm,F.kp,F.binds fun _ _ _ _ _ _ us hl=>by
  obtain⟨_,rfl⟩:=ln1 hl;rfl⟩
theorem a1Y  (B:Bl K mg)(Kt:Kit K)(d:DfP K mg "order_among" gW)(C_stands_ahead:fK NoP P w K mg base)(C_standing:mY NoP P w K mg base) :
  jW NoP P w K mg base:=by
 obtain⟨f,fd,F,hm⟩:=d;exact⟨f,fd,a1Q F B Kt C_stands_ahead C_standing,hm,F.kp,F.binds fun _ _ _ _ _ _ us hl=>by
  obtain⟨_,_,_,rfl⟩:=ln3 hl;rfl⟩
theorem a8T  (B:Bl K mg)(Kt:Kit K)(d:DfP K mg "order_at" qZ)(C_order_among:jW NoP P w K mg base) :
  a3I NoP P w K mg base:=by
 obtain⟨f,fd,F,hm⟩:=d;exact⟨f,fd,a9W F B Kt C_order_among,hm,F.kp,F.binds fun _ _ _ _ _ _ us hl=>by
  obtain⟨_,_,rfl⟩:=ln2 hl;rfl⟩
theorem a3N  (B:Bl K mg)(Kt:Kit K)(d:DfP K mg "neighbours" lQ) :
  pY NoP P w K mg base:=by
 obtain⟨f,fd,F,hm⟩:=d;exact⟨f,fd,a3X F B Kt,hm,F.kp,F.binds fun _ _ _ _ _ _ us hl=>by
  obtain⟨_,rfl⟩:=ln1 hl;rfl⟩
theorem aCR  (B:Bl K mg)(Kt:Kit K)(d:DfP K mg "till_of" vX)(C_next_change:nM NoP P w K mg base)(C_is_ahead:wL NoP P w K mg base) :
  a1H NoP P w K mg base:=by
 obtain⟨f,fd,F,hm⟩:=d;exact⟨f,fd,aD7 F B Kt C_next_change C_is_ahead,hm,F.kp,F.binds fun _ _ _ _ _ _ us hl=>by
  obtain⟨_,_,_,_,rfl⟩:=ln4 hl;rfl⟩
theorem zY  (B:Bl K mg)(Kt:Kit K)(d:DfP K mg "papers_among" fG)(C_neighbours:pY NoP P w K mg base)(C_till_of:a1H NoP P w K mg base) :
  iV NoP P w K mg base:=by
 obtain⟨f,fd,F,hm⟩:=d;exact⟨f,fd,a0D F B Kt C_neighbours C_till_of,hm,F.kp,F.binds fun _ _ _ _ _ _ us hl=>by
  obtain⟨_,_,_,rfl⟩:=ln3 hl;rfl⟩
theorem yR  (B:Bl K mg)(Kt:Kit K)(d:DfP K mg "first_to_fail" gK)(C_is_less:dU NoP P w K mg base) :
  kO NoP P w K mg base:=by
 obtain⟨f,fd,F,hm⟩:=d;exact⟨f,fd,yI F B Kt C_is_less,hm,F.kp,F.binds fun _ _ _ _ _ _ us hl=>by
  obtain⟨_,rfl⟩:=ln1 hl;rfl⟩
theorem zK  (B:Bl K mg)(Kt:Kit K)(d:DfP K mg "those_not_in" fH) :
  t8 NoP P w K mg base:=by
 obtain⟨f,fd,F,hm⟩:=d;exact⟨f,fd,a0K F B Kt,hm,F.kp,F.binds fun _ _ _ _ _ _ us hl=>by
  obtain⟨_,_,rfl⟩:=ln2 hl;rfl⟩
theorem aCH  (B:Bl K mg)(Kt:Kit K)(d:DfP K mg "_law_pen" uJ) :
  Cal P w K mg base 1 "_law_pen" ["_law_script", "_law_k"] (aBP K):=by
 obtain⟨f,fd,F,hm⟩:=d;exact⟨f,fd,aDG F B,hm,F.kp,F.binds fun _ _ _ _ _ _ us hl=>by
  obtain⟨_,_,rfl⟩:=ln2 hl;rfl⟩
theorem a9L  (B:Bl K mg)(Kt:Kit K)(d:DfP K mg "_law_take" mW) :
  iM NoP P w K mg base:=by
 obtain⟨f,fd,F,hm⟩:=d;exact⟨f,fd,a83 F B,hm,F.kp,F.binds fun _ _ _ _ _ _ us hl=>by
  obtain⟨_,_,rfl⟩:=ln2 hl;rfl⟩
theorem a7F  (B:Bl K mg)(Kt:Kit K)(d:DfP K mg "fail_next" oK)(C_papers_among:iV NoP P w K mg base)(C_is_less:dU NoP P w K mg base)(C_first_to_fail:kO NoP P w K mg base) :
  a03 NoP P w K mg base:=by
 obtain⟨f,fd,F,hm⟩:=d;exact⟨f,fd,a88 F B Kt C_papers_among C_is_less C_first_to_fail,hm,F.kp,F.binds fun _ _ _ _ _ _ us hl=>by
  obtain⟨_,_,_,_,rfl⟩:=ln4 hl;rfl⟩
theorem aCG  (B:Bl K mg)(Kt:Kit K)(d:DfP K mg "is_deed" pQ)(C_is_deed_number:pI NoP P w K mg base)(C_is_whole:iK NoP P w K mg base) :
  a7X NoP P w K mg base:=by
 obtain⟨f,fd,F,hm⟩:=d;exact⟨f,fd,aD9 F B Kt C_is_deed_number C_is_whole,hm,F.kp,F.binds fun _ _ _ _ _ _ us hl=>by
  obtain⟨_,rfl⟩:=ln1 hl;rfl⟩
theorem a4I  (B:Bl K mg)(Kt:Kit K)(d:DfP K mg "_law_lowest" lN) :
  cH NoP P w K mg base:=by
 obtain⟨f,fd,F,hm⟩:=d;exact⟨f,fd,a4S F B Kt,hm,F.kp,F.binds fun _ _ _ _ _ _ us hl=>by
  obtain⟨_,_,rfl⟩:=ln2 hl;rfl⟩
theorem a8D  (B:Bl K mg)(Kt:Kit K)(d:DfP K mg "_law_plus" s8)(C_law_lowest:cH NoP P w K mg base) :
  iQ NoP P w K mg base:=by
 obtain⟨f,fd,F,hm⟩:=d;exact⟨f,fd,a8M F B Kt C_law_lowest,hm,F.kp,F.binds fun _ _ _ _ _ _ us hl=>by
  obtain⟨_,_,_,rfl⟩:=ln3 hl;rfl⟩
theorem a7V  (B:Bl K mg)(Kt:Kit K)(d:DfP K mg "_law_times" nQ)(C_law_lowest:cH NoP P w K mg base) :
  lW NoP P w K mg base:=by
 obtain⟨f,fd,F,hm⟩:=d;exact⟨f,fd,a6F F B Kt C_law_lowest,hm,F.kp,F.binds fun _ _ _ _ _ _ us hl=>by
  obtain⟨_,_,rfl⟩:=ln2 hl;rfl⟩
theorem aAB  (B:Bl K mg)(Kt:Kit K)(d:DfP K mg "_law_less" rM) :
  kY NoP P w K mg base:=by
 obtain⟨f,fd,F,hm⟩:=d;exact⟨f,fd,a9J F B Kt,hm,F.kp,F.binds fun _ _ _ _ _ _ us hl=>by
  obtain⟨_,_,rfl⟩:=ln2 hl;rfl⟩
theorem a6P  (B:Bl K mg)(Kt:Kit K)(d:DfP K mg "_law_small" oM)(C_law_lowest:cH NoP P w K mg base)(C_law_take:iM NoP P w K mg base) :
  pX NoP P w K mg base:=by
 obtain⟨f,fd,F,hm⟩:=d;exact⟨f,fd,a70 F B Kt C_law_lowest C_law_take,hm,F.kp,F.binds fun _ _ _ _ _ _ us hl=>by
  obtain⟨_,_,rfl⟩:=ln2 hl;rfl⟩
theorem a7D  (B:Bl K mg)(Kt:Kit K)(d:DfP K mg "_law_place" nG)(C_law_plus:iQ NoP P w K mg base)(C_law_times:lW NoP P w K mg base) :
  gC NoP P w K mg base:=by
 obtain⟨f,fd,F,hm⟩:=d;exact⟨f,fd,a6U F B Kt C_law_plus C_law_times,hm,F.kp,F.binds fun _ _ _ _ _ _ us hl=>by
  obtain⟨_,_,rfl⟩:=ln2 hl;rfl⟩
theorem a9X  (B:Bl K mg)(Kt:Kit K)(d:DfP K mg "_law_deed" rQ)(C_law_take:iM NoP P w K mg base)(C_law_place:gC NoP P w K mg base)(C_law_small:pX NoP P w K mg base) :
  a04 NoP P w K mg base:=by
 obtain⟨f,fd,F,hm⟩:=d;exact⟨f,fd,a95 F B Kt C_law_take C_law_place C_law_small,hm,F.kp,F.binds fun _ _ _ _ _ _ us hl=>by
  obtain⟨_,_,_,_,_,rfl⟩:=ln5 hl;rfl⟩
theorem a75  (B:Bl K mg)(Kt:Kit K)(d:DfP K mg "_law_ahead" oY)(C_law_less:kY NoP P w K mg base)(C_law_place:gC NoP P w K mg base) :
  q9 NoP P w K mg base:=by
 obtain⟨f,fd,F,hm⟩:=d;exact⟨f,fd,a73 F B Kt C_law_less C_law_place,hm,F.kp,F.binds fun _ _ _ _ _ _ us hl=>by
  obtain⟨_,_,_,_,rfl⟩:=ln4 hl;rfl⟩
theorem aAD  (B:Bl K mg)(Kt:Kit K)(d:DfP K mg "_law_till" rW)(C_law_less:kY NoP P w K mg base)(C_law_lowest:cH NoP P w K mg base)(C_law_plus:iQ NoP P w K mg base) :
  uF NoP P w K mg base:=by
 obtain⟨f,fd,F,hm⟩:=d;exact⟨f,fd,a99 F B Kt C_law_less C_law_lowest C_law_plus,hm,F.kp,F.binds fun _ _ _ _ _ _ us hl=>by
  obtain⟨_,_,_,_,rfl⟩:=ln4 hl;rfl⟩
theorem a4K  (B:Bl K mg)(Kt:Kit K)(d:DfP K mg "_law_papers" gA)(C_law_till:uF NoP P w K mg base)(C_law_ahead:q9 NoP P w K mg base) :
  vL NoP P w K mg base:=by
 obtain⟨f,fd,F,hm⟩:=d;exact⟨f,fd,a5D F B Kt C_law_till C_law_ahead,hm,F.kp,F.binds fun _ _ _ _ _ _ us hl=>by
  obtain⟨_,_,rfl⟩:=ln2 hl;rfl⟩
end
theorem aPM {l:PySem.W.OpenLaw}{w:World}{K:Fg}{mg:Mg}{fa:Addr}(hfa:mg "law" = some (.ref fa))(B:Bl K mg)(Kt:Kit K)
  (d0:DfP K mg "is_whole" rE)
  (d1:DfP K mg "greatest_divisor" dX)
  (d2:DfP K mg "number_of" nP)
  (d3:DfP K mg "sum_of" z9)
  (d4:DfP K mg "difference_of" gO)
  (d5:DfP K mg "product_of" lM)
  (d6:DfP K mg "quotient_of" jP)
  (d7:DfP K mg "is_less" uN)
  (d8:DfP K mg "place_at" rP)
  (d9:DfP K mg "line_through" iU)
  (d10:DfP K mg "meeting" v7)
  (d11:DfP K mg "standing" rC)
  (d12:DfP K mg "stands_ahead" iW)
  (d13:DfP K mg "is_ahead" rY)
  (d14:DfP K mg "next_change" jR)
  (d15:DfP K mg "is_number" nU)
  (d16:DfP K mg "order_among" gW)
  (d17:DfP K mg "order_at" qZ)
  (d18:DfP K mg "neighbours" lQ)
  (d19:DfP K mg "till_of" vX)
  (d20:DfP K mg "papers_among" fG)
  (d21:DfP K mg "first_to_fail" gK)
  (d22:DfP K mg "those_not_in" fH)
  (d23:DfP K mg "_law_pen" uJ)
  (d24:DfP K mg "_law_take" mW)
  (d25:DfP K mg "fail_next" oK)
  (d26:DfP K mg "is_deed_number" jJ)
  (d27:DfP K mg "is_deed" pQ)
  (d28:DfP K mg "log_of" a4T)
  (d29:DfP K mg "_law_lowest" lN)
  (d30:DfP K mg "_law_plus" s8)
  (d31:DfP K mg "_law_times" nQ)
  (d32:DfP K mg "_law_less" rM)
  (d33:DfP K mg "_law_small" oM)
  (d34:DfP K mg "_law_place" nG)
  (d35:DfP K mg "_law_deed" rQ)
  (d36:DfP K mg "_law_done" wR)
  (d37:DfP K mg "_law_ahead" oY)
  (d38:DfP K mg "_law_till" rW)
  (d39:DfP K mg "_law_papers" gA)
  (d40:DfP K mg "_law_right" oG)
  (d41:DfP K mg "law" aFR)
  {c cF cW:Addr} (hmR:mg "Race" = some (.ref c)) (clR:Cls K c) (nR_deeds:NoAttr K c "deeds") (nR_field:NoAttr K c "field") (nR_now:NoAttr K c "now") (nR_gone:NoAttr K c "gone") (nR_come:NoAttr K c "come") (mIR:InP K c "Race.__init__" a4M) (meR_order:MeP K c "order" "Race.order" a0L) (meR_papers:MeP K c "papers" "Race.papers" vZ) (meR_refuse_earlier:MeP K c "refuse_earlier" "Race.refuse_earlier" gP) (meR_do:MeP K c "do" "Race.do" aDR) (meR_go:MeP K c "go" "Race.go" aBQ) (meR_changed:MeP K c "changed" "Race.changed" uC) (hmF:mg "Field" = some (.ref cF)) (clF:Cls K cF) (nF_running:NoAttr K cF "running") (nF_joined:NoAttr K cF "joined") (nF_last:NoAttr K cF "last") (mIF:InP K cF "Field.__init__" a5I) (meF_runners:MeP K cF "runners" "Field.runners" tK) (meF_add_runner:MeP K cF "add_runner" "Field.add_runner" mG) (meF_do:MeP K cF "do" "Field.do" aF1) (meF_allows:MeP K cF "allows" "Field.allows" wD) (meF_lines_running:MeP K cF "lines_running" "Field.lines_running" vI) (hmW:mg "Walk" = some (.ref cW)) (clW:Cls K cW) (nW_lines:NoAttr K cW "lines") (nW_now:NoAttr K cW "now") (nW_listed:NoAttr K cW "listed") (mIW:InP K cW "Walk.__init__" a3T) (meW_step_by:MeP K cW "step_by" "Walk.step_by" tR) (meW_go:MeP K cW "go" "Walk.go" aFQ) {tk_MOST_RUNNERS:Tok} (hg_MOST_RUNNERS:mg "MOST_RUNNERS" = some (.int 8 tk_MOST_RUNNERS)) {tk_MOST_DEEDS:Tok} (hg_MOST_DEEDS:mg "MOST_DEEDS" = some (.int 40 tk_MOST_DEEDS)) {tk_GREATEST_TOP:Tok} (hg_GREATEST_TOP:mg "GREATEST_TOP" = some (.int 999999999 tk_GREATEST_TOP)) {tk_GREATEST_BOTTOM:Tok} (hg_GREATEST_BOTTOM:mg "GREATEST_BOTTOM" = some (.int 12 tk_GREATEST_BOTTOM)) (hn_dict:mg "dict" = none)
  (hL:∀ c cF cW pen,(a07 c cF cW) (.no::.box (penF.box pen 1)::List.replicate 13 .no) uA) :
  ∃ fd:FuncData,(∀(s:Shared) (v:Value),BindsTo s fd ⟨[v],[]⟩ [("_law_script", v)])∧∀ base:Heap,K.In base→base.Ns mainGlobals mg→FnOk l.prog w K mg base CX0 13 fa fd ["_law_script"] (aIO K):=by
 obtain⟨f,fd,F,hm⟩:=d41
 cases hfa.symm.trans hm
 refine⟨fd,?_,fun base _ _=>?_⟩
 ·obtain⟨oc,od,kV,doc,pm,an,cdv,ct,osl,rfl,lk,hcd⟩:=F.ex;exact fun s v=>.of_eq rfl
 obtain⟨fi_R,fdi_R,FI_R,M_R⟩:=mIR;obtain⟨f_R_order,fd_R_order,F_R_order,M_R_order⟩:=meR_order;obtain⟨f_R_papers,fd_R_papers,F_R_papers,M_R_papers⟩:=meR_papers;obtain⟨f_R_refuse_earlier,fd_R_refuse_earlier,F_R_refuse_earlier,M_R_refuse_earlier⟩:=meR_refuse_earlier;obtain⟨f_R_do,fd_R_do,F_R_do,M_R_do⟩:=meR_do;obtain⟨f_R_go,fd_R_go,F_R_go,M_R_go⟩:=meR_go;obtain⟨f_R_changed,fd_R_changed,F_R_changed,M_R_changed⟩:=meR_changed;obtain⟨fi_F,fdi_F,FI_F,M_F⟩:=mIF;obtain⟨f_F_runners,fd_F_runners,F_F_runners,M_F_runners⟩:=meF_runners;obtain⟨f_F_add_runner,fd_F_add_runner,F_F_add_runner,M_F_add_runner⟩:=meF_add_runner;obtain⟨f_F_do,fd_F_do,F_F_do,M_F_do⟩:=meF_do;obtain⟨f_F_allows,fd_F_allows,F_F_allows,M_F_allows⟩:=meF_allows;obtain⟨f_F_lines_running,fd_F_lines_running,F_F_lines_running,M_F_lines_running⟩:=meF_lines_running;obtain⟨fi_W,fdi_W,FI_W,M_W⟩:=mIW;obtain⟨f_W_step_by,fd_W_step_by,F_W_step_by,M_W_step_by⟩:=meW_step_by
 obtain⟨f_W_go,fd_W_go,F_W_go,M_W_go⟩:=meW_go;have C_is_whole:=aA8 (P:=l.prog) (w:=w) (base:=base) B Kt d0;have C_greatest_divisor:=tY (P:=l.prog) (w:=w) (base:=base) B Kt d1;have C_number_of:=a7I (P:=l.prog) (w:=w) (base:=base) B Kt d2 C_greatest_divisor C_is_whole;have C_sum_of:=aGG (P:=l.prog) (w:=w) (base:=base) B Kt d3 C_number_of;have C_difference_of:=yH (P:=l.prog) (w:=w) (base:=base) B Kt d4 C_number_of;have C_product_of:=a3M (P:=l.prog) (w:=w) (base:=base) B Kt d5 C_number_of;have C_quotient_of:=a1V (P:=l.prog) (w:=w) (base:=base) B Kt d6 C_number_of;have C_is_less:=aCQ (P:=l.prog) (w:=w) (base:=base) B Kt d7;have C_place_at:=a8E (P:=l.prog) (w:=w) (base:=base) B Kt d8 C_sum_of C_product_of;have C_line_through:=a0H (P:=l.prog) (w:=w) (base:=base) B Kt d9 C_difference_of C_product_of;have C_meeting:=aDJ (P:=l.prog) (w:=w) (base:=base) B Kt d10 C_quotient_of C_difference_of;have C_standing:=a8I (P:=l.prog) (w:=w) (base:=base) B Kt d11 C_place_at;have C_stands_ahead:=a00 (P:=l.prog) (w:=w) (base:=base) B Kt d12 C_is_less;have C_is_ahead:=a8C (P:=l.prog) (w:=w) (base:=base) B Kt d13 C_stands_ahead C_standing;have C_next_change:=a1W (P:=l.prog) (w:=w) (base:=base) B Kt d14 C_is_less C_meeting;have C_is_number:=a5V (P:=l.prog) (w:=w) (base:=base) B Kt d15 C_greatest_divisor C_is_whole;have C_order_among:=a1Y (P:=l.prog) (w:=w) (base:=base) B Kt d16 C_stands_ahead C_standing;have C_order_at:=a8T (P:=l.prog) (w:=w) (base:=base) B Kt d17 C_order_among;have C_neighbours:=a3N (P:=l.prog) (w:=w) (base:=base) B Kt d18;have C_till_of:=aCR (P:=l.prog) (w:=w) (base:=base) B Kt d19 C_next_change C_is_ahead;have C_papers_among:=zY (P:=l.prog) (w:=w) (base:=base) B Kt d20 C_neighbours C_till_of;have C_first_to_fail:=yR (P:=l.prog) (w:=w) (base:=base) B Kt d21 C_is_less;have C_those_not_in:=zK (P:=l.prog) (w:=w) (base:=base) B Kt d22;have C_law_pen:=aCH (P:=l.prog) (w:=w) (base:=base) B Kt d23;have C_law_take:=a9L (P:=l.prog) (w:=w) (base:=base) B Kt d24;have C_fail_next:=a7F (P:=l.prog) (w:=w) (base:=base) B Kt d25 C_papers_among C_is_less C_first_to_fail;obtain⟨f2_is_deed_number,fd2_is_deed_number,F2_is_deed_number,hm2_is_deed_number⟩:=d26;have C_is_deed_number:Cal l.prog w K mg base 3 "is_deed_number" ["thing"] (spM NoP 1 cD):=⟨f2_is_deed_number,fd2_is_deed_number,wK hg_GREATEST_TOP hg_GREATEST_BOTTOM F2_is_deed_number B Kt C_is_number,hm2_is_deed_number,F2_is_deed_number.kp,(F2_is_deed_number.binds (ps:=["thing"]) fun _ _ _ _ _ _ us hl=>by
  obtain⟨_,rfl⟩:=ln1 hl;rfl)⟩
 have C_is_deed:=aCG (P:=l.prog) (w:=w) (base:=base) B Kt d27 C_is_deed_number C_is_whole;have O_F_runners:=a3P (P:=l.prog) (w:=w) (mg:=mg) (base:=base) clF nF_running nF_joined nF_last F_F_runners B;have B_F_runners:Binds K fd_F_runners ["self"] []:=(F_F_runners.binds (ps:=["self"]) fun _ _ _ _ _ _ us hl=>by
  obtain⟨_,rfl⟩:=ln1 hl;rfl)
 have O_F_add_runner:=a01 (P0:=NoP) (P:=l.prog) (w:=w) (mg:=mg) (base:=base) clF nF_running nF_joined nF_last F_F_add_runner B Kt;have B_F_add_runner:Binds K fd_F_add_runner ["self", "line"] []:=(F_F_add_runner.binds (ps:=["self", "line"]) fun _ _ _ _ _ _ us hl=>by
  obtain⟨_,_,rfl⟩:=ln2 hl;rfl)
 have O_F_do:=aKP (P0:=NoP) (P:=l.prog) (w:=w) (mg:=mg) (base:=base) clF nF_running nF_joined nF_last M_F_add_runner O_F_add_runner B_F_add_runner F_F_do B Kt C_line_through C_place_at;have B_F_do:Binds K fd_F_do ["self", "deed"] []:=(F_F_do.binds (ps:=["self", "deed"]) fun _ _ _ _ _ _ us hl=>by
  obtain⟨_,_,rfl⟩:=ln2 hl;rfl)
 have O_F_allows:=a9D (P0:=NoP) (P:=l.prog) (w:=w) (mg:=mg) (base:=base) clF nF_running nF_joined nF_last hg_MOST_RUNNERS F_F_allows B Kt C_is_less;have B_F_allows:Binds K fd_F_allows ["self", "deed"] []:=(F_F_allows.binds (ps:=["self", "deed"]) fun _ _ _ _ _ _ us hl=>by
  obtain⟨_,_,rfl⟩:=ln2 hl;rfl)
 have O_F_lines_running:=aD6 (P0:=NoP) (P:=l.prog) (w:=w) (mg:=mg) (base:=base) clF nF_running nF_joined nF_last M_F_runners O_F_runners B_F_runners F_F_lines_running B Kt;have B_F_lines_running:Binds K fd_F_lines_running ["self"] []:=(F_F_lines_running.binds (ps:=["self"]) fun _ _ _ _ _ _ us hl=>by
  obtain⟨_,rfl⟩:=ln1 hl;rfl)
 obtain⟨f2_log_of,fd2_log_of,F2_log_of,hm2_log_of⟩:=d28;have C_log_of:Cal l.prog w K mg base 6 "log_of" ["thing"] (spM NoP 1 (uR cF)):=⟨f2_log_of,fd2_log_of,aFH clF nF_running nF_joined nF_last hmF M_F (a2P (P:=l.prog) (w:=w) (mg:=mg) (base:=base) clF nF_running nF_joined nF_last FI_F B) (FI_F.binds (ps:=["self"]) fun _ _ _ _ _ _ us hl=>by
  obtain⟨_,rfl⟩:=ln1 hl;rfl) M_F_allows O_F_allows B_F_allows M_F_do O_F_do B_F_do hg_MOST_DEEDS F2_log_of B Kt C_is_deed,hm2_log_of,F2_log_of.kp,(F2_log_of.binds (ps:=["thing"]) fun _ _ _ _ _ _ us hl=>by
  obtain⟨_,rfl⟩:=ln1 hl;rfl)⟩
 have C_law_lowest:=a4I (P:=l.prog) (w:=w) (base:=base) B Kt d29;have C_law_plus:=a8D (P:=l.prog) (w:=w) (base:=base) B Kt d30 C_law_lowest;have C_law_times:=a7V (P:=l.prog) (w:=w) (base:=base) B Kt d31 C_law_lowest;have C_law_less:=aAB (P:=l.prog) (w:=w) (base:=base) B Kt d32;have C_law_small:=a6P (P:=l.prog) (w:=w) (base:=base) B Kt d33 C_law_lowest C_law_take;have C_law_place:=a7D (P:=l.prog) (w:=w) (base:=base) B Kt d34 C_law_plus C_law_times;have C_law_deed:=a9X (P:=l.prog) (w:=w) (base:=base) B Kt d35 C_law_take C_law_place C_law_small;obtain⟨f2_law_done,fd2_law_done,F2_law_done,hm2_law_done⟩:=d36;have C_law_done:Cal l.prog w K mg base 4 "_law_done" ["_law_lines", "_law_deed_here", "_law_joined"] (spM NoP 3 mQ):=⟨f2_law_done,fd2_law_done,a8F hn_dict F2_law_done B Kt C_law_plus C_law_times C_law_place,hm2_law_done,F2_law_done.kp,(F2_law_done.binds (ps:=["_law_lines", "_law_deed_here", "_law_joined"]) fun _ _ _ _ _ _ us hl=>by
  obtain⟨_,_,_,rfl⟩:=ln3 hl;rfl)⟩
 have C_law_ahead:=a75 (P:=l.prog) (w:=w) (base:=base) B Kt d37 C_law_less C_law_place;have C_law_till:=aAD (P:=l.prog) (w:=w) (base:=base) B Kt d38 C_law_less C_law_lowest C_law_plus;have C_law_papers:=a4K (P:=l.prog) (w:=w) (base:=base) B Kt d39 C_law_till C_law_ahead;have O_W_step_by:=a5Z (P0:=NoP) (P:=l.prog) (w:=w) (mg:=mg) (base:=base) clW nW_lines nW_now nW_listed F_W_step_by B Kt C_fail_next;have B_W_step_by:Binds K fd_W_step_by ["self", "limit"] []:=(F_W_step_by.binds (ps:=["self", "limit"]) fun _ _ _ _ _ _ us hl=>by
  obtain⟨_,_,rfl⟩:=ln2 hl;rfl)
 have O_W_go:=aL0 (P0:=NoP) (P:=l.prog) (w:=w) (mg:=mg) (base:=base) clW nW_lines nW_now nW_listed M_W_step_by O_W_step_by B_W_step_by F_W_go B Kt C_is_less;have B_W_go:Binds K fd_W_go ["self", "time"] []:=(F_W_go.binds (ps:=["self", "time"]) fun _ _ _ _ _ _ us hl=>by
  obtain⟨_,_,rfl⟩:=ln2 hl;rfl)
 have O_R_order:=aCI (P0:=NoP) (P:=l.prog) (w:=w) (mg:=mg) (base:=base) (c:=c) (cF:=cF) (cW:=cW) clR clF nR_deeds nR_field nR_now nR_gone nR_come nF_running M_F_runners O_F_runners B_F_runners F_R_order B Kt C_order_among;have B_R_order:Binds K fd_R_order ["self"] []:=(F_R_order.binds (ps:=["self"]) fun _ _ _ _ _ _ us hl=>by
  obtain⟨_,rfl⟩:=ln1 hl;rfl)
 have O_R_papers:=a9T (P0:=NoP) (P:=l.prog) (w:=w) (mg:=mg) (base:=base) (c:=c) (cF:=cF) (cW:=cW) clR clF nR_deeds nR_field nR_now nR_gone nR_come nF_running M_R_order O_R_order B_R_order F_R_papers B Kt C_papers_among;have B_R_papers:Binds K fd_R_papers ["self"] []:=(F_R_papers.binds (ps:=["self"]) fun _ _ _ _ _ _ us hl=>by
  obtain⟨_,rfl⟩:=ln1 hl;rfl)
 have O_R_refuse_earlier:=uB (P0:=NoP) (P:=l.prog) (w:=w) (mg:=mg) (base:=base) (c:=c) (cF:=cF) (cW:=cW) clR clF nR_deeds nR_field nR_now nR_gone nR_come nF_running F_R_refuse_earlier B Kt C_is_less;have B_R_refuse_earlier:Binds K fd_R_refuse_earlier ["self", "time"] []:=(F_R_refuse_earlier.binds (ps:=["self", "time"]) fun _ _ _ _ _ _ us hl=>by
  obtain⟨_,_,rfl⟩:=ln2 hl;rfl)
 have O_R_do:=aLH (P0:=NoP) (P:=l.prog) (w:=w) (mg:=mg) (base:=base) (c:=c) (cF:=cF) (cW:=cW) clR clF nR_deeds nR_field nR_now nR_gone nR_come nF_running M_R_refuse_earlier O_R_refuse_earlier B_R_refuse_earlier M_R_papers O_R_papers B_R_papers M_F_do O_F_do B_F_do F_R_do B Kt C_log_of C_those_not_in;have B_R_do:Binds K fd_R_do ["self", "deed"] []:=(F_R_do.binds (ps:=["self", "deed"]) fun _ _ _ _ _ _ us hl=>by
  obtain⟨_,_,rfl⟩:=ln2 hl;rfl)
 have O_R_go:=aME (P0:=NoP) (P:=l.prog) (w:=w) (mg:=mg) (base:=base) (c:=c) (cF:=cF) (cW:=cW) clR clF nR_deeds nR_field nR_now nR_gone nR_come nF_running M_R_refuse_earlier O_R_refuse_earlier B_R_refuse_earlier M_F_runners O_F_runners B_F_runners M_F_lines_running O_F_lines_running B_F_lines_running hmW clW M_W (aDE (P0:=NoP) (P:=l.prog) (w:=w) (mg:=mg) (base:=base) clW nW_lines nW_now nW_listed FI_W B C_order_at) (FI_W.binds (ps:=["self", "lines", "time"]) fun _ _ _ _ _ _ us hl=>by
  obtain⟨_,_,_,rfl⟩:=ln3 hl;rfl) M_W_go O_W_go B_W_go F_R_go B Kt
 have B_R_go:Binds K fd_R_go ["self", "time"] []:=(F_R_go.binds (ps:=["self", "time"]) fun _ _ _ _ _ _ us hl=>by
  obtain⟨_,_,rfl⟩:=ln2 hl;rfl)
 have O_R_changed:=a6Z (P0:=NoP) (P:=l.prog) (w:=w) (mg:=mg) (base:=base) (c:=c) (cF:=cF) (cW:=cW) clR clF nR_deeds nR_field nR_now nR_gone nR_come nF_running F_R_changed B Kt;have B_R_changed:Binds K fd_R_changed ["self"] []:=(F_R_changed.binds (ps:=["self"]) fun _ _ _ _ _ _ us hl=>by
  obtain⟨_,rfl⟩:=ln1 hl;rfl)
 obtain⟨f2_law_right,fd2_law_right,F2_law_right,hm2_law_right⟩:=d40;have C_law_right:Cal l.prog w K mg base 2 "_law_right" ["_law_race", "_law_due"] (spL NoP (cJ c cF) 2 (cV c cF cW)):=⟨f2_law_right,fd2_law_right,a5X (c:=c) (cF:=cF) (cW:=cW) clR M_R_changed O_R_changed B_R_changed F2_law_right B Kt,hm2_law_right,F2_law_right.kp,(F2_law_right.binds (ps:=["_law_race", "_law_due"]) fun _ _ _ _ _ _ us hl=>by
  obtain⟨_,_,rfl⟩:=ln2 hl;rfl)⟩
 exact aPZ clR hmR M_R (aDF (P:=l.prog) (w:=w) (mg:=mg) (base:=base) clR clF nR_deeds nR_field nR_now nR_gone nR_come nF_running hmF M_F (a2P (P:=l.prog) (w:=w) (mg:=mg) (base:=base) clF nF_running nF_joined nF_last FI_F B) (FI_F.binds (ps:=["self"]) fun _ _ _ _ _ _ us hl=>by
  obtain⟨_,rfl⟩:=ln1 hl;rfl) FI_R B) (FI_R.binds (ps:=["self"]) fun _ _ _ _ _ _ us hl=>by
  obtain⟨_,rfl⟩:=ln1 hl;rfl) M_R_do O_R_do B_R_do M_R_go O_R_go B_R_go F B Kt C_law_pen C_law_take C_law_papers C_law_done C_law_deed C_law_lowest C_law_right (hL _ _ _)
theorem walk {l:PySem.W.OpenLaw}{q:Program}{loose:List Str}{XP:Mg→Heap→Prop}{YP:World→Heap→Prop}{d:DefRec}{K:Params→Fg}(hn:l.most=some 63)(hdf:d.params.defaults=[])
  (hY:∀(w:World) (h:Heap),YP w h→(K w.params).In h)
  (F:∀(w:World) (mg:Mg) (fa:Addr) (h:Heap),(K w.params).In h→h.Ns mainGlobals mg→mg d.name=some (.ref fa) →
   ∃ fd:FuncData,(∀(s:Shared) (u:Value),BindsTo s fd ⟨[u],[]⟩ [("_law_script", u)])∧∀ base:Heap,(K w.params).In base→base.Ns mainGlobals mg→FnOk l.prog w (K w.params) mg base CX0 13 fa fd ["_law_script"] (aIO (K w.params))) :
  PySem.W.WalkO q loose XP YP l.row.toRowW d [] (fun f vs=>PySem.call f vs):=
 L2.aMN (n:=63) (k:=13) (x := "_law_script") (CX:=fun _=>CX0) (sp:=fun w=>aIO (K w.params)) hn (by decide) hdf ⟨rfl,by decide,by decide⟩ hY F (fun _ _ a ns hl _ hS=>⟨a,ns,rfl,hS,hl,fun _=>rfl⟩) fun _ _ _ _ _ z=>z
end My
def PySem.W.Fast.tw11849267987137344235:=()
def PySem.W.Fast.tw12104936285527621059:=()
def PySem.W.Fast.tw12769272038720270546:=()
def PySem.W.Fast.tw2831211486978121792:=()
def PySem.W.Fast.tw3220668397465806902:=()
def PySem.W.Fast.tw3399630048766460906:=()
def PySem.W.Fast.tw3428607602775090347:=()
def PySem.W.Fast.tw351880728084434640:=()
def PySem.W.Fast.tw5326031056211154023:=()
def PySem.W.Fast.tw6057788770383158377:=()
def PySem.W.Fast.tw7084144529389157349:=()
def PySem.W.Fast.tw946429511394228496:=()
def PySem.W.Fast.tw13768761219280823245:=()
def PySem.W.Fast.tw10378123057685493254:=()
def PySem.W.Fast.tw2902643796398935838:=()
def PySem.W.Fast.tw7789281470010616200:=()
def PySem.W.Fast.tw1231147169593775170:=()
def PySem.W.Fast.tw2890433286209898633:=()
def PySem.W.Fast.tw16201329551653314555:=()
def PySem.W.Fast.tw9548844406395576291:=()
def PySem.W.Fast.tw13124603487227876062:=()
def PySem.W.Fast.tw5111202313456009137:=()
def PySem.W.Fast.tw1954746584336225093:=()
def PySem.W.Fast.tw17530560565240470356:=()
def PySem.W.Fast.tw14790500199036099829:=()
def PySem.W.Fast.tw2869780634717191486:=()
open PySem PySem.W PyProof.Rows
set_option maxRecDepth 100000 in
set_option maxHeartbeats 0 in
theorem PySem.Challenge.cw_leadtimes_k34_papers_gone_and_come_holds : PySem.Challenge.rw_leadtimes_k34_papers_gone_and_come.Holds := by
 w_on; o_law; k_head; (case hw => w_witness2)
 k_fill
 refine My.walk (l := PySem.Challenge.rw_leadtimes_k34_papers_gone_and_come) rfl rfl (fun w h Y => PySem.W.kIn_of Y) ?F
 case F =>
  intro w mg fa h KX G hmg
  refine' My.aPM hmg (My.aRV KX G ?x0 ?x1 ?x2 ?x3 ?x4 ?x5 ?x6 ?x7 ?x8 ?x9 ?xa ?xb ?xc ?xd ?xe ?xf ?xg ?xh ?xi ?xj) (My.aN8 ?xk ?xl ?xm ?xn ?xo ?xp ?xq ?xj ?xr ?xs ?xt ?xu ?xv ?xi ?xw ?xx ?xy ?xz ?x10 ?x11 ?x12 ?x13 ?x14 ?x15 ?x16 ?x17 ?x18 ?x19 ?x1a ?x1b ?x1c ?x1d ?x1e ?x1f ?x1g ?x1h ?x1i ?x1j ?x1k ?x1l ?x1m ?x1n) (My.cY KX G ?x1o ?x1p ?x1q ?x1r) (My.cY KX G ?x1s ?x1t ?x1u ?x1v) (My.cY KX G ?x1w ?x1x ?x1y ?x1z) (My.cY KX G ?x20 ?x21 ?x22 ?x23) (My.cY KX G ?x24 ?x25 ?x26 ?x27) (My.cY KX G ?x28 ?x29 ?x2a ?x2b) (My.cY KX G ?x2c ?x2d ?x2e ?x2f) (My.cY KX G ?x2g ?x2h ?x2i ?x2j) (My.cY KX G ?x2k ?x2l ?x2m ?x2n) (My.cY KX G ?x2o ?x2p ?x2q ?x2r) (My.cY KX G ?x2s ?x2t ?x2u ?x2v) (My.cY KX G ?x2w ?x2x ?x2y ?x2z) (My.cY KX G ?x30 ?x31 ?x32 ?x33) (My.cY KX G ?x34 ?x35 ?x36 ?x37) (My.cY KX G ?x38 ?x39 ?x3a ?x3b) (My.cY KX G ?x3c ?x3d ?x3e ?x3f) (My.cY KX G ?x3g ?x3h ?x3i ?x3j) (My.cY KX G ?x3k ?x3l ?x3m ?x3n) (My.cY KX G ?x3o ?x3p ?x3q ?x3r) (My.cY KX G ?x3s ?x3t ?x3u ?x3v) (My.cY KX G ?x3w ?x3x ?x3y ?x3z) (My.cY KX G ?x40 ?x41 ?x42 ?x43) (My.cY KX G ?x44 ?x45 ?x46 ?x47) (My.cY KX G ?x48 ?x49 ?x4a ?x4b) (My.cY KX G ?x4c ?x4d ?x4e ?x4f) (My.cY KX G ?x4g ?x4h ?x4i ?x4j) (My.cY KX G ?x4k ?x4l ?x4m ?x4n) (My.cY KX G ?x4o ?x4p ?x4q ?x4r) (My.cY KX G ?x4s ?x4t ?x4u ?x4v) (My.cY KX G ?x4w ?x4x ?x4y ?x4z) (My.cY KX G ?x50 ?x51 ?x52 ?x53) (My.cY KX G ?x54 ?x55 ?x56 ?x57) (My.cY KX G ?x58 ?x59 ?x5a ?x5b) (My.cY KX G ?x5c ?x5d ?x5e ?x5f) (My.cY KX G ?x5g ?x5h ?x5i ?x5j) (My.cY KX G ?x5k ?x5l ?x5m ?x5n) (My.cY KX G ?x5o ?x5p ?x5q ?x5r) (My.cY KX G ?x5s ?x5t ?x5u ?x5v) (My.cY KX G ?x5w ?x5x ?x5y ?x5z) (My.cY KX G ?x60 ?x61 ?x62 ?x63) (My.cY KX G ?x64 ?x65 ?x66 ?x67) (My.cY KX G ?x68 ?x69 ?x6a ?x6b)  (PySem.W.mg_of KX G ?x6c) ⟨?x6d, ?x6e, ?x6f, ?x6g⟩ (My.a1A ?x6h) (My.a1A ?x6i) (My.a1A ?x6j) (My.a1A ?x6k) (My.a1A ?x6l) (My.aMW ?x6m ?x6n ?x6o ?x6p ?x6q ?x6r ?x6s) (My.xG ?x6t ?x6u ?x6v ?x6w ?x6x) (My.xG ?x6y ?x6z ?x70 ?x71 ?x72) (My.xG ?x73 ?x74 ?x75 ?x76 ?x77) (My.xG ?x78 ?x79 ?x7a ?x7b ?x7c) (My.xG ?x7d ?x7e ?x7f ?x7g ?x7h) (My.xG ?x7i ?x7j ?x7k ?x7l ?x7m) (PySem.W.mg_of KX G ?x7n) ⟨?x7o, ?x7p, ?x7q, ?x7r⟩ (My.a1A ?x7s) (My.a1A ?x7t) (My.a1A ?x7u) (My.aMW ?x7v ?x7w ?x7x ?x7y ?x7z ?x80 ?x81) (My.xG ?x82 ?x83 ?x84 ?x85 ?x86) (My.xG ?x87 ?x88 ?x89 ?x8a ?x8b) (My.xG ?x8c ?x8d ?x8e ?x8f ?x8g) (My.xG ?x8h ?x8i ?x8j ?x8k ?x8l) (My.xG ?x8m ?x8n ?x8o ?x8p ?x8q) (PySem.W.mg_of KX G ?x8r) ⟨?x8s, ?x8t, ?x8u, ?x8v⟩ (My.a1A ?x8w) (My.a1A ?x8x) (My.a1A ?x8y) (My.aMW ?x8z ?x90 ?x91 ?x92 ?x93 ?x94 ?x95) (My.xG ?x96 ?x97 ?x98 ?x99 ?x9a) (My.xG ?x9b ?x9c ?x9d ?x9e ?x9f) (PySem.W.mg_of KX G ?x9g) (PySem.W.mg_of KX G ?x9h) (PySem.W.mg_of KX G ?x9i) (PySem.W.mg_of KX G ?x9j) (PySem.W.mg_none_of KX G ?x9k) My.law_true
  (case x6c|x6d|x6e|x6f|x6g|x6h|x6i|x6j|x6k|x6l|x6m|x6n|x6o|x6p|x6q|x6r|x6s|x6t|x6u|x6v|x6w|x6x|x6y|x6z|x70|x71|x72|x73|x74|x75|x76|x77|x78|x79|x7a|x7b|x7c|x7d|x7e|x7f|x7g|x7h|x7i|x7j|x7k|x7l|x7m|x7n|x7o|x7p|x7q|x7r|x7s|x7t|x7u|x7v|x7w|x7x|x7y|x7z|x80|x81|x82|x83|x84|x85|x86|x87|x88|x89|x8a|x8b|x8c|x8d|x8e|x8f|x8g|x8h|x8i|x8j|x8k|x8l|x8m|x8n|x8o|x8p|x8q|x8r|x8s|x8t|x8u|x8v|x8w|x8x|x8y|x8z|x90|x91|x92|x93|x94|x95|x96|x97|x98|x99|x9a|x9b|x9c|x9d|x9e|x9f|x9g|x9h|x9i|x9j|x9k|x1o|x1p|x1q|x1r|x1s|x1t|x1u|x1v|x1w|x1x|x1y|x1z|x20|x21|x22|x23|x24|x25|x26|x27|x28|x29|x2a|x2b|x2c|x2d|x2e|x2f|x2g|x2h|x2i|x2j|x2k|x2l|x2m|x2n|x2o|x2p|x2q|x2r|x2s|x2t|x2u|x2v|x2w|x2x|x2y|x2z|x30|x31|x32|x33|x34|x35|x36|x37|x38|x39|x3a|x3b|x3c|x3d|x3e|x3f|x3g|x3h|x3i|x3j|x3k|x3l|x3m|x3n|x3o|x3p|x3q|x3r|x3s|x3t|x3u|x3v|x3w|x3x|x3y|x3z|x40|x41|x42|x43|x44|x45|x46|x47|x48|x49|x4a|x4b|x4c|x4d|x4e|x4f|x4g|x4h|x4i|x4j|x4k|x4l|x4m|x4n|x4o|x4p|x4q|x4r|x4s|x4t|x4u|x4v|x4w|x4x|x4y|x4z|x50|x51|x52|x53|x54|x55|x56|x57|x58|x59|x5a|x5b|x5c|x5d|x5e|x5f|x5g|x5h|x5i|x5j|x5k|x5l|x5m|x5n|x5o|x5p|x5q|x5r|x5s|x5t|x5u|x5v|x5w|x5x|x5y|x5z|x60|x61|x62|x63|x64|x65|x66|x67|x68|x69|x6a|x6b|x0|x1|x2|x3|x4|x5|x6|x7|x8|x9|xa|xb|xc|xd|xe|xf|xg|xh => k_is)
  (case xk|xl|xm|xn|xo|xp|xq|xj|xr|xs|xt|xu|xv|xi|xw|xx|xy|xz|x10|x11|x12|x13|x14|x15|x16|x17|x18|x19|x1a|x1b|x1c|x1d|x1e|x1f|x1g|x1h|x1i|x1j|x1k|x1l|x1m|x1n => kit_is)
#print axioms PySem.Challenge.cw_leadtimes_k34_papers_gone_and_come_holds
