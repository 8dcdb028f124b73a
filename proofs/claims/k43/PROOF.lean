import PyProof.Rows.All
import Wide.All
import OpenK.AllK
import Wide.FinOn
import Lean
import PyProof.EqAt
import PyProof.EqKinds
import PyProof.TupleCall
import PyProof.P3Eq
import PyProof.P3In
import PyProof.NeData
import PyProof.FitsBits
import PyProof.StrCalls2
import PyProof.CallStr
import PyProof.SliceStr2
import PyProof.StrWalks
import PyProof.FString
import PyProof.StrBlockI
import PyProof.StrLawsTight
import PyProof.StrLawsIn
import PyProof.StrLawsIdx
import PyProof.StrLawsChain
import PyProof.TupleOfSeq
import PyProof.DictTable
import KE.KIntText
import PySem.Challenge.RW_leadtimes_k43_books_written
noncomputable section
set_option compiler.extract_closed false
set_option Elab.async false
set_option linter.all false
set_option maxRecDepth 100000
namespace L2
open PySem PySem.Spec PyProof.Rows
abbrev Key:=Sum Int Str
noncomputable def keyIs:Key→Value→Bool
 | .inl k,v=>Value.isInt k v
 | .inr x,v=>Value.isStrOf x v
noncomputable def keyH (w:World):Key→Int
 | .inl k=>hashInt k
 | .inr x=>hashStr w x
theorem bT:∀{k:Key} {v:Value},keyIs k v=true→(∃ i t,k=Sum.inl i∧v=Value.int i t)∨(∃ x t,k=Sum.inr x∧v=Value.str x t)
 | .inl i,v,h=>by
  obtain⟨t,e⟩:=Value.isInt_shape (k:=i) (v:=v) h;exact .inl ⟨i,t,rfl,e⟩
 | .inr x,v,h=>by
  obtain⟨t,e⟩:=Value.isStrOf_shape (x:=x) (v:=v) h;exact .inr ⟨x,t,rfl,e⟩
theorem keyIs_int (i:Int)(t:Tok):keyIs (.inl i) (.int i t)=true:=by simp[keyIs,Value.isInt]
theorem keyIs_str (x:Str)(t:Tok):keyIs (.inr x) (.str x t)=true:=by simp[keyIs,Value.isStrOf]
theorem key_ll (a b:Int):decide ((Sum.inl a:Key)=Sum.inl b)=(a==b):=by
 by_cases e:a=b
 ·subst e; simp
 ·have h:¬(Sum.inl a:Key)=Sum.inl b:=fun q=>e (Sum.inl.inj q);rw[decide_eq_false h];exact(beq_eq_false_iff_ne.mpr e).symm
theorem key_rr (a b:Str):decide ((Sum.inr a:Key)=Sum.inr b)=decide (a=b):=by
 by_cases e:a=b
 ·subst e; simp
 ·have h:¬(Sum.inr a:Key)=Sum.inr b:=fun q=>e (Sum.inr.inj q);rw[decide_eq_false h,decide_eq_false e]
theorem key_lr (a:Int)(b:Str):decide ((Sum.inl a:Key)=Sum.inr b)=false:=decide_eq_false (fun q=>nomatch q)
theorem key_rl (a:Str)(b:Int):decide ((Sum.inr a:Key)=Sum.inl b)=false:=decide_eq_false (fun q=>nomatch q)
noncomputable def cA (prog:Program)(w:World):PySem.KeyKind prog w Key where
 is:=keyIs
 hash:=keyH w
 inj:=fun v a b ha hb=>by
  rcases bT ha with⟨i,t,rfl,rfl⟩|⟨x,t,rfl,rfl⟩
  ·rcases bT hb with⟨j,u,rfl,e⟩|⟨y,u,rfl,e⟩
   ·injection e with e1 _; rw[e1]
   ·exact nomatch e
  ·rcases bT hb with⟨j,u,rfl,e⟩|⟨y,u,rfl,e⟩
   ·exact nomatch e
   ·injection e with e1 _; rw[e1]
 byValue:=fun k v h=>by
  rcases bT h with⟨i,t,rfl,rfl⟩|⟨x,t,rfl,rfl⟩<;>rfl
 pyHash:=fun hv h=>by
  rcases bT hv with⟨i,t,rfl,rfl⟩|⟨x,t,rfl,rfl⟩
  ·exact wpAny_pyHash_int h
  ·exact wpAny_pyHash_str h
 eqBool:=fun hu hv h=>by
  rcases bT hu with⟨i,t,rfl,rfl⟩|⟨x,t,rfl,rfl⟩
  ·rcases bT hv with⟨j,u,rfl,rfl⟩|⟨y,u,rfl,rfl⟩
   ·rw[key_ll] at h; exact wpAny_eqBool_int h
   ·rw[key_lr] at h; exact SeqAt.EqAt.int_str i t y u _ _ _ _ h
  ·rcases bT hv with⟨j,u,rfl,rfl⟩|⟨y,u,rfl,rfl⟩
   ·rw[key_rl] at h; exact SeqAt.EqAt.str_int x t j u _ _ _ _ h
   ·rw[key_rr] at h; exact wpAny_eqBool_str h
 «strs»:=fun k x t v h=>by
  rcases bT h with⟨i,u,rfl,e⟩|⟨y,u,rfl,e⟩
  ·exact nomatch e
  ·injection e with e1 _;subst e1
   cases v<;>rfl
theorem mixKind_is (prog:Program)(w:World)(k:Key)(v:Value):(cA prog w).is k v=keyIs k v:=rfl
theorem mixKind_int (prog:Program)(w:World)(i:Int)(t:Tok):(cA prog w).is (.inl i) (.int i t)=true:=keyIs_int i t
theorem mixKind_str (prog:Program)(w:World)(x:Str)(t:Tok):(cA prog w).is (.inr x) (.str x t)=true:=keyIs_str x t
end L2
namespace L2
open PySem PySem.Spec PyProof.Rows
inductive V where
 | non|bl (b:Bool)|int (i:Int)|str (x:Str)|byt (b:Array UInt8)|flt (b:UInt64)|ref (a:Addr)|ty (n:String)
 deriving DecidableEq
noncomputable def RelV:V→Value→Prop
 | .non,u=>u=Value.none
 | .bl b,u=>u=Value.bool b
 | .int i,u=>∃ t,u=Value.int i t
 | .str x,u=>∃ t,u=Value.str x t
 | .byt b,u=>∃ t,u=Value.bytes b t
 | .flt b,u=>∃ t,u=Value.float b t
 | .ref a,u=>u=Value.ref a
 | .ty n,u=>u=Value.type n
abbrev Vals:List V→List Value→Prop:=Paired RelV
theorem Vals.length {xs:List V}{us:List Value}(r:Vals xs us):xs.length=us.length:=Paired.length r
theorem Vals.get:∀{xs:List V} {us:List Value} {i:Nat} {x:V},Vals xs us→xs[i]?=some x→∃ u,us[i]?=some u∧RelV x u
 | _,_,_,_,.nil,e=>by simp at e
 | _,_,0,_,.cons r _,e=>by simp at e; subst e; exact⟨_,rfl,r⟩
 | _,_,i+1,x,.cons _ t,e=>by
  obtain⟨u,h1,h2⟩:=Vals.get (i:=i) (x:=x) t (by simpa using e);exact⟨u,by simpa using h1,h2⟩
theorem Vals.set {x:V}{u:Value}(r:RelV x u):∀{xs:List V} {us:List Value} (i:Nat),Vals xs us→Vals (xs.set i x) (us.set i u)
 | _,_,_,.nil=>.nil
 | _,_,0,.cons _ t=>.cons r t
 | _,_,i+1,.cons q t=>.cons q (Vals.set r i t)
theorem Vals.append:∀{xs ys:List V} {us ws:List Value},Vals xs us→Vals ys ws→Vals (xs++ys) (us++ws):=by
 intro xs ys us ws h q
 induction h with
 | nil=>exact q
 | cons r t ih=>exact .cons r ih
theorem Vals.take:∀{xs:List V} {us:List Value} (n:Nat),Vals xs us→Vals (xs.take n) (us.take n)
 | _,_,0,_=>.nil
 | _,_,_+1,.nil=>.nil
 | _,_,n+1,.cons r t=>.cons r (Vals.take n t)
theorem Vals.drop:∀{xs:List V} {us:List Value} (n:Nat),Vals xs us→Vals (xs.drop n) (us.drop n)
 | _,_,0,r=>r
 | _,_,_+1,.nil=>.nil
 | _,_,n+1,.cons _ t=>Vals.drop n t
noncomputable def RelO:Option V→Option Value→Prop
 | some v,some u=>RelV v u
 | none,none=>True
 | _,_=>False
noncomputable def KV {κ:Type}:List (κ×V)→List (κ×Value)→Prop:=Paired fun(p:κ×V) (q:κ×Value)=>p.1=q.1∧RelV p.2 q.2
noncomputable def kV:Key→V
 | .inl i=>.int i
 | .inr x=>.str x
inductive HO where
 | lst (xs:List V)
 | tup (xs:List V)
 | dK (kvs:List (Key×V))|dT (kvs:List (List Key×V))
 | set (S:Int→Bool) (n:Nat)
 | ins (C dx:Addr) (fs:List (Str×V))
 | own (x:Addr)
 | xd (fs:List (Str×V))
 | met (f x:Addr)
 | rng (lo hi:Int)
 | frz (o:Obj) (u:HO)
 | tbl (ps:Array Value)
 | ext (φ:Heap→Prop)
abbrev Hp:=Addr→Option HO
noncomputable def upd (H:Hp)(a:Addr)(o:HO):Hp:=fun b=>if b=a then some o else H b
theorem b8 {H:Hp}{a:Addr}{o:HO}:upd H a o a=some o:=by unfold upd; rw[if_pos rfl]
theorem bB {H:Hp}{a b:Addr}{o:HO}(h:b≠a):upd H a o b=H b:=by unfold upd; rw[if_neg h]
theorem bA {H:Hp}{a b:Addr}{o:HO}(h:H a=some o)(h':H b=none):a≠b:=by
 intro e; subst e; rw[h] at h'; cases h'
section
variable (P:Program)(w:World)
noncomputable def ObjOk (H:Hp)(h:Heap)(a:Addr):HO→Prop
 | .lst xs=>xs.length≤sizeLine∧∃(its:List Value) (n:Nat),Vals xs its∧h.get? a=some { cls:=.type "list", data:=.seq its.toArray n }
 | .tup xs=>xs.length≤sizeLine∧∃ its:List Value,Vals xs its∧IsTup h a its.toArray
 | .dK kvs=>kvs.length≤sizeLine∧(a==sysModules)=false∧∃ vs,KV kvs vs∧h.DictOf (cA P w) a vs
 | .dT kvs=>kvs.length≤sizeLine∧(a==sysModules)=false∧∃ xs:List (List Key×Addr×Value),
   Paired (fun(p:List Key×V) (q:List Key×Addr×Value)=>p.1=q.1∧H q.2.1=some (.tup (p.1.map kV))∧RelV p.2 q.2.2) kvs xs ∧
   ∃ o es ep,h.get? a=some o∧o.ExactDict∧o.data=.dict es ep∧es.toList=xs.map (entryOfKey (tupleKind (cA P w)))∧(xs.map (·.1)).Nodup
 | .set S n=>h.SetOf (intKind P w) a S n
 | .ins C dx fs=>H dx=some (.own a)∧fs.length≤1000∧dx≠a∧h.get? a=some (PySem.W.instObj C dx) ∧
   ∃ mA,h.Ns1 dx mA∧(∀ f,RelO (fs.lookup f) (mA f))∧PySem.Within mA (fs.map (·.1))
 | .own _=>∃ o,h.get? a=some o
 | .xd fs=>∃ mA,h.Ns1 a mA∧∀ f,RelO (fs.lookup f) (mA f)
 | .rng lo hi=>∃ t u v,h.get? a=some { cls:=.type "range", data:=.fields #[.int lo t,.int hi u,.int 1 v] }
 | .frz o u=>h.get? a=some o∧ObjOk H h a u
 | .tbl ps=>h.get? a=some { cls:=.none,data:=.fields ps }
 | .met f x=>h.get? a=some (PySem.W.methodObj (.ref f) (.ref x))
 | .ext φ=>φ h∧(∃ o,h.get? a=some o)∧∀ h1 h2:Heap,φ h1→(∀ o,h1.get? a=some o→h2.get? a=some o)→φ h2
noncomputable def HOk (H:Hp)(h:Heap):Prop:=∀ a o,H a=some o→ObjOk P w H h a o
end
section
variable {P:Program}{w:World}{H H':Hp}{h h':Heap}{a:Addr}{o:HO}
theorem ObjOk.lt (x:ObjOk P w H h a o):a<h.objs.size:=by
 cases o with
 | lst xs=>obtain⟨_,_,_,_,e⟩:=x; exact Heap.lt_size e
 | tup xs=>obtain⟨_,_,_,p⟩:=x; exact p.lt
 | dK kvs=>obtain⟨_,_,_,_,o,_,_,e,_⟩:=x; exact Heap.lt_size e
 | dT kvs=>obtain⟨_,_,_,_,o,_,_,e,_⟩:=x; exact Heap.lt_size e
 | set S n=>obtain⟨o,_,_,_,e,_⟩:=x; exact Heap.lt_size e
 | ins C dx fs=>obtain⟨_,_,_,e,_⟩:=x; exact Heap.lt_size e
 | own y=>obtain⟨_,e⟩:=x; exact Heap.lt_size e
 | xd fs=>obtain⟨_,⟨_,_,_,e,_⟩,_⟩:=x; exact Heap.lt_size e
 | rng lo hi=>obtain⟨_,_,_,e⟩:=x; exact Heap.lt_size e
 | frz ob u=>obtain⟨e,_⟩:=x; exact Heap.lt_size e
 | tbl ps=>exact Heap.lt_size (show h.get? a=some _ from x)
 | met f y=>exact Heap.lt_size (show h.get? a=some _ from x)
 | ext φ=>obtain⟨_,⟨_,e⟩,_⟩:=x; exact Heap.lt_size e
theorem Paired.mapP {α β:Type}{F G:α→β→Prop}:∀{l₁:List α} {l₂:List β},Paired F l₁ l₂→(∀ a b,F a b→G a b)→Paired G l₁ l₂:=by
 intro l₁ l₂ h f
 induction h with
 | nil=>exact .nil
 | cons r t ih=>exact .cons (f _ _ r) ih
theorem Paired.imp' {α β:Type}{F G:α→β→Prop}(f:∀ a b,F a b→G a b){l₁:List α}{l₂:List β}(r:Paired F l₁ l₂):Paired G l₁ l₂:=Paired.mapP r f
theorem ObjOk.stay (x:ObjOk P w H h a o)(k:∀ b u,(b=a∨H b=some (.own a))→h.get? b=some u→h'.get? b=some u)
  (ho:∀ b,H b=some (.own a)→H' b=some (.own a)) (ht:∀ b xs,H b=some (.tup xs)→H' b=some (.tup xs)):ObjOk P w H' h' a o:=by
 induction o with
 | lst xs=>obtain⟨z,its,n,r,e⟩:=x; exact⟨z,its,n,r,k _ _ (.inl rfl) e⟩
 | tup xs=>obtain⟨z,its,r,ob,e,c⟩:=x; exact⟨z,its,r,ob,k _ _ (.inl rfl) e,c⟩
 | dK kvs=>obtain⟨z,y,vs,r,ob,es,ep,e,c⟩:=x; exact⟨z,y,vs,r,ob,es,ep,k _ _ (.inl rfl) e,c⟩
 | dT kvs=>
  obtain⟨z,y,xs,r,ob,es,ep,e,c⟩:=x;exact⟨z,y,xs,Paired.mapP r fun p q z=>⟨z.1,ht _ _ z.2.1,z.2.2⟩,ob,es,ep,k _ _ (.inl rfl) e,c⟩
 | set S n=>obtain⟨ob,es,ep,t,e,c⟩:=x; exact⟨ob,es,ep,t,k _ _ (.inl rfl) e,c⟩
 | ins C dx fs=>
  obtain⟨d,z,ne,e,mA,⟨od,es,ep,e2,c⟩,r⟩:=x;exact⟨ho _ d,z,ne,k _ _ (.inl rfl) e,mA,⟨od,es,ep,k _ _ (.inr d) e2,c⟩,r⟩
 | own y=>obtain⟨ob,e⟩:=x; exact⟨ob,k _ _ (.inl rfl) e⟩
 | xd fs=>obtain⟨mA,⟨od,es,ep,e,c⟩,r⟩:=x; exact⟨mA,⟨od,es,ep,k _ _ (.inl rfl) e,c⟩,r⟩
 | rng lo hi=>obtain⟨t,u,v,e⟩:=x; exact⟨t,u,v,k _ _ (.inl rfl) e⟩
 | frz ob u ih=>obtain⟨e,q⟩:=x; exact⟨k _ _ (.inl rfl) e,ih q⟩
 | tbl ps=>
  have e:h.get? a=some { cls:=.none,data:=.fields ps }:=x;show h'.get? a=some { cls:=.none,data:=.fields ps };exact k a _ (.inl rfl) e
 | met f y=>
  have e:h.get? a=some (PySem.W.methodObj (.ref f) (.ref y)):=x;show h'.get? a=some (PySem.W.methodObj (.ref f) (.ref y));exact k a _ (.inl rfl) e
 | ext φ=>obtain⟨p,⟨o,e⟩,st⟩:=x; exact⟨st _ _ p fun o q=>k _ _ (.inl rfl) q,⟨o,k _ _ (.inl rfl) e⟩,st⟩
theorem HOk.lt (x:HOk P w H h)(e:H a=some o):a<h.objs.size:=(x a o e).lt
theorem HOk.fresh (x:HOk P w H h)(e:h.objs.size≤a):H a=none:=by
 cases q:H a with
 | none=>rfl
 | some u=>exact absurd (Nat.lt_of_lt_of_le (x.lt q) e) (Nat.lt_irrefl _)
theorem HOk.kept (x:HOk P w H h)(k:∀ b u,h.get? b=some u→h'.get? b=some u):HOk P w H h':=fun a o e=>
 (x a o e).stay (fun b u _ q=>k b u q) (fun _ q=>q) fun _ _ q=>q
theorem HOk.laid (x:HOk P w H h)(k:∀ b u,h.get? b=some u→h'.get? b=some u)(hp:h.objs.size≤a)(new:ObjOk P w (upd H a o) h' a o):HOk P w (upd H a o) h':=fun b u e=>by
 have hn:=x.fresh hp
 by_cases hb:b=a
 ·subst hb; rw[b8] at e; cases e; exact new
 ·rw[bB hb] at e;exact(x b u e).stay (fun c v _ q=>k c v q) (fun c q=>by rw[bB (bA q hn)]; exact q) fun c xs q=>by rw[bB (bA q hn)]; exact q
end
noncomputable def Rd (H:Hp)(a:Addr)(u:HO):Prop:=H a=some u∨∃ o,H a=some (.frz o u)
theorem Rd.ok {P:Program}{w:World}{H:Hp}{h:Heap}{a:Addr}{u:HO}(r:Rd H a u)(x:HOk P w H h):ObjOk P w H h a u:=by
 rcases r with r|⟨o,r⟩
 ·exact x a u r
 ·obtain⟨_,q⟩:=x a _ r;exact q
noncomputable def Mut:Option HO→Prop
 | some (.lst _)=>True
 | some (.dK _)=>True
 | some (.dT _)=>True
 | some (.set _ _)=>True
 | some (.ins _ _ _)=>True
 | some (.ext _)=>True
 | _=>False
section
variable {P:Program}{w:World}{H:Hp}{h h':Heap}{x e:Addr}{o':HO}
theorem HOk.write (ok:HOk P w H h)(mu:Mut (H x))(he:e=x∨H e=some (.own x))(k:∀ b u,b≠e→h.get? b=some u→h'.get? b=some u)(heo:∃ u,h'.get? e=some u)
  (new:ObjOk P w (upd H x o') h' x o'):HOk P w (upd H x o') h':=fun b u q=>by
 have nown:∀ c y,H c=some (.own y)→c≠x:=fun c y r z=>by subst z; rw[r] at mu; exact mu
 have ntup:∀ c xs,H c=some (.tup xs)→c≠x:=fun c xs r z=>by subst z; rw[r] at mu; exact mu
 by_cases hb:b=x
 ·subst hb; rw[b8] at q; cases q; exact new
 ·rw[bB hb] at q
  by_cases hbe:b=e
  ·have q':H b=some (.own x):=by
    rcases he with z|z
    ·exact absurd (hbe.trans z) hb
    ·rw[hbe]; exact z
   rw[q] at q'; cases q';obtain⟨v,hv⟩:=heo;exact⟨v,by rw[hbe]; exact hv⟩
  ·refine(ok b u q).stay (fun c v hc r=>k c v ?_ r) (fun c r=>by rw[bB (nown c b r)]; exact r) fun c xs r=>by rw[bB (ntup c xs r)]; exact r
   rcases hc with rfl|hc
   ·exact hbe
   ·rintro rfl;rcases he with z|z
    ·exact nown c b hc z
    ·rw[hc] at z; cases z; exact hb rfl
end
structure Un (fs ex:List Addr)(H H':Hp)(h h':Heap):Prop where
 keep:∀ b o,h.get? b=some o→H b=none→b∉fs→b∉ex→h'.get? b=some o
 slot:∀ b o,h.get? b=some o→H b=none→b∈fs→b∉ex→∃ sl,h'.get? b=some { o with slots:=sl }
 free:∀ b o,h.get? b=some o→H b=none→b∉ex→H' b=none
 there:∀ b o,h.get? b=some o→b∉ex→∃ o',h'.get? b=some o'
 tups:∀ b xs,H b=some (.tup xs)→H' b=some (.tup xs)
 frzs:∀ b o u,H b=some (.frz o u)→H' b=some (.frz o u)
 tbls:∀ b ps,H b=some (.tbl ps)→∃ more,H' b=some (.tbl (ps++more))
section
variable {fs fs' ex ex':List Addr}{H H1 H2:Hp}{h h1 h2 h':Heap}{a x e:Addr}{o:HO}
theorem Un.any (u:Un fs ex H H1 h h1){b:Addr}{ob:Obj}(q:h.get? b=some ob)(n:H b=none)(hx:b∉ex):∃ sl,h1.get? b=some { ob with slots:=sl }:=by
 by_cases hb:b∈fs
 ·exact u.slot b ob q n hb hx
 ·exact⟨ob.slots,u.keep b ob q n hb hx⟩
theorem Un.kept (k:∀ b u,h.get? b=some u→h'.get? b=some u):Un fs ex H H h h':=
 ⟨fun b ob q _ _ _=>k b ob q,fun b ob q _ _ _=>⟨ob.slots,k b ob q⟩,fun _ _ _ n _=>n,fun b ob q _=>⟨ob,k b ob q⟩,fun _ _ q=>q,fun _ _ _ q=>q,fun _ ps q=>⟨#[],by rw[q]; simp⟩⟩
theorem Un.refl:Un fs ex H H h h:=Un.kept fun _ _ q=>q
theorem Un.laid (k:∀ b u,h.get? b=some u→h'.get? b=some u)(hp:h.objs.size≤a)(hn:H a=none):Un fs ex H (upd H a o) h h' where
 keep:=fun b u q _ _ _=>k b u q
 slot:=fun b u q _ _ _=>⟨u.slots,k b u q⟩
 free:=fun b u q n _=>by rw[bB (Nat.ne_of_lt (Nat.lt_of_lt_of_le (Heap.lt_size q) hp))]; exact n
 there:=fun b u q _=>⟨u,k b u q⟩
 tups:=fun b xs q=>by rw[bB (bA q hn)]; exact q
 frzs:=fun b u xs q=>by rw[bB (bA q hn)]; exact q
 tbls:=fun b ps q=>⟨#[],by rw[bB (bA q hn),q]; simp⟩
theorem Un.write (mu:Mut (H x))(he:e=x∨H e=some (.own x))(k:∀ b u,b≠e→h.get? b=some u→h'.get? b=some u)(heo:∃ u,h'.get? e=some u):Un fs ex H (upd H x o) h h':=by
 have hx:∀ b,H b=none→b≠x:=fun b n z=>by subst z; rw[n] at mu; exact mu
 have hb:∀ b,H b=none→b≠e:=fun b n z=>by
  subst z;rcases he with r|r
  ·exact hx b n r
  ·rw[n] at r; cases r
 have hm:∀ b u,H b=some u→¬Mut (some u)→b≠x:=fun b u q nm z=>by subst z; rw[q] at mu; exact nm mu
 refine⟨fun b u q n _ _=>k b u (hb b n) q,fun b u q n _ _=>⟨u.slots,k b u (hb b n) q⟩,fun b u q n _=>by rw[bB (hx b n)]; exact n,fun b u q _=>?_,
  fun b xs q=>by rw[bB (hm b _ q fun z=>z)]; exact q,fun b u xs q=>by rw[bB (hm b _ q fun z=>z)]; exact q,fun b ps q=>⟨#[],by rw[bB (hm b _ q fun z=>z),q]; simp⟩⟩
 by_cases hbe:b=e
 ·subst hbe; exact heo
 ·exact⟨u,k b u hbe q⟩
end
noncomputable def trk (h:Heap)(H:Hp):List Addr:=(List.range h.objs.size).filter fun a=>(H a).isSome
noncomputable def hidT (h:Heap)(H:Hp):Heap:=PySem.W.hideAll h (trk h H)
theorem hidT_size (h:Heap)(H:Hp):(hidT h H).objs.size=h.objs.size:=PySem.W.hideAll_size _ _
theorem hidT_get {h:Heap}{H:Hp}{b:Addr}{o:Obj}(e:h.get? b=some o)(n:H b=none):(hidT h H).get? b=some o:=
 PySem.W.hideAll_get _ e fun hm=>by
  have q:(H b).isSome=true:=(List.mem_filter.mp hm).2;rw[n] at q; simp at q
theorem of_hidT {h:Heap}{H:Hp}{b:Addr}{o:Obj}(e:(hidT h H).get? b=some o):h.get? b=some o∧H b=none:=by
 have e':h.get? b=some o:=PySem.W.of_hideAll (trk h H) e;refine⟨e',?_⟩
 cases q:H b with
 | none=>rfl
 | some x=>
  have hm:b∈trk h H:=List.mem_filter.mpr ⟨List.mem_range.mpr (Heap.lt_size e'),by simp[q]⟩;have z:(hidT h H).get? b=none:=PySem.W.hideAll_none (trk h H) hm;rw[z] at e; cases e
end L2
namespace L2
open PySem PySem.Spec PyProof.Rows
structure Mod (K:PySem.W.Frag)(mg:Str→Option Value)(base:Heap):Prop where
 kin:K.In base
 glob:base.Ns mainGlobals mg
 blt:∃ mb,base.Ns builtinsNs mb∧∀ x:Str,x ≠ "__name__" → mb x=bootBuiltins x
 nolimit:base.NoLimit
structure Cx where
 prog:Program
 w:World
 K:PySem.W.Frag
 mg:Str→Option Value
 base:Heap
 A:Around
 N:List Str
 s₀:Shared
 H₀:Hp
 env:Env
 outer:List Env
 stack:List Env
 ex:List Addr
 fn:Str→Bool
 calm:Bool
 pn:List (Addr×Obj)
 xe:Value→Shared→Prop
noncomputable def frs (l:List Env):List Addr:=l.filterMap (·.frame)
abbrev Cx.fs (X:Cx):List Addr:=frs X.outer
noncomputable def Vis (sc:Scope)(x:Str):Prop:=sc.names.lookup x=some .local∨sc.names.lookup x=some .cell∨sc.names.lookup x=some .free
noncomputable def Loc (sc:Scope)(x:Str):Prop:=sc.names.lookup x=some .local∨sc.names.lookup x=some .cell
noncomputable def Look (env:Env)(h:Heap)(m:Str→Option Value)(x:Str)(u:Value):Prop:=
 (env.kindOf x=some .local∧m x=some u)∨((env.kindOf x=some .cell∨env.kindOf x=some .free)∧∃ c,env.cells.lookup x=some c∧h.IsCell c (some u))
structure Cx.Ok (X:Cx):Prop where
 mod:Mod X.K X.mg X.base
 kind:X.env.scope.kind=.function
 glob:X.env.globals=mainGlobals
 blt:X.env.builtins=builtinsNs
 above:X.s₀.heap.objs.size≤X.env.locals
 inj:∀ x y c,X.env.cells.lookup x=some c→X.env.cells.lookup y=some c→x=y
 has:∀ x,(X.env.kindOf x=some .cell∨X.env.kindOf x=some .free)→∃ c,X.env.cells.lookup x=some c
 cab:∀ x c,X.fn x=true→X.env.cells.lookup x=some c→X.s₀.heap.objs.size≤c
 hd:X.calm=true→X.A.handled=none
 frames:X.A.frames=some X.stack
 stk:X.stack=X.outer∨(X.stack=X.env::X.outer∧X.env.frame=some X.env.locals)
 exf:∀ b∈X.ex,b≠X.env.locals∧∀ x c,X.env.cells.lookup x=some c→c≠b
 bs:∀ b o,X.base.get? b=some o→X.s₀.heap.get? b=some o∧X.H₀ b=none
 bsz:X.base.objs.size≤X.s₀.heap.objs.size
 noex:∀ b o,X.base.get? b=some o→b∉X.ex
 exfs:∀ b∈X.ex,b∉X.fs
 funs:X.s₀.heap.FunFrames X.base X.outer
 frf:∀ b∈X.fs,X.H₀ b=none
structure Inv (X:Cx)(pins:List (Addr×Obj))(σ:List (Option V))(H:Hp)(s:Shared):Prop where
 ok:X.Ok
 os:s.os=X.s₀.os
 bare:AllBare s.gens
 base:Un X.fs X.ex X.H₀ H X.s₀.heap s.heap
 loc:∃ m,s.heap.Ns X.env.locals m∧∀(i:Nat) (x:Str) (v:V),X.N[i]?=some x→σ[i]?=some (some v)→Vis X.env.scope x→∃ u,RelV v u∧Look X.env s.heap m x u
 cell:∀ x c,X.env.cells.lookup x=some c→∃ v,s.heap.IsCell c v
 free:H X.env.locals=none
 freeC:∀ x c,X.env.cells.lookup x=some c→H c=none
 pin:∀ p∈X.pn++pins,s.heap.get? p.1=some p.2∧H p.1=none∧p.1≠X.env.locals∧p.1∉X.fs∧∀ v,p.2.data≠.cell v
 hok:HOk X.prog X.w H s.heap
 len:σ.length=X.N.length
section
variable {X:Cx}{pins:List (Addr×Obj)}{σ:List (Option V)}{H H':Hp}{s:Shared}{h':Heap}
theorem Cx.Ok.nofr (ok:X.Ok){b:Addr}{o:Obj}(e:X.base.get? b=some o):b∉X.fs:=fun hb=>by
 have:=(ok.funs.mem hb).1;rw[e] at this; cases this
theorem Inv.bs (I:Inv X pins σ H s):∀ b o,X.base.get? b=some o→s.heap.get? b=some o∧H b=none:=fun b o e=>
 ⟨I.base.keep b o (I.ok.bs b o e).1 (I.ok.bs b o e).2 (I.ok.nofr e) (I.ok.noex b o e),I.base.free b o (I.ok.bs b o e).1 (I.ok.bs b o e).2 (I.ok.noex b o e)⟩
theorem Inv.bk (I:Inv X pins σ H s):∀ b o,X.base.get? b=some o→s.heap.get? b=some o:=fun b o e=>(I.bs b o e).1
theorem Inv.mod (I:Inv X pins σ H s):Mod X.K X.mg X.base:=I.ok.mod
theorem Inv.kIn (I:Inv X pins σ H s):X.K.In s.heap:=I.ok.mod.kin.keeps I.bk
theorem Inv.fr (I:Inv X pins σ H s):∃ m,Fr X.base X.env.locals s.heap m:=
 let ⟨m,hn,_⟩:=I.loc
 ⟨m,hn,I.bk,Nat.le_trans I.ok.bsz I.ok.above⟩
theorem Inv.lt (I:Inv X pins σ H s):X.env.locals<s.heap.objs.size:=let ⟨_,hn,_⟩:=I.loc; hn.lt
theorem Inv.sz (I:Inv X pins σ H s):X.s₀.heap.objs.size≤s.heap.objs.size:=Nat.le_trans I.ok.above (Nat.le_of_lt I.lt)
theorem Inv.nofs (I:Inv X pins σ H s){a:Addr}(h:s.heap.objs.size≤a):a∉X.fs:=fun hb=>by
 obtain⟨_,o,ho,_⟩:=I.ok.funs.mem hb;exact absurd (Nat.lt_of_lt_of_le (Heap.lt_size ho) (Nat.le_trans I.sz h)) (Nat.lt_irrefl _)
theorem Inv.cne (I:Inv X pins σ H s):∀ x c,X.env.cells.lookup x=some c→c≠X.env.locals:=fun x c e z=>by
 obtain⟨v,o,ho,hd⟩:=I.cell x c e;obtain⟨m,⟨o',es,ep,ho',hd',_⟩,_⟩:=I.loc;rw[z,ho'] at ho; cases ho; rw[hd'] at hd; cases hd
theorem Inv.funs (I:Inv X pins σ H s):s.heap.FunFrames X.base X.outer:=by
 have all:∀(l:List Env),(∀ b∈frs l,b∈X.fs)→X.s₀.heap.FunFrames X.base l→s.heap.FunFrames X.base l:=by
  intro l
  induction l with
  | nil=>intro _ _; trivial
  | cons env r ih=>
   intro hs hl;obtain⟨hk,⟨L,o,hf,hn,ho,hd⟩,hr⟩:=hl;have hL:L∈X.fs:=hs L (by unfold frs; rw[List.filterMap_cons,hf]; exact List.mem_cons_self);obtain⟨sl,e⟩:=I.base.slot L o ho (I.ok.frf L hL) hL fun z=>I.ok.exfs L z hL;exact⟨hk,⟨L,_,hf,hn,e,hd⟩,ih (fun b hb=>hs b (by unfold frs; rw[List.filterMap_cons,hf]; exact List.mem_cons_of_mem _ hb)) hr⟩
 exact all X.outer (fun _ hb=>hb) I.ok.funs
theorem Inv.stack (I:Inv X pins σ H s):s.heap.FunFrames X.base X.stack:=by
 rcases I.ok.stk with e|⟨e,hf⟩
 ·rw[e]; exact I.funs
 ·rw[e];obtain⟨m,hn,_⟩:=I.loc;refine .cons (by rw[I.ok.kind]; decide) hf hn ?_ I.funs;exact Heap.get?_none_of_le (Nat.le_trans I.ok.bsz I.ok.above)
theorem Inv.stkSub (I:Inv X pins σ H s):∀ b∈frs X.stack,b∈X.env.locals::X.fs:=fun b hb=>by
 rcases I.ok.stk with e|⟨e,hf⟩
 ·rw[e] at hb; exact List.mem_cons_of_mem _ hb
 ·rw[e] at hb;unfold frs at hb;rw[List.filterMap_cons,hf] at hb;exact hb
theorem Inv.stkFree (I:Inv X pins σ H s):∀ b∈frs X.stack,H b=none:=fun b hb=>by
 rcases List.mem_cons.mp (I.stkSub b hb) with e|hb
 ·rw[e]; exact I.free
 ·obtain⟨_,o,ho,_⟩:=I.ok.funs.mem hb;exact I.base.free b o ho (I.ok.frf b hb) fun z=>I.ok.exfs b z hb
theorem Inv.step {g':Array GenState}{t':Nat}{d':Drawn}{ch:List Addr}(I:Inv X pins σ H s)
  (hch:∀ b∈ch,(b∈X.ex∨X.s₀.heap.objs.size≤b)∧b≠X.env.locals∧(∀ x c,X.env.cells.lookup x=some c→c≠b)∧∀ p∈X.pn++pins,p.1≠b)
  (keep:∀ b o,b≠X.env.locals→b∉X.fs→b∉ch→s.heap.get? b=some o→H b=none→h'.get? b=some o)
  (slot:∀ b o,b≠X.env.locals→b∈X.fs→b∉ch→s.heap.get? b=some o→H b=none→∃ sl,h'.get? b=some { o with slots:=sl }) (free:∀ b o,b∉ch→s.heap.get? b=some o→H b=none→H' b=none)
  (there:∀ b o,b∉ch→s.heap.get? b=some o→∃ o',h'.get? b=some o')
  (tups:∀ b xs,H b=some (.tup xs)→H' b=some (.tup xs)) (frzs:∀ b o u,H b=some (.frz o u)→H' b=some (.frz o u)) (tbls:∀ b ps,H b=some (.tbl ps)→∃ more,H' b=some (.tbl (ps++more)))
  (ns:∀ m,s.heap.Ns X.env.locals m→h'.Ns X.env.locals m) (hok:HOk X.prog X.w H' h') (hg:AllBare g') :
  Inv X pins σ H' { s with heap:=h',gens:=g',drawn:=d',toks:=t' }:=by
 have neL:∀ b o,X.s₀.heap.get? b=some o→b≠X.env.locals:=fun b o e=>Nat.ne_of_lt (Nat.lt_of_lt_of_le (Heap.lt_size e) I.ok.above);have neC:∀ b o,X.s₀.heap.get? b=some o→b∉X.ex→b∉ch:=fun b o e hx hb=>by
  rcases(hch b hb).1 with z|z
  ·exact hx z
  ·exact absurd (Nat.lt_of_lt_of_le (Heap.lt_size e) z) (Nat.lt_irrefl _)
 have cellK:∀ x c,X.env.cells.lookup x=some c→∀ v,s.heap.IsCell c v→h'.IsCell c v:=fun x c e v ⟨o,ho,hd⟩=>by
  have nch:c∉ch:=fun z=>(hch c z).2.2.1 x c e rfl
  by_cases hc:c∈X.fs
  ·obtain⟨sl,q⟩:=slot c o (I.cne x c e) hc nch ho (I.freeC x c e);exact⟨_,q,hd⟩
  ·exact⟨o,keep c o (I.cne x c e) hc nch ho (I.freeC x c e),hd⟩
 refine⟨I.ok,I.os,hg,⟨fun b o e n hb hx=>?_,fun b o e n hb hx=>?_,fun b o e n hx=>?_,fun b o e hx=>?_,fun b xs e=>tups b xs (I.base.tups b xs e),fun b o xs e=>frzs b o xs (I.base.frzs b o xs e),fun b ps e=>?_⟩,?_,fun x c e=>?_,?_,fun x c e=>?_,fun p hp=>?_,hok,I.len⟩
 ·exact keep b o (neL b o e) hb (neC b o e hx) (I.base.keep b o e n hb hx) (I.base.free b o e n hx)
 ·obtain⟨sl,e1⟩:=I.base.slot b o e n hb hx;obtain⟨sl',e2⟩:=slot b _ (neL b o e) hb (neC b o e hx) e1 (I.base.free b o e n hx);exact⟨sl',e2⟩
 ·obtain⟨o',e1⟩:=I.base.there b o e hx;exact free b o' (neC b o e hx) e1 (I.base.free b o e n hx)
 ·obtain⟨o',e1⟩:=I.base.there b o e hx;exact there b o' (neC b o e hx) e1
 ·obtain⟨m1,e1⟩:=I.base.tbls b ps e;obtain⟨m2,e2⟩:=tbls b _ e1;exact⟨m1++m2,by rw[e2,Array.append_assoc]⟩
 ·obtain⟨m,hn,hl⟩:=I.loc;refine⟨m,ns m hn,fun i x v e1 e2 e3=>?_⟩;obtain⟨u,r,l⟩:=hl i x v e1 e2 e3;refine⟨u,r,?_⟩;rcases l with l|⟨k,c,e,z⟩
  ·exact .inl l
  ·exact .inr ⟨k,c,e,cellK x c e _ z⟩
 ·obtain⟨v,z⟩:=I.cell x c e;exact⟨v,cellK x c e v z⟩
 ·obtain⟨m,⟨o,_,_,ho,_⟩,_⟩:=I.loc;exact free _ o (fun z=>(hch _ z).2.1 rfl) ho I.free
 ·obtain⟨v,o,ho,hd⟩:=I.cell x c e;exact free c o (fun z=>(hch c z).2.2.1 x c e rfl) ho (I.freeC x c e)
 ·obtain⟨e,n,ne,nf,d⟩:=I.pin p hp;have nch:p.1∉ch:=fun z=>(hch p.1 z).2.2.2 p hp rfl;exact⟨keep p.1 p.2 ne nf nch e n,free p.1 p.2 nch e n,ne,nf,d⟩
theorem Inv.un {t':Nat}(I:Inv X pins σ H s)(u:Un X.fs [] H H' s.heap h')(hok:HOk X.prog X.w H' h'):Inv X pins σ H' { s with heap:=h',toks:=t' }:=by
 obtain⟨m,⟨o,es,ep,ho,r⟩,_⟩:=id I.loc;obtain⟨sl,hL⟩:=u.any ho I.free (by simp);exact I.step (g':=s.gens) (d':=s.drawn) (ch:=[]) (fun _ z=>nomatch z) (fun b o _ hb _ e n=>u.keep b o e n hb (by simp)) (fun b o _ hb _ e n=>u.slot b o e n hb (by simp)) (fun b o _ e n=>u.free b o e n (by simp)) (fun b o _ e=>u.there b o e (by simp)) u.tups u.frzs u.tbls (fun m' hm=>by
  obtain⟨o',es',ep',ho',r'⟩:=hm;rw[ho] at ho'; cases ho';exact⟨_,es',ep',hL,r'⟩) hok I.bare
theorem Inv.call {g':Array GenState}{t':Nat}{d':Drawn}{ch:List Addr}(I:Inv X pins σ H s)(u:Un (frs X.stack) ch H H' s.heap h')(hok:HOk X.prog X.w H' h')(hg:AllBare g')
  (hch:∀ b∈ch,(b∈X.ex∨X.s₀.heap.objs.size≤b)∧b≠X.env.locals∧(∀ x c,X.env.cells.lookup x=some c→c≠b)∧∀ p∈X.pn++pins,p.1≠b) :
  Inv X pins σ H' { s with heap:=h',gens:=g',drawn:=d',toks:=t' }:=by
 obtain⟨m,⟨o,es,ep,ho,r⟩,_⟩:=id I.loc;obtain⟨sl,hL⟩:=u.any ho I.free fun z=>(hch _ z).2.1 rfl;exact I.step (ch:=ch) hch (fun b o hL hb hc e n=>u.keep b o e n (fun z=>(List.mem_cons.mp (I.stkSub b z)).elim hL hb) hc) (fun b o _ _ hc e n=>u.any e n hc) (fun b o hc e n=>u.free b o e n hc) (fun b o hc e=>u.there b o e hc) u.tups u.frzs u.tbls (fun m' hm=>by
  obtain⟨o',es',ep',ho',r'⟩:=hm;rw[ho] at ho'; cases ho';exact⟨_,es',ep',hL,r'⟩) hok hg
theorem Inv.turned {t':Nat}{it:Addr}(I:Inv X pins σ H s)(k:∀ b o,b≠it→s.heap.get? b=some o→h'.get? b=some o)(hn:H it=none)(hL:it≠X.env.locals)
  (h1:it∈X.ex∨X.s₀.heap.objs.size≤it) (h2:∀ x c,X.env.cells.lookup x=some c→c≠it) (h3:∀ p∈X.pn++pins,p.1≠it):Inv X pins σ H { s with heap:=h',toks:=t' }:=by
 have nit:∀ b u,H b=some u→b≠it:=fun b u e z=>by rw[z,hn] at e; cases e
 refine I.step (g':=s.gens) (d':=s.drawn) (ch:=[it]) (fun b hb=>?_) (fun b o _ _ hc e _=>k b o (fun z=>hc (by simp[z])) e) (fun b o _ _ hc e _=>⟨o.slots,k b o (fun z=>hc (by simp[z])) e⟩) (fun _ _ _ _ n=>n)
  (fun b o hc e=>⟨o,k b o (fun z=>hc (by simp[z])) e⟩) (fun _ _ e=>e) (fun _ _ _ e=>e) (fun b ps e=>⟨#[],by rw[e]; simp⟩) (fun m hm=>?_) (fun b u e=>?_) I.bare
 ·have e:b=it:=by simpa using hb
  subst e;exact⟨h1,hL,h2,h3⟩
 ·obtain⟨o,es,ep,ho,r⟩:=hm;exact⟨o,es,ep,k _ o (Ne.symm hL) ho,r⟩
 ·refine(I.hok b u e).stay (fun c v hc q=>k c v ?_ q) (fun _ q=>q) fun _ _ q=>q;rcases hc with z|z
  ·rw[z]; exact nit b u e
  ·exact nit c _ z
theorem Inv.tok (I:Inv X pins σ H s)(t:Nat):Inv X pins σ H { s with toks:=t }:=I.un (h':=s.heap) (t':=t) Un.refl I.hok
theorem Inv.kept {t':Nat}(I:Inv X pins σ H s)(k:∀ b u,s.heap.get? b=some u→h'.get? b=some u):Inv X pins σ H { s with heap:=h',toks:=t' }:=I.un (Un.kept k) (I.hok.kept k)
theorem Inv.laid {a:Addr}{o:HO}{t':Nat}(I:Inv X pins σ H s)(k:∀ b u,s.heap.get? b=some u→h'.get? b=some u)(hp:s.heap.objs.size≤a)(new:ObjOk X.prog X.w (upd H a o) h' a o) :
  Inv X pins σ (upd H a o) { s with heap:=h',toks:=t' }:=I.un (Un.laid k hp (I.hok.fresh hp)) (I.hok.laid k hp new)
theorem Inv.write {x e:Addr}{o:HO}{t':Nat}(I:Inv X pins σ H s)(mu:Mut (H x))(he:e=x∨H e=some (.own x))(k:∀ b u,b≠e→s.heap.get? b=some u→h'.get? b=some u)(heo:∃ u,h'.get? e=some u)
  (new:ObjOk X.prog X.w (upd H x o) h' x o):Inv X pins σ (upd H x o) { s with heap:=h',toks:=t' }:=I.un (Un.write mu he k heo) (I.hok.write mu he k heo new)
theorem Inv.weak {σ':List (Option V)}(I:Inv X pins σ H s)(hl:σ'.length=σ.length)(w:∀(i:Nat) v,σ'[i]?=some (some v)→σ[i]?=some (some v)):Inv X pins σ' H s:=
 ⟨I.ok,I.os,I.bare,I.base,let ⟨m,hn,hl'⟩:=I.loc; ⟨m,hn,fun i x v e1 e2 e3=>hl' i x v e1 (w i v e2) e3⟩,I.cell,I.free,I.freeC,I.pin,I.hok,hl.trans I.len⟩
theorem Inv.pins_of {pins':List (Addr×Obj)}(I:Inv X pins σ H s)(h:∀ p∈pins',s.heap.get? p.1=some p.2∧H p.1=none∧p.1≠X.env.locals∧p.1∉X.fs∧∀ v,p.2.data≠.cell v):Inv X pins' σ H s:=
 ⟨I.ok,I.os,I.bare,I.base,I.loc,I.cell,I.free,I.freeC,fun p hp=>(List.mem_append.mp hp).elim (fun z=>I.pin p (List.mem_append_left _ z)) (h p),I.hok,I.len⟩
theorem nodup_ix {N:List Str}(hN:N.Nodup){i j:Nat}{x:Str}(a:N[i]?=some x)(b:N[j]?=some x):i=j:=by
 obtain⟨h1,e1⟩:=List.getElem?_eq_some_iff.mp a;obtain⟨h2,e2⟩:=List.getElem?_eq_some_iff.mp b;exact(List.getElem_inj hN).mp (e1.trans e2.symm)
theorem store_ok2 {M:Model}{A:Around}{E:Value→Shared→Prop}{i:Nat}{x:Str}{v:V}{u:Value}{Q:Unit→Shared→Prop}(I:Inv X pins σ H s)(hN:X.N.Nodup)(hi:X.N[i]?=some x)(hx:Loc X.env.scope x)(r:RelV v u)
  (h:∀ s',Inv X pins (σ.set i (some v)) H s'→(∃ a,Heap.SameBut a s.heap s'.heap∧(a=X.env.locals∨X.env.cells.lookup x=some a))→Q () s') (hf:X.fn x=true∨X.env.scope.names.lookup x=some .local:=by first|exact .inl rfl|exact .inr rfl|assumption):wpAny M A (storeName X.env x u) Q E s:=by
 obtain⟨m,hn,hl⟩:=id I.loc;have hcls:(X.env.scope.kind==.class||(X.env.scope.kind==.module&&X.env.locals != X.env.globals))=false:=by rw[I.ok.kind]; rfl
 have hiσ:i<σ.length:=by rw[I.len]; exact(List.getElem?_eq_some_iff.mp hi).1
 have cne:=I.cne;have tracked:∀{a:Addr} {h':Heap},(∃ o,s.heap.get? a=some o∧H a=none)→Heap.SameBut a s.heap h'→HOk X.prog X.w H h':=fun{a h'} ha hs b ob e=>by
  obtain⟨_,_,hfree⟩:=ha;refine(I.hok b ob e).stay (fun c w' hc q=>(hs.2 c ?_).trans q) (fun _ q=>q) fun _ _ q=>q;rintro rfl;rcases hc with rfl|hc
  ·rw[hfree] at e; cases e
  ·rw[hfree] at hc; cases hc
 rcases hx with hk|hk
 ·refine wpAny_storeName_local hk hn (fun h' hn' hs=>?_) hcls;obtain⟨oL,_,_,hoL,_⟩:=id hn;refine h _ ⟨I.ok,I.os,I.bare,⟨fun b o e n hb hx=>?_,fun b o e n hb hx=>?_,I.base.free,fun b o e hx=>?_,I.base.tups,I.base.frzs,I.base.tbls⟩,⟨_,hn',fun j y v' e1 e2 e3=>?_⟩,fun y c e=>?_,I.free,I.freeC,fun p hp=>?_,tracked ⟨oL,hoL,I.free⟩ hs,by simpa using I.len⟩ ⟨_,hs,.inl rfl⟩
  ·exact(hs.2 b (Nat.ne_of_lt (Nat.lt_of_lt_of_le (Heap.lt_size e) I.ok.above))).trans (I.base.keep b o e n hb hx)
  ·obtain⟨sl,e1⟩:=I.base.slot b o e n hb hx;exact⟨sl,(hs.2 b (Nat.ne_of_lt (Nat.lt_of_lt_of_le (Heap.lt_size e) I.ok.above))).trans e1⟩
  ·obtain⟨o',e1⟩:=I.base.there b o e hx;exact⟨o',(hs.2 b (Nat.ne_of_lt (Nat.lt_of_lt_of_le (Heap.lt_size e) I.ok.above))).trans e1⟩
  ·by_cases hj:j=i
   ·subst hj;rw[hi] at e1; cases e1;rw[List.getElem?_set_self hiσ] at e2
    cases e2
    exact⟨u,r,.inl ⟨hk,by simp⟩⟩
   ·rw[List.getElem?_set_ne (Ne.symm hj)] at e2;obtain⟨u',r',q⟩:=hl j y v' e1 e2 e3;refine⟨u',r',?_⟩;rcases q with⟨k,e⟩|⟨k,c,e,z⟩
    ·refine .inl ⟨k,?_⟩;have:y≠x:=fun e=>hj (nodup_ix hN e1 (e▸hi));simp[this,e]
    ·exact .inr ⟨k,c,e,z.sameBut hs (cne y c e)⟩
  ·obtain⟨w',z⟩:=I.cell y c e;exact⟨w',z.sameBut hs (cne y c e)⟩
  ·obtain⟨e,n,ne,nf,d⟩:=I.pin p hp;exact⟨(hs.2 p.1 ne).trans e,n,ne,nf,d⟩
 ·have hfn:X.fn x=true:=by
   rcases hf with z|z
   ·exact z
   ·rw[z] at hk; cases hk
  obtain⟨c,hc⟩:=I.ok.has x (.inl hk);obtain⟨w',z⟩:=I.cell x c hc;refine wpAny_storeName_cell I.ok.kind hk hc z (fun h' hc' hs=>?_);obtain⟨oc,hoc,hocd⟩:=id z;refine h { s with heap:=h' } ⟨I.ok,I.os,I.bare,⟨fun b o e n hb hx=>?_,fun b o e n hb hx=>?_,I.base.free,fun b o e hx=>?_,I.base.tups,I.base.frzs,I.base.tbls⟩,⟨m,hn.sameBut hs (Ne.symm (cne x c hc)),fun j y v' e1 e2 e3=>?_⟩,fun y c' e=>?_,I.free,I.freeC,fun p hp=>?_,tracked ⟨oc,hoc,I.freeC x c hc⟩ hs,by simpa using I.len⟩ ⟨c,hs,.inr hc⟩
  ·exact(hs.2 b (Nat.ne_of_lt (Nat.lt_of_lt_of_le (Heap.lt_size e) (I.ok.cab x c hfn hc)))).trans (I.base.keep b o e n hb hx)
  ·obtain⟨sl,e1⟩:=I.base.slot b o e n hb hx;exact⟨sl,(hs.2 b (Nat.ne_of_lt (Nat.lt_of_lt_of_le (Heap.lt_size e) (I.ok.cab x c hfn hc)))).trans e1⟩
  ·obtain⟨o',e1⟩:=I.base.there b o e hx;exact⟨o',(hs.2 b (Nat.ne_of_lt (Nat.lt_of_lt_of_le (Heap.lt_size e) (I.ok.cab x c hfn hc)))).trans e1⟩
  ·by_cases hj:j=i
   ·subst hj;rw[hi] at e1; cases e1;rw[List.getElem?_set_self hiσ] at e2
    cases e2
    exact⟨u,r,.inr ⟨.inl hk,c,hc,hc'⟩⟩
   ·rw[List.getElem?_set_ne (Ne.symm hj)] at e2;obtain⟨u',r',q⟩:=hl j y v' e1 e2 e3;refine⟨u',r',?_⟩;rcases q with q|⟨k,c',e,z'⟩
    ·exact .inl q
    ·refine .inr ⟨k,c',e,z'.sameBut hs ?_⟩;rintro rfl;exact hj (nodup_ix hN e1 (I.ok.inj _ _ _ e hc▸hi))
  ·by_cases hcc:c'=c
   ·subst hcc; exact⟨_,hc'⟩
   ·obtain⟨w2,z2⟩:=I.cell y c' e;exact⟨w2,z2.sameBut hs hcc⟩
  ·obtain⟨e,n,ne,nf,d⟩:=I.pin p hp;refine⟨(hs.2 p.1 ?_).trans e,n,ne,nf,d⟩;intro q;rw[q,hoc] at e;have q':oc=p.2:=Option.some.inj e;exact d w' (by rw[← q']; exact hocd)
theorem store_ok {M:Model}{A:Around}{E:Value→Shared→Prop}{i:Nat}{x:Str}{v:V}{u:Value}{Q:Unit→Shared→Prop}(I:Inv X pins σ H s)(hN:X.N.Nodup)(hi:X.N[i]?=some x)(hx:Loc X.env.scope x)(r:RelV v u)
  (h:∀ s',Inv X pins (σ.set i (some v)) H s'→Q () s') (hf:X.fn x=true∨X.env.scope.names.lookup x=some .local:=by first|exact .inl rfl|exact .inr rfl|assumption):wpAny M A (storeName X.env x u) Q E s:=
 store_ok2 I hN hi hx r (fun s' I' _=>h s' I') hf
theorem Inv.call' {s':Shared}{ch:List Addr}(I:Inv X pins σ H s)(ho:s'.os=s.os)(u:Un (frs X.stack) ch H H' s.heap s'.heap)(hok:HOk X.prog X.w H' s'.heap)(hg:AllBare s'.gens)
  (hch:∀ b∈ch,(b∈X.ex∨X.s₀.heap.objs.size≤b)∧b≠X.env.locals∧(∀ x c,X.env.cells.lookup x=some c→c≠b)∧∀ p∈X.pn++pins,p.1≠b):Inv X pins σ H' s':=by
 obtain⟨h',g',d',t',o'⟩:=s';have e:o'=s.os:=ho;subst e;exact I.call (g':=g') (t':=t') (d':=d') u hok hg hch
end
abbrev XK:=Value→Option Addr→Hp→Prop
abbrev St:=List (Option V)
abbrev VK:=V→Hp→Prop
abbrev TE:=St→Hp→VK→Prop
abbrev TT:=St→Hp→(Bool→Hp→Prop)→Prop
abbrev TA:=St→Hp→(List V→Hp→Prop)→Prop
structure Ends where
 nx:St→Hp→Prop
 rt:VK
 bk:St→Hp→Prop:=fun _ _=>False
 ct:St→Hp→Prop:=fun _ _=>False
abbrev TS:=Ends→St→Hp→Prop
noncomputable def EP (X:Cx)(pins:List (Addr×Obj))(σ:St)(Q:VK)(u:Value)(s':Shared):Prop:=∃ v H',Inv X pins σ H' s'∧RelV v u∧Q v H'
noncomputable def TP (X:Cx)(pins:List (Addr×Obj))(σ:St)(Q:Bool→Hp→Prop)(b:Bool)(s':Shared):Prop:=∃ H',Inv X pins σ H' s'∧Q b H'
noncomputable def AP (X:Cx)(pins:List (Addr×Obj))(σ:St)(Q:List V→Hp→Prop)(us:List Value)(s':Shared):Prop:=∃ vs H',Inv X pins σ H' s'∧Vals vs us∧Q vs H'
noncomputable def SP (X:Cx)(pins:List (Addr×Obj))(D:Ends)(f:Flow)(s':Shared):Prop:=
 match f with
 | .next=>∃ σ' H',Inv X pins σ' H' s'∧D.nx σ' H'
 | .brk=>∃ σ' H',Inv X pins σ' H' s'∧D.bk σ' H'
 | .cont=>∃ σ' H',Inv X pins σ' H' s'∧D.ct σ' H'
 | .ret u=>∃ v σ' H',Inv X pins σ' H' s'∧RelV v u∧D.rt v H'
noncomputable def PE (X:Cx)(e:Expr)(t:TE):Prop:=
 ∀(pins:List (Addr×Obj)) (s:Shared) (σ:St) (H:Hp) (Q:VK),Inv X pins σ H s→t σ H Q→wpAny (model X.prog X.w) X.A (eval e X.env) (EP X pins σ Q) X.xe s
noncomputable def PT (X:Cx)(e:Expr)(t:TT):Prop:=
 ∀(pins:List (Addr×Obj)) (s:Shared) (σ:St) (H:Hp) (Q:Bool→Hp→Prop),Inv X pins σ H s→t σ H Q→wpAny (model X.prog X.w) X.A (isTrue e X.env (eval e X.env)) (TP X pins σ Q) X.xe s
noncomputable def PW (X:Cx)(e:Expr)(t:TT):Prop:=
 ∀(whole:Sem Value) (pins:List (Addr×Obj)) (s:Shared) (σ:St) (H:Hp) (Q:Bool→Hp→Prop),Inv X pins σ H s→t σ H Q→wpAny (model X.prog X.w) X.A (isTrue e X.env whole) (TP X pins σ Q) X.xe s
theorem PW.pt {X:Cx}{e:Expr}{t:TT}(h:PW X e t):PT X e t:=h _
noncomputable def PA (X:Cx)(es:List Expr)(t:TA):Prop:=
 ∀(pos:Pos) (pins:List (Addr×Obj)) (s:Shared) (σ:St) (H:Hp) (Q:List V→Hp→Prop),Inv X pins σ H s→t σ H Q→wpAny (model X.prog X.w) X.A (spliced (backTo pos (starEach es X.env))) (AP X pins σ Q) X.xe s
noncomputable def PS (X:Cx)(st:Stmt)(t:TS):Prop:=
 ∀(pins:List (Addr×Obj)) (s:Shared) (σ:St) (H:Hp) (D:Ends),Inv X pins σ H s→t D σ H→wpAny (model X.prog X.w) X.A (exec st X.env) (SP X pins D) X.xe s
noncomputable def PSs (X:Cx)(st:List Stmt)(t:TS):Prop:=
 ∀(pins:List (Addr×Obj)) (s:Shared) (σ:St) (H:Hp) (D:Ends),Inv X pins σ H s→t D σ H→wpAny (model X.prog X.w) X.A (execs st X.env) (SP X pins D) X.xe s
theorem thn {α:Type}{t:Sem α}{Q Q':α→Shared→Prop}{M:Model}{A:Around}{E:Value→Shared→Prop}{s:Shared}(h:wpAny M A t Q E s)(hQ:∀ a s,Q a s→Q' a s):wpAny M A t Q' E s:=wpAny_mono h hQ fun _ _ x=>x
end L2
namespace L2
open PySem PySem.Spec PyProof.Rows
section
variable {X:Cx}
theorem bin {a b:Expr}{ta tb:TE}(ha:PE X a ta)(hb:PE X b tb){pins:List (Addr×Obj)}{s:Shared}{σ:St}{H:Hp}{R:V→V→Hp→Prop}(I:Inv X pins σ H s)(h:ta σ H fun x H1=>tb σ H1 fun y H2=>R x y H2)
  {α:Type} {Q:α→Shared→Prop} {f:Value→Value→Sem α}
  (hf:∀ v u s2 x y H2,Inv X pins σ H2 s2→RelV x v→RelV y u→R x y H2→wpAny (model X.prog X.w) X.A (f v u) Q X.xe s2) :
  wpAny (model X.prog X.w) X.A (eval a X.env) (fun v s₁=>wpAny (model X.prog X.w) X.A (eval b X.env) (fun u s₂=>wpAny (model X.prog X.w) X.A (f v u) Q X.xe s₂) X.xe s₁) X.xe s:=by
 refine thn (ha pins s σ H _ I h) fun v s1 ⟨x,H1,I1,r1,q1⟩=>?_;refine thn (hb pins s1 σ H1 _ I1 q1) fun u s2 ⟨y,H2,I2,r2,q2⟩=>?_;exact hf v u s2 x y H2 I2 r1 r2 q2
noncomputable def tVar (i:Nat):TE:=fun σ H Q=>∃ v,σ[i]?=some (some v)∧Q v H
noncomputable def tC (v:V):TE:=fun _ H Q=>Q v H
theorem pe_var {i:Nat}{x:Str}{pos:Pos}(hN:X.N[i]?=some x)(hv:Vis X.env.scope x)(hd:(x==("__debug__" : Str))=false:=by decide)(hcd:(x==("__classdict__" : Str))=false:=by decide):PE X (.Name x pos) (tVar i):=by
 intro pins s σ H Q I h;obtain⟨v,e,h⟩:=h;obtain⟨m,hn,hl⟩:=I.loc;obtain⟨u,r,l⟩:=hl i x v hN e hv;have fin:EP X pins σ Q u s:=⟨v,H,I,r,h⟩;rcases l with⟨hk,hm⟩|⟨hk,c,hc,hcell⟩
 ·exact wpAny_Name (wpAny_loadName_local I.ok.kind hk hn hm fin) hd
 ·rcases hk with hk|hk
  ·exact wpAny_Name (wpAny_loadName_cell I.ok.kind hk hc hcell fin) hd
  ·exact wpAny_Name (wpAny_loadName_free I.ok.kind hk hc hcell fin hcd) hd
theorem aH {i j pos}:PE X (.Constant (.int i) j pos) (tC (.int i)):=fun _ _ _ H _ I h=>wpAny_Constant_int ⟨.int i,H,I.tok _,⟨_,rfl⟩,h⟩
theorem pe_bl {b j pos}:PE X (.Constant (.bool b) j pos) (tC (.bl b)):=fun _ _ _ H _ I h=>Constant_bool ⟨.bl b,H,I,rfl,h⟩
theorem pe_non {j pos}:PE X (.Constant .none j pos) (tC .non):=fun _ _ _ H _ I h=>Constant_none ⟨.non,H,I,rfl,h⟩
theorem cF {x j pos}:PE X (.Constant (.str x) j pos) (tC (.str x)):=fun _ _ _ H _ I h=>Calls.Constant_str ⟨.str x,H,I.tok _,⟨_,rfl⟩,h⟩
noncomputable def Gl (X:Cx)(x:Str):Prop:=X.env.kindOf x=some .globalImplicit
theorem ld_glob {E:Value→Shared→Prop}{pins:List (Addr×Obj)}{s:Shared}{σ:St}{H:Hp}{x:Str}{u:Value}{pos:Pos}{Q:Value→Shared→Prop}(I:Inv X pins σ H s)(hg:Gl X x)(hm:X.mg x=some u)(h:Q u s)
  (hd:(x==("__debug__" : Str))=false:=by decide):wpAny (model X.prog X.w) X.A (eval (.Name x pos) X.env) Q E s:=
 Calls.Name_function_global I.ok.kind hg (Calls.loadGlobal_global (by rw[I.ok.glob]; exact I.mod.glob.keeps I.bk) hm h) hd
theorem ld_blt {E:Value→Shared→Prop}{pins:List (Addr×Obj)}{s:Shared}{σ:St}{H:Hp}{x:Str}{u:Value}{pos:Pos}{Q:Value→Shared→Prop}(I:Inv X pins σ H s)(hg:Gl X x)(hm:X.mg x=none)(hv:bootBuiltins x=some u)(h:Q u s)
  (hn:x ≠ "__name__" := by decide) (hd:(x==("__debug__" : Str))=false:=by decide):wpAny (model X.prog X.w) X.A (eval (.Name x pos) X.env) Q E s:=by
 obtain⟨mb,h1,h2⟩:=I.mod.blt;exact Calls.Name_function_global I.ok.kind hg (Calls.loadGlobal_builtin (by rw[I.ok.glob]; exact I.mod.glob.keeps I.bk) hm (by rw[I.ok.blt]; exact h1.keeps I.bk) ((h2 x hn).trans hv) h) hd
theorem pe_glob {x:Str}{v:V}{u:Value}{pos:Pos}(hg:Gl X x)(hm:X.mg x=some u)(r:RelV v u)(hd:(x==("__debug__" : Str))=false:=by decide):PE X (.Name x pos) (tC v):=
 fun _ _ _ H _ I h=>ld_glob I hg hm ⟨v,H,I,r,h⟩ hd
theorem aR {x:Str}{v:V}{u:Value}{pos:Pos}(hg:Gl X x)(hm:X.mg x=none)(hv:bootBuiltins x=some u)(r:RelV v u)(hn:x ≠ "__name__" := by decide)(hd:(x==("__debug__" : Str))=false:=by decide):PE X (.Name x pos) (tC v):=
 fun _ _ _ H _ I h=>ld_blt I hg hm hv ⟨v,H,I,r,h⟩ hn hd
variable {a b:Expr}{ta tb:TE}{pos:Pos}
noncomputable def PC (X:Cx)(op:CmpOp)(a b:Expr)(t:TE):Prop:=
 ∀(pins:List (Addr×Obj)) (s:Shared) (σ:St) (H:Hp) (Q:VK),Inv X pins σ H s→t σ H Q →
  wpAny (model X.prog X.w) X.A (eval a X.env) (fun v s₁=>wpAny (model X.prog X.w) X.A (eval b X.env) (fun u s₂=>wpAny (model X.prog X.w) X.A (compareOp op v u) (EP X pins σ Q) X.xe s₂) X.xe s₁) X.xe s
noncomputable def tB (t:TE):TT:=fun σ H Q=>t σ H fun x H1=>∃ c,x=.bl c∧Q c H1
theorem pt_cmp {op:CmpOp}{t:TE}(h:PC X op a b t)(h1:behindInMarks op b=false:=by first|exact nobehind _ (by decide) (by decide)|rfl):PT X (.Compare a [op] [b] pos) (tB t):=by
 intro pins s σ H Q I hw;refine wpAny_isTrue_Compare1 (thn (h pins s σ H _ I hw) fun v s1 h1=>thn h1 fun u s2 h2=>thn h2 fun c s3 ⟨x,H1,I1,r1,q1⟩=>?_) h1;obtain⟨d,rfl,q⟩:=q1
 cases r1
 exact wpAny_truthy_bool ⟨H1,I1,q⟩
theorem dG {e:Expr}{t:TE}(h:PE X e t)(he:∀ whole,isTrue e X.env whole=(do let v←whole; standAt e.pos; holding [v] (truthy v)):=by intro _; rfl):PT X e (tB t):=by
 intro pins s σ H Q I hw;refine isTrue_plain (thn (h pins s σ H _ I hw) fun v s1 ⟨x,H1,I1,r1,q1⟩=>?_) (he _);obtain⟨d,rfl,q⟩:=q1
 cases r1
 exact wpAny_truthy_bool ⟨H1,I1,q⟩
variable {tA tB':TT}{rest:List Expr}
noncomputable def tAnd (t u:TT):TT:=fun σ H Q=>t σ H fun c H1=>if c=true then u σ H1 Q else Q false H1
noncomputable def tOr (t u:TT):TT:=fun σ H Q=>t σ H fun c H1=>if c=true then Q true H1 else u σ H1 Q
noncomputable def tNot (t:TT):TT:=fun σ H Q=>t σ H fun c H1=>Q (!c) H1
theorem pw_and1 (ha:PT X a tA):PW X (.BoolOp .And [a] pos) tA:=by
 intro wh pins s σ H Q I h;refine isTrue_and (thn (ha pins s σ H Q I h) fun c s1 e=>?_)
 cases c with
 | true=>exact isTrue_and_nil e
 | false=>exact e
theorem pw_or1 (ha:PT X a tA):PW X (.BoolOp .Or [a] pos) tA:=by
 intro wh pins s σ H Q I h;refine isTrue_or (thn (ha pins s σ H Q I h) fun c s1 e=>?_)
 cases c with
 | false=>exact isTrue_or_nil e
 | true=>exact e
theorem pw_and (ha:PT X a tA)(hb:PW X (.BoolOp .And (b::rest) pos) tB'):PW X (.BoolOp .And (a::b::rest) pos) (tAnd tA tB'):=by
 intro wh pins s σ H Q I h;refine isTrue_and (thn (ha pins s σ H _ I h) fun c s1 ⟨H1,I1,q1⟩=>?_)
 cases c with
 | true=>exact hb wh pins s1 σ H1 Q I1 q1
 | false=>exact⟨H1,I1,q1⟩
theorem pw_or (ha:PT X a tA)(hb:PW X (.BoolOp .Or (b::rest) pos) tB'):PW X (.BoolOp .Or (a::b::rest) pos) (tOr tA tB'):=by
 intro wh pins s σ H Q I h;refine isTrue_or (thn (ha pins s σ H _ I h) fun c s1 ⟨H1,I1,q1⟩=>?_)
 cases c with
 | true=>exact⟨H1,I1,q1⟩
 | false=>exact hb wh pins s1 σ H1 Q I1 q1
theorem pt_not (ha:PT X a tA):PT X (.UnaryOp .Not a pos) (tNot tA):=by
 intro pins s σ H Q I h;exact isTrue_not (ha pins s σ H (fun c H1=>Q (!c) H1) I h)
noncomputable def tAndV (ta tb:TE):TE:=fun σ H Q=>ta σ H fun x H1=>∃ c,x=.bl c∧if c=true then tb σ H1 Q else Q (.bl false) H1
noncomputable def tNotV (ta:TE):TE:=fun σ H Q=>ta σ H fun x H1=>∃ c,x=.bl c∧Q (.bl (!c)) H1
theorem pe_one {op}{t:TE}(h:PE X a t):PE X (.BoolOp op [a] pos) t:=fun pins s σ H Q I hw=>BoolOp_one (h pins s σ H Q I hw)
theorem pe_and (ha:PE X a ta)(hb:PE X (.BoolOp .And (b::rest) pos) tb):PE X (.BoolOp .And (a::b::rest) pos) (tAndV ta tb):=by
 intro pins s σ H Q I h;refine BoolOp_and (thn (ha pins s σ H _ I h) fun v s1 ⟨x,H1,I1,r1,q1⟩=>?_);obtain⟨c,rfl,q1⟩:=q1
 cases r1
 refine wpAny_truthy_bool ?_
 cases c with
 | true=>exact hb pins s1 σ H1 Q I1 q1
 | false=>exact⟨.bl false,H1,I1,rfl,q1⟩
theorem pe_not (ha:PE X a ta):PE X (.UnaryOp .Not a pos) (tNotV ta):=by
 intro pins s σ H Q I h;refine UnaryOp_ (thn (ha pins s σ H _ I h) fun v s1 ⟨x,H1,I1,r1,q1⟩=>?_);obtain⟨c,rfl,q1⟩:=q1
 cases r1
 exact not_of (wpAny_truthy_bool ⟨.bl (!c),H1,I1,rfl,q1⟩)
noncomputable def tIf (t:TT)(ta tb:TE):TE:=fun σ H Q=>t σ H fun c H1=>if c=true then ta σ H1 Q else tb σ H1 Q
theorem pe_ifExp {c:Expr}(hc:PT X c tA)(ha:PE X a ta)(hb:PE X b tb):PE X (.IfExp c a b pos) (tIf tA ta tb):=by
 intro pins s σ H Q I h;refine wpAny_IfExp (thn (hc pins s σ H _ I h) fun d s1 ⟨H1,I1,q1⟩=>?_)
 cases d with
 | true=>exact ha pins s1 σ H1 Q I1 q1
 | false=>exact hb pins s1 σ H1 Q I1 q1
end
end L2
namespace L2
open PySem PySem.Spec PyProof.Rows
noncomputable def SqL (K:PySem.W.Frag)(H:Hp)(a:Addr)(xs:List V):Prop:=
 Rd H a (.lst xs) ∨
  ∃(o:Obj) (its:Array Value) (n:Nat),K.lookup a=some o∧o.cls=.type "list" ∧ o.dict=none∧o.data=.seq its n∧its.size≤sizeLine∧Vals xs its.toList
noncomputable def SqT (K:PySem.W.Frag)(H:Hp)(a:Addr)(xs:List V):Prop:=
 Rd H a (.tup xs) ∨
  ∃(o:Obj) (its:Array Value) (n:Nat),K.lookup a=some o∧o.cls=.type "tuple" ∧ o.data=.seq its n∧its.size≤sizeLine∧Vals xs its.toList
noncomputable def absV:Value→Option V
 | .none=>some .non
 | .bool b=>some (.bl b)
 | .int i _=>some (.int i)
 | .str x _=>some (.str x)
 | .bytes b _=>some (.byt b)
 | .float b _=>some (.flt b)
 | .ref a=>some (.ref a)
 | .type n=>some (.ty n)
 | _=>none
theorem RelV.abs {x:V}{u:Value}(r:RelV x u):absV u=some x:=by
 cases x with
 | non=>cases r; rfl
 | bl _=>cases r; rfl
 | int _=>obtain⟨t,rfl⟩:=r; rfl
 | str _=>obtain⟨t,rfl⟩:=r; rfl
 | byt _=>obtain⟨t,rfl⟩:=r; rfl
 | flt _=>obtain⟨t,rfl⟩:=r; rfl
 | ref _=>cases r; rfl
 | ty _=>cases r; rfl
theorem RelV.inj {x y:V}{u:Value}(r:RelV x u)(q:RelV y u):x=y:=Option.some.inj (r.abs.symm.trans q.abs)
theorem Vals.inj:∀{xs ys:List V} {us:List Value},Vals xs us→Vals ys us→xs=ys:=by
 intro xs ys us h
 induction h generalizing ys with
 | nil=>intro q; cases q; rfl
 | cons r t ih=>intro q; cases q with|cons r' t'=>rw[r.inj r',ih t']
section
variable {X:Cx}{pins:List (Addr×Obj)}{σ:St}{H:Hp}{s:Shared}{a:Addr}{xs ys:List V}
theorem SqL.of {K:PySem.W.Frag}(h:H a=some (.lst xs)):SqL K H a xs:=.inl (.inl h)
theorem SqT.of {K:PySem.W.Frag}(h:H a=some (.tup xs)):SqT K H a xs:=.inl (.inl h)
theorem Inv.list (I:Inv X pins σ H s)(h:SqL X.K H a xs):∃ its:List Value,Vals xs its∧PlainL s.heap a its.toArray∧xs.length≤sizeLine:=by
 rcases h with h|⟨o,its,n,hk,hc,hd,hs,hz,r⟩
 ·obtain⟨z,its,n,r,e⟩:=h.ok I.hok;exact⟨its,r,⟨_,n,e,rfl,rfl,rfl⟩,z⟩
 ·refine⟨its.toList,r,⟨o,n,I.kIn a o hk,hc,hd,by simpa using hs⟩,?_⟩;have e:=r.length;simp only[Array.length_toList] at e;omega
theorem Inv.tuple (I:Inv X pins σ H s)(h:SqT X.K H a xs):∃ its:List Value,Vals xs its∧IsTup s.heap a its.toArray∧xs.length≤sizeLine:=by
 rcases h with h|⟨o,its,n,hk,hc,hs,hz,r⟩
 ·obtain⟨z,its,r,p⟩:=h.ok I.hok;exact⟨its,r,p,z⟩
 ·refine⟨its.toList,r,⟨o,I.kIn a o hk,hc,n,by simpa using hs⟩,?_⟩;have e:=r.length;simp only[Array.length_toList] at e;omega
theorem Inv.list_inj (I:Inv X pins σ H s)(h:SqL X.K H a xs)(h':SqL X.K H a ys):xs=ys:=by
 obtain⟨its,r,⟨o,n,e,_,_,d⟩,_⟩:=I.list h;obtain⟨its',r',⟨o',n',e',_,_,d'⟩,_⟩:=I.list h';rw[e] at e'; cases e';rw[d] at d';injection d' with d1 _;have:its=its':=by simpa using congrArg Array.toList d1
 subst this;exact r.inj r'
theorem Inv.tuple_inj (I:Inv X pins σ H s)(h:SqT X.K H a xs)(h':SqT X.K H a ys):xs=ys:=by
 obtain⟨its,r,⟨o,e,_,n,d⟩,_⟩:=I.tuple h;obtain⟨its',r',⟨o',e',_,n',d'⟩,_⟩:=I.tuple h';rw[e] at e'; cases e';rw[d] at d';injection d' with d1 _;have:its=its':=by simpa using congrArg Array.toList d1
 subst this;exact r.inj r'
end
abbrev Cx.wish (X:Cx)(E:Value→Shared→Prop):Cx:={ X with xe:=E }
abbrev Cx.nox (X:Cx):Cx:=X.wish fun _ _=>False
theorem Cx.Ok.wish {X:Cx}(ok:X.Ok)(E:Value→Shared→Prop):(X.wish E).Ok:=
 ⟨ok.mod,ok.kind,ok.glob,ok.blt,ok.above,ok.inj,ok.has,ok.cab,ok.hd,ok.frames,ok.stk,ok.exf,ok.bs,ok.bsz,ok.noex,ok.exfs,ok.funs,ok.frf⟩
theorem Cx.Ok.unwish {X:Cx}{E:Value→Shared→Prop}(ok:(X.wish E).Ok):X.Ok:=
 ⟨ok.mod,ok.kind,ok.glob,ok.blt,ok.above,ok.inj,ok.has,ok.cab,ok.hd,ok.frames,ok.stk,ok.exf,ok.bs,ok.bsz,ok.noex,ok.exfs,ok.funs,ok.frf⟩
section
variable {X:Cx}{pins:List (Addr×Obj)}{σ:St}{H:Hp}{s:Shared}{E:Value→Shared→Prop}
theorem Inv.wish (I:Inv X pins σ H s)(E:Value→Shared→Prop):Inv (X.wish E) pins σ H s:=⟨I.ok.wish E,I.os,I.bare,I.base,I.loc,I.cell,I.free,I.freeC,I.pin,I.hok,I.len⟩
theorem Inv.unwish (I:Inv (X.wish E) pins σ H s):Inv X pins σ H s:=⟨I.ok.unwish,I.os,I.bare,I.base,I.loc,I.cell,I.free,I.freeC,I.pin,I.hok,I.len⟩
theorem SP.unwish {D:Ends}{f:Flow}{s':Shared}(h:SP (X.wish E) pins D f s'):SP X pins D f s':=by
 cases f with
 | next=>obtain⟨σ',H',I,q⟩:=h; exact⟨σ',H',I.unwish,q⟩
 | brk=>obtain⟨σ',H',I,q⟩:=h; exact⟨σ',H',I.unwish,q⟩
 | cont=>obtain⟨σ',H',I,q⟩:=h; exact⟨σ',H',I.unwish,q⟩
 | ret u=>obtain⟨v,σ',H',I,r,q⟩:=h; exact⟨v,σ',H',I.unwish,r,q⟩
theorem PSs.nox {st:List Stmt}{t:TS}(h:PSs X.nox st t):PSs X st t:=fun pins s σ H D I hw=>
 wpAny_mono (h pins s σ H D (I.wish _) hw) (fun _ _ q=>q.unwish) fun _ _ z=>False.elim z
end
section
variable {X:Cx}{st:Stmt}{rest:List Stmt}{t u:TS}{e:Expr}{te:TE}{pos:Pos}
noncomputable def tNext:TS:=fun D σ H=>D.nx σ H
noncomputable def tSeq (t u:TS):TS:=fun D σ H=>t { D with nx:=u D } σ H
theorem bJ:PSs X [] tNext:=fun _ _ σ H _ I h=>wpAny_execs_nil ⟨σ,H,I,h⟩
theorem aD (h1:PS X st t)(h2:PSs X rest u):PSs X (st::rest) (tSeq t u):=by
 intro pins s σ H D I h;refine wpAny_execs_cons (thn (h1 pins s σ H { D with nx:=u D } I h) fun f s1 q=>?_)
 cases f with
 | next=>
  obtain⟨σ',H',I',q⟩:=q;exact h2 pins s1 σ' H' D I' q
 | ret v=>exact q
 | brk=>exact q
 | cont=>exact q
theorem aG (h1:PS X st t):PSs X [st] t:=by
 intro pins s σ H D I h;refine wpAny_execs_cons (thn (h1 pins s σ H D I h) fun f s1 q=>?_)
 cases f with
 | next=>exact wpAny_execs_nil q
 | ret v=>exact q
 | brk=>exact q
 | cont=>exact q
theorem Inv.quiet {pins:List (Addr×Obj)}{σ:St}{H:Hp}{s:Shared}(I:Inv X pins σ H s):interactive X.env=false:=by simp[interactive,I.ok.kind]
noncomputable def tDrop (te:TE):TS:=fun D σ H=>te σ H fun _ H1=>D.nx σ H1
theorem ps_expr (he:PE X e te)(hs:swapsWith e none pos.line X.env=pure false:=by rfl):PS X (.Expr e pos) (tDrop te):=by
 intro pins s σ H D I h;exact wpAny_Expr_any (thn (he pins s σ H _ I h) fun v s1 ⟨x,H1,I1,r1,q1⟩=>⟨σ,H1,I1,q1⟩) I.quiet hs
noncomputable def tRet (te:TE):TS:=fun D σ H=>te σ H D.rt
theorem aX (he:PE X e te):PS X (.Return (some e) pos) (tRet te):=by
 intro pins s σ H D I h;exact wpAny_Return_some (thn (he pins s σ H _ I h) fun v s1 ⟨x,H1,I1,r1,q1⟩=>⟨x,σ,H1,I1,r1,q1⟩)
noncomputable def tIfS (c:TT)(t u:TS):TS:=fun D σ H=>c σ H fun b H1=>if b=true then t D σ H1 else u D σ H1
theorem cN {c:Expr}{a b:List Stmt}{tc:TT}(hc:PT X c tc)(ha:PSs X a t)(hb:PSs X b u):PS X (.If c a b pos) (tIfS tc t u):=by
 intro pins s σ H D I h;refine wpAny_If (thn (hc pins s σ H _ I h) fun d s1 ⟨H1,I1,q1⟩=>?_)
 cases d with
 | true=>exact ha pins s1 σ H1 D I1 q1
 | false=>exact hb pins s1 σ H1 D I1 q1
noncomputable def tNever:TS:=fun _ _ _=>False
theorem ps_never:PS X st tNever:=fun _ _ _ _ _ _ h=>h.elim
end
abbrev TG:=V→St→Hp→(St→Hp→Prop)→Prop
abbrev TGs:=List V→St→Hp→(St→Hp→Prop)→Prop
noncomputable def PG (X:Cx)(target:Expr)(t:TG):Prop:=
 ∀(pins:List (Addr×Obj)) (s:Shared) (σ:St) (H:Hp) (v:V) (u:Value) (Q:St→Hp→Prop),Inv X pins σ H s→RelV v u→t v σ H Q →
  wpAny (model X.prog X.w) X.A (assign target X.env u) (fun _ s'=>∃ σ' H',Inv X pins σ' H' s'∧Q σ' H') X.xe s
noncomputable def PGs (X:Cx)(ts:List Expr)(t:TGs):Prop:=
 ∀(pins:List (Addr×Obj)) (s:Shared) (σ:St) (H:Hp) (vs:List V) (us:List Value) (Q:St→Hp→Prop),Inv X pins σ H s→Vals vs us→t vs σ H Q →
  wpAny (model X.prog X.w) X.A (assignInOrder ((assignEach ts X.env).map (·.2)) us) (fun _ s'=>∃ σ' H',Inv X pins σ' H' s'∧Q σ' H') X.xe s
abbrev TSet:=V→V→V→Hp→(Hp→Prop)→Prop
noncomputable def PSet (X:Cx)(t:TSet):Prop:=
 ∀(pins:List (Addr×Obj)) (s:Shared) (σ:St) (H:Hp) (o i v:V) (ov iv u:Value) (Q:Hp→Prop),Inv X pins σ H s→RelV o ov→RelV i iv→RelV v u→t o i v H Q →
  wpAny (model X.prog X.w) X.A (setItem ov iv u) (fun _ s'=>∃ H',Inv X pins σ H' s'∧Q H') X.xe s
section
variable {X:Cx}{pos:Pos}
noncomputable def gName (i:Nat):TG:=fun v σ H Q=>Q (σ.set i (some v)) H
theorem cP {i:Nat}{x:Str}(hN:X.N.Nodup)(hi:X.N[i]?=some x)(hx:Loc X.env.scope x)(hf:X.fn x=true∨X.env.scope.names.lookup x=some .local:=by first|exact .inl rfl|exact .inr rfl|assumption):PG X (.Name x pos) (gName i):=by
 intro pins s σ H v u Q I r h;exact wpAny_assign_Name (store_ok I hN hi hx r (fun s' I'=>⟨_,H,I',h⟩) hf)
noncomputable def gNil:TGs:=fun vs σ H Q=>vs=[]∧Q σ H
noncomputable def gCons (t:TG)(u:TGs):TGs:=fun vs σ H Q=>∃ v r,vs=v::r∧t v σ H fun σ' H'=>u r σ' H' Q
theorem pgs_nil:PGs X [] gNil:=by
 intro pins s σ H vs us Q I r h;obtain⟨e,h⟩:=h;subst e
 cases r
 exact assignInOrder_nil ⟨σ,H,I,h⟩
theorem pgs_cons {e:Expr}{es:List Expr}{t:TG}{u:TGs}(h1:PG X e t)(h2:PGs X es u)
  (hs:(assignEach (e::es) X.env).map (·.2)=assign e X.env::(assignEach es X.env).map (·.2):=by rfl):PGs X (e::es) (gCons t u):=by
 intro pins s σ H vs us Q I r h;obtain⟨v,vr,e1,h⟩:=h;subst e1
 cases r with
 | cons r rr=>
  rw[hs];refine assignInOrder_cons (thn (h1 pins s σ H _ _ _ I r h) fun _ s1 ⟨σ1,H1,I1,q1⟩=>?_);exact h2 pins s1 σ1 H1 _ _ Q I1 rr q1
noncomputable def gTup (K:PySem.W.Frag)(n:Nat)(t:TGs):TG:=fun v σ H Q=>∃ a xs,v=.ref a∧SqT K H a xs∧xs.length=n∧t xs σ H Q
theorem pg_tup {es:List Expr}{k:Nat}{t:TGs}{n:Nat}(hc:X.calm=true)(h:PGs X es t)
  (hn:(assignEach es X.env).length=n:=by rfl) (hst:(assignEach es X.env).findIdx? (·.1)=none:=by rfl):PG X (.Tuple es k pos) (gTup X.K n t):=by
 intro pins s σ H v u Q I r hw;obtain⟨a,xs,e1,hq,hl,hw⟩:=hw;subst e1
 cases r
 obtain⟨its,rv,ht,hz⟩:=I.tuple hq;refine assign_Tuple_tuple (I.ok.hd hc) ht (by simp[hn,←hl,rv.length]) hst fun h' hx=>?_;have I1:Inv X pins σ H { s with heap:=h' }:=I.kept (t':=s.toks) fun b o e=>hx b o (Nat.ne_of_lt (Heap.lt_size e)) e;exact h pins _ σ H xs _ Q I1 (by simpa using rv) hw
noncomputable def gSub (to ti:TE)(t:TSet):TG:=fun v σ H Q=>to σ H fun o H1=>ti σ H1 fun i H2=>t o i v H2 fun H3=>Q σ H3
theorem pg_sub {o i:Expr}{to ti:TE}{t:TSet}(ho:PE X o to)(hi:PE X i ti)(hs:PSet X t)
  (ha:∀ v,assign (.Subscript o i pos) X.env v=(do
   let ov←holding [v] (eval o X.env)
   let iv←holding [v,ov] (eval i X.env)
   standAt pos
   holding [v,ov,iv] (setItem ov iv v)
   release [v,ov,iv] []):=by intro _; rfl):PG X (.Subscript o i pos) (gSub to ti t):=by
 intro pins s σ H v u Q I r h;rw[ha];refine wpAny_bind (wpAny_holding (thn (ho pins s σ H _ I h) fun ov s1 ⟨x,H1,I1,r1,q1⟩=>?_));refine wpAny_bind (wpAny_holding (thn (hi pins s1 σ H1 _ I1 q1) fun iv s2 ⟨y,H2,I2,r2,q2⟩=>?_));refine wpAny_bind (wpAny_standAt (wpAny_bind (wpAny_holding (thn (hs pins s2 σ H2 x y v ov iv u _ I2 r1 r2 r q2) fun _ s3 ⟨H3,I3,q3⟩=>?_))));exact wpAny_release ⟨σ,H3,I3,q3⟩
noncomputable def tAsg (te:TE)(g:TG):TS:=fun D σ H=>te σ H fun x H1=>g x σ H1 D.nx
theorem ps_asg {tg e:Expr}{te:TE}{g:TG}(he:PE X e te)(hg:PG X tg g)(hs:swapsWithSole [tg] e pos.line X.env=pure false:=by rfl)(hw:swappedStores [tg] e X.env=pure none:=by rfl)
  (h1:(assignEach [tg] X.env).map (·.2)=[assign tg X.env]:=by rfl):PS X (.Assign [tg] e pos) (tAsg te g):=by
 intro pins s σ H D I h;refine wpAny_Assign_stores (thn (he pins s σ H _ I h) fun v s1 ⟨x,H1,I1,r1,q1⟩=>?_) hs hw;rw[h1];exact thn (hg pins s1 σ H1 x v _ I1 r1 q1) fun _ s2 q=>q
theorem bM {i:Nat}{x:Str}{e:Expr}{te:TE}{pos':Pos}(hN:X.N.Nodup)(hi:X.N[i]?=some x)(hx:Loc X.env.scope x)(he:PE X e te)(hs:swapsWith e (some (.Name x pos')) pos.line X.env=pure false:=by rfl)(hf:X.fn x=true∨X.env.scope.names.lookup x=some .local:=by first|exact .inl rfl|exact .inr rfl|assumption) :
  PS X (.Assign [.Name x pos'] e pos) (tAsg te (gName i)):=by
 intro pins s σ H D I h;refine wpAny_Assign_Name (thn (he pins s σ H _ I h) fun v s1 ⟨y,H1,I1,r1,q1⟩=>?_) hs;exact store_ok I1 hN hi hx r1 (fun s2 I2=>⟨_,H1,I2,q1⟩) hf
noncomputable def tPar (i j:Nat)(ta:TA):TS:=fun D σ H=>ta σ H fun vs H1=>∃ v w,vs=[v,w]∧D.nx ((σ.set i (some v)).set j (some w)) H1
theorem ps_par {i j:Nat}{x y:Str}{a b:Expr}{ta:TA}{px py pt:Pos}{kt k2 pt2}(hc:X.calm=true)(hN:X.N.Nodup)(hi:X.N[i]?=some x)(hj:X.N[j]?=some y)(hij:i≠j)
  (hx:X.env.scope.names.lookup x=some .local) (hy:X.env.scope.names.lookup y=some .local) (ha:PA X [a,b] ta)
  (hw:swappedStores [.Tuple [.Name x px,.Name y py] kt pt] (.Tuple [a,b] k2 pt2) X.env=pure (some [x,y]))
  (hs:swapsWithSole [.Tuple [.Name x px,.Name y py] kt pt] (.Tuple [a,b] k2 pt2) pos.line X.env=pure false:=by rfl) :
  PS X (.Assign [.Tuple [.Name x px,.Name y py] kt pt] (.Tuple [a,b] k2 pt2) pos) (tPar i j ta):=by
 intro pins s σ H D I h;rw[exec_Assign_arm];refine wpAny_bind (wpAny_standAt ?_);rw[hs];refine wpAny_bind (wpAny_pure ?_);rw[if_neg (by decide)];refine wpAny_bind (Tuple_ (thn (ha _ pins s σ H _ I h) fun us s1 ⟨vs,H1,I1,r1,q1⟩=>?_));obtain⟨v,w,e1,q1⟩:=q1;subst e1;obtain⟨u1,u2,rfl,rv,rw'⟩:∃ u1 u2,us=[u1,u2]∧RelV v u1∧RelV w u2:=by
  cases r1 with
  | cons p q=>
   cases q with
   | cons p' q'=>
    cases q'
    exact⟨_,_,rfl,p,p'⟩
 refine wpAny_newObj_type ?_ (by show 2≤sizeLine; decide);have I2:Inv X pins σ H1 { s1 with heap:=s1.heap.push { cls:=.type "tuple", data:=.seq [u1,u2].toArray } }:=I1.kept (t':=s1.toks) fun b o e=>Heap.get?_push_of_some _ e;rw[hw];refine wpAny_bind (wpAny_pure ?_);show wpAny (model X.prog X.w) X.A (do rule "assign.swapped-stores"; let items←unpackItems (.ref s1.heap.objs.size) 2 none; assignInOrder [fun v=>bindName X.env y v,fun v=>bindName X.env x v] items.reverse; pure Flow.next) _ _ _;refine wpAny_bind (wpAny_rule (wpAny_bind (unpackItems_tuple (items:=#[u1,u2]) (I.ok.hd hc) (IsTup.new s1.heap _) fun h' hx'=>?_)));have I3:=I2.kept (h':=h') (t':=s1.toks) fun b o e=>hx' b o (Nat.ne_of_lt (Heap.lt_size e)) e;show wpAny _ _ (assignInOrder [fun v=>bindName X.env y v,fun v=>bindName X.env x v] [u2,u1] >>= fun _=>pure Flow.next) _ _ _;refine wpAny_bind (assignInOrder_cons (wpAny_bindName (store_ok I3 hN hj (.inl hy) rw' (fun s2 I4=>?_) (.inr hy))));refine assignInOrder_cons (wpAny_bindName (store_ok I4 hN hi (.inl hx) rv (fun s3 I5=>assignInOrder_nil (wpAny_pure ?_)) (.inr hx)));rw[List.set_comm _ _ (Ne.symm hij)] at I5;exact⟨_,H1,I5,q1⟩
end
section
variable {X:Cx}{pos:Pos}
noncomputable def tWhile (c:TT)(tb:TS):TS:=fun D σ H=>∃ W:Nat→St→Hp→Prop,(∃ m,W m σ H)∧∀ m σ H,W m σ H →
 c σ H fun b H1=>if b=true then ∃ N:St→Hp→Prop,(∀ σ' H',N σ' H'→∃ m',m'<m∧W m' σ' H')∧tb { D with nx:=N,ct:=N,bk:=D.nx } σ H1 else D.nx σ H1
theorem ps_while {c:Expr}{body:List Stmt}{tc:TT}{tb:TS}(hp:PassesOwn (model X.prog X.w) X.A X.env X.xe)(hc:PT X c tc)(hb:PSs X body tb):PS X (.While c body [] pos) (tWhile tc tb):=by
 intro pins s σ H D I h;obtain⟨W,⟨m0,w0⟩,turn⟩:=h;refine wpAny_While (codeAny_whileLoop (fun n s'=>∃ σ' H',Inv X pins σ' H' s'∧W n σ' H') ?_ m0 ⟨σ,H,I,w0⟩);rintro n s1 ⟨σ1,H1,I1,w1⟩;refine wpAny_passesOwn hp (thn (hc pins s1 σ1 H1 _ I1 (turn n σ1 H1 w1)) fun b s2 ⟨H2,I2,q2⟩=>?_)
 cases b with
 | true=>
  obtain⟨N,hN,q2⟩:=q2;rw[if_pos rfl];refine wpAny_passesOwn hp (thn (hb pins s2 σ1 H2 _ I2 q2) fun f s3 q3=>?_)
  cases f with
  | next=>
   obtain⟨σ3,H3,I3,n3⟩:=q3;obtain⟨m',hm,w3⟩:=hN σ3 H3 n3;exact⟨m',hm,σ3,H3,I3,w3⟩
  | cont=>
   obtain⟨σ3,H3,I3,n3⟩:=q3;obtain⟨m',hm,w3⟩:=hN σ3 H3 n3;exact⟨m',hm,σ3,H3,I3,w3⟩
  | brk=>exact q3
  | ret v=>exact q3
 | false=>
  rw[if_neg Bool.false_ne_true];exact wpAny_execs_nil ⟨σ1,H2,I2,q2⟩
end
structure It where
 go:Nat→Hp→Prop
 yld:Nat→Hp→V→Hp→Prop
 stop:Nat→Hp→Prop
noncomputable def FpOk (X:Cx)(pins:List (Addr×Obj))(H:Hp)(b:Addr):Prop:=
 H b=none∧b≠X.env.locals∧b∉X.fs∧(b∈X.ex∨X.s₀.heap.objs.size≤b)∧(∀ x c,X.env.cells.lookup x=some c→c≠b)∧∀ p∈X.pn++pins,p.1≠b
theorem Inv.fpOk {X:Cx}{pins:List (Addr×Obj)}{σ:St}{H H':Hp}{s:Shared}{b:Addr}(I:Inv X pins σ H s)(hb:s.heap.objs.size≤b)(hn:H' b=none):FpOk X pins H' b:=by
 refine⟨hn,Nat.ne_of_gt (Nat.lt_of_lt_of_le I.lt hb),I.nofs hb,.inr (Nat.le_trans I.sz hb),fun x c e z=>?_,fun p hp z=>?_⟩
 ·obtain⟨v,q⟩:=I.cell x c e;exact absurd (Nat.lt_of_lt_of_le q.lt (by rw[z]; exact hb)) (Nat.lt_irrefl _)
 ·exact absurd (Nat.lt_of_lt_of_le (Heap.lt_size (I.pin p hp).1) (by rw[z]; exact hb)) (Nat.lt_irrefl _)
structure Turn (P:Program)(w:World)(K:PySem.W.Frag)(tg:Expr)(J:It)(fp:List Addr)(it:Addr)(tn:Nat→Heap→Prop):Prop where
 mem:it∈fp
 obj:∀ i h,tn i h→∀ b∈fp,∃ o,h.get? b=some o∧∀ v,o.data≠.cell v
 keep:∀ i h h',tn i h→(∀ b∈fp,∀ o,h.get? b=some o→h'.get? b=some o)→tn i h'
 item:∀(X:Cx),X.prog=P→X.w=w→X.K=K→X.calm=true→∀(i:Nat) (pins:List (Addr×Obj)) (s:Shared) (σ:St) (H:Hp) (E:Value→Shared→Prop),Inv X pins σ H s→(∀ b∈fp,FpOk X pins H b)→tn i s.heap→J.go i H →
  wpAny (model P w) X.A (pyNext (.ref it)) (fun r s1=>∃ u,r=some u ∧
   wpAny (model P w) X.A (letOwnedTupleGo tg (.ref it) u) (fun _ s2=>∃ x H',Inv X pins σ H' s2∧RelV x u∧J.yld i H x H'∧tn (i+1) s2.heap∧∀ b∈fp,H' b=none) E s1) E s
 done:∀(X:Cx),X.prog=P→X.w=w→X.K=K→X.calm=true→∀(i:Nat) (pins:List (Addr×Obj)) (s:Shared) (σ:St) (H:Hp) (E:Value→Shared→Prop),Inv X pins σ H s→(∀ b∈fp,FpOk X pins H b)→tn i s.heap→J.stop i H →
  wpAny (model P w) X.A (pyNext (.ref it)) (fun r s1=>r=none∧Inv X pins σ H s1) E s
 self:∀(A:Around) (i:Nat) (s:Shared) (Q:Value→Shared→Prop) (E:Value→Shared→Prop),tn i s.heap→Q (.ref it) s→wpAny (model P w) A (pyIter (.ref it)) Q E s
abbrev TI:=St→Hp→(It→Hp→Prop)→Prop
noncomputable def PIE (X:Cx)(pins:List (Addr×Obj))(σ:St)(tg:Expr)(R:It→Hp→Prop)(itv:Value)(s2:Shared):Prop:=
 ∃(it:Addr) (fp:List Addr) (tn:Nat→Heap→Prop) (J:It) (H':Hp),itv=.ref it∧Inv X pins σ H' s2∧Turn X.prog X.w X.K tg J fp it tn∧tn 0 s2.heap∧(∀ b∈fp,FpOk X pins H' b)∧R J H'
noncomputable def PI (X:Cx)(tg iter:Expr)(wi:TI):Prop:=
 ∀(pins:List (Addr×Obj)) (s:Shared) (σ:St) (H:Hp) (R:It→Hp→Prop),Inv X pins σ H s→wi σ H R →
  wpAny (model X.prog X.w) X.A (eval iter X.env) (fun v s1=>wpAny (model X.prog X.w) X.A (pyIter v) (PIE X pins σ tg R) X.xe s1) X.xe s
theorem go_of {M:Model}{A:Around}{E:Value→Shared→Prop}{s:Shared}{tg:Expr}{it:Addr}{u:Value}{o:Obj}{n:String}{vs:Array Value}{Q:Unit→Shared→Prop}(ho:s.heap.get? it=some o)(hc:o.cls=.type n)(hd:o.data=.fields vs)
    (hn:["enumerate", "zip", "dict_itemiterator", "dict_reverseitemiterator", "odict_iterator", "itertools.zip_longest", "itertools.pairwise"].contains n=false) (hQ:Q () s):wpAny M A (letOwnedTupleGo tg (.ref it) u) Q E s:=by
  unfold letOwnedTupleGo
  cases tg<;>first
    | exact wpAny_pure hQ
    | (cases u<;>first
        | exact wpAny_pure hQ
        | (refine wpAny_bind (wpAny_load ho ?_)
           rw[hc,hd];show wpAny M A (if (["enumerate", "zip", "dict_itemiterator", "dict_reverseitemiterator", "odict_iterator", "itertools.zip_longest", "itertools.pairwise"].contains n&&vs[0]?==some (rawInt _))=true then _ else _) Q E s;rw[if_neg (by intro h; rw[hn,Bool.false_and] at h; cases h)];exact wpAny_pure hQ))
noncomputable def Itl (K:PySem.W.Frag)(a:Addr):It:=
 ⟨fun i H=>∃ xs x,SqL K H a xs∧xs[i]?=some x,fun i H x H'=>H'=H∧∀ xs,SqL K H a xs→xs[i]?=some x,fun i H=>∃ xs,SqL K H a xs∧xs.length≤i⟩
noncomputable def Itt (K:PySem.W.Frag)(a:Addr):It:=
 ⟨fun i H=>∃ xs x,SqT K H a xs∧xs[i]?=some x,fun i H x H'=>H'=H∧∀ xs,SqT K H a xs→xs[i]?=some x,fun i H=>∃ xs,SqT K H a xs∧xs.length≤i⟩
noncomputable def Itr (lo:Int)(n:Nat):It:=⟨fun i _=>i<n,fun i H x H'=>H'=H∧x=.int (lo+i),fun i _=>n≤i⟩
theorem turn_list {P:Program}{w:World}{K:PySem.W.Frag}{tg:Expr}(a it:Addr):Turn P w K tg (Itl K a) [it] it (fun i h=>h.IsListIter it a i) where
 mem:=by simp
 obj:=fun i h st b hb=>by
  have e:b=it:=by simpa using hb
  subst e;obtain⟨o,e,c,d⟩:=st;exact⟨o,e,fun v z=>by rw[d] at z; cases z⟩
 keep:=fun i h h' st k=>st.at fun o e=>k it (by simp) o e
 item:=by
  intro X hP hw hK hc i pins s σ H E I hf st hg;subst hP hw hK;obtain⟨xs,x,hq,hx⟩:=hg;obtain⟨its,rv,p,hz⟩:=I.list hq;obtain⟨u,hu,ru⟩:=rv.get hx;obtain⟨f0,f1,f2,f3,f4,f5⟩:=hf it (by simp);refine wpAny_pyNext_list_item st p.isList (x:=u) (by simpa using hu) fun h' st' sb=>?_;have I1:Inv X pins σ H { s with heap:=h' }:=I.turned (t':=s.toks) (fun b o hb e=>(sb.2 b hb).trans e) f0 f1 f3 f4 f5;obtain⟨o,e,c,d⟩:=id st';exact⟨u,rfl,go_of (s:={ s with heap:=h' }) e c d (by decide) ⟨x,H,I1,ru,⟨rfl,fun ys hy=>by rw[I.list_inj hy hq]; exact hx⟩,st',fun b hb=>(hf b hb).1⟩⟩
 done:=by
  intro X hP hw hK hc i pins s σ H E I hf st hg;subst hP hw hK;obtain⟨xs,hq,hx⟩:=hg;obtain⟨its,rv,p,hz⟩:=I.list hq;obtain⟨f0,f1,f2,f3,f4,f5⟩:=hf it (by simp);have hl:=rv.length;exact wpAny_pyNext_list_end (I.ok.hd hc) st p.isList (by simp; omega) fun h' eb=>⟨rfl,I.turned (t':=s.toks) (fun b o hb e=>eb b o hb e) f0 f1 f3 f4 f5⟩
 self:=fun _ _ _ _ _ st h=>wpAny_pyIter_listiter st h
theorem turn_tuple {P:Program}{w:World}{K:PySem.W.Frag}{tg:Expr}(a it:Addr):Turn P w K tg (Itt K a) [it] it (fun i h=>h.IsTupleIter it a i) where
 mem:=by simp
 obj:=fun i h st b hb=>by
  have e:b=it:=by simpa using hb
  subst e;obtain⟨o,e,c,d⟩:=st;exact⟨o,e,fun v z=>by rw[d] at z; cases z⟩
 keep:=fun i h h' st k=>st.at fun o e=>k it (by simp) o e
 item:=by
  intro X hP hw hK hc i pins s σ H E I hf st hg;subst hP hw hK;obtain⟨xs,x,hq,hx⟩:=hg;obtain⟨its,rv,p,hz⟩:=I.tuple hq;obtain⟨u,hu,ru⟩:=rv.get hx;obtain⟨f0,f1,f2,f3,f4,f5⟩:=hf it (by simp);refine wpAny_pyNext_tuple_item st (show s.heap.IsTuple a its.toArray from p) (x:=u) (by simpa using hu) fun h' st' sb=>?_;have I1:Inv X pins σ H { s with heap:=h' }:=I.turned (t':=s.toks) (fun b o hb e=>(sb.2 b hb).trans e) f0 f1 f3 f4 f5;obtain⟨o,e,c,d⟩:=id st';exact⟨u,rfl,go_of (s:={ s with heap:=h' }) e c d (by decide) ⟨x,H,I1,ru,⟨rfl,fun ys hy=>by rw[I.tuple_inj hy hq]; exact hx⟩,st',fun b hb=>(hf b hb).1⟩⟩
 done:=by
  intro X hP hw hK hc i pins s σ H E I hf st hg;subst hP hw hK;obtain⟨xs,hq,hx⟩:=hg;obtain⟨its,rv,p,hz⟩:=I.tuple hq;obtain⟨f0,f1,f2,f3,f4,f5⟩:=hf it (by simp);have hl:=rv.length;exact wpAny_pyNext_tuple_end (I.ok.hd hc) st (show s.heap.IsTuple a its.toArray from p) (by simp; omega) fun h' eb=>⟨rfl,I.turned (t':=s.toks) (fun b o hb e=>eb b o hb e) f0 f1 f3 f4 f5⟩
 self:=fun _ _ _ _ _ st h=>wpAny_pyIter_tupleiter st h
theorem turn_range {P:Program}{w:World}{K:PySem.W.Frag}{tg:Expr}(it:Addr)(lo:Int)(n:Nat):Turn P w K tg (Itr lo n) [it] it (fun i h=>IsRangeIter h it (lo+(i:Nat)*1) ((n:Int)-(i:Nat)) 1) where
 mem:=by simp
 obj:=fun i h st b hb=>by
  have e:b=it:=by simpa using hb
  subst e;exact⟨_,st,fun v z=>by
   have z':Data.fields _=Data.cell v:=z
   cases z'⟩
 keep:=fun i h h' st k=>k it (by simp) _ st
 item:=by
  intro X hP hw hK hc i pins s σ H E I hf st hg;subst hP hw hK;obtain⟨f0,f1,f2,f3,f4,f5⟩:=hf it (by simp);have W:=Walks.range (prog:=X.prog) (w:=X.w) (I.ok.hd hc) it lo 1 n;refine W.item i s _ _ hg st fun v h' tk hv st' kk=>?_;obtain⟨t,rfl⟩:=hv;have I1:Inv X pins σ H { s with heap:=h',toks:=tk }:=I.turned (fun b o hb e=>kk b o (by simpa using hb) e) f0 f1 f3 f4 f5;refine⟨_,rfl,go_of (s:={ s with heap:=h',toks:=tk }) (n := "range_iterator") st' rfl rfl (by decide) ⟨.int (lo+i),H,I1,⟨t,?_⟩,⟨rfl,rfl⟩,st',fun b hb=>(hf b hb).1⟩⟩;rw[Int.mul_one]
 done:=by
  intro X hP hw hK hc i pins s σ H E I hf st hg;subst hP hw hK;obtain⟨f0,f1,f2,f3,f4,f5⟩:=hf it (by simp);exact wpAny_pyNext_range_end (I.ok.hd hc) st (by have:n≤i:=hg; omega) fun h' eb=>⟨rfl,I.turned (t':=s.toks) (fun b o hb e=>eb b o hb e) f0 f1 f3 f4 f5⟩
 self:=fun _ _ _ _ _ st h=>wpAny_pyIter_rangeiter st h
end L2
namespace L2
open PySem PySem.Spec PyProof.Rows
section
variable {X:Cx}{tg:Expr}
noncomputable def iList (K:PySem.W.Frag)(tl:TE):TI:=fun σ H R=>tl σ H fun x H1=>∃ a,x=.ref a∧(∃ xs,SqL K H1 a xs)∧R (Itl K a) H1
noncomputable def iTup (K:PySem.W.Frag)(tl:TE):TI:=fun σ H R=>tl σ H fun x H1=>∃ a,x=.ref a∧(∃ xs,SqT K H1 a xs)∧R (Itt K a) H1
theorem pi_list {l:Expr}{tl:TE}(hl:PE X l tl):PI X tg l (iList X.K tl):=by
 intro pins s σ H R I h;refine thn (hl pins s σ H _ I h) fun v s1 ⟨x,H1,I1,r1,q1⟩=>?_;obtain⟨a,e,⟨xs,hq⟩,q⟩:=q1;subst e
 cases r1
 obtain⟨its,rv,p,hz⟩:=I1.list hq;refine wpAny_pyIter_list p.isList ?_;refine⟨s1.heap.objs.size,[s1.heap.objs.size],_,_,H1,rfl,I1.kept (t':=s1.toks) fun b o e=>Heap.get?_push_of_some _ e,turn_list a _,⟨_,Heap.get?_push_size _ rfl,rfl,rfl⟩,fun b hb=>?_,q⟩;have e:b=s1.heap.objs.size:=by simpa using hb
 subst e;exact I1.fpOk (Nat.le_refl _) (I1.hok.fresh (Nat.le_refl _))
theorem pi_tup {l:Expr}{tl:TE}(hl:PE X l tl):PI X tg l (iTup X.K tl):=by
 intro pins s σ H R I h;refine thn (hl pins s σ H _ I h) fun v s1 ⟨x,H1,I1,r1,q1⟩=>?_;obtain⟨a,e,⟨xs,hq⟩,q⟩:=q1;subst e
 cases r1
 obtain⟨its,rv,p,hz⟩:=I1.tuple hq;refine wpAny_pyIter_tuple (show s1.heap.IsTuple a its.toArray from p) ?_;refine⟨s1.heap.objs.size,[s1.heap.objs.size],_,_,H1,rfl,I1.kept (t':=s1.toks) fun b o e=>Heap.get?_push_of_some _ e,turn_tuple a _,⟨_,Heap.get?_push_size _ rfl,rfl,rfl⟩,fun b hb=>?_,q⟩;have e:b=s1.heap.objs.size:=by simpa using hb
 subst e;exact I1.fpOk (Nat.le_refl _) (I1.hok.fresh (Nat.le_refl _))
theorem range_it {pins:List (Addr×Obj)}{σ:St}{H:Hp}{s:Shared}{R:It→Hp→Prop}{E:Value→Shared→Prop}{lo hi:Int}{t u v:Tok}{tk:Nat}(I:Inv X pins σ H s)(h1 : -(2^62)≤lo)(h2:lo<2^62)(h3 : -(2^62)≤hi)(h4:hi<2^62)
  (q:R (Itr lo (hi-lo).toNat) H):wpAny (model X.prog X.w) X.A (pyIter (.ref s.heap.objs.size)) (PIE X pins σ tg R) E { s with heap:=s.heap.push { cls:=.type "range", data:=.fields #[.int lo t,.int hi u,.int 1 v] },toks:=tk }:=by
 refine wpAny_pyIter_range (IsRange.new ..) (small_one h1 h2 h3 h4) ?_;have I1:Inv X pins σ H { s with heap:=s.heap.push { cls:=.type "range", data:=.fields #[.int lo t,.int hi u,.int 1 v] },toks:=tk }:=I.kept fun b o e=>Heap.get?_push_of_some _ e;refine⟨(s.heap.push { cls:=.type "range", data:=.fields #[.int lo t,.int hi u,.int 1 v] }).objs.size,[(s.heap.push { cls:=.type "range", data:=.fields #[.int lo t,.int hi u,.int 1 v] }).objs.size],_,_,H,rfl,
  I1.kept (t':=tk) fun b o e=>Heap.get?_push_of_some _ e,turn_range _ lo (hi-lo).toNat,?_,fun b hb=>?_,q⟩
 ·have e1:lo+((0:Nat):Int)*1=lo:=by simp
  have e2:(((hi-lo).toNat:Nat):Int)-((0:Nat):Int)=Builtin.Range.rangeSize lo hi 1:=by rw[rangeSize_one]; split<;>omega
  show IsRangeIter _ _ (lo+((0:Nat):Int)*1) ((((hi-lo).toNat:Nat):Int)-((0:Nat):Int)) 1;rw[e1,e2];exact Heap.get?_push_size _ rfl
 ·have e:b=(s.heap.push { cls:=.type "range", data:=.fields #[.int lo t,.int hi u,.int 1 v] }).objs.size:=by simpa using hb
  subst e;exact I1.fpOk (Nat.le_refl _) (I1.hok.fresh (Nat.le_refl _))
noncomputable def iRng1 (ta:TA):TI:=fun σ H R=>ta σ H fun vs H1=>∃ j:Int,vs=[.int j] ∧ -(2^62)≤j∧j<2^62∧R (Itr 0 j.toNat) H1
theorem dY {a:Expr}{ta:TA}{p pos:Pos}(hg:Gl X "range")(hm:X.mg "range" = none)(ha:PA X [a] ta)(hs:starEach [a] X.env=[(false,eval a X.env)]:=by rfl):PI X tg (.Call (.Name "range" p) [a] [] pos) (iRng1 ta):=by
 intro pins s σ H R I h;refine Call_ (ld_blt I hg hm boot_range (PyProof.Rows.callWith_type1 (thn (ha pos pins s σ H _ I h) fun us s1 ⟨vs,H1,I1,r1,q1⟩=>?_) hs rfl));obtain⟨j,e,q1,q2,q⟩:=q1;subst e
 cases r1 with
 | cons r rr=>
  cases rr
  obtain⟨t,rfl⟩:=r;exact call_range_1 (range_it I1 (by omega) (by omega) q1 q2 (by simpa using q))
noncomputable def tFor (wi:TI)(g:TG)(tb:TS):TS:=fun D σ H=>wi σ H fun J H1=>∃ W:Nat→Nat→St→Hp→Prop,(∃ m,W 0 m σ H1)∧∀ i m σ H,W i m σ H →
 (J.stop i H∧D.nx σ H)∨(J.go i H∧∃ N:St→Hp→Prop,(∀ σ' H',N σ' H'→∃ m',m'<m∧W (i+1) m' σ' H')∧∀ x H',J.yld i H x H'→g x σ H' fun σ2 H2=>tb { D with nx:=N,ct:=N,bk:=D.nx } σ2 H2)
noncomputable def pinsAt (fp:List Addr)(h:Heap):List (Addr×Obj):=fp.filterMap fun b=>(h.get? b).map fun o=>(b,o)
theorem mem_pinsAt {fp:List Addr}{h:Heap}{b:Addr}{o:Obj}(hb:b∈fp)(e:h.get? b=some o):(b,o)∈pinsAt fp h:=List.mem_filterMap.mpr ⟨b,hb,by rw[e]; rfl⟩
theorem of_pinsAt {fp:List Addr}{h:Heap}{p:Addr×Obj}(hp:p∈pinsAt fp h):p.1∈fp∧h.get? p.1=some p.2:=by
 obtain⟨b,hb,e⟩:=List.mem_filterMap.mp hp
 cases q:h.get? b with
 | none=>rw[q] at e; cases e
 | some o=>
  rw[q] at e;have e':(b,o)=p:=Option.some.inj e;subst e';exact⟨hb,q⟩
theorem Inv.pinned {pins:List (Addr×Obj)}{σ:St}{H:Hp}{s:Shared}{fp:List Addr}(I:Inv X pins σ H s)(hf:∀ b∈fp,FpOk X pins H b)(ho:∀ b∈fp,∃ o,s.heap.get? b=some o∧∀ v,o.data≠.cell v):Inv X (pins++pinsAt fp s.heap) σ H s:=
 I.pins_of fun p hp=>(List.mem_append.mp hp).elim (fun z=>I.pin p (List.mem_append_right _ z)) fun z=>by
  obtain⟨hb,e⟩:=of_pinsAt z;obtain⟨f0,f1,f2,_⟩:=hf p.1 hb;obtain⟨o,e',d⟩:=ho p.1 hb;rw[e] at e'; cases e';exact⟨e,f0,f1,f2,d⟩
theorem Inv.unpinned {pins pl:List (Addr×Obj)}{σ:St}{H:Hp}{s:Shared}(I:Inv X (pins++pl) σ H s):Inv X pins σ H s:=I.pins_of fun p hp=>I.pin p (List.mem_append_right _ (List.mem_append_left _ hp))
theorem ps_for {iter:Expr}{body:List Stmt}{wi:TI}{g:TG}{tb:TS}{pos:Pos}(hp:PassesOwn (model X.prog X.w) X.A X.env X.xe)(hc:X.calm=true)(hi:PI X tg iter wi)(hg:PG X tg g)(hb:PSs X body tb)
  (hs:∀ x,foldedSetIterable iter X.env x=pure x:=by intro _; rfl):PS X (.For tg iter body [] pos) (tFor wi g tb):=by
 intro pins s σ H D I h;refine wpAny_For (thn (hi pins s σ H _ I h) fun v s1 h1=>thn h1 fun itv s2 h2=>?_) hs;obtain⟨it,fp,tn,J,H2,e,I2,T,st2,f2,W,⟨m0,w0⟩,turn⟩:=h2;subst e;have stat:∀{H':Hp},(∀ b∈fp,H' b=none)→∀ b∈fp,FpOk X pins H' b:=fun hn b hb=>⟨hn b hb,(f2 b hb).2⟩;refine codeAny_forLoop_any (fun n s'=>∃ i σ' H',Inv X pins σ' H' s'∧tn i s'.heap∧(∀ b∈fp,H' b=none)∧W i n σ' H') ?_ m0 ⟨0,σ,H2,I2,st2,fun b hb=>(f2 b hb).1,w0⟩;rintro n s3 ⟨i,σ3,H3,I3,st3,fr3,w3⟩;rcases turn i n σ3 H3 w3 with⟨stop,qn⟩|⟨go,N,hN,step⟩
 ·refine wpAny_passesOwn hp (thn (T.done X rfl rfl rfl hc i pins s3 σ3 H3 X.xe I3 (stat fr3) st3 stop) fun r s4 ⟨hr,I4⟩=>?_);subst hr;exact wpAny_execs_nil ⟨σ3,H3,I4,qn⟩
 ·refine wpAny_passesOwn hp (thn (T.item X rfl rfl rfl hc i pins s3 σ3 H3 X.xe I3 (stat fr3) st3 go) fun r s4 ⟨u,hr,h4⟩=>?_);subst hr;refine wpAny_passesOwn hp (thn h4 fun _ s5 ⟨x,H5,I5,r5,y5,st5,fr5⟩=>?_);have I5':=I5.pinned (stat fr5) (T.obj _ _ st5);refine wpAny_passesOwn hp (thn (hg _ s5 σ3 H5 x u _ I5' r5 (step x H5 y5)) fun _ s6 ⟨σ6,H6,I6,q6⟩=>?_);refine wpAny_passesOwn hp (thn (hb _ s6 σ6 H6 _ I6 q6) fun f s7 q7=>?_);have again:∀{σ7:St} {H7:Hp},Inv X (pins++pinsAt fp s5.heap) σ7 H7 s7→N σ7 H7→∃ m,m<n∧∃ i σ' H',Inv X pins σ' H' s7∧tn i s7.heap∧(∀ b∈fp,H' b=none)∧W i m σ' H':=fun{σ7 H7} I7 n7=>by
   obtain⟨m',hm,w7⟩:=hN σ7 H7 n7;refine⟨m',hm,i+1,σ7,H7,I7.unpinned,T.keep _ _ _ st5 fun b hb o e=>(I7.pin (b,o) (List.mem_append_right _ (List.mem_append_right _ (mem_pinsAt hb e)))).1,fun b hb=>?_,w7⟩;obtain⟨o,e,d⟩:=T.obj _ _ st5 b hb;exact(I7.pin (b,o) (List.mem_append_right _ (List.mem_append_right _ (mem_pinsAt hb e)))).2.1
  cases f with
  | next=>obtain⟨σ7,H7,I7,n7⟩:=q7; exact again I7 n7
  | cont=>obtain⟨σ7,H7,I7,n7⟩:=q7; exact again I7 n7
  | brk=>obtain⟨σ7,H7,I7,q7⟩:=q7; exact⟨σ7,H7,I7.unpinned,q7⟩
  | ret v=>obtain⟨x7,σ7,H7,I7,r7,q7⟩:=q7; exact⟨x7,σ7,H7,I7.unpinned,r7,q7⟩
end
end L2
namespace L2
open PySem PySem.Spec PyProof.Rows
abbrev R2:=V→V→Hp→VK→Prop
noncomputable def OpR (X:Cx)(f:Value→Value→Sem Value)(r:R2):Prop:=
 ∀(pins:List (Addr×Obj)) (s:Shared) (σ:St) (H:Hp) (x y:V) (v u:Value) (Q:VK),Inv X pins σ H s→RelV x v→RelV y u→r x y H Q →
  wpAny (model X.prog X.w) X.A (f v u) (EP X pins σ Q) X.xe s
noncomputable def UnR (X:Cx)(f:Value→Sem Value)(r:V→Hp→VK→Prop):Prop:=
 ∀(pins:List (Addr×Obj)) (s:Shared) (σ:St) (H:Hp) (x:V) (v:Value) (Q:VK),Inv X pins σ H s→RelV x v→r x H Q →
  wpAny (model X.prog X.w) X.A (f v) (EP X pins σ Q) X.xe s
noncomputable def CallR (X:Cx)(f:Value)(r:List V→Hp→VK→Prop):Prop:=
 ∀(pins:List (Addr×Obj)) (s:Shared) (σ:St) (H:Hp) (xs:List V) (us:List Value) (Q:VK),Inv X pins σ H s→Vals xs us→r xs H Q →
  wpAny (model X.prog X.w) X.A (call f us) (EP X pins σ Q) X.xe s
noncomputable def tOp (r:R2)(ta tb:TE):TE:=fun σ H Q=>ta σ H fun x H1=>tb σ H1 fun y H2=>r x y H2 Q
noncomputable def tUn (r:V→Hp→VK→Prop)(ta:TE):TE:=fun σ H Q=>ta σ H fun x H1=>r x H1 Q
noncomputable def rI (C:Int→Int→Prop)(g:Int→Int→V):R2:=fun x y H Q=>∃ i j,x=.int i∧y=.int j∧C i j∧Q (g i j) H
noncomputable def rI0 (g:Int→Int→V):R2:=fun x y H Q=>∃ i j,x=.int i∧y=.int j∧Q (g i j) H
noncomputable def rU (g:Int→V):V→Hp→VK→Prop:=fun x H Q=>∃ i,x=.int i∧Q (g i) H
section
variable {X:Cx}{a b c:Expr}{ta tb tc:TE}{pos:Pos}
theorem binT (ha:PE X a ta)(hb:PE X b tb){pins:List (Addr×Obj)}{s:Shared}{σ:St}{H:Hp}{R:V→V→Hp→Prop}(I:Inv X pins σ H s)
  (h:ta σ H fun x H1=>tb σ H1 fun y H2=>R x y H2) {Q:Value→Shared→Prop} {f:Value→Value→Sem Value}
  (hf:∀ v u s2 x y H2,Inv X pins σ H2 s2→RelV x v→RelV y u→R x y H2→wpAny (model X.prog X.w) X.A (f v u) Q X.xe s2) :
  wpAny (model X.prog X.w) X.A (eval a X.env) (fun v s₁=>wpAny (model X.prog X.w) X.A (eval b X.env) (fun u s₂=>wpAny (model X.prog X.w) X.A (f v u) Q X.xe s₂) X.xe s₁) X.xe s:=by
 refine thn (ha pins s σ H _ I h) fun v s1 ⟨x,H1,I1,r1,q1⟩=>?_;refine thn (hb pins s1 σ H1 _ I1 q1) fun u s2 ⟨y,H2,I2,r2,q2⟩=>?_;exact hf v u s2 x y H2 I2 r1 r2 q2
theorem cD {op:Operator}{r:R2}(ho:OpR X (binaryOp op) r)(ha:PE X a ta)(hb:PE X b tb):PE X (.BinOp a op b pos) (tOp r ta tb):=by
 intro pins s σ H Q I h;exact wpAny_BinOp (binT ha hb I h fun v u s2 x y H2 I2 rx ry q=>ho pins s2 σ H2 x y v u Q I2 rx ry q)
theorem pe_un {op:UnaryOp}{r:V→Hp→VK→Prop}(ho:UnR X (unaryOp op) r)(ha:PE X a ta):PE X (.UnaryOp op a pos) (tUn r ta):=by
 intro pins s σ H Q I h;exact UnaryOp_ (thn (ha pins s σ H _ I h) fun v s1 ⟨x,H1,I1,r1,q1⟩=>ho pins s1 σ H1 x v Q I1 r1 q1)
theorem opI {f:Value→Value→Sem Value}{C:Int→Int→Prop}{g:Int→Int→Int}
  (rule:∀(i j:Int) (t u:Tok) (s:Shared) (Q:Value→Shared→Prop) (E:Value→Shared→Prop),C i j→Q (.int (g i j) s.toks) { s with toks:=s.toks+1 }→wpAny (model X.prog X.w) X.A (f (.int i t) (.int j u)) Q E s) :
  OpR X f (rI C fun i j=>.int (g i j)):=by
 intro pins s σ H x y v u Q I rx ry h;obtain⟨i,j,rfl,rfl,hc,q⟩:=h;obtain⟨t,rfl⟩:=rx;obtain⟨t',rfl⟩:=ry;exact rule i j t t' s _ _ hc ⟨.int (g i j),H,I.tok _,⟨_,rfl⟩,q⟩
theorem opI0 {f:Value→Value→Sem Value}{g:Int→Int→Int}
  (rule:∀(i j:Int) (t u:Tok) (s:Shared) (Q:Value→Shared→Prop) (E:Value→Shared→Prop),Q (.int (g i j) s.toks) { s with toks:=s.toks+1 }→wpAny (model X.prog X.w) X.A (f (.int i t) (.int j u)) Q E s) :
  OpR X f (rI0 fun i j=>.int (g i j)):=by
 intro pins s σ H x y v u Q I rx ry h;obtain⟨i,j,rfl,rfl,q⟩:=h;obtain⟨t,rfl⟩:=rx;obtain⟨t',rfl⟩:=ry;exact rule i j t t' s _ _ ⟨.int (g i j),H,I.tok _,⟨_,rfl⟩,q⟩
theorem opB0 {f:Value→Value→Sem Value}{g:Int→Int→Bool}
  (rule:∀(i j:Int) (t u:Tok) (s:Shared) (Q:Value→Shared→Prop) (E:Value→Shared→Prop),Q (.bool (g i j)) s→wpAny (model X.prog X.w) X.A (f (.int i t) (.int j u)) Q E s) :
  OpR X f (rI0 fun i j=>.bl (g i j)):=by
 intro pins s σ H x y v u Q I rx ry h;obtain⟨i,j,rfl,rfl,q⟩:=h;obtain⟨t,rfl⟩:=rx;obtain⟨t',rfl⟩:=ry;exact rule i j t t' s _ _ ⟨.bl (g i j),H,I,rfl,q⟩
noncomputable def CDiv (i j:Int):Prop:=0<j∧j<1073741824
noncomputable def CPow (i j:Int):Prop:=0≤j∧j≤1000000∧i.natAbs<2^64
noncomputable def CMul (i j:Int):Prop:=(-(2^64)<i∧i<2^64)∨(-(2^64)<j∧j<2^64)
theorem CMul.ok {i j:Int}(h:CMul i j):IntMulOk i j:=by
 rcases h with⟨h1,h2⟩|⟨h1,h2⟩
 ·exact .of_left (intBits_le_64 h1 h2)
 ·exact .of_right (intBits_le_64 h1 h2)
theorem op_add:OpR X (binaryOp .Add) (rI0 fun i j=>.int (i+j)):=opI0 fun _ _ _ _ _ _ _ q=>add_int q
theorem op_sub:OpR X (binaryOp .Sub) (rI0 fun i j=>.int (i-j)):=opI0 fun _ _ _ _ _ _ _ q=>sub_int q
theorem op_mul:OpR X (binaryOp .Mult) (rI CMul fun i j=>.int (i*j)):=opI fun _ _ _ _ _ _ _ hc q=>mul_int q hc.ok
theorem op_fdiv:OpR X (binaryOp .FloorDiv) (rI CDiv fun i j=>.int (i/j)):=opI fun i j _ _ _ _ _ hc q=>by
 have h1:(0:Int)<j:=hc.1;have h2:j<1073741824:=hc.2;exact floordiv_int (by omega) (by rw[Int.fdiv_eq_ediv_of_nonneg i (by omega)]; exact q) (.inl (PyProof.noPylong_small (by omega)))
theorem op_mod:OpR X (binaryOp .Mod) (rI (fun _ j=>0<j) fun i j=>.int (i%j)):=opI fun i j _ _ _ _ _ hc q=>by
 have h1:(0:Int)<j:=hc;exact mod_int' (by omega) (by rw[Int.fmod_eq_emod_of_nonneg i (by omega)]; exact q)
theorem op_pow:OpR X (binaryOp .Pow) (rI CPow fun i j=>.int (i^j.toNat)):=opI fun _ _ _ _ _ _ _ hc q=>pow_int_small hc.1 hc.2.1 hc.2.2 q
theorem unI {f:Value→Sem Value}{g:Int→Int}
  (rule:∀(i:Int) (t:Tok) (s:Shared) (Q:Value→Shared→Prop) (E:Value→Shared→Prop),Q (.int (g i) s.toks) { s with toks:=s.toks+1 }→wpAny (model X.prog X.w) X.A (f (.int i t)) Q E s) :
  UnR X f (rU fun i=>.int (g i)):=by
 intro pins s σ H x v Q I rx h;obtain⟨i,rfl,q⟩:=h;obtain⟨t,rfl⟩:=rx;exact rule i t s _ _ ⟨.int (g i),H,I.tok _,⟨_,rfl⟩,q⟩
theorem un_neg:UnR X (unaryOp .USub) (rU fun i=>.int (-i)):=unI fun _ _ _ _ _ q=>neg_int q
end
noncomputable def scal:V→V→Bool
 | .non,.non=>true|.non,.int _=>true|.int _,.non=>true|.non,.bl _=>true|.bl _,.non=>true|.non,.str _=>true|.str _,.non=>true
 | .int _,.int _=>true|.bl _,.bl _=>true|.str _,.str _=>true|.byt _,.byt _=>true
 | .int _,.str _=>true|.str _,.int _=>true|.bl _,.str _=>true|.str _,.bl _=>true
 | _,_=>false
noncomputable def rEq:R2:=fun x y H Q=>scal x y=true∧Q (.bl (decide (x=y))) H
theorem dec_int {i j:Int}:decide (V.int i=V.int j)=(i==j):=by
 rw[Bool.eq_iff_iff];simp
theorem dec_bl {i j:Bool}:decide (V.bl i=V.bl j)=(i==j):=by
 rw[Bool.eq_iff_iff];simp
theorem dec_str {i j:Str}:decide (V.str i=V.str j)=(i==j):=by
 rw[Bool.eq_iff_iff];simp
theorem dec_byt {i j:Array UInt8}:decide (V.byt i=V.byt j)=(i.toList==j.toList):=by
 rw[Bool.eq_iff_iff]
 cases i
 cases j
 simp
section
variable {X:Cx}{a b c:Expr}{ta tb tc:TE}{pos:Pos}
theorem eY {pins:List (Addr×Obj)}{σ:St}{H:Hp}{s:Shared}{Q:VK}{k k':Bool}(I:Inv X pins σ H s)(q:Q (.bl k) H)(e:k=k'):EP X pins σ Q (.bool k') s:=by
 subst e;exact⟨.bl k,H,I,rfl,q⟩
theorem op_eq:OpR X (compareOp .Eq) rEq:=by
 intro pins s σ H x y v u Q I rx ry h;obtain⟨hs,q⟩:=h
 cases x with
 | non=>
  cases rx
  cases y with
  | non=>cases ry; exact PySem.EqNone.eq_none_none (eY I q (by simp))
  | bl j=>cases ry; exact PySem.EqNone.eq_none_bool (eY I q (by simp))
  | int j=>obtain⟨t',rfl⟩:=ry; exact PySem.EqNone.eq_none_int (eY I q (by simp))
  | str j=>obtain⟨t',rfl⟩:=ry; exact PySem.EqNone.eq_none_str (eY I q (by simp))
  | _=>exact absurd (show false=true from hs) Bool.false_ne_true
 | bl i=>
  cases rx
  cases y with
  | non=>cases ry; exact PySem.EqNone.eq_bool_none (eY I q (by simp))
  | bl j=>cases ry; exact eq_bool (eY I q dec_bl)
  | str j=>obtain⟨t',rfl⟩:=ry; exact PySem.EqMixed.eq_bool_str (eY I q (by simp))
  | _=>exact absurd (show false=true from hs) Bool.false_ne_true
 | int i=>
  obtain⟨t,rfl⟩:=rx
  cases y with
  | non=>cases ry; exact PySem.EqNone.eq_int_none (eY I q (by simp))
  | int j=>obtain⟨t',rfl⟩:=ry; exact eq_int (eY I q dec_int)
  | str j=>obtain⟨t',rfl⟩:=ry; exact PySem.EqMixed.eq_int_str (eY I q (by simp))
  | _=>exact absurd (show false=true from hs) Bool.false_ne_true
 | str i=>
  obtain⟨t,rfl⟩:=rx
  cases y with
  | non=>cases ry; exact PySem.EqNone.eq_str_none (eY I q (by simp))
  | bl j=>cases ry; exact PySem.EqMixed.eq_str_bool (eY I q (by simp))
  | int j=>obtain⟨t',rfl⟩:=ry; exact PySem.EqMixed.eq_str_int (eY I q (by simp))
  | str j=>obtain⟨t',rfl⟩:=ry; exact eq_str (eY I q dec_str)
  | _=>exact absurd (show false=true from hs) Bool.false_ne_true
 | byt i=>
  obtain⟨t,rfl⟩:=rx
  cases y with
  | byt j=>obtain⟨t',rfl⟩:=ry; exact PySem.W.eq_bytes (eY I q dec_byt)
  | _=>exact absurd (show false=true from hs) Bool.false_ne_true
 | _=>cases y<;>exact absurd (show false=true from hs) Bool.false_ne_true
theorem op_lt:OpR X (compareOp .Lt) (rI0 fun i j=>.bl (decide (i<j))):=opB0 fun _ _ _ _ _ _ _ q=>lt_int q
theorem op_gt:OpR X (compareOp .Gt) (rI0 fun i j=>.bl (decide (j<i))):=opB0 fun _ _ _ _ _ _ _ q=>gt_int q
theorem op_ge:OpR X (compareOp .GtE) (rI0 fun i j=>.bl (decide (j≤i))):=opB0 fun _ _ _ _ _ _ _ q=>ge_int q
theorem op_isN:OpR X (compareOp .Is) (fun x y H Q=>y=.non∧Q (.bl (decide (x=.non))) H):=by
 intro pins s σ H x y v u Q I rx ry h;obtain⟨rfl,q⟩:=h
 cases ry
 refine is_none_gen (eY I q ?_)
 cases x<;>first
  | (cases rx; rfl)
  | (obtain⟨t,rfl⟩:=rx; rfl)
theorem aY (b:Expr){op:CmpOp}(h:op≠.In:=by decide)(h2:op≠.NotIn:=by decide):behindInMarks op b=false:=by
 have e1:(op==CmpOp.In)=false:=by cases op<;>first|rfl|exact absurd rfl h
 have e2:(op==CmpOp.NotIn)=false:=by cases op<;>first|rfl|exact absurd rfl h2
 cases b<;>simp[behindInMarks,e1,e2]
theorem dW {op:CmpOp}{r:R2}(ho:OpR X (compareOp op) r)(ha:PE X a ta)(hb:PE X b tb)(hm:behindInMarks op b=false):PE X (.Compare a [op] [b] pos) (tOp r ta tb):=by
 intro pins s σ H Q I h;exact wpAny_Compare1 (binT ha hb I h fun v u s2 x y H2 I2 rx ry q=>ho pins s2 σ H2 x y v u Q I2 rx ry q) hm
noncomputable def tTest (t:TE):TT:=fun σ H Q=>t σ H fun x H'=>∃ k,x=.bl k∧Q k H'
theorem aU {op:CmpOp}{r:R2}(ho:OpR X (compareOp op) r)(ha:PE X a ta)(hb:PE X b tb)(hm:behindInMarks op b=false):PT X (.Compare a [op] [b] pos) (tTest (tOp r ta tb)):=by
 intro pins s σ H Q I h;refine wpAny_isTrue_Compare1 (thn (ha pins s σ H _ I h) fun v s1 ⟨x,H1,I1,r1,q1⟩=>thn (hb pins s1 σ H1 _ I1 q1) fun u s2 ⟨y,H2,I2,r2,q2⟩=>
  thn (ho pins s2 σ H2 x y v u _ I2 r1 r2 q2) fun c s3 ⟨z,H3,I3,r3,k,e,q3⟩=>?_) hm
 subst e
 cases r3
 exact wpAny_truthy_bool ⟨H3,I3,q3⟩
theorem line63:(sizeLine:Nat)<2^63:=by rw[sizeLine_eq]; decide
theorem vals1 {x:V}{us:List Value}(r:Vals [x] us):∃ u,us=[u]∧RelV x u:=by
 cases r with
 | cons r1 r2=>cases r2; exact⟨_,rfl,r1⟩
theorem vals2 {x y:V}{us:List Value}(r:Vals [x,y] us):∃ u w',us=[u,w']∧RelV x u∧RelV y w':=by
 cases r with
 | cons r1 r2=>
  cases r2 with
  | cons r3 r4=>cases r4; exact⟨_,_,rfl,r1,r3⟩
theorem call_abs:CallR X (.builtin "abs") (fun xs H Q=>∃ i,xs=[.int i]∧Q (.int (if i<0 then -i else i)) H):=by
 intro pins s σ H xs us Q I r h;obtain⟨i,rfl,q⟩:=h;obtain⟨u,rfl,t,rfl⟩:=vals1 r;exact call_abs_int fun u tk=>⟨.int (if i<0 then -i else i),H,I.tok _,⟨_,rfl⟩,q⟩
end
end L2
namespace L2
open PySem PySem.Spec PyProof.Rows
structure ObjM (h:Heap)(x dx C:Addr)(mA:Str→Option Value):Prop where
 obj:h.get? x=some (PySem.W.instObj C dx)
 ns:h.Ns1 dx mA
 ne:dx≠x
theorem lookIn_ns {h:Heap}{dx:Addr}{mA:Str→Option Value}(n:h.Ns1 dx mA):∃ od,h.get? dx=some od∧∀ name,PySem.W.lookIn name od=some (mA name):=by
 obtain⟨o,es,ep,ho,hd,hk,_,hm⟩:=n;refine⟨o,ho,fun name=>?_⟩;have e:=hm name;unfold nsFind findBy at e;rw[← Array.find?_toList] at e;unfold PySem.W.lookIn;rw[hd];dsimp only
 split
 ·rename_i y q
  rw[q] at e;exact congrArg some e
 ·rename_i q
  rw[q] at e;have a:es.toList.any (·.refKey)=false:=by
   rw[List.any_eq_false];intro y hy;obtain⟨z,t,hkey⟩:=hk y (Array.mem_toList_iff.mp hy);simp[DictEntry.refKey,hkey]
  have a':¬es.toList.any (·.refKey)=true:=by rw[a]; exact Bool.false_ne_true
  rw[if_neg a'];exact congrArg some e
theorem ObjM.look {h:Heap}{x dx C:Addr}{mA:Str→Option Value}(I:ObjM h x dx C mA):∃ od,PySem.W.InstAt h x (PySem.W.instObj C dx) C (some od)∧∀ name,PySem.W.lookIn name od=some (mA name):=
 let ⟨od,ho,hl⟩:=lookIn_ns I.ns
 ⟨od,⟨I.obj,rfl,rfl,ho⟩,hl⟩
section
variable {prog:Program}{w:World}{A:Around}{E:Value→Shared→Prop}{s:Shared}{K:PySem.W.Frag}{x dx C f:Addr}{mA:Str→Option Value}{name:Str}{v:Value}
end
section
variable {P:Program}{w:World}{H H':Hp}{h h':Heap}{a C dx:Addr}{fs fs':List (Str×V)}
theorem ins_get (hok:HOk P w H h)(e:H a=some (.ins C dx fs)):∃ mA,ObjM h a dx C mA∧(∀ f,RelO (fs.lookup f) (mA f))∧PySem.Within mA (fs.map (·.1))∧fs.length≤1000∧H dx=some (.own a):=by
 obtain⟨d,z,ne,ob,mA,n,r,q⟩:=(show ObjOk P w H h a (.ins C dx fs) from hok a _ e);exact⟨mA,⟨ob,n,ne⟩,r,q,z,d⟩
end
structure Cls (K:PySem.W.Frag)(C:Addr):Prop where
 pg:PySem.W.plainGet K C Str.empty=true
 hd:PySem.W.hasDictIn K C=true
 po:PySem.W.plainOver K C=true
 sa:PySem.W.findIn K (.ref C) "__setattr__" = some (some (.builtin "object.__setattr__"))
theorem Cls.get {K:PySem.W.Frag}{C:Addr}(c:Cls K C)(f:Str):PySem.W.plainGet K C f=true:=c.pg
section
variable {X:Cx}{pins:List (Addr×Obj)}{σ:St}{H:Hp}{s:Shared}{a C dx:Addr}{fs:List (Str×V)}{f:Str}{v:V}{A:Around}{E:Value→Shared→Prop}
end
section
variable {X:Cx}{o e value:Expr}{f:Str}{pos pos' tpos:Pos}{ta tv:TE}
end
section
variable {X:Cx}{pins:List (Addr×Obj)}{σ:St}{H:Hp}{s:Shared}{A:Around}{E:Value→Shared→Prop}{Q:Value→Shared→Prop}{c:Value}{b:Bool}
inductive TyOf (K:PySem.W.Frag) (H:Hp):V→Value→Prop where
 | non:TyOf K H .non (.type "NoneType")
 | bl (x:Bool):TyOf K H (.bl x) (.type "bool")
 | int (i:Int):TyOf K H (.int i) (.type "int")
 | str (x:Str):TyOf K H (.str x) (.type "str")
 | flt (x:UInt64):TyOf K H (.flt x) (.type "float")
 | lst {a:Addr} {xs:List V} (e:H a=some (.lst xs)):TyOf K H (.ref a) (.type "list")
 | frz {a:Addr} {o:Obj} {xs:List V} (e:H a=some (.frz o (.lst xs))):TyOf K H (.ref a) (.type "list")
 | tup {a:Addr} {xs:List V} (e:H a=some (.tup xs)):TyOf K H (.ref a) (.type "tuple")
 | dK {a:Addr} {kvs:List (Key×V)} (e:H a=some (.dK kvs)):TyOf K H (.ref a) (.type "dict")
 | fdK {a:Addr} {o:Obj} {kvs:List (Key×V)} (e:H a=some (.frz o (.dK kvs))):TyOf K H (.ref a) (.type "dict")
 | dT {a:Addr} {kvs:List (List Key×V)} (e:H a=some (.dT kvs)):TyOf K H (.ref a) (.type "dict")
 | ins {a C dx:Addr} {fs:List (Str×V)} (e:H a=some (.ins C dx fs)) (cl:Cls K C) (ha:PySem.W.findIn K (.ref C) "__class__" = some (some (.builtin "object.__class__")))
   (hn:PySem.W.specialIn K (.builtin "object.__class__") "__get__" = some (some (.builtin "getset_descriptor.__get__"))) (htk:PySem.W.takesIn K (.builtin "object.__class__")=some true)
   (hm:PySem.W.mroIn K C (.type "object")=some true):TyOf K H (.ref a) (.ref C)
theorem isinst_ok {x:V}{u t:Value}(I:Inv X pins σ H s)(rx:RelV x u)(ty:TyOf X.K H x t)(e:PySem.W.kitOne X.K t c=some b)(h:∀ tk,Q (.bool b) { s with toks:=tk }) :
  wpAny (model X.prog X.w) A (call (.builtin "isinstance") [u,c]) Q E s:=by
 cases ty with
 | non=>cases(show u=Value.none from rx); exact PySem.W.kia_one PySem.W.kitx_none I.kIn True.intro e (fun z=>nomatch z) h
 | bl y=>cases(show u=Value.bool y from rx); exact PySem.W.kia_one PySem.W.kitx_bool I.kIn True.intro e (fun z=>nomatch z) h
 | int i=>obtain⟨t,q⟩:=(show ∃ t,u=Value.int i t from rx); cases q; exact PySem.W.kia_one PySem.W.kitx_int I.kIn True.intro e (fun z=>nomatch z) h
 | str y=>obtain⟨t,q⟩:=(show ∃ t,u=Value.str y t from rx); cases q; exact PySem.W.kia_one PySem.W.kitx_str I.kIn True.intro e (fun z=>nomatch z) h
 | flt y=>obtain⟨t,q⟩:=(show ∃ t,u=Value.float y t from rx); cases q; exact PySem.W.kia_one PySem.W.kitx_float I.kIn True.intro e (fun z=>nomatch z) h
 | @lst a xs ea=>
  cases(show u=Value.ref a from rx)
  obtain⟨_,_,n,_,h1⟩:=(show ObjOk X.prog X.w H s.heap a (.lst xs) from I.hok a _ ea);exact PySem.W.kia_one PySem.W.kitx_list I.kIn ⟨_,h1,rfl⟩ e (fun z=>nomatch z) h
 | @frz a ob xs ea=>
  cases(show u=Value.ref a from rx)
  obtain⟨_,_,_,n,_,h1⟩:=(show ObjOk X.prog X.w H s.heap a (.frz ob (.lst xs)) from I.hok a _ ea);exact PySem.W.kia_one PySem.W.kitx_list I.kIn ⟨_,h1,rfl⟩ e (fun z=>nomatch z) h
 | @tup a xs ea=>
  cases(show u=Value.ref a from rx)
  obtain⟨_,_,_,p⟩:=(show ObjOk X.prog X.w H s.heap a (.tup xs) from I.hok a _ ea);obtain⟨o,h1,h2,_⟩:=p;exact PySem.W.kia_one PySem.W.kitx_tuple I.kIn ⟨o,h1,h2⟩ e (fun z=>nomatch z) h
 | @dK a kvs ea=>
  cases(show u=Value.ref a from rx)
  obtain⟨_,_,vs,_,p⟩:=(show ObjOk X.prog X.w H s.heap a (.dK kvs) from I.hok a _ ea);obtain⟨o,es,ep,h1,h2,_⟩:=p;exact PySem.W.kia_one PySem.W.kitx_dict I.kIn ⟨o,h1,h2.1⟩ e (fun z=>nomatch z) h
 | @fdK a ob kvs ea=>
  cases(show u=Value.ref a from rx)
  obtain⟨_,_,_,vs,_,p⟩:=(show ObjOk X.prog X.w H s.heap a (.frz ob (.dK kvs)) from I.hok a _ ea);obtain⟨o,es,ep,h1,h2,_⟩:=p;exact PySem.W.kia_one PySem.W.kitx_dict I.kIn ⟨o,h1,h2.1⟩ e (fun z=>nomatch z) h
 | @dT a kvs ea=>
  cases(show u=Value.ref a from rx)
  obtain⟨_,_,xs,_,o,es,ep,h1,h2,_⟩:=(show ObjOk X.prog X.w H s.heap a (.dT kvs) from I.hok a _ ea);exact PySem.W.kia_one PySem.W.kitx_dict I.kIn ⟨o,h1,h2.1⟩ e (fun z=>nomatch z) h
 | @ins a C dx fs ea cl ha hn htk hm=>
  cases(show u=Value.ref a from rx)
  obtain⟨mA,O,_⟩:=ins_get I.hok ea;obtain⟨od,J,_⟩:=O.look;exact PySem.W.kia_one (PySem.W.kitx_own (cl.get _) cl.hd ha hn htk hm) I.kIn J e (fun z=>nomatch z) h
end
end L2
namespace L2
open PySem PySem.Spec PyProof.Rows
structure Room (k:Nat)(A:Around):Prop where
 hd:A.handled=none
 dp:A.depth+3*k+5<recursionLimit
 un:A.units+16*k+200<cLine
theorem Room.mono {j k:Nat}{A:Around}(r:Room k A)(h:j≤k):Room j A:=⟨r.hd,by have:=r.dp; omega,by have:=r.un; omega⟩
theorem Room.deeper {k:Nat}{A:Around}(r:Room (k+1) A)(env:Env):Room k (A.deeper env):=
 ⟨r.hd,by have:=r.dp; show A.depth+1+3*k+5<_; omega,by have:=r.un; show A.units+3+16*k+200<_; omega⟩
theorem Room.depth {k:Nat}{A:Around}(r:Room k A):A.depth<recursionLimit:=by have:=r.dp; omega
theorem Room.units {k:Nat}{A:Around}(r:Room k A):A.units+64<cLine:=by have:=r.un; omega
noncomputable def tNil:TA:=fun _ H Q=>Q [] H
noncomputable def cZ (ta:TE)(tr:TA):TA:=fun σ H Q=>ta σ H fun x H1=>tr σ H1 fun xs H2=>Q (x::xs) H2
section
variable {X:Cx}{e:Expr}{es:List Expr}{te:TE}{t:TA}{pos:Pos}
theorem aC:PA X [] tNil:=fun _ _ _ _ H Q I h=>Calls.spliced_nil ⟨[],H,I,.nil,h⟩
theorem aA (ha:PE X e te)(hr:PA X es t)(hs:starEach (e::es) X.env=(false,eval e X.env)::starEach es X.env:=by rfl):PA X (e::es) (cZ te t):=by
 intro pos pins s σ H Q I h;rw[hs];show wpAny _ _ (spliced ((false,eval e X.env)::backTo pos (starEach es X.env))) _ _ s;refine Calls.spliced_cons (thn (ha pins s σ H _ I h) fun u s1 ⟨x,H1,I1,r1,q1⟩=>?_);exact thn (hr pos pins s1 σ H1 _ I1 q1) fun us s2 ⟨xs,H2,I2,r2,q2⟩=>⟨x::xs,H2,I2,.cons r1 r2,q2⟩
noncomputable def tTup (t:TA):TE:=fun σ H Q=>t σ H fun xs H1=>xs.length≤sizeLine∧∀ p,H1 p=none→Q (.ref p) (upd H1 p (.tup xs))
noncomputable def tLst (t:TA):TE:=fun σ H Q=>t σ H fun xs H1=>xs.length≤sizeLine∧∀ p,H1 p=none→Q (.ref p) (upd H1 p (.lst xs))
theorem pe_tup {x1}(h:PA X es t):PE X (.Tuple es x1 pos) (tTup t):=by
 intro pins s σ H Q I hq;refine wpAny_Tuple_spliced (thn (h pos pins s σ H _ I hq) fun us s1 ⟨xs,H1,I1,r,z,q⟩=>⟨by rw[← r.length]; exact z,?_⟩);have hf:H1 s1.heap.objs.size=none:=I1.hok.fresh (Nat.le_refl _);refine⟨.ref s1.heap.objs.size,upd H1 s1.heap.objs.size (.tup xs),I1.laid (t':=s1.toks) (fun b u e=>Heap.get?_push_of_some _ e) (Nat.le_refl _) ?_,rfl,q _ hf⟩;exact⟨z,us,r,⟨_,Heap.get?_push_size _ rfl,rfl,_,rfl⟩⟩
theorem pe_lst (h:PA X es t):PE X (.List es pos) (tLst t):=by
 intro pins s σ H Q I hq;refine wpAny_List_spliced (thn (h pos pins s σ H _ I hq) fun us s1 ⟨xs,H1,I1,r,z,q⟩=>⟨by rw[← r.length]; exact z,?_⟩);have hf:H1 s1.heap.objs.size=none:=I1.hok.fresh (Nat.le_refl _);refine⟨.ref s1.heap.objs.size,upd H1 s1.heap.objs.size (.lst xs),I1.laid (t':=s1.toks) (fun b u e=>Heap.get?_push_of_some _ e) (Nat.le_refl _) ?_,rfl,q _ hf⟩;exact⟨z,us,0,r,Heap.get?_push_size _ rfl⟩
end
abbrev Sp:=List V→Hp→VK→XK→Prop
abbrev CXT:=List Env→Hp→Shared→XK→Value→Shared→Prop
structure Env0 (P:Program)(w:World)(K:PySem.W.Frag)(mg:Str→Option Value)(base:Heap)(A:Around)(outer:List Env)(s:Shared)(H:Hp):Prop where
 frames:A.frames=some outer
 mod:Mod K mg base
 bs:∀ b o,base.get? b=some o→s.heap.get? b=some o∧H b=none
 bsz:base.objs.size≤s.heap.objs.size
 funs:s.heap.FunFrames base outer
 frf:∀ b∈frs outer,H b=none
 hok:HOk P w H s.heap
 bare:AllBare s.gens
noncomputable def CE (outer:List Env)(P:Program)(w:World)(H:Hp)(s:Shared)(Q:VK)(u:Value)(s':Shared):Prop:=
 ∃ v H',s'.os=s.os∧AllBare s'.gens∧Un (frs outer) [] H H' s.heap s'.heap∧HOk P w H' s'.heap∧RelV v u∧Q v H'
noncomputable def CR (CX:CXT)(outer:List Env)(P:Program)(w:World)(H:Hp)(s:Shared)(Q:VK)(E:XK)(r:Result)(s':Shared):Prop:=
 match r with
 | .ok (.ret u)=>CE outer P w H s Q u s'
 | .ok _=>False
 | .error e=>CX outer H s E e s'
structure FnOk (P:Program)(w:World)(K:PySem.W.Frag)(mg:Str→Option Value)(base:Heap)(CX:CXT)(k:Nat)(f:Addr)(fd:FuncData)(ps:List Str)(sp:Sp):Prop where
 len:∀ vs H Q E,sp vs H Q E→vs.length=ps.length
 run:∀(A:Around) (outer:List Env) (s:Shared) (H:Hp) (args:Args) (us:List Value) (vs:List V) (Q:VK) (E:XK),Room k A→Env0 P w K mg base A outer s H→BindsTo s fd args (ps.zip us)→Vals vs us→sp vs H Q E →
  codeAny (model P w) A (.call (.ref f) args) (CR CX outer P w H s Q E) s
theorem FnOk.imp {P:Program}{w:World}{K:PySem.W.Frag}{mg:Str→Option Value}{base:Heap}{CX:CXT}{k:Nat}{f:Addr}{fd:FuncData}{ps:List Str}{sp sp':Sp}(F:FnOk P w K mg base CX k f fd ps sp)
  (h:∀ vs H Q E,sp' vs H Q E→sp vs H Q E):FnOk P w K mg base CX k f fd ps sp':=
 ⟨fun vs H Q E q=>F.len vs H Q E (h _ _ _ _ q),fun A outer s H args us vs Q E hr he hb hv hs=>F.run A outer s H args us vs Q E hr he hb hv (h _ _ _ _ hs)⟩
section
variable {X:Cx}{pins:List (Addr×Obj)}{σ:St}{H:Hp}{s s':Shared}
theorem Inv.env0 (I:Inv X pins σ H s):Env0 X.prog X.w X.K X.mg X.base X.A X.stack s H:=
 ⟨I.ok.frames,I.ok.mod,I.bs,Nat.le_trans I.ok.bsz I.sz,I.stack,I.stkFree,I.hok,I.bare⟩
theorem Inv.after {Q:VK}{u:Value}(I:Inv X pins σ H s)(h:CE X.stack X.prog X.w H s Q u s'):EP X pins σ Q u s':=by
 obtain⟨v,H',os,bare,un,hok,r,q⟩:=h;obtain⟨hh,g,d,t,os'⟩:=s';obtain rfl:os'=s.os:=os;exact⟨v,H',I.call (h':=hh) (g':=g) (d':=d) (t':=t) (ch:=[]) un hok bare (fun b z=>absurd z (by simp)),r,q⟩
end
noncomputable def tCall (sp:Sp)(dvs:List V)(E:XK)(t:TA):TE:=fun σ H Q=>t σ H fun vs H1=>sp (vs++dvs) H1 Q E
noncomputable def Binds (K:PySem.W.Frag)(fd:FuncData)(ps:List Str)(ds:List Value):Prop:=
 ∀(s:Shared) (us:List Value),K.In s.heap→(us++ds).length=ps.length→BindsTo s fd ⟨us,[]⟩ (ps.zip (us++ds))
theorem Binds.all {K:PySem.W.Frag}{fd:FuncData}{ps:List Str}(h:∀ us:List Value,us.length=ps.length→bindArgs fd ⟨us,[]⟩=pure (ps.zip us)):Binds K fd ps []:=fun s us _ hl=>by
 rw[List.append_nil] at hl ⊢;exact .of_eq (h us hl)
noncomputable def Passes (CX:CXT)(X:Cx)(E:XK):Prop:=∀(pins:List (Addr×Obj)) (σ:St) (H:Hp) (s:Shared) (e:Value) (s':Shared),Inv X pins σ H s→CX X.stack H s E e s'→X.xe e s'
section
variable {X:Cx}{CX:CXT}{k:Nat}{f C:Addr}{fd:FuncData}{ps:List Str}{sp:Sp}{dvs:List V}{ds:List Value}{E:XK}{x m:Str}{p pos apos:Pos}{e o:Expr}{es:List Expr}{ta:TE}{t:TA}
theorem run_fn {pins:List (Addr×Obj)}{σ:St}{H:Hp}{s:Shared}{Q:VK}{us:List Value}{vs:List V}(F:FnOk X.prog X.w X.K X.mg X.base CX k f fd ps sp)(hr:Room k X.A)(hb:Binds X.K fd ps ds)(hd:Vals dvs ds)(hx:Passes CX X E)
  (I:Inv X pins σ H s) (r:Vals vs us) (h:sp (vs++dvs) H Q E):wpAny (model X.prog X.w) X.A (call (.ref f) us) (EP X pins σ Q) X.xe s:=by
 have r2:Vals (vs++dvs) (us++ds):=r.append hd;have hl:(us++ds).length=ps.length:=by rw[← r2.length]; exact F.len _ _ _ _ h
 refine wpAny_call (codeAny_mono (F.run X.A X.stack s H ⟨us,[]⟩ (us++ds) (vs++dvs) Q E hr I.env0 (hb s us I.kIn hl) r2 h) fun r s' hq=>?_)
 cases r with
 | error e=>exact hx pins σ H s e s' I hq
 | ok fl=>
  cases fl with
  | ret u=>exact I.after hq
  | next=>exact False.elim hq
  | brk=>exact False.elim hq
  | cont=>exact False.elim hq
theorem pe_call (F:FnOk X.prog X.w X.K X.mg X.base CX k f fd ps sp)(hr:Room k X.A)(hg:Gl X x)(hm:X.mg x=some (.ref f))(hk:PySem.W.keepIn X.K (.ref f)=true)(hb:Binds X.K fd ps ds)(hd:Vals dvs ds)(hx:Passes CX X E)
  (ha:PA X (e::es) t) (hdb:(x==("__debug__" : Str))=false:=by decide) (he:starEach (e::es) X.env=(false,eval e X.env)::starEach es X.env:=by rfl) (hpl:(backTo pos (starEach es X.env)).any (·.1)=false:=by rfl) :
  PE X (.Call (.Name x p) (e::es) [] pos) (tCall sp dvs E t):=by
 intro pins s σ H Q I h;refine wpAny_Call_Name_kw (ld_glob I hg hm ?_ hdb);refine PySem.W.callWith_K (h₀:=X.base) I.ok.mod.kin hk (thn (ha pos pins s σ H _ I h) fun us s1 ⟨vs,H1,I1,r,q⟩=>⟨I1.kIn,?_⟩) he hpl;exact run_fn F hr hb hd hx I1 r q
end
section
variable {X:Cx}{CX:CXT}{k:Nat}{f C:Addr}{fd:FuncData}{ps ks:List Str}{sp:Sp}{E:XK}{x m:Str}{p pos apos kpos:Pos}{e o:Expr}{es:List Expr}{kws:List Keyword}{te ta:TE}{t tk:TA}{nm:Option Str}
variable {g:List Value→List Value→List Value}{gV:List V→List V→List V}
end
structure FnScope (N P:List Str)(sc:Scope):Prop where
 kind:sc.kind=.function
 co:sc.isCoroutine=false
 gen:sc.isGenerator=false
 nd:N.Nodup
 pre:N.take P.length=P
 par:∀ x∈P,sc.names.lookup x=some .local∨sc.names.lookup x=some .cell
 nofree:∀ y∈sc.names,y.2≠.free
theorem bindL_out {kindOf:Str→Option NameKind}{x:Str}:∀{binds:List (Str×Value)} {m:Str→Option Value},(∀ v,(x,v)∉binds)→bindL kindOf binds m x=m x
 | [],_,_=>rfl
 | (n,v)::r,m,h=>by
  unfold bindL;rw[bindL_out fun w hw=>h w (List.mem_cons_of_mem _ hw)]
  split
  ·have:x≠n:=by rintro rfl; exact h v List.mem_cons_self
   simp[this]
  ·rfl
theorem bindC_out {kindOf:Str→Option NameKind}{x:Str}:∀{binds:List (Str×Value)} {m:Str→Option Value},(∀ v,(x,v)∉binds)→bindC kindOf binds m x=m x
 | [],_,_=>rfl
 | (n,v)::r,m,h=>by
  unfold bindC;rw[bindC_out fun w hw=>h w (List.mem_cons_of_mem _ hw)]
  split
  ·rfl
  ·have:x≠n:=by rintro rfl; exact h v List.mem_cons_self
   simp[this]
theorem bindL_get {kindOf:Str→Option NameKind}{x:Str}{v:Value}:∀{P:List Str} {vs:List Value} {i:Nat} {m:Str→Option Value},P.Nodup→P[i]?=some x→vs[i]?=some v→kindOf x=some .local →
  bindL kindOf (P.zip vs) m x=some v
 | [],_,_,_,_,h,_,_=>by simp at h
 | _::_,[],_,_,_,_,h,_=>by simp at h
 | p::P,w::vs,0,m,nd,h1,h2,hk=>by
  simp at h1 h2; subst h1; subst h2;show bindL kindOf ((p,w)::P.zip vs) m p=_;unfold bindL;rw[bindL_out fun v hv=>(List.nodup_cons.mp nd).1 (List.of_mem_zip hv).1,if_pos hk];simp
 | p::P,w::vs,i+1,m,nd,h1,h2,hk=>by
  show bindL kindOf ((p,w)::P.zip vs) m x=_;unfold bindL;exact bindL_get (i:=i) (List.nodup_cons.mp nd).2 (by simpa using h1) (by simpa using h2) hk
theorem bindC_get {kindOf:Str→Option NameKind}{x:Str}{v:Value}:∀{P:List Str} {vs:List Value} {i:Nat} {m:Str→Option Value},P.Nodup→P[i]?=some x→vs[i]?=some v→kindOf x≠some .local →
  bindC kindOf (P.zip vs) m x=some v
 | [],_,_,_,_,h,_,_=>by simp at h
 | _::_,[],_,_,_,_,h,_=>by simp at h
 | p::P,w::vs,0,m,nd,h1,h2,hk=>by
  simp at h1 h2; subst h1; subst h2;show bindC kindOf ((p,w)::P.zip vs) m p=_;unfold bindC;rw[bindC_out fun v hv=>(List.nodup_cons.mp nd).1 (List.of_mem_zip hv).1,if_neg hk];simp
 | p::P,w::vs,i+1,m,nd,h1,h2,hk=>by
  show bindC kindOf ((p,w)::P.zip vs) m x=_;unfold bindC;exact bindC_get (i:=i) (List.nodup_cons.mp nd).2 (by simpa using h1) (by simpa using h2) hk
noncomputable def start (N:List Str)(vs:List V):St:=vs.map some++List.replicate (N.length-vs.length) none
noncomputable def cxOf (CX:CXT)(P:Program)(w:World)(K:PySem.W.Frag)(mg:Str→Option Value)(base:Heap)(N:List Str)(qual:Str)(scope:Scope)(f:Addr)(cd:Value)(A:Around)(outer:List Env)(s:Shared)(H:Hp)(E:XK):Cx where
 prog:=P
 w:=w
 K:=K
 mg:=mg
 base:=base
 A:=A.deeper (envOfC qual scope s.heap.objs.size f cd)
 N:=N
 s₀:=s
 H₀:=H
 env:=envOfC qual scope s.heap.objs.size f cd
 outer:=outer
 stack:=envOfC qual scope s.heap.objs.size f cd::outer
 ex:=[]
 calm:=true
 fn:=fun _=>true
 pn:=[]
 xe:=fun e s'=>wpAny (model P w) (A.deeper (envOfC qual scope s.heap.objs.size f cd)) (leaving (envOfC qual scope s.heap.objs.size f cd) e) (fun _ s''=>CX outer H s E e s'') (fun e' s''=>CX outer H s E e' s'') s'
theorem cell_has {sc:Scope}{n:Nat}{x:Str}(h:sc.names.lookup x=some .cell):∃ c,(cellsFrom n sc.names []).lookup x=some c:=by
 have q:=PySem.W.cellsFrom_some sc.names n [] (.inl h);exact Option.isSome_iff_exists.mp q
theorem inv_start {CX:CXT}{P:Program}{w:World}{K:PySem.W.Frag}{mg:Str→Option Value}{base:Heap}{N ps:List Str}{qual:Str}{scope:Scope}{f:Addr}{cd:Value}{A:Around}{outer:List Env}{s s1:Shared}{H:Hp}{E:XK}{us:List Value}{vs:List V}
  (S:FnScope N ps scope) (hd:A.handled=none) (e0:Env0 P w K mg base A outer s H) (hl:vs.length=ps.length) (r:Vals vs us)
  (x:InCallC s s.heap.objs.size (bindL (envOfC qual scope s.heap.objs.size f cd).kindOf (ps.zip us) fun _=>none) (cellsFrom (s.heap.objs.size+1) scope.names []) (bindC (envOfC qual scope s.heap.objs.size f cd).kindOf (ps.zip us) fun _=>none) s1) :
  Inv (cxOf CX P w K mg base N qual scope f cd A outer s H E) [] (start N vs) H s1:=by
 have hpl:ps.length≤N.length:=by have:=congrArg List.length S.pre; rw[List.length_take] at this; omega
 obtain⟨h1,tk,rfl,hk⟩:=x.done;have noA:∀ b:Addr,b∉(cxOf CX P w K mg base N qual scope f cd A outer s H E).ex:=fun b z=>absurd (show b∈([]:List Addr) from z) (by simp);refine⟨⟨e0.mod,S.kind,rfl,rfl,Nat.le_refl _,fun y z c h1 h2=>?_,fun y hy=>?_,fun y c _ h=>?_,fun _=>hd,Around.frames_deeper e0.frames,.inr ⟨rfl,rfl⟩,fun b z=>absurd z (noA b),e0.bs,e0.bsz,fun b _ _=>noA b,fun b z=>absurd z (noA b),e0.funs,e0.frf⟩,
  rfl,e0.bare,Un.kept hk,⟨_,x.toInCall.ns,fun i y v h1 h2 h3=>?_⟩,fun y c h=>⟨_,x.cell y c h⟩,e0.hok.fresh (Nat.le_refl _),fun y c h=>?_,fun p hp=>absurd (show p∈([]:List (Addr×Obj)) from hp) (by simp),e0.hok.kept hk,?_⟩
 ·exact name_of_addr x.apart (PySem.mem_of_lookup h1) (PySem.mem_of_lookup h2)
 ·have hy:scope.names.lookup y=some .cell∨scope.names.lookup y=some .free:=hy;rcases hy with hy|hy
  ·exact cell_has hy
  ·exact absurd rfl (S.nofree _ (PySem.mem_of_lookup hy))
 ·exact Nat.le_of_lt (x.above y c (PySem.mem_of_lookup h))
 ·have hi:i<vs.length:=by
   unfold start at h2
   by_cases hi:i<vs.length
   ·exact hi
   ·rw[List.getElem?_append_right (by simpa using hi)] at h2;rw[List.getElem?_replicate] at h2
    split at h2<;>cases h2
  have ha:vs[i]?=some v:=by
   unfold start at h2;rw[List.getElem?_append_left (by simpa using hi),List.getElem?_map] at h2
   cases e:vs[i]? with
   | none=>rw[e] at h2; cases h2
   | some a=>rw[e] at h2; cases h2; rfl
  obtain⟨u,hu,rv⟩:=r.get ha;have hp:ps[i]?=some y:=by
   rw[← S.pre,List.getElem?_take_of_lt (by omega)]; exact h1
  have ndP:ps.Nodup:=by rw[← S.pre]; exact S.nd.sublist (List.take_sublist _ _)
  refine⟨u,rv,?_⟩;rcases S.par y (List.mem_of_getElem? hp) with k|k
  ·exact .inl ⟨k,bindL_get ndP hp hu k⟩
  ·obtain⟨c,e⟩:=cell_has (n:=s.heap.objs.size+1) k;refine .inr ⟨.inl k,c,e,?_⟩;have q:=x.cell y c e;rw[bindC_get ndP hp hu (by show scope.names.lookup y≠_; rw[k]; decide)] at q;exact q
 ·exact e0.hok.fresh (Nat.le_of_lt (x.above y c (PySem.mem_of_lookup h)))
 ·unfold start;show _=N.length;rw[List.length_append,List.length_map,List.length_replicate];omega
theorem fn_of {CX:CXT}{P:Program}{w:World}{K:PySem.W.Frag}{mg:Str→Option Value}{base:Heap}{k:Nat}{f:Addr}{name qual:Str}{params:Arguments}{body:List Stmt}{scope:Scope}{dV kV doc pm cdv ct oc:Value}{an od:Option Addr}
  {osl:Array (Option Value)} {N ps:List Str} {sp:Sp} (lk:K.lookup f=some ⟨oc,od,.func (PySem.W.fnOf name qual params body scope dV kV doc pm an cdv ct),osl⟩) (hcd:PySem.W.codeIn K cdv qual=true) (S:FnScope N ps scope)
  (len:∀ vs H Q E,sp vs H Q E→vs.length=ps.length)
  (hbody:∀(A:Around) (outer:List Env) (s:Shared) (H:Hp) (vs:List V) (Q:VK) (E:XK),Room k (A.deeper (envOfC qual scope s.heap.objs.size f cdv))→sp vs H Q E →
   ∃ t,PSs (cxOf CX P w K mg base N qual scope f cdv A outer s H E) body t∧t { nx:=fun _ H'=>Q .non H',rt:=Q } (start N vs) H) :
  FnOk P w K mg base CX (k+1) f (PySem.W.fnOf name qual params body scope dV kV doc pm an cdv ct) ps sp:=by
 refine⟨len,fun A outer s H args us vs Q E hr e0 hb r hsp=>?_⟩;have hl:=len _ _ _ _ hsp;have KX:K.In s.heap:=e0.mod.kin.keeps fun b o e=>(e0.bs b o e).1;have lim:s.heap.NoLimit:=e0.mod.nolimit.keeps fun b o e=>(e0.bs b o e).1;have hkind:∀ y∈ps.zip us,scope.names.lookup y.1=some .local∨(scope.names.lookup y.1=some .cell∧((cellsFrom (s.heap.objs.size+1) scope.names []).lookup y.1).isSome=true):=fun⟨n,v⟩ hy=>by
  rcases S.par n (List.of_mem_zip hy).1 with q|q
  ·exact .inl q
  ·exact .inr ⟨q,PySem.W.cellsFrom_some _ _ _ (.inl q)⟩
 refine codeAny_call_function hr.depth (KX _ _ lk) rfl S.co S.gen rfl (PySem.W.codeRec_of KX hcd) (hb _ _ _ _ ?_);refine wpAny_newFunctionEnv_cells S.kind hkind fun env he s1 x=>?_;subst he;refine⟨lim.keeps x.toInCall.keep,codeAny_func ?_⟩;obtain⟨t,ht,hq⟩:=hbody A outer s H vs Q E (hr.deeper _) hsp;have I:Inv (cxOf CX P w K mg base N qual scope f cdv A outer s H E) [] (start N vs) H s1:=inv_start S hr.hd e0 hl r x;refine wpAny_mono (ht [] s1 (start N vs) H _ I hq) (fun fl s' hs=>?_) fun e s' hs=>hs;have fin:∀{σ':St} {H':Hp} {v:V} {u:Value},Inv (cxOf CX P w K mg base N qual scope f cdv A outer s H E) [] σ' H' s'→RelV v u→Q v H'→CE outer P w H s Q u s':=
  fun{σ' H' v u} J rv q=>⟨v,H',J.os,J.bare,J.base,J.hok,rv,q⟩
 cases fl with
 | ret u=>
  obtain⟨v,σ',H',J,rv,q⟩:=hs;exact fin J rv q
 | next=>
  obtain⟨σ',H',J,q⟩:=hs;exact fin (v:=V.non) (u:=Value.none) J rfl q
 | brk=>
  obtain⟨_,_,_,q⟩:=hs;exact False.elim q
 | cont=>
  obtain⟨_,_,_,q⟩:=hs;exact False.elim q
end L2
namespace L2
open PySem PySem.Spec PyProof.Rows
section
variable {X:Cx}{x:Str}{p pos:Pos}{e:Expr}{es:List Expr}{t:TA}{id T:String}{r:List V→Hp→VK→Prop}
noncomputable def tCB (r:List V→Hp→VK→Prop)(t:TA):TE:=fun σ H Q=>t σ H fun vs H1=>r vs H1 Q
theorem aF (hc:CallR X (.builtin id) r)(hg:Gl X x)(hm:X.mg x=none)(hv:bootBuiltins x=some (.builtin id))(ha:PA X (e::es) t)(hn:x ≠ "__name__" := by decide)(hdb:(x==("__debug__" : Str))=false:=by decide)
  (he:starEach (e::es) X.env=(false,eval e X.env)::starEach es X.env:=by rfl) (hpl:(backTo pos (starEach es X.env)).any (·.1)=false:=by rfl):PE X (.Call (.Name x p) (e::es) [] pos) (tCB r t):=by
 intro pins s σ H Q I h;refine wpAny_Call_Name_kw (ld_blt I hg hm hv ?_ hn hdb);exact PyProof.Rows.callWith_builtin1 (thn (ha pos pins s σ H _ I h) fun us s1 ⟨vs,H1,I1,r1,q1⟩=>hc pins s1 σ H1 vs us Q I1 r1 q1) he hpl
theorem dD (hc:CallR X (.type T) r)(hg:Gl X x)(hm:X.mg x=none)(hv:bootBuiltins x=some (.type T))(ha:PA X (e::es) t)(hn:x ≠ "__name__" := by decide)(hdb:(x==("__debug__" : Str))=false:=by decide)
  (he:starEach (e::es) X.env=(false,eval e X.env)::starEach es X.env:=by rfl) (hpl:(backTo pos (starEach es X.env)).any (·.1)=false:=by rfl):PE X (.Call (.Name x p) (e::es) [] pos) (tCB r t):=by
 intro pins s σ H Q I h;refine wpAny_Call_Name_kw (ld_blt I hg hm hv ?_ hn hdb);exact PyProof.Rows.callWith_type1 (thn (ha pos pins s σ H _ I h) fun us s1 ⟨vs,H1,I1,r1,q1⟩=>hc pins s1 σ H1 vs us Q I1 r1 q1) he hpl
end
end L2
namespace HT
open PySem PyProof.Rows
section
open PySem.SeqAt
open PySem.AutoSeq1 (wpAny_loadPart')
open PySem.MeetsSeq PySem.MeetsSeq2 PySem.MeetsSeq3
end
section
variable {prog:Program}{w:World}{A:Around}{E:Value→Shared→Prop}{s:Shared}
noncomputable def sIx (n d:Nat):Option Int→Nat
 | none=>d
 | some v=>if v<0 then(v+(n:Int)).toNat else min v.toNat n
theorem sIx_le (n d:Nat)(hd:d≤n)(o:Option Int):sIx n d o≤n:=by
 cases o with
 | none=>exact hd
 | some v=>
  show(if v<0 then(v+(n:Int)).toNat else min v.toNat n)≤n
  by_cases hv:v<0
  ·rw[if_pos hv]; omega
  ·rw[if_neg hv]; exact Nat.min_le_right _ _
theorem clip_eq (v:Int)(n d:Nat):(if v<0 then max (v+(n:Int)) 0 else min v (n:Int))=((sIx n d (some v):Nat):Int):=by
 show(if v<0 then max (v+(n:Int)) 0 else min v (n:Int))=(((if v<0 then(v+(n:Int)).toNat else min v.toNat n):Nat):Int)
 by_cases hv:v<0
 ·simp only[if_pos hv]; omega
 ·simp only[if_neg hv]; omega
theorem adjust_gen (lo hi:Option Int)(n:Nat):Builtin.Slice.sliceAdjust lo hi 1 (n:Int)=(((sIx n 0 lo:Nat):Int),((sIx n n hi:Nat):Int)):=by
 have h1:¬((1:Int)<0):=by omega
 unfold Builtin.Slice.sliceAdjust;simp only[h1,if_false];refine Prod.ext ?_ ?_
 ·cases lo with
  | none=>rfl
  | some v=>exact clip_eq v n 0
 ·cases hi with
  | none=>rfl
  | some v=>exact clip_eq v n n
theorem places_gen (i j:Nat):Builtin.Slice.slicePlaces (i:Int) (j:Int) 1=j-i:=by
 unfold Builtin.Slice.slicePlaces;have h1:(1:Int)>0:=by omega
 simp only[h1,if_true,Int.ediv_one]
 split<;>omega
theorem slicePart_ {v:Value}{o:Option Int}{Q:Option Int→Shared→Prop}(p:IsPart v o)(h:Q o s):wpAny (model prog w) A (Builtin.Slice.slicePartIndex v) Q E s:=by
 cases p with
 | none=>exact slicePart_none h
 | int i t=>exact slicePart_int h
theorem sliceApplied_gen {sl:Addr}{vl vu:Value}{lo hi:Option Int}{n:Nat}{Q:Int×Int×Nat→Shared→Prop}(hs:s.heap.IsSliceOf sl vl vu .none)(pl:IsPart vl lo)(pu:IsPart vu hi)
  (h:Q (((sIx n 0 lo:Nat):Int),1,sIx n n hi-sIx n 0 lo) s):wpAny (model prog w) A (Builtin.Slice.sliceApplied (.ref sl) (pure (n:Int))) Q E s:=by
 obtain⟨os,hos,hcs,hds⟩:=id hs;unfold Builtin.Slice.sliceApplied Builtin.Slice.sliceFields;refine wpAny_bind (wpAny_bind (wpAny_field hos hds (x:=vl) rfl (wpAny_bind (wpAny_field hos hds (x:=vu) rfl (wpAny_bind (wpAny_field hos hds (x:=.none) rfl (wpAny_pure ?_)))))));refine wpAny_bind (slicePart_none ?_);show wpAny _ _ (if ((1:Int)==0)=true then _ else _) _ _ s;rw[if_neg (by decide)];refine wpAny_bind (slicePart_ pl (wpAny_bind (slicePart_ pu (wpAny_bind (wpAny_pure ?_)))));show wpAny _ _ (match Builtin.Slice.sliceAdjust lo hi 1 (n:Int) with|(lo,hi)=>pure (lo,(1:Int),Builtin.Slice.slicePlaces lo hi 1)) _ _ s;rw[adjust_gen lo hi n];show wpAny _ _ (pure (((sIx n 0 lo:Nat):Int),(1:Int),Builtin.Slice.slicePlaces ((sIx n 0 lo:Nat):Int) ((sIx n n hi:Nat):Int) 1)) _ _ s;rw[places_gen];exact wpAny_pure h
theorem pick_gen (xs:Array Value)(i k:Nat):((List.range k).filterMap fun(m:Nat)=>xs[((i:Int)+(m:Int)*1).toNat]?).toArray=((xs.toList.drop i).take k).toArray:=by
 have e:(fun(m:Nat)=>xs[((i:Int)+(m:Int)*1).toNat]?)=fun m=>xs[i+m]?:=by
  funext m
  have:((i:Int)+(m:Int)*1).toNat=i+m:=by omega
  rw[this]
 rw[e];have:=pick_run xs i k;rw[List.filterMap_map] at this;have e2:((fun x=>xs[x]?)∘fun x=>i+x)=fun m=>xs[i+m]?:=rfl;rw[e2] at this;rw[this]
theorem getItem_tuple_cut {t sl:Addr}{items:Array Value}{vl vu:Value}{lo hi:Option Int}{Q:Value→Shared→Prop}(ht:IsTup s.heap t items)(hs:s.heap.IsSliceOf sl vl vu .none)(pl:IsPart vl lo)(pu:IsPart vu hi)
  (hw:¬(sIx items.size 0 lo=0∧sIx items.size items.size hi=items.size))
  (h:Q (.ref s.heap.objs.size) { s with heap:=s.heap.push { cls:=.type "tuple", data:=.seq ((items.toList.drop (sIx items.size 0 lo)).take (sIx items.size items.size hi-sIx items.size 0 lo)).toArray } })
  (hsz:items.size≤sizeLine):wpAny (model prog w) A (getItem (.ref t) (.ref sl)) Q E s:=by
 have htake:sizeOk (.seq ((items.toList.drop (sIx items.size 0 lo)).take (sIx items.size items.size hi-sIx items.size 0 lo)).toArray):=by
  show((items.toList.drop (sIx items.size 0 lo)).take (sIx items.size items.size hi-sIx items.size 0 lo)).toArray.size≤sizeLine
  rw[List.size_toArray,List.length_take,List.length_drop,Array.length_toList];omega
 have hj:sIx items.size items.size hi≤items.size:=sIx_le _ _ (Nat.le_refl _) hi;obtain⟨os,hos,hcs,hds⟩:=id hs;have hTs:s.TypeIs (.ref sl) "slice" := ⟨os,hos,hcs⟩;unfold getItem
 try with_reducible refine wpAny_holding ?_
 first|refine wpAny_bind (wpAny_pure ?_)|skip
 refine wpAny_bind (wpAny_sequenceKey ht.typeIs (by decide) ?_);refine wpAny_bind (wpAny_callSpecial?_slot (name:=Str.ofString "__getitem__") ht.typeIs PyProof.Rows.slot_tuple_getitem
  (wpAny_call_entry PyProof.Rows.slot_tuple_getitem ht.typeIs entry_tuple_getitem ?_ (args_tuple_getitem _ _)))
 show wpAny _ _ (Builtin.Tuple.tupleItemsOf (.ref t) >>= _) _ _ s;refine wpAny_bind (tupleItemsOf_ ht ?_);refine wpAny_bind (wpAny_typeOf hTs ?_);rw[if_pos (by decide)];refine wpAny_bind (sliceApplied_gen hs pl pu ?_);have hno:¬((((sIx items.size 0 lo:Nat):Int)==0&&(1:Int)==1&&(sIx items.size items.size hi-sIx items.size 0 lo)==items.size)=true):=by
  intro q;rw[Bool.and_eq_true,Bool.and_eq_true] at q;have q1:((sIx items.size 0 lo:Nat):Int)=0:=eq_of_beq q.1.1;have q2:sIx items.size items.size hi-sIx items.size 0 lo=items.size:=eq_of_beq q.2;exact hw ⟨by omega,by omega⟩
 show wpAny _ _ (if (((sIx items.size 0 lo:Nat):Int)==0&&(1:Int)==1&&(sIx items.size items.size hi-sIx items.size 0 lo)==items.size)=true then _ else _) _ _ s;rw[if_neg hno,pick_gen]
 first
  | exact wpAny_bind (m:=Builtin.Tuple.tupleExact _) (wpAny_newObj_type (wpAny_pure ⟨_,rfl,wpAny_pure h⟩) htake)
  | exact wpAny_bind (m:=Builtin.Tuple.tupleExact _) (wpAny_newObj_type (wpAny_bind (wpAny_pure (wpAny_pure ⟨_,rfl,wpAny_pure h⟩))) htake)
  | exact wpAny_bind (wpAny_bind (m:=Builtin.Tuple.tupleExact _) (wpAny_newObj_type (wpAny_pure (wpAny_pure ⟨_,rfl,wpAny_pure h⟩)) htake))
  | exact wpAny_bind (wpAny_bind (m:=Builtin.Tuple.tupleExact _) (wpAny_newObj_type (wpAny_pure ⟨_,rfl,wpAny_pure h⟩) htake))
end
end HT
namespace L2
open PySem PySem.Spec PyProof.Rows
abbrev TO:=St→Hp→(Option Int→Hp→Prop)→Prop
noncomputable def PO (X:Cx)(e:Option Expr)(t:TO):Prop:=
 ∀(pins:List (Addr×Obj)) (s:Shared) (σ:St) (H:Hp) (Q:Option Int→Hp→Prop),Inv X pins σ H s→t σ H Q →
  wpAny (model X.prog X.w) X.A (evalPart e X.env) (fun u s'=>∃ o H',Inv X pins σ H' s'∧IsPart u o∧Q o H') X.xe s
noncomputable def tNoPart:TO:=fun _ H Q=>Q none H
noncomputable def tPart (t:TE):TO:=fun σ H Q=>t σ H fun x H1=>∃ i,x=.int i∧Q (some i) H1
section
variable {X:Cx}{e:Expr}{te:TE}{lo hi:Option Expr}{tl th:TO}{pos p2:Pos}
theorem po_none:PO X none tNoPart:=by
 intro pins s σ H Q I h;rw[evalPart_none];exact wpAny_pure ⟨none,H,I,.none,h⟩
theorem po_some (h:PE X e te):PO X (some e) (tPart te):=by
 intro pins s σ H Q I hw;rw[evalPart_some];refine thn (h pins s σ H _ I hw) fun u s1 ⟨x,H1,I1,r1,q1⟩=>?_;obtain⟨i,rfl,q⟩:=q1;obtain⟨t,rfl⟩:=r1;exact⟨some i,H1,I1,.int i t,q⟩
noncomputable def SlR (X:Cx)(r:V→Option Int→Option Int→Hp→VK→Prop):Prop:=
 ∀(pins:List (Addr×Obj)) (s:Shared) (σ:St) (H:Hp) (x:V) (v vl vu:Value) (lo hi:Option Int) (sl:Addr) (Q:VK),Inv X pins σ H s→RelV x v→s.heap.IsSliceOf sl vl vu .none→IsPart vl lo→IsPart vu hi→r x lo hi H Q →
  ∃ T id,typeLookup (.type T) "__getitem__" = pure (some (.builtin id))∧s.TypeIs v T∧wpAny (model X.prog X.w) X.A (getItem v (.ref sl)) (EP X pins σ Q) X.xe s
noncomputable def tSl (r:V→Option Int→Option Int→Hp→VK→Prop)(te:TE)(tl th:TO):TE:=fun σ H Q=>te σ H fun x H1=>tl σ H1 fun l H2=>th σ H2 fun u H3=>r x l u H3 Q
theorem pe_slice {r:V→Option Int→Option Int→Hp→VK→Prop}(hr:SlR X r)(he:PE X e te)(hl:PO X lo tl)(hu:PO X hi th):PE X (.Subscript e (.Slice lo hi none p2) pos) (tSl r te tl th):=by
 intro pins s σ H Q I h;refine Subscript_ (thn (he pins s σ H _ I h) fun v s1 ⟨x,H1,I1,r1,q1⟩=>?_);refine wpAny_Slice (thn (hl pins s1 σ H1 _ I1 q1) fun vl s2 ⟨l,H2,I2,pl,q2⟩=>thn (hu pins s2 σ H2 _ I2 q2) fun vu s3 ⟨u,H3,I3,pu,q3⟩=>?_);rw[evalPart_none];refine wpAny_pure ?_;have I4:Inv X pins σ H3 { s3 with heap:=s3.heap.push { cls:=.type "slice", data:=.fields #[vl,vu,.none] } }:=I3.kept (t':=s3.toks) fun b ob q=>Heap.get?_push_of_some _ q;obtain⟨T,id,hT,ht,hg⟩:=hr pins { s3 with heap:=s3.heap.push { cls:=.type "slice", data:=.fields #[vl,vu,.none] } } σ H3 x v vl vu l u s3.heap.objs.size Q I4 r1 (Heap.IsSliceOf.new ..) pl pu q3;show wpAny (model X.prog X.w) X.A (subscriptTail e (.Slice lo hi none p2) v (.ref s3.heap.objs.size)) (EP X pins σ Q) X.xe { s3 with heap:=s3.heap.push { cls:=.type "slice", data:=.fields #[vl,vu,.none] } };exact tail_any (ops:=[.ref s3.heap.objs.size,v]) ht hT hg (by with_unfolding_all rfl)
noncomputable def cutV (xs:List V)(lo hi:Option Int):List V:=(xs.drop (HT.sIx xs.length 0 lo)).take (HT.sIx xs.length xs.length hi-HT.sIx xs.length 0 lo)
theorem cutV_length (xs:List V)(lo hi:Option Int):(cutV xs lo hi).length≤xs.length:=by
 unfold cutV;rw[List.length_take,List.length_drop];omega
noncomputable def rSlT (K:PySem.W.Frag):V→Option Int→Option Int→Hp→VK→Prop:=fun x lo hi H Q=>∃ a xs,x=.ref a∧SqT K H a xs ∧
 ¬(HT.sIx xs.length 0 lo=0∧HT.sIx xs.length xs.length hi=xs.length)∧∀ p,H p=none→Q (.ref p) (upd H p (.tup (cutV xs lo hi)))
theorem sl_tup:SlR X (rSlT X.K):=by
 intro pins s σ H x v vl vu lo hi sl Q I rx hs pl pu h;obtain⟨a,xs,rfl,hx,hw,q⟩:=h
 cases rx
 obtain⟨its,r,ht,hz⟩:=I.tuple hx;have hlen:its.toArray.size=xs.length:=by rw[List.size_toArray]; exact r.length.symm
 refine⟨"tuple", _,PyProof.Rows.slot_tuple_getitem.lookup,ht.typeIs,?_⟩;refine HT.getItem_tuple_cut ht hs pl pu (by rw[hlen]; exact hw) ?_ (by rw[hlen]; exact hz);rw[hlen];refine⟨.ref s.heap.objs.size,_,I.laid (t':=s.toks) (o:=.tup (cutV xs lo hi)) (fun b ob q=>Heap.get?_push_of_some _ q) (Nat.le_refl _) ?_,rfl,q _ (I.hok.fresh (Nat.le_refl _))⟩;exact⟨Nat.le_trans (cutV_length xs lo hi) hz,_,(r.drop (HT.sIx xs.length 0 lo)).take (HT.sIx xs.length xs.length hi-HT.sIx xs.length 0 lo),IsTup.new _ _⟩
end
end L2
namespace L2
open PySem PySem.Spec PyProof.Rows
noncomputable def ixN (n:Nat)(i:Int):Option Nat:=if 0≤i then(if i<n then some i.toNat else none) else if -(n:Int)≤i then some (i+n).toNat else none
noncomputable def atI {α:Type}(xs:List α)(i:Int):Option α:=(ixN xs.length i).bind fun j=>xs[j]?
theorem ixN_seq {n:Nat}{i:Int}{j:Nat}(h:ixN n i=some j):seqIndex? i n=some j∧j<n ∧ -(n:Int)≤i∧i<n:=by
 unfold ixN at h
 by_cases h0:0≤i
 ·rw[if_pos h0] at h
  by_cases h1:i<n
  ·rw[if_pos h1] at h;have e:i.toNat=j:=Option.some.inj h;exact⟨by rw[seqIndex_of h0 h1,e],by omega,by omega,h1⟩
  ·rw[if_neg h1] at h; cases h
 ·rw[if_neg h0] at h
  by_cases h1 : -(n:Int)≤i
  ·rw[if_pos h1] at h;have e:(i+n).toNat=j:=Option.some.inj h;exact⟨by rw[seqIndex_neg (by omega) h1,e],by omega,h1,by omega⟩
  ·rw[if_neg h1] at h; cases h
theorem atI_get {α:Type}{xs:List α}{i:Int}{v:α}(h:atI xs i=some v):∃ j,seqIndex? i xs.length=some j∧xs[j]?=some v∧j<xs.length ∧ -(xs.length:Int)≤i∧i<xs.length:=by
 unfold atI at h
 cases e:ixN xs.length i with
 | none=>rw[e] at h; cases h
 | some j=>
  rw[e] at h;obtain⟨h1,h2,h3,h4⟩:=ixN_seq e;exact⟨j,h1,h,h2,h3,h4⟩
theorem atI_nat {α:Type}{xs:List α}{j:Nat}{v:α}(h:xs[j]?=some v):atI xs (j:Int)=some v:=by
 have hj:j<xs.length:=(List.getElem?_eq_some_iff.mp h).1;have e:ixN xs.length (j:Int)=some j:=by
  unfold ixN;rw[if_pos (by omega),if_pos (by omega)]; simp
 unfold atI; rw[e]; exact h
noncomputable def PlainIx (b:Expr):Prop:=∀ o i,subscripted b false o i=operate [o,i] (getItem o i)
noncomputable def IxR (X:Cx)(r:R2):Prop:=
 ∀(value slice:Expr) (pins:List (Addr×Obj)) (s:Shared) (σ:St) (H:Hp) (x y:V) (v u:Value) (Q:VK),Inv X pins σ H s→RelV x v→RelV y u→r x y H Q →
  subscripted slice false v u=operate [v,u] (getItem v u)→wpAny (model X.prog X.w) X.A (subscriptTail value slice v u) (EP X pins σ Q) X.xe s
noncomputable def MtR (X:Cx)(id:String)(r:V→List V→Hp→VK→Prop):Prop:=
 ∀(pins:List (Addr×Obj)) (s:Shared) (σ:St) (H:Hp) (x:V) (xs:List V) (v:Value) (us:List Value) (Q:VK),Inv X pins σ H s→RelV x v→Vals xs us→r x xs H Q →
  wpAny (model X.prog X.w) X.A (call (.builtin id) (v::us)) (EP X pins σ Q) X.xe s
section
variable {X:Cx}{a b:Expr}{ta tb:TE}{pos:Pos}
theorem IxR.or {r r':R2}(h:IxR X r)(h':IxR X r'):IxR X (fun x y H Q=>r x y H Q∨r' x y H Q):=by
 intro value slice pins s σ H x y v u Q I rx ry q hs;rcases q with q|q
 ·exact h value slice pins s σ H x y v u Q I rx ry q hs
 ·exact h' value slice pins s σ H x y v u Q I rx ry q hs
theorem bY {r:R2}(hr:IxR X r)(ha:PE X a ta)(hb:PE X b tb)(hs:PlainIx b):PE X (.Subscript a b pos) (tOp r ta tb):=by
 intro pins s σ H Q I h;exact Subscript_ (binT ha hb I h fun v u s2 x y H2 I2 rx ry q=>hr a b pins s2 σ H2 x y v u Q I2 rx ry q (hs _ _))
noncomputable def rIxL (K:PySem.W.Frag):R2:=fun x y H Q=>∃ p xs i v,x=.ref p∧y=.int i∧SqL K H p xs∧atI xs i=some v∧Q v H
noncomputable def rIxT (K:PySem.W.Frag):R2:=fun x y H Q=>∃ p xs i v,x=.ref p∧y=.int i∧SqT K H p xs∧atI xs i=some v∧Q v H
noncomputable def rIxS:R2:=fun x y H Q=>∃ z i c,x=.str z∧y=.int i∧z.length≤sizeLine∧atI z.cps.toList i=some c∧Q (.str ⟨#[c]⟩) H
theorem ix_list:IxR X (rIxL X.K):=by
 intro value slice pins s σ H x y v u Q I rx ry h hs;obtain⟨p,xs,i,z,rfl,rfl,hq,he,q⟩:=h
 cases rx
 obtain⟨t,rfl⟩:=ry;obtain⟨its,r,pl,hz⟩:=I.list hq;obtain⟨j,h1,h2,h3,h4,h5⟩:=atI_get he;obtain⟨w,ew,rw'⟩:=r.get h2;have hl:=r.length;have hn:=line63;have fin:EP X pins σ Q w s:=⟨z,H,I,rw',q⟩
 by_cases h0:0≤i
 ·have hj:i.toNat=j:=by
   rw[seqIndex_of h0 h5] at h1;exact Option.some.inj h1
  exact item_listR pl.isList h0 (by omega) (by rw[hj]; simpa using ew) fin hs
 ·have hj:(i+(its.toArray.size:Int)).toNat=j:=by
   rw[seqIndex_neg (by omega) h4] at h1;rw[List.size_toArray,←hl];exact Option.some.inj h1
  exact subscriptTail_builtinR (x:=w) pl.isList.typeIs slot_list_getitem.lookup
   (wpAny_getItem_list_neg (Q:=fun r s'=>r=w∧EP X pins σ Q r s') pl.isList (by omega) (by rw[List.size_toArray]<;>omega) (by omega) (by rw[hj]; simpa using ew) ⟨rfl,fin⟩) hs
theorem ix_tup:IxR X (rIxT X.K):=by
 intro value slice pins s σ H x y v u Q I rx ry h hs;obtain⟨p,xs,i,z,rfl,rfl,hq,he,q⟩:=h
 cases rx
 obtain⟨t,rfl⟩:=ry;obtain⟨its,r,pl,hz⟩:=I.tuple hq;obtain⟨j,h1,h2,h3,h4,h5⟩:=atI_get he;obtain⟨w,ew,rw'⟩:=r.get h2;have hl:=r.length;have hn:=line63;have fin:EP X pins σ Q w s:=⟨z,H,I,rw',q⟩;exact subscriptTail_builtinR (x:=w) pl.typeIs slot_tuple_getitem.lookup
  (getItem_tuple (j:=j) (Q:=fun r s'=>r=w∧EP X pins σ Q r s') pl (by omega) (by omega) (by rw[List.size_toArray,←hl]; exact h1) (by simpa using ew) ⟨rfl,fin⟩) hs
theorem ix_str:IxR X rIxS:=by
 intro value slice pins s σ H x y v u Q I rx ry h hs;obtain⟨z,i,c,rfl,rfl,hz,he,q⟩:=h;obtain⟨t,rfl⟩:=rx;obtain⟨t',rfl⟩:=ry;obtain⟨j,h1,h2,h3,h4,h5⟩:=atI_get he;have hl:z.cps.toList.length=z.length:=by simp[Str.length]
 rw[hl] at h1 h4 h5;have hn:=line63;exact tail_any (typeIs_str s z t) slot_str_getitem.lookup (getItem_str (c:=c) (by
  have e1:decide (i < -(2^63:Int))=false:=decide_eq_false (by omega);have e2:decide (i≥2^63)=false:=decide_eq_false (by omega);rw[e1,e2,Bool.or_false]) (by rw[h1]; simpa using h2) ⟨.str ⟨#[c]⟩,H,I.tok _,⟨_,rfl⟩,q⟩) hs
noncomputable def rIx (K:PySem.W.Frag):R2:=fun x y H Q=>rIxL K x y H Q∨rIxT K x y H Q∨rIxS x y H Q
theorem bV:IxR X (rIx X.K):=ix_list.or (ix_tup.or ix_str)
theorem mapSeq_set (its:List Value)(n j:Nat)(u:Value):Obj.mapSeq (·.setIfInBounds j u) { cls:=.type "list", data:=.seq its.toArray n }={ cls:=.type "list", data:=.seq (its.set j u).toArray n }:=by
 simp[Obj.mapSeq]
theorem Inv.lst {pins:List (Addr×Obj)}{σ:St}{H:Hp}{s:Shared}{p:Addr}{xs:List V}(I:Inv X pins σ H s)(h:H p=some (.lst xs)) :
  ∃(its:List Value) (n:Nat),Vals xs its∧s.heap.get? p=some { cls:=.type "list", data:=.seq its.toArray n }∧xs.length≤sizeLine:=by
 obtain⟨z,its,n,r,e⟩:=I.hok p _ h;exact⟨its,n,r,e,z⟩
theorem Inv.lstUpd {pins:List (Addr×Obj)}{σ:St}{H:Hp}{s:Shared}{p:Addr}{xs ys:List V}{its its':List Value}{n n':Nat}{f:Obj→Obj}(I:Inv X pins σ H s)(h:H p=some (.lst xs))
  (ho:s.heap.get? p=some { cls:=.type "list", data:=.seq its.toArray n }) (hf:f { cls:=.type "list", data:=.seq its.toArray n }={ cls:=.type "list", data:=.seq its'.toArray n' }) (r:Vals ys its') (hz:ys.length≤sizeLine) (t:Nat) :
  Inv X pins σ (upd H p (.lst ys)) { s with heap:=s.heap.update p f,toks:=t }:=by
 have e:(s.heap.update p f).get? p=some { cls:=.type "list", data:=.seq its'.toArray n' }:=by
  rw[Heap.get?_update_self f ho (by rw[hf]<;>rfl),hf]
 refine I.write (x:=p) (e:=p) (by rw[h]; trivial) (.inl rfl) (fun b u hb q=>(Heap.get?_update_other _ _ (Ne.symm hb)).trans q) ⟨_,e⟩ ?_;exact⟨hz,its',n',r,e⟩
noncomputable def rSetL:V→V→V→Hp→(Hp→Prop)→Prop:=fun o i v H Q=>∃ p xs k j,o=.ref p∧i=.int k∧H p=some (.lst xs)∧ixN xs.length k=some j∧Q (upd H p (.lst (xs.set j v)))
theorem set_list:PSet X rSetL:=by
 intro pins s σ H o i v ov iv u Q I ro ri rv h;obtain⟨p,xs,k,j,rfl,rfl,hp,hj,q⟩:=h
 cases ro
 obtain⟨t,rfl⟩:=ri;obtain⟨its,n,r,ho,hz⟩:=I.lst hp;obtain⟨h1,h2,h3,h4⟩:=ixN_seq hj;have hl:=r.length;have hn:=line63;have I':Inv X pins σ (upd H p (.lst (xs.set j v))) { s with heap:=s.heap.update p (Obj.mapSeq (·.setIfInBounds j u)) }:=
  I.lstUpd hp ho (mapSeq_set its n j u) (r.set rv j) (by rw[List.length_set]; exact hz) s.toks
 by_cases h0:0≤k
 ·have hk:k.toNat=j:=by
   rw[seqIndex_of h0 h4] at h1;exact Option.some.inj h1
  exact PySem.W.ki_setAt ho h0 (by omega) (by rw[List.size_toArray,←hl]; exact h4) (by rw[hk]; exact⟨_,I',q⟩)
 ·have hk:(k+(its.toArray.size:Int)).toNat=j:=by
   rw[seqIndex_neg (by omega) h3] at h1;rw[List.size_toArray,←hl];exact Option.some.inj h1
  exact PySem.W.ki_setBack ho (by omega) (by rw[List.size_toArray,←hl]; exact h3) (by omega) (by rw[hk]; exact⟨_,I',q⟩)
theorem slice_bounds (lo hi:Option Int)(n:Nat):(sliceBounds lo hi none n).1=((HT.sIx n 0 lo:Nat):Int)∧(sliceBounds lo hi none n).2.1=((HT.sIx n n hi:Nat):Int)∧(sliceBounds lo hi none n).2.2=1:=by
 refine⟨?_,?_,rfl⟩
 ·cases lo with
  | none=>simp[sliceBounds,HT.sIx]
  | some i=>
   simp only[sliceBounds,HT.sIx,Option.getD_none,show(1:Int)>0 by decide,if_true]
   by_cases h:i<0
   ·simp only[h,if_true]<;>omega
   ·simp only[h,if_false]<;>omega
 ·cases hi with
  | none=>simp[sliceBounds,HT.sIx]
  | some i=>
   simp only[sliceBounds,HT.sIx,Option.getD_none,show(1:Int)>0 by decide,if_true]
   by_cases h:i<0
   ·simp only[h,if_true]<;>omega
   ·simp only[h,if_false]<;>omega
theorem slicePick_cut (its:List Value)(lo hi:Option Int):slicePick its.toArray lo hi none=((its.drop (HT.sIx its.length 0 lo)).take (HT.sIx its.length its.length hi-HT.sIx its.length 0 lo)).toArray:=by
 obtain⟨h1,h2,h3⟩:=slice_bounds lo hi its.toArray.size;unfold slicePick;rw[h1,h2,h3];simp only[sliceRange_one,pick_run,List.size_toArray]<;>rfl
noncomputable def rSlL (K:PySem.W.Frag):V→Option Int→Option Int→Hp→VK→Prop:=fun x lo hi H Q=>∃ a xs,x=.ref a∧SqL K H a xs∧∀ p,H p=none→Q (.ref p) (upd H p (.lst (cutV xs lo hi)))
theorem sl_list:SlR X (rSlL X.K):=by
 intro pins s σ H x v vl vu lo hi sl Q I rx hs pl pu h;obtain⟨a,xs,rfl,hx,q⟩:=h
 cases rx
 obtain⟨its,r,ht,hz⟩:=I.list hx;have hlen:=r.length;refine⟨"list", _,slot_list_getitem.lookup,ht.isList.typeIs,?_⟩;refine wpAny_getItem_list_slice ht.isList hs pl pu .none (by simp) ?_ (by rw[List.size_toArray]<;>omega);rw[slicePick_cut,←hlen];refine⟨.ref s.heap.objs.size,_,I.laid (t':=s.toks) (o:=.lst (cutV xs lo hi)) (fun b ob q=>Heap.get?_push_of_some _ q) (Nat.le_refl _) ?_,rfl,q _ (I.hok.fresh (Nat.le_refl _))⟩;exact⟨Nat.le_trans (cutV_length xs lo hi) hz,_,0,(r.drop (HT.sIx xs.length 0 lo)).take (HT.sIx xs.length xs.length hi-HT.sIx xs.length 0 lo),Heap.get?_push_size _ rfl⟩
theorem aP:CallR X (.builtin "len") (fun xs H Q=>∃ p ys,xs=[.ref p]∧(SqL X.K H p ys∨SqT X.K H p ys)∧Q (.int ys.length) H):=by
 intro pins s σ H xs us Q I r h;obtain⟨p,ys,rfl,hq,q⟩:=h;obtain⟨u,rfl,rx⟩:=vals1 r
 cases rx
 have hn:=line63;rcases hq with hq|hq
 ·obtain⟨its,r',pl,hz⟩:=I.list hq;have hlen:=r'.length;exact Calls.call_len_list pl.isList (by simp only[List.size_toArray]<;>omega) ⟨.int ys.length,H,I.tok _,⟨s.toks+1,by rw[List.size_toArray,hlen]⟩,q⟩
 ·obtain⟨its,r',pl,hz⟩:=I.tuple hq;have hlen:=r'.length;exact len_tuple pl (by simp only[List.size_toArray]<;>omega) ⟨.int ys.length,H,I.tok _,⟨s.toks+1,by rw[List.size_toArray,hlen]⟩,q⟩
theorem call_list_of:CallR X (.type "list") (fun xs H Q=>∃ p ys,xs=[.ref p]∧(SqL X.K H p ys∨SqT X.K H p ys)∧∀ l,H l=none→Q (.ref l) (upd H l (.lst ys))):=by
 intro pins s σ H xs us Q I r h;obtain⟨p,ys,rfl,hq,q⟩:=h;obtain⟨u,rfl,rx⟩:=vals1 r
 cases rx
 have fin:∀(its:List Value),Vals ys its→ys.length≤sizeLine→∀(h':Heap) (c':Nat),(∀ b o',s.heap.get? b=some o'→h'.get? b=some o') →
   h'.get? s.heap.objs.size=some { cls:=.type "list", dict:=none,data:=.seq its.toArray c',slots:=#[] }→EP X pins σ Q (.ref s.heap.objs.size) { s with heap:=h' }:=fun its r' hz h' c' kp e=>
  ⟨.ref s.heap.objs.size,_,I.laid (t':=s.toks) kp (Nat.le_refl _) (show ObjOk X.prog X.w _ h' _ (.lst ys) from⟨hz,its,c',r',e⟩),rfl,q _ (I.hok.fresh (Nat.le_refl _))⟩
 rcases hq with hq|hq
 ·obtain⟨its,r',pl,hz⟩:=I.list hq;have hlen:=r'.length;obtain⟨o,ho,hc,n,hd⟩:=pl.isList;exact call_list_seq p (.inl rfl) ho hc hd (fun h' c' kp e=>fin its r' hz h' c' kp e) (by simp only[List.size_toArray]<;>omega)
 ·obtain⟨its,r',pl,hz⟩:=I.tuple hq;have hlen:=r'.length;obtain⟨o,ho,hc,n,hd⟩:=pl;exact call_list_seq p (.inr rfl) ho hc hd (fun h' c' kp e=>fin its r' hz h' c' kp e) (by simp only[List.size_toArray]<;>omega)
noncomputable def tyV (K:PySem.W.Frag)(T:String)(x:V)(H:Hp):Prop:=match x with
 | .str _=>T = "str"
 | .int _=>T = "int"
 | .ref p=>(T = "list" ∧ ∃ xs,SqL K H p xs)∨(T = "tuple" ∧ ∃ o,K.lookup p=some o∧o.cls=.type "tuple" ∧ o.dict=none) ∨
   (T = "dict" ∧ ((∃ kvs,H p=some (.dK kvs))∨∃ kvs,H p=some (.dT kvs)))∨(T = "set" ∧ ∃ S n,H p=some (.set S n))
 | _=>False
theorem tyV_is {pins:List (Addr×Obj)}{σ:St}{H:Hp}{s:Shared}{T:String}{x:V}{v:Value}(I:Inv X pins σ H s)(r:RelV x v)(ty:tyV X.K T x H) :
  s.TypeIs v T∧∀ a,v=.ref a→∃ ob,s.heap.get? a=some ob∧ob.dict=none:=by
 cases x with
 | str z=>
  obtain⟨t,rfl⟩:=r
  cases(show T = "str" from ty)
  exact⟨typeIs_str s z t,fun _ e=>nomatch e⟩
 | int i=>
  obtain⟨t,rfl⟩:=r
  cases(show T = "int" from ty)
  exact⟨typeIs_int s i t,fun _ e=>nomatch e⟩
 | ref p=>
  cases r
  rcases ty with⟨rfl,xs,hq⟩|⟨rfl,o,hk,hc,hd⟩|⟨rfl,hk⟩|⟨rfl,S,n,hk⟩
  ·obtain⟨its,_,pl,_⟩:=I.list hq;refine⟨pl.isList.typeIs,fun a e=>?_⟩
   cases e
   obtain⟨o,n,e,c,hd,_⟩:=pl;exact⟨o,e,hd⟩
  ·refine⟨⟨o,I.kIn p o hk,hc⟩,fun a e=>?_⟩
   cases e
   exact⟨o,I.kIn _ o hk,hd⟩
  ·have z:∃ o,s.heap.get? p=some o∧o.ExactDict:=by
    rcases hk with⟨kvs,hk⟩|⟨kvs,hk⟩
    ·obtain⟨_,_,_,_,o,_,_,e,ex,_⟩:=I.hok p _ hk;exact⟨o,e,ex⟩
    ·obtain⟨_,_,_,_,o,_,_,e,ex,_⟩:=I.hok p _ hk;exact⟨o,e,ex⟩
   obtain⟨o,e,ex⟩:=z;refine⟨⟨o,e,ex.1⟩,fun a e2=>?_⟩
   cases e2
   exact⟨o,e,ex.2.1⟩
  ·obtain⟨o,_,_,_,e,ex,_⟩:=I.hok p _ hk;refine⟨⟨o,e,ex.1⟩,fun a e2=>?_⟩
   cases e2
   exact⟨o,e,ex.2.1⟩
 | _=>exact False.elim ty
noncomputable def tBM (K:PySem.W.Frag)(T:String)(r:V→List V→Hp→VK→Prop)(to:TE)(t:TA):TE:=fun σ H Q=>to σ H fun x H1=>tyV K T x H1∧t σ H1 fun xs H2=>r x xs H2 Q
variable {o e:Expr}{es:List Expr}{to:TE}{t:TA}{name:Str}{apos cpos:Pos}{T id:String}{r:V→List V→Hp→VK→Prop}
theorem pe_bm (pa:PlainAttrs T)(slot:Slot T name id)(hty:typeOf (.builtin id)=pure (.type "method_descriptor"))(hm:MtR X id r)(ho:PE X o to)(ha:PA X (e::es) t)
  (hbase:attributeBase o name X.env (eval o X.env)=eval o X.env:=by rfl)
  (hfew:((backTo cpos (starEach (e::es) X.env)).all (fun x => !x.1)&&(backToKw cpos (keywordEach [] X.env)).all (fun x=>x.1.isSome)
   && decide ((e::es).length+([]:List Keyword).length+(if ([]:List Keyword).isEmpty then 0 else 1)<30))=true:=by rfl)
  (hline:(apos.endLine==cpos.line)=true:=by rfl) (hs:starEach (e::es) X.env=(false,eval e X.env)::starEach es X.env:=by rfl) (hplain:(backTo cpos (starEach es X.env)).any (·.1)=false:=by rfl) :
  PE X (.Call (.Attribute o name apos) (e::es) [] cpos) (tBM X.K T r to t):=by
 intro pins s σ H Q I h;refine wpAny_Call_method_late hbase hfew hline rfl (thn (ho pins s σ H _ I h) fun v s1 ⟨x,H1,I1,r1,ty,q1⟩=>?_);obtain⟨h1,h2⟩:=tyV_is I1 r1 ty;refine⟨T,id,pa,slot,hty,h1,h2,?_⟩;have hA:=ha cpos pins s1 σ H1 _ I1 q1;rw[hs] at hA ⊢;refine Calls.callWith_builtin (by show(false||(backTo cpos (starEach es X.env)).any (·.1))=false; rw[hplain]<;>rfl) (Calls.evalArgs_plain ?_);exact thn hA fun us s2 ⟨vs,H2,I2,r2,q2⟩=>hm pins s2 σ H2 x vs v us Q I2 r1 r2 q2
end
end L2
namespace L2
open PySem PySem.Spec PyProof.Rows
noncomputable def MtM (X:Cx)(id:String)(r:V→List V→Hp→VK→Prop):Prop:=
 ∀(pins:List (Addr×Obj)) (s:Shared) (σ:St) (H:Hp) (x:V) (xs:List V) (v:Value) (us:List Value) (Q:VK),Inv X pins σ H s→RelV x v→Vals xs us→r x xs H Q →
  wpAny (model X.prog X.w) X.A (call (.builtin id) (v::us)) (EP X pins σ Q) X.xe s
theorem Vals.one:∀{x:V} {us:List Value},Vals [x] us→∃ u,us=[u]∧RelV x u:=by
 intro x us h
 cases h with
 | cons r t=>cases t; exact⟨_,rfl,r⟩
section
variable {X:Cx}{pins:List (Addr×Obj)}{σ:St}{H:Hp}{s:Shared}{l b:Addr}{xs ys zs:List V}
theorem Inv.lset {its its':List Value}{n:Nat}{f:Array Value→Array Value}{t':Nat}(I:Inv X pins σ H s)(hH:H l=some (.lst xs))
  (e:s.heap.get? l=some { cls:=.type "list", data:=.seq its.toArray n }) (hf:f its.toArray=its'.toArray) (hv:Vals ys its') (hz:ys.length≤sizeLine) :
  Inv X pins σ (upd H l (.lst ys)) { s with heap:=s.heap.update l (Obj.mapSeq f),toks:=t' }:=by
 have q:=PySem.IsL.update e f;rw[hf] at q;refine I.write (x:=l) (e:=l) (by rw[hH]; exact trivial) (.inl rfl) (fun b' u hb hu=>(Heap.get?_update_other s.heap (Obj.mapSeq f) (Ne.symm hb)).trans hu) ⟨_,q⟩ ?_;exact⟨hz,its',_,hv,q⟩
theorem Inv.lnew {its:List Value}{t':Nat}(I:Inv X pins σ H s)(hv:Vals ys its)(hz:ys.length≤sizeLine) :
  Inv X pins σ (upd H s.heap.objs.size (.lst ys)) { s with heap:=s.heap.push { cls:=.type "list", data:=.seq its.toArray },toks:=t' }:=
 I.laid (fun _ _ q=>Heap.get?_push_of_some _ q) (Nat.le_refl _) ⟨hz,its,0,hv,Heap.get?_push_size _ rfl⟩
theorem Inv.fresh (I:Inv X pins σ H s):H s.heap.objs.size=none:=I.hok.fresh (Nat.le_refl _)
theorem Inv.lstM (I:Inv X pins σ H s)(hH:H l=some (.lst xs)):xs.length≤sizeLine∧∃(its:List Value) (n:Nat),Vals xs its∧xs.length=its.length∧s.heap.get? l=some { cls:=.type "list", data:=.seq its.toArray n }:=by
 obtain⟨z,its,n,r,e⟩:=I.hok l _ hH;exact⟨z,its,n,r,r.length,e⟩
end
section
variable {X:Cx}
noncomputable def rAppend:V→List V→Hp→VK→Prop:=fun x vs H Q=>∃ l xs y,x=.ref l∧vs=[y]∧H l=some (.lst xs)∧xs.length<sizeLine∧Q .non (upd H l (.lst (xs++[y])))
theorem mt_append:MtM X "list.append" rAppend:=by
 intro pins s σ H x vs v us Q I rx rv h;obtain⟨l,xs,y,rfl,rfl,hH,hz,q⟩:=h
 cases rx
 obtain⟨u,rfl,ru⟩:=rv.one;obtain⟨z,its,n,r,hl,e⟩:=I.lstM hH;refine call_meets F.slot_list_append ⟨_,e,rfl⟩ F.entry_list_append (F.args_list_append_2 _ _) (PySem.list_append l its.toArray n u (by rw[List.size_toArray]; omega)) ⟨e,?_⟩;refine⟨.non,_,I.lset (its':=its++[u]) hH e (by simp) (r.append (.cons ru .nil)) ?_,rfl,q⟩;rw[List.length_append,List.length_singleton];omega
end
section
variable {prog:Program}{w:World}{A:Around}{E:Value→Shared→Prop}{s:Shared}
end
section
variable {X:Cx}
end
end L2
namespace Att
open PySem PySem.W PySem.Calls PyProof.Rows
theorem ints_of_wellAll {P:Params}{h:Heap}:∀(ns:List Int) (vs:List Value),WellAll P h vs (ns.map WData.int)→IntsAre vs ns:=by
 intro ns
 induction ns with
 | nil=>
  intro vs w;rw[List.map_nil] at w
  cases w
  exact .nil
 | cons n ns ih=>
  intro vs w;rw[List.map_cons] at w
  cases w with
  | cons a b=>
   cases a
   exact .cons _ _ (ih _ b)
theorem script_of {l:OpenLaw}{n:Nat}(hn:l.most=some n){P:Params}{h:Heap}{args:List WData}{vals:List Value}
  (hpre:l.row.toRowW.claim.pre args=true) (hwl:WellAll P h vals args) :
  ∃ a vs ns,vals=[Value.ref a]∧args=[WData.list (ns.map WData.int)]∧h.get? a=some { cls:=.type "list", data:=.seq vs.toArray }∧IntsAre vs ns∧ns.length≤n:=by
 have hsh:WShape.hasAll [] args [.list .int]=true:=(pre_splitW hpre).1;have hc:l.pre.holds [] { args:=args }=true:=(pre_splitW hpre).2;obtain⟨d,r,rfl,h1,h2⟩:=hasAllW_cons hsh;obtain rfl:=hasAllW_nil h2;obtain⟨xs,rfl,h3⟩:=hasW_list h1;obtain⟨ns,rfl⟩:=items_int h3;have hlen:ns.length≤n:=by
  unfold OpenLaw.pre at hc;have h4:(WTm.not (.lt (.lit (.int (n:Int))) (.len (.arg 0)))).holds [] { args:=[.list (ns.map .int)] }=true:=by
   have h4:=(holds_andW hc).1;rw[hn] at h4;exact h4
  have h5:=condW_of h4 (w_not (w_lt w_lit (w_len_list (w_arg rfl))));rw[List.length_map] at h5;refine Nat.le_of_not_lt fun q=>?_;have q':(n:Int)<((ns.length:Nat):Int):=by omega
  first
   | (rw[decide_eq_true q'] at h5; exact absurd h5 (by decide))
   | (simp at h5; omega)
 cases hwl with
 | cons w1 w2=>
  cases w2
  cases w1 with
  | list ho hall=>exact⟨_,_,ns,rfl,rfl,ho,ints_of_wellAll ns _ hall,hlen⟩
theorem post_true (l:OpenLaw)(args:List WData):l.row.toRowW.claim.post args (.bool true) args=true:=
 postW_of (r:=l.row.toRowW) (X:=(true==true))
  (show WShape.has [] (.bool true) .bool=true by first|rfl|decide|simp[WShape.has,WShape.arms,WShape.armsAll])
  (show(WTm.eq .res (.lit (.bool true))).value [] { args:=args,res:=some (.bool true),after:=args }=some (.bool (true==true)) from w_eq_bool (w_res rfl) w_lit) rfl
theorem attach_call {l:OpenLaw}{n:Nat}{q:Program}{loose:List Str}{XP:(Str→Option Value)→Heap→Prop}{YP:World→Heap→Prop}{d:DefRec}
  (hn:l.most=some n) (hdf:d.params.defaults=[])
  (call:∀(w:World) (s₀ s₁:Shared) (mg mb:Str→Option Value) (fa:Addr) (o:Obj) (pm cd doc:Value) (a:Addr) (vs:List Value) (ns:List Int),
   Ground q loose [] XP w s₀ mg mb s₁.heap→YP w s₁.heap →
   s₁.heap.get? fa=some o→o.data=.func (docDef d.name d.params d.body d.scope pm cd doc)→s₁.heap.CodeRec cd d.name→mg d.name=some (.ref fa) →
   s₁.heap.get? a=some { cls:=.type "list", data:=.seq vs.toArray }→IntsAre vs ns→ns.length≤n→s₁.gens=#[] →
   codeAny (model l.prog w) callerA (.call (.ref fa) ⟨[.ref a],[]⟩) (fun r s'=>r=.ok (.ret (.bool true))∧OldK s₁.heap s'.heap∧s'.os=s₁.os∧AllBare s'.gens) s₁) :
  WalkO q loose XP YP l.row.toRowW d [] (fun f vs=>PySem.call f vs):=by
 intro w s₀ s₁ mg mb G Y fa o pm cd doc dV kV ho hd hcd hD hmg hg args vals as hpre hlay hrd hwl hlo;obtain rfl:dV=.none:=Dflts.none hD hdf;obtain rfl:kV=.none:=Dflts.noKw hD;obtain⟨a,vs,ns,rfl,rfl,hobj,hints,hlen⟩:=script_of hn hpre hwl;refine enter_call (codeAny_mono (call w s₀ s₁ mg mb fa o pm cd doc a vs ns G Y ho (fd_plain hd) hcd hmg hobj hints hlen hg) fun r s' hq=>?_);obtain⟨rfl,h2,h3,h4⟩:=hq;exact⟨.inl ⟨.bool true,.bool true,[],rfl,fun _=>rfl,.bool true,post_true l _,fun _=>⟨List.Pairwise.nil,fun _ hm=>(nomatch hm)⟩⟩,h2,h3,h4⟩
section
variable {prog:Program}{w:World}{A:Around}{E:Value→Shared→Prop}{s:Shared}{K:Frag}
end
end Att
namespace L2
open PySem PySem.Spec PyProof.Rows
theorem vals_ints:∀{vs:List Value} {ns:List Int},IntsAre vs ns→Vals (ns.map V.int) vs:=by
 intro vs ns h
 induction h with
 | nil=>exact .nil
 | cons n t h ih=>exact .cons ⟨t,rfl⟩ ih
noncomputable def Only (H:Hp):Prop:=∀ b,H b=none∨∃ o xs,H b=some (.frz o (.lst xs))
theorem law_call {P:Program}{w:World}{K:PySem.W.Frag}{mg mb:Str→Option Value}{CX:CXT}{k:Nat}{fa a:Addr}{fd:FuncData}{x:Str}{sp:Sp}{s₁:Shared}{vs:List Value}{ns:List Int}
  (KX:K.In s₁.heap) (hns:s₁.heap.Ns mainGlobals mg) (hb:s₁.heap.Ns builtinsNs mb) (hbb:∀ x:Str,x ≠ "__name__" → mb x=bootBuiltins x) (hlim:s₁.heap.NoLimit) (hg:s₁.gens=#[])
  (ha:s₁.heap.get? a=some { cls:=.type "list", data:=.seq vs.toArray }) (hi:IntsAre vs ns) (hl:ns.length≤sizeLine) (hr:Room k callerA)
  (F:∀ base:Heap,K.In base→base.Ns mainGlobals mg→FnOk P w K mg base CX k fa fd [x] sp) (hbind:∀(s:Shared) (u:Value),BindsTo s fd ⟨[u],[]⟩ [(x,u)])
  (hsp:∀ H:Hp,Only H→SqL K H a (ns.map V.int)→sp [.ref a] H (fun v _=>v=.bl true) fun _ _ _=>False)
  (hCX:∀ H e s',CX [] H s₁ (fun _ _ _=>False) e s'→False) :
  codeAny (model P w) callerA (.call (.ref fa) ⟨[.ref a],[]⟩) (fun r s'=>r=.ok (.ret (.bool true))∧OldK s₁.heap s'.heap∧s'.os=s₁.os∧AllBare s'.gens) s₁:=by
 have rv:=vals_ints hi;have lenV:=hi.length;have core:∀ H:Hp,Only H→SqL K H a (ns.map V.int)→HOk P w H s₁.heap→(∀ b,H b≠none→b=a)→(H a≠none→K.lookup a=none) →
   codeAny (model P w) callerA (.call (.ref fa) ⟨[.ref a],[]⟩) (fun r s'=>r=.ok (.ret (.bool true))∧OldK s₁.heap s'.heap∧s'.os=s₁.os∧AllBare s'.gens) s₁:=by
  intro H hO hS hok hA hK;have base_of:∀{b:Addr} {o:Obj},s₁.heap.get? b=some o→H b=none→(hidT s₁.heap H).get? b=some o:=fun e n=>hidT_get e n;have noA:∀{b:Addr} {o:Obj} {es:Array DictEntry} {ep:Nat},s₁.heap.get? b=some o→o.data=.dict es ep→H b=none:=fun{b o es ep} e d=>by
   cases q:H b with
   | none=>rfl
   | some u=>
    have e':b=a:=hA b (by rw[q]; simp);subst e';rw[ha] at e; cases e;have d':Data.seq vs.toArray _=Data.dict es ep:=d
    cases d'
  have nsK:∀{b:Addr} {m:Str→Option Value},s₁.heap.Ns b m→(hidT s₁.heap H).Ns b m:=fun{b m} ⟨o,es,ep,e,d,r⟩=>⟨o,es,ep,base_of e (noA e d),d,r⟩;have hKb:K.In (hidT s₁.heap H):=fun b o e=>base_of (KX b o e) (by
   cases q:H b with
   | none=>rfl
   | some u=>
    have e':b=a:=hA b (by rw[q]; simp);subst e';rw[hK (by rw[q]; simp)] at e; cases e)
  have hM:Mod K mg (hidT s₁.heap H):=⟨hKb,nsK hns,⟨mb,nsK hb,hbb⟩,let ⟨mc,h1,h2⟩:=hlim; ⟨mc,nsK h1,h2⟩⟩;have e0:Env0 P w K mg (hidT s₁.heap H) callerA [] s₁ H:=⟨rfl,hM,fun b o e=>of_hidT e,Nat.le_of_eq (hidT_size _ _),trivial,fun b hb=>absurd (show b∈([]:List Addr) from hb) (by simp),hok,.of_eq hg⟩;refine codeAny_mono ((F _ hKb (nsK hns)).run callerA [] s₁ H ⟨[.ref a],[]⟩ [.ref a] [.ref a] _ _ hr e0 (hbind s₁ (.ref a)) (.cons rfl .nil) (hsp H hO hS)) fun r s' h=>?_
  cases r with
  | error e=>exact(hCX H e s' h).elim
  | ok fl=>
   cases fl with
   | next=>exact False.elim h
   | brk=>exact False.elim h
   | cont=>exact False.elim h
   | ret u=>
    obtain⟨v,H',os,bare,un,hok',r',q⟩:=h;have q':v=.bl true:=q;subst q';obtain rfl:u=Value.bool true:=r';refine⟨rfl,OldK.of_keep fun b o e=>?_,os,bare⟩
    cases q:H b with
    | none=>exact un.keep b o e q (by intro z; exact absurd (show b∈([]:List Addr) from z) (by simp)) (by simp)
    | some u=>
     rcases hO b with z|⟨ob,xs,z⟩
     ·rw[q] at z; cases z
     ·have z2:=un.frzs b ob _ z;obtain⟨e1,_⟩:=hok b _ z;obtain⟨e2,_⟩:=hok' b _ z2;rw[e] at e1; cases e1;exact e2
 cases hk:K.lookup a with
 | some o=>
  have e:=KX a o hk;rw[ha] at e
  cases e
  refine core (fun _=>none) (fun _=>.inl rfl) (.inr ⟨_,vs.toArray,_,hk,rfl,rfl,rfl,by rw[List.size_toArray,lenV]; exact hl,by simpa using rv⟩) (fun b u z=>by have z':(none:Option HO)=some u:=z; cases z') (fun b z=>absurd rfl z) fun z=>absurd rfl z
 | none=>
  refine core (fun b=>if b=a then some (.frz { cls:=.type "list", data:=.seq vs.toArray } (.lst (ns.map V.int))) else none) (fun b=>?_) (.inl (.inr ⟨{ cls:=.type "list", data:=.seq vs.toArray },if_pos rfl⟩)) (fun b u z=>?_) (fun b z=>?_) fun _=>hk
  ·by_cases hb:b=a
   ·exact .inr ⟨_,_,if_pos hb⟩
   ·exact .inl (if_neg hb)
  ·by_cases hb:b=a
   ·have z':=(if_pos hb).symm.trans z
    cases z'
    subst hb;exact⟨ha,by rw[List.length_map]; exact hl,vs,_,rv,ha⟩
   ·have z':=(if_neg hb).symm.trans z
    cases z'
  ·by_cases hb:b=a
   ·exact hb
   ·exact absurd (if_neg hb) z
end L2
namespace L2
open PySem PySem.Spec PyProof.Rows
theorem walk_of {l:PySem.W.OpenLaw}{n k:Nat}{q:Program}{loose:List Str}{XP:(Str→Option Value)→Heap→Prop}{YP:World→Heap→Prop}{d:DefRec}{K:Params→PySem.W.Frag}{CX:World→CXT}{sp:World→Sp}{x:Str}
  (hn:l.most=some n) (hn2:n≤sizeLine) (hdf:d.params.defaults=[]) (hr:Room k callerA)
  (hY:∀(w:World) (h:Heap),YP w h→(K w.params).In h)
  (F:∀(w:World) (mg:Str→Option Value) (fa:Addr) (h:Heap),(K w.params).In h→h.Ns mainGlobals mg→mg d.name=some (.ref fa) →
   ∃ fd:FuncData,(∀(s:Shared) (u:Value),BindsTo s fd ⟨[u],[]⟩ [(x,u)]) ∧
    ∀ base:Heap,(K w.params).In base→base.Ns mainGlobals mg→FnOk l.prog w (K w.params) mg base (CX w) k fa fd [x] (sp w))
  (hsp:∀(w:World) (H:Hp) (a:Addr) (ns:List Int),ns.length≤n→Only H→SqL (K w.params) H a (ns.map V.int)→sp w [.ref a] H (fun v _=>v=.bl true) fun _ _ _=>False)
  (hCX:∀(w:World) (H:Hp) (s:Shared) (e:Value) (s':Shared),CX w [] H s (fun _ _ _=>False) e s'→False) :
  PySem.W.WalkO q loose XP YP l.row.toRowW d [] (fun f vs=>PySem.call f vs):=by
 refine Att.attach_call hn hdf fun w s₀ s₁ mg mb fa o pm cd doc a vs ns G Y ho hd hcd hmg hobj hints hlen hg=>?_;have KX:=hY w _ Y;obtain⟨fd,hb,hF⟩:=F w mg fa _ KX G.T.g hmg;exact law_call KX G.T.g G.T.b G.T.builtins G.T.nolimit hg hobj hints (Nat.le_trans hlen hn2) hr hF hb (fun H hO hS=>hsp w H a ns hlen hO hS) fun H e s'=>hCX w H s₁ e s'
end L2
namespace L2
open PySem PySem.Spec PyProof.Rows
noncomputable def defArgs (s:Stmt):Arguments:=match s with
 | .FunctionDef _ a _ _ _ _ _ _ _ _=>a
 | _=>{ posonlyargs:=[],args:=[],vararg:=none,kwonlyargs:=[],kw_defaults:=[],kwarg:=none,defaults:=[] }
noncomputable def defBody (s:Stmt):List Stmt:=match s with
 | .FunctionDef _ _ b _ _ _ _ _ _ _=>b
 | _=>[]
noncomputable def aK (s:Stmt):Scope:=match s with
 | .FunctionDef _ _ _ _ _ _ sc _ _ _=>sc
 | _=>{ kind:=.function,names:=[],isGenerator:=false,isCoroutine:=false }
abbrev CX0:CXT:=fun _ _ _ _ _ _=>False
abbrev E0:XK:=fun _ _ _=>False
theorem pass0 {X:Cx}:Passes CX0 X E0:=fun _ _ _ _ _ _ _ h=>h.elim
structure Fun (K:PySem.W.Frag)(x qual:Str)(st:Stmt)(f:Addr)(fd:FuncData):Prop where
 ex:∃(oc:Value) (od:Option Addr) (kV doc pm:Value) (an:Option Addr) (cdv ct:Value) (osl:Array (Option Value)),
  fd=PySem.W.fnOf x qual (defArgs st) (defBody st) (aK st) .none kV doc pm an cdv ct∧K.lookup f=some ⟨oc,od,.func fd,osl⟩∧PySem.W.codeIn K cdv qual=true
 kp:PySem.W.keepIn K (.ref f)=true
section
variable {P:Program}{w:World}{K:PySem.W.Frag}{mg:Str→Option Value}{base:Heap}
theorem Fun.ok {x qual:Str}{st:Stmt}{f:Addr}{fd:FuncData}{N ps:List Str}{k:Nat}{sp:Sp}(F:Fun K x qual st f fd)(S:FnScope N ps (aK st))(len:∀ vs H Q E,sp vs H Q E→vs.length=ps.length)
  (hbody:∀(cdv:Value) (A:Around) (outer:List Env) (s:Shared) (H:Hp) (vs:List V) (Q:VK) (E:XK),Room k (A.deeper (envOfC qual (aK st) s.heap.objs.size f cdv))→sp vs H Q E →
   ∃ t,PSs (cxOf CX0 P w K mg base N qual (aK st) f cdv A outer s H E).nox (defBody st) t∧t { nx:=fun _ H'=>Q .non H',rt:=Q } (start N vs) H):FnOk P w K mg base CX0 (k+1) f fd ps sp:=by
 obtain⟨oc,od,kV,doc,pm,an,cdv,ct,osl,rfl,lk,hcd⟩:=F.ex;refine fn_of lk hcd S len fun A outer s H vs Q E hr hsp=>?_;obtain⟨t,h,q⟩:=hbody cdv A outer s H vs Q E hr hsp;exact⟨t,h.nox,q⟩
theorem Fun.binds {x qual:Str}{st:Stmt}{f:Addr}{fd:FuncData}{ps:List Str}(F:Fun K x qual st f fd)
  (h:∀(kV doc pm:Value) (an:Option Addr) (cdv ct:Value) (us:List Value),us.length=ps.length→bindArgs (PySem.W.fnOf x qual (defArgs st) (defBody st) (aK st) .none kV doc pm an cdv ct) ⟨us,[]⟩=pure (ps.zip us)):Binds K fd ps []:=by
 obtain⟨oc,od,kV,doc,pm,an,cdv,ct,osl,rfl,lk,hcd⟩:=F.ex;exact .all (h kV doc pm an cdv ct)
theorem fun_mk {x qual:Str}{st:Stmt}{f:Addr}{oc:Value}{od an:Option Addr}{osl:Array (Option Value)}{kV doc pm cdv ct:Value}(l:K.lookup f=some ⟨oc,od,.func (PySem.W.fnOf x qual (defArgs st) (defBody st) (aK st) .none kV doc pm an cdv ct),osl⟩)
  (c:PySem.W.codeIn K cdv qual=true) (k:PySem.W.keepIn K (.ref f)=true):Fun K x qual st f (PySem.W.fnOf x qual (defArgs st) (defBody st) (aK st) .none kV doc pm an cdv ct):=⟨⟨oc,od,kV,doc,pm,an,cdv,ct,osl,rfl,l,c⟩,k⟩
end
theorem small1000 {n:Nat}(h:n≤1000):n<sizeLine:=Nat.lt_of_le_of_lt h (by decide)
section
variable {X:Cx}
theorem pv (i:Nat){x:Str}{pos:Pos}(hN:X.N[i]?=some x:=by rfl)(hv:Vis X.env.scope x:=by first|exact Or.inl rfl|exact Or.inr (Or.inl rfl)|exact Or.inr (Or.inr rfl))(hd:(x==("__debug__" : Str))=false:=by decide)
  (hcd:(x==("__classdict__" : Str))=false:=by decide):PE X (.Name x pos) (tVar i):=pe_var hN hv hd hcd
end
theorem iteF {A B:Prop}(h:B):if false=true then A else B:=by
 rw[if_neg Bool.false_ne_true];exact h
theorem iteT {A B:Prop}(h:A):if true=true then A else B:=by
 rw[if_pos rfl];exact h
theorem iteNS {c A B:Prop}[Decidable c](hc:c)(h:B):if (!decide c)=true then A else B:=by
 rw[decide_eq_true hc];exact iteF h
noncomputable def Same (H H':Hp):Prop:=∀ b o,H b=some o→H' b=some o
theorem Same.refl (H:Hp):Same H H:=fun _ _ h=>h
theorem Same.trans {H H1 H2:Hp}(a:Same H H1)(b:Same H1 H2):Same H H2:=fun c o h=>b c o (a c o h)
theorem Same.free {H H':Hp}(e:Same H H'){l:Addr}(h:H' l=Option.none):H l=Option.none:=by
 cases q:H l with
 | none=>rfl
 | some o=>
  rw[e l o q] at h
  cases h
theorem Same.seq {K:PySem.W.Frag}{H H':Hp}{a:Addr}{xs:List V}(e:Same H H')(h:SqL K H a xs):SqL K H' a xs:=by
 rcases h with(h|⟨o,h⟩)|h
 ·exact .inl (.inl (e _ _ h))
 ·exact .inl (.inr ⟨o,e _ _ h⟩)
 ·exact .inr h
end L2
set_option maxHeartbeats 4000000
namespace LT
theorem fd (t:Int)(g:Nat):t.fdiv (g:Int)=t/(g:Int):=Int.fdiv_eq_ediv_of_nonneg t (by omega)
theorem norm_pos {t b:Int}(h:0<b):t.fdiv (Int.gcd t b:Nat)=(Rat.divInt t b).num∧b.fdiv (Int.gcd t b:Nat)=((Rat.divInt t b).den:Int):=by
 rw[Rat.num_divInt,Rat.den_divInt,fd,fd,if_neg (by omega),Int.sign_eq_one_of_pos h,Int.one_mul,Int.gcd_comm b t];refine⟨rfl,?_⟩;obtain⟨n,rfl⟩:∃ n:Nat,b=(n:Int):=⟨b.toNat,by omega⟩;rw[← Int.natCast_ediv,Int.natAbs_natCast]
theorem gcd_step {d r:Int}(hd:0≤d)(h:0<r):Int.gcd r (d%r)=Int.gcd d r:=by
 obtain⟨m,rfl⟩:∃ n:Nat,d=(n:Int):=⟨d.toNat,by omega⟩;obtain⟨n,rfl⟩:∃ n:Nat,r=(n:Int):=⟨r.toNat,by omega⟩;rw[← Int.natCast_emod];show Nat.gcd n (m%n)=Nat.gcd m n;rw[Nat.gcd_comm n,←Nat.gcd_rec,Nat.gcd_comm]
theorem gcd_end {d:Int}(h:0≤d):(Int.gcd d 0:Int)=d:=by
 rw[Int.gcd_zero_right]; omega
theorem abs_nn (i:Int):0≤(if i<0 then -i else i):=by split<;>omega
theorem abs_gcd (i j:Int):Int.gcd (if i<0 then -i else i) (if j<0 then -j else j)=Int.gcd i j:=by
 split<;>split<;>simp only[Int.gcd_neg,Int.neg_gcd]
noncomputable def Bt (k:Nat)(i:Int):Prop:=i.natAbs<2^k
end LT
namespace LT
end LT
namespace LT
end LT
namespace L2
open PySem PySem.Spec PyProof.Rows
mutual
inductive Dt (H:Hp):V→PyData→Prop
 | non:Dt H .non .none
 | bl (b:Bool):Dt H (.bl b) (.bool b)
 | int (i:Int):Dt H (.int i) (.int i)
 | str (x:Str):Dt H (.str x) (.str x)
 | tup {p:Addr} {xs:List V} {ds:List PyData}:H p=some (.tup xs)→Dts H xs ds→Dt H (.ref p) (.tuple ds)
 | lst {p:Addr} {xs:List V} {ds:List PyData}:H p=some (.lst xs)→Dts H xs ds→Dt H (.ref p) (.list ds)
 | dic {p:Addr} {kvs:List (Key×V)} {kds:List (PyData×PyData)}:Rd H p (.dK kvs)→Dtk H kvs kds→Dt H (.ref p) (.dict kds)
inductive Dts (H:Hp):List V→List PyData→Prop
 | nil:Dts H [] []
 | cons {x:V} {xs:List V} {d:PyData} {ds:List PyData}:Dt H x d→Dts H xs ds→Dts H (x::xs) (d::ds)
inductive Dtk (H:Hp):List (Key×V)→List (PyData×PyData)→Prop
 | nil:Dtk H [] []
 | cons {n:Int} {x:V} {d:PyData} {kvs:List (Key×V)} {kds:List (PyData×PyData)}:Dt H x d→Dtk H kvs kds→Dtk H ((Sum.inl n,x)::kvs) ((.int n,d)::kds)
end
mutual
theorem Dt.reads {P:Program}{w:World}{H:Hp}{h:Heap}(ok:HOk P w H h):∀(d:PyData) (x:V) (v:Value),Dt H x d→RelV x v→∃ as,Reads h v d as
 | .none,_,_,e,r=>by cases e; cases r; exact⟨_,.none⟩
 | .bool _,_,_,e,r=>by cases e; cases r; exact⟨_,.bool _⟩
 | .int _,_,_,e,r=>by cases e; obtain⟨t,rfl⟩:=r; exact⟨_,.int _ _⟩
 | .str _,_,_,e,r=>by cases e; obtain⟨t,rfl⟩:=r; exact⟨_,.str _ _⟩
 | .list ds,_,_,e,r=>by
  cases e with
  | @lst p xs _ hp rs=>
   cases r
   obtain⟨_,its,n,r',hg⟩:=(show ObjOk P w H h p (.lst xs) from ok p _ hp);obtain⟨as,q⟩:=Dts.reads ok ds xs its rs r';exact⟨_,.list hg rfl rfl (by simpa using q)⟩
 | .tuple ds,_,_,e,r=>by
  cases e with
  | @tup p xs _ hp rs=>
   cases r
   obtain⟨_,its,r',o,h1,h2,n,h3⟩:=(show ObjOk P w H h p (.tup xs) from ok p _ hp);obtain⟨as,q⟩:=Dts.reads ok ds xs its rs r';exact⟨_,.tuple h1 h2 h3 (by simpa using q)⟩
 | .dict kds,_,_,e,r=>by
  cases e with
  | @dic p kvs _ hp rs=>
   cases r
   obtain⟨_,_,vs,kv,o,es,ep,h1,h2,h3,_,h4,_⟩:=(show ObjOk P w H h p (.dK kvs) from hp.ok ok);obtain⟨as,bs,q1,q2⟩:=Dtk.reads ok kds kvs vs es.toList rs kv h4;exact⟨_,.dict h1 h2.1 h3 q1 q2⟩
theorem Dts.reads {P:Program}{w:World}{H:Hp}{h:Heap}(ok:HOk P w H h):∀(ds:List PyData) (xs:List V) (vs:List Value),Dts H xs ds→Vals xs vs→∃ as,ReadsAll h vs ds as
 | [],_,_,e,r=>by cases e; cases r; exact⟨_,.nil⟩
 | d::ds,_,_,e,r=>by
  cases e with
  | cons e1 e2=>
   cases r with
   | cons r1 r2=>
    obtain⟨as,q1⟩:=Dt.reads ok d _ _ e1 r1;obtain⟨bs,q2⟩:=Dts.reads ok ds _ _ e2 r2;exact⟨_,.cons q1 q2⟩
theorem Dtk.reads {P:Program}{w:World}{H:Hp}{h:Heap}(ok:HOk P w H h):∀(kds:List (PyData×PyData)) (kvs:List (Key×V)) (vs:List (Key×Value)) (es:List DictEntry),Dtk H kvs kds→KV kvs vs→Pairs (cA P w) es vs →
  ∃ as bs,ReadsAll h (es.map (·.key)) (kds.map (·.1)) as∧ReadsAll h (es.map (·.val)) (kds.map (·.2)) bs
 | [],_,_,_,e,r,z=>by cases e; cases r; cases z; exact⟨_,_,.nil,.nil⟩
 | (k,d)::kds,_,_,_,e,r,z=>by
  cases e with
  | @cons n _ _ _ _ e1 e2=>
   cases r with
   | cons r1 r2=>
    cases z with
    | @cons en kv _ _ z1 z2 z3=>
     obtain⟨k1,rv⟩:=r1;obtain⟨as,q1⟩:=Dt.reads ok d _ _ e1 rv;obtain⟨as2,bs2,q3,q4⟩:=Dtk.reads ok kds _ _ _ e2 r2 z3;have kr:∃ cs,Reads h en.key (.int n) cs:=by
      rcases bT ((mixKind_is P w _ _).symm.trans z1) with⟨i,t,a,b⟩|⟨_,_,a,_⟩
      ·rw[← k1] at a
       cases a
       rw[b];exact⟨_,.int _ _⟩
      ·rw[← k1] at a
       cases a
     obtain⟨cs,kr⟩:=kr;exact⟨_,_,.cons kr q3,.cons (z2▸q1:Reads h en.val d as) q4⟩
end
theorem Rd.same {H H':Hp}(g:Same H H'){a:Addr}{u:HO}(r:Rd H a u):Rd H' a u:=r.elim (fun e=>.inl (g _ _ e)) fun⟨o,e⟩=>.inr ⟨o,g _ _ e⟩
mutual
theorem Dt.same {H H':Hp}(g:Same H H'):∀(d:PyData) (x:V),Dt H x d→Dt H' x d
 | .none,_,e=>by cases e; exact .non
 | .bool _,_,e=>by cases e; exact .bl _
 | .int _,_,e=>by cases e; exact .int _
 | .str _,_,e=>by cases e; exact .str _
 | .list ds,_,e=>by
  cases e with
  | lst hp rs=>exact .lst (g _ _ hp) (Dts.same g ds _ rs)
 | .tuple ds,_,e=>by
  cases e with
  | tup hp rs=>exact .tup (g _ _ hp) (Dts.same g ds _ rs)
 | .dict kds,_,e=>by
  cases e with
  | dic hp rs=>exact .dic (hp.same g) (Dtk.same g kds _ rs)
theorem Dts.same {H H':Hp}(g:Same H H'):∀(ds:List PyData) (xs:List V),Dts H xs ds→Dts H' xs ds
 | [],_,e=>by cases e; exact .nil
 | d::ds,_,e=>by
  cases e with
  | cons e1 e2=>exact .cons (Dt.same g d _ e1) (Dts.same g ds _ e2)
theorem Dtk.same {H H':Hp}(g:Same H H'):∀(kds:List (PyData×PyData)) (kvs:List (Key×V)),Dtk H kvs kds→Dtk H' kvs kds
 | [],_,e=>by cases e; exact .nil
 | (_,d)::kds,_,e=>by
  cases e with
  | cons e1 e2=>exact .cons (Dt.same g d _ e1) (Dtk.same g kds _ e2)
end
mutual
noncomputable def noLst:PyData→Bool
 | .list _=>false
 | .dict _=>false
 | .tuple ds=>noLsts ds
 | _=>true
noncomputable def noLsts:List PyData→Bool
 | []=>true
 | d::ds=>noLst d&&noLsts ds
end
noncomputable def SameX (x:Addr)(H H':Hp):Prop:=∀ b o,b≠x→H b=some o→H' b=some o
theorem SameX.refl (x:Addr)(H:Hp):SameX x H H:=fun _ _ _ e=>e
theorem SameX.trans {x:Addr}{H H1 H2:Hp}(a:SameX x H H1)(b:SameX x H1 H2):SameX x H H2:=fun c o n e=>b c o n (a c o n e)
theorem same_new {H:Hp}{p:Addr}(h:H p=none)(o:HO):Same H (upd H p o):=fun b u q=>by rw[bB (bA q h)]; exact q
theorem dC {H:Hp}{p:Addr}(o:HO):SameX p H (upd H p o):=fun b u n q=>by rw[bB n]; exact q
structure Good (d:PyData):Prop where
 lay:d.canLay0=true
 dep:d.depth≤60
section
variable {X:Cx}
theorem roomD {u a b:Nat}(h:u+64<cLine)(ha:a≤60):u+min a b<cLine:=by
 have:min a b≤a:=Nat.min_le_left _ _;omega
noncomputable def rEqD:R2:=fun x y H Q=>∃ dx dy,Dt H x dx∧Dt H y dy∧Good dx∧Good dy∧Q (.bl (PyData.eqv dx dy)) H
noncomputable def rNeD:R2:=fun x y H Q=>∃ dx dy,Dt H x dx∧Dt H y dy∧Good dx∧Good dy∧Q (.bl (!PyData.eqv dx dy)) H
theorem cU (hu:X.A.units+64<cLine):OpR X (compareOp .Eq) rEqD:=by
 intro pins s σ H x y v u Q I rx ry h;obtain⟨dx,dy,ex,ey,gx,gy,q⟩:=h;obtain⟨as,r1⟩:=Dt.reads I.hok dx x v ex rx;obtain⟨bs,r2⟩:=Dt.reads I.hok dy y u ey ry;exact SeqAt.compareEq_reads r1 r2 gx.lay gy.lay (roomD hu gx.dep) ⟨.bl _,H,I,rfl,q⟩
theorem cX (hu:X.A.units+64<cLine):OpR X (compareOp .NotEq) rNeD:=by
 intro pins s σ H x y v u Q I rx ry h;obtain⟨dx,dy,ex,ey,gx,gy,q⟩:=h;obtain⟨as,r1⟩:=Dt.reads I.hok dx x v ex rx;obtain⟨bs,r2⟩:=Dt.reads I.hok dy y u ey ry;exact SeqAt.compareNe_reads r1 r2 gx.lay gy.lay (roomD hu gx.dep) ⟨.bl _,H,I,rfl,q⟩
theorem op_mulX:OpR X (binaryOp .Mult) (rI IntMulOk fun i j=>.int (i*j)):=opI fun _ _ _ _ _ _ _ hc q=>mul_int q hc
noncomputable def CDivX (_ j:Int):Prop:=j≠0∧LT.Bt 9000 j
theorem noPy {i j:Int}(h:CDivX i j):Builtin.divisionGoesByPylong i j=false:=by
 refine PyProof.noPylong_of_log2 ((Nat.log2_lt ?_).mpr h.2);have:=h.1;omega
theorem op_fdivX:OpR X (binaryOp .FloorDiv) (rI CDivX fun i j=>.int (i.fdiv j)):=opI fun _ _ _ _ _ _ _ hc q=>floordiv_int hc.1 q (.inl (noPy hc))
theorem bits_le {k:Nat}{i:Int}(h:LT.Bt k i):Builtin.Int.intBits i≤k:=by
 unfold Builtin.Int.intBits
 split
 ·exact Nat.zero_le _
 ·rename_i h0
  have:i.natAbs≠0:=by
   intro e;exact h0 (by simpa using e)
  exact(Nat.log2_lt this).mpr h
theorem mulB {k m:Nat}{i j:Int}(h:LT.Bt k i)(g:LT.Bt m j)(hk:k≤1048576:=by decide)(hm:m≤1048576:=by decide):IntMulOk i j:=
 IntMulOk.of_bits (Nat.le_trans (bits_le h) hk) (Nat.le_trans (bits_le g) hm)
theorem pe_powC {a b v:Int}{j j':Nat}{p p' pos:Pos}(h:a^b.toNat=v)(hc:CPow a b):PE X (.BinOp (.Constant (.int a) j p) .Pow (.Constant (.int b) j' p') pos) (tC (.int v)):=by
 intro pins s σ H Q I hq;subst h;exact cD op_pow aH aH pins s σ H Q I ⟨_,_,rfl,rfl,hc,hq⟩
theorem CMul_mod {x c y:Int}(h:0<c)(h2:c<2^64):CMul (x%c) y:=by
 have h3:=Int.emod_nonneg x (b:=c) (by omega);have h4:=Int.emod_lt_of_pos x h;exact .inl ⟨by omega,by omega⟩
noncomputable def clsV:V→Option Value
 | .ty n=>some (.type n)
 | .ref a=>some (.ref a)
 | _=>none
noncomputable def rIsi (K:PySem.W.Frag):List V→Hp→VK→Prop:=fun xs H Q=>∃ x c cv t b,xs=[x,c]∧clsV c=some cv∧TyOf K H x t∧PySem.W.kitOne K t cv=some b∧Q (.bl b) H
theorem aQ:CallR X (.builtin "isinstance") (rIsi X.K):=by
 intro pins s σ H xs us Q I r h;obtain⟨x,c,cv,t,b,rfl,ec,ty,e,q⟩:=h;obtain⟨u,v,rfl,rx,rc⟩:=vals2 r;have ev:v=cv:=by
  cases c<;>first
   | (cases ec; exact rc)
   | cases ec
 subst ev;exact isinst_ok I rx ty e fun tk=>⟨.bl b,H,I.tok tk,rfl,q⟩
structure Cal (P:Program)(w:World)(K:PySem.W.Frag)(mg:Str→Option Value)(base:Heap)(k:Nat)(x:Str)(ps:List Str)(sp:Sp):Prop where
 ex:∃(f:Addr) (fd:FuncData),FnOk P w K mg base CX0 k f fd ps sp∧mg x=some (.ref f)∧PySem.W.keepIn K (.ref f)=true∧Binds K fd ps []
variable {j k:Nat}{x:Str}{ps:List Str}{sp:Sp}{e:Expr}{es:List Expr}{t:TA}{p pos:Pos}
theorem aJ (c:Cal X.prog X.w X.K X.mg X.base j x ps sp)(hr:Room k X.A)(hg:Gl X x)(ha:PA X (e::es) t)(hjk:j≤k:=by decide)
  (hdb:(x==("__debug__" : Str))=false:=by decide) (he:starEach (e::es) X.env=(false,eval e X.env)::starEach es X.env:=by rfl) (hpl:(backTo pos (starEach es X.env)).any (·.1)=false:=by rfl) :
  PE X (.Call (.Name x p) (e::es) [] pos) (tCall sp [] E0 t):=by
 obtain⟨f,fd,F,hm,hk,hb⟩:=c.ex;exact pe_call F (hr.mono hjk) hg hm hk hb .nil pass0 ha hdb he hpl
end
structure Bl (K:PySem.W.Frag)(mg:Str→Option Value):Prop where
 len_:mg "len" = none
 abs_:mg "abs" = none
 range_:mg "range" = none
 isinstance_:mg "isinstance" = none
 int_:mg "int" = none
 bool_:mg "bool" = none
 tuple_:mg "tuple" = none
 max_:mg "max" = none
 min_:mg "min" = none
 list_:mg "list" = none
 all_:mg "all" = none
 any_:mg "any" = none
 sorted_:mg "sorted" = none
 zip_:mg "zip" = none
 set_:mg "set" = none
 sum_:mg "sum" = none
 str_:mg "str" = none
 enumerate_:mg "enumerate" = none
 kib:PySem.W.kitOne K (.type "int") (.type "bool")=some false
 kbi:PySem.W.kitOne K (.type "bool") (.type "int")=some true
theorem kit_same (K:PySem.W.Frag)(t:Value):PySem.W.kitOne K t t=some true:=by
 unfold PySem.W.kitOne;rw[if_pos (beq_self_eq_true t)]
end L2
namespace L2
open PySem PySem.Spec PyProof.Rows LT
theorem iteD1 {c A B:Prop}[Decidable c](h:c)(a:A):if decide c=true then A else B:=by rw[decide_eq_true h]; exact iteT a
theorem iteD0 {c A B:Prop}[Decidable c](h:¬c)(b:B):if decide c=true then A else B:=by rw[decide_eq_false h]; exact iteF b
theorem iteN1 {c A B:Prop}[Decidable c](h:¬c)(a:A):if (!decide c)=true then A else B:=by rw[decide_eq_false h]; exact iteT a
theorem iteD2 {c A B:Prop}[Decidable c](h1:c→A)(h2:¬c→B):if decide c=true then A else B:=by
 by_cases h:c
 ·exact iteD1 h (h1 h)
 ·exact iteD0 h (h2 h)
theorem iteN2 {c A B:Prop}[Decidable c](h1:¬c→A)(h2:c→B):if (!decide c)=true then A else B:=by
 by_cases h:c
 ·exact iteNS h (h2 h)
 ·exact iteN1 h (h1 h)
theorem eq_of_int {i j:Int}(h:V.int i=V.int j):i=j:=V.int.inj h
theorem small_le {n:Nat}(h:n≤1000):n≤sizeLine:=Nat.le_of_lt (small1000 h)
theorem small_b {n:Nat}(h:Nat.ble n 1000=true):n≤sizeLine:=small_le (Nat.le_of_ble_eq_true h)
noncomputable def dNum (q:Rat):PyData:=.tuple [.int q.num,.int (q.den:Int)]
noncomputable def spLaw (K:PySem.W.Frag):Sp:=fun vs H Q _=>∃(a:Addr) (ns:List Int),vs=[.ref a]∧SqL K H a (ns.map V.int)∧ns.length≤63∧∀ H',Q (.bl true) H'
theorem gcd_bt {k:Nat}{t b:Int}(h:Bt k b)(h0:b≠0):Bt k (Int.gcd t b:Nat):=by
 unfold Bt at *;refine Nat.lt_of_le_of_lt ?_ h;show Int.gcd t b≤b.natAbs;exact Nat.le_of_dvd (by omega) (Nat.gcd_dvd_right _ _)
theorem gcd_ne {t b:Int}(h0:b≠0):((Int.gcd t b:Nat):Int)≠0:=by
 have:=Int.gcd_pos_of_ne_zero_right t h0;omega
end L2
namespace L2
open PySem PySem.Spec PyProof.Rows
section
variable {κ:Type}[DecidableEq κ]
noncomputable def valV (kvs:List (κ×V))(k:κ):Option V:=(kvs.find? fun kv=>decide (kv.1=k)).map (·.2)
noncomputable def putK (kvs:List (κ×V))(k:κ)(v:V):List (κ×V):=
 if (kvs.any fun kv=>decide (kv.1=k))=true then kvs.map (fun kv=>if kv.1=k then(kv.1,v) else kv) else kvs++[(k,v)]
theorem valV_pos {p:κ×V}{r:List (κ×V)}{k:κ}(e:p.1=k):valV (p::r) k=some p.2:=by simp[valV,List.find?_cons,e]
theorem valV_neg {p:κ×V}{r:List (κ×V)}{k:κ}(e:¬p.1=k):valV (p::r) k=valV r k:=by simp[valV,List.find?_cons,e]
theorem valV_any (k:κ):∀ kvs:List (κ×V),(kvs.any fun kv=>decide (kv.1=k))=(valV kvs k).isSome
 | []=>rfl
 | p::r=>by
  rw[List.any_cons]
  by_cases e:p.1=k
  ·simp only[valV_pos e,decide_eq_true e,Bool.true_or,Option.isSome_some]
  ·rw[valV_neg e,decide_eq_false e,Bool.false_or]; exact valV_any k r
theorem length_putK (kvs:List (κ×V))(k:κ)(v:V):(putK kvs k v).length≤kvs.length+1:=by
 unfold putK
 split
 ·rw[List.length_map]; omega
 ·rw[List.length_append,List.length_cons,List.length_nil]; omega
theorem putK_new {kvs:List (κ×V)}{k:κ}(v:V)(h:valV kvs k=none):putK kvs k v=kvs++[(k,v)]:=by
 unfold putK;rw[valV_any,h];exact if_neg (by decide)
theorem RelO.getD {o:Option V}{u:Option Value}{d:V}{d':Value}(r:RelO o u)(rd:RelV d d'):RelV (o.getD d) (u.getD d'):=by
 cases o with
 | none=>cases u with
  | none=>exact rd
  | some _=>exact(show False from r).elim
 | some _=>cases u with
  | none=>exact(show False from r).elim
  | some _=>exact r
theorem KV.val {kvs:List (κ×V)}{vs:List (κ×Value)}(r:KV kvs vs)(k:κ):RelO (valV kvs k) (valueAt vs k):=by
 unfold KV at r
 induction r with
 | nil=>exact True.intro
 | @cons p q ps qs h t ih=>
  obtain⟨h1,h2⟩:=h
  by_cases e:p.1=k
  ·have e':q.1=k:=h1.symm.trans e;have b:valueAt (q::qs) k=some q.2:=by simp[valueAt,List.find?_cons,e']
   rw[valV_pos e,b]; exact h2
  ·have e':¬q.1=k:=fun z=>e (h1.trans z);have b:valueAt (q::qs) k=valueAt qs k:=by simp[valueAt,List.find?_cons,e']
   rw[valV_neg e,b]; exact ih
theorem KV.any {kvs:List (κ×V)}{vs:List (κ×Value)}(r:KV kvs vs)(k:κ):(kvs.any fun kv=>decide (kv.1=k))=vs.any fun kv=>decide (kv.1=k):=by
 unfold KV at r
 induction r with
 | nil=>rfl
 | cons h t ih=>rw[List.any_cons,List.any_cons,ih,h.1]
theorem KV.repl {kvs:List (κ×V)}{vs:List (κ×Value)}(r:KV kvs vs)(k:κ){y:V}{u:Value}(ry:RelV y u) :
  KV (kvs.map fun kv=>if kv.1=k then(kv.1,y) else kv) (vs.map fun kv=>if kv.1=k then(kv.1,u) else kv):=by
 unfold KV at r ⊢
 induction r with
 | nil=>exact .nil
 | @cons p q ps qs h t ih=>
  rw[List.map_cons,List.map_cons];refine .cons ?_ ih;obtain⟨h1,h2⟩:=h
  by_cases e:p.1=k
  ·rw[if_pos e,if_pos (h1.symm.trans e)]; exact⟨h1,ry⟩
  ·rw[if_neg e,if_neg (fun z=>e (h1.trans z))]; exact⟨h1,h2⟩
theorem KV.put {kvs:List (κ×V)}{vs:List (κ×Value)}(r:KV kvs vs)(k:κ){y:V}{u:Value}(ry:RelV y u):KV (putK kvs k y) (stored vs k u):=by
 unfold putK stored;rw[r.any k]
 by_cases e:(vs.any fun kv=>decide (kv.1=k))=true
 ·rw[if_pos e,if_pos e]; exact r.repl k ry
 ·rw[if_neg e,if_neg e]; exact Paired.snoc r ⟨rfl,ry⟩
end
theorem kV_is {P:Program}{w:World}{k:Key}{u:Value}(r:RelV (kV k) u):(cA P w).is k u=true:=by
 cases k with
 | inl i=>obtain⟨t,e⟩:=(show ∃ t,u=Value.int i t from r); subst e; exact mixKind_int P w i t
 | inr x=>obtain⟨t,e⟩:=(show ∃ t,u=Value.str x t from r); subst e; exact mixKind_str P w x t
theorem items_are {P:Program}{w:World}:∀{ks:List Key} {us:List Value},Vals (ks.map kV) us→ItemsAre (cA P w) ks us
 | [],_,r=>by rw[List.map_nil] at r; cases r; exact .nil
 | k::ks,_,r=>by
  rw[List.map_cons] at r
  cases r with
  | cons h t=>exact .cons (kV_is h) (items_are t)
abbrev KT (H:Hp):List (List Key×V)→List (List Key×Addr×Value)→Prop:=Paired fun p q=>p.1=q.1∧H q.2.1=some (.tup (p.1.map kV))∧RelV p.2 q.2.2
theorem KT.val {H:Hp}{kvs:List (List Key×V)}{xs:List (List Key×Addr×Value)}(r:KT H kvs xs)(k:List Key):RelO (valV kvs k) ((atKey xs k).map (·.2)):=by
 induction r with
 | nil=>exact True.intro
 | @cons p q ps qs h t ih=>
  obtain⟨h1,_,h2⟩:=h
  by_cases e:p.1=k
  ·have e':q.1=k:=h1.symm.trans e;have b:atKey (q::qs) k=some q.2:=by simp[atKey,List.find?_cons,e']
   rw[valV_pos e,b]; exact h2
  ·have e':¬q.1=k:=fun z=>e (h1.trans z);have b:atKey (q::qs) k=atKey qs k:=by simp[atKey,List.find?_cons,e']
   rw[valV_neg e,b]; exact ih
section
variable {P:Program}{w:World}{H:Hp}{h:Heap}{a:Addr}
theorem rd_of {u:HO}(ok:HOk P w H h)(e:Rd H a u):ObjOk P w H h a u:=e.ok ok
theorem dk_rd {kvs:List (Key×V)}(ok:HOk P w H h)(e:Rd H a (.dK kvs)):kvs.length≤sizeLine∧(a==sysModules)=false∧∃ vs,KV kvs vs∧h.DictOf (cA P w) a vs:=
 show ObjOk P w H h a (.dK kvs) from rd_of ok e
theorem dk_of {kvs:List (Key×V)}(ok:HOk P w H h)(e:H a=some (.dK kvs)):kvs.length≤sizeLine∧(a==sysModules)=false∧∃ vs,KV kvs vs∧h.DictOf (cA P w) a vs:=dk_rd ok (.inl e)
theorem key_of {ks:List Key}(ok:HOk P w H h)(e:H a=some (.tup (ks.map kV))):(tupleKind (cA P w)).is h ks a:=by
 obtain⟨_,its,r,o,h1,h2,n,h3⟩:=(show ObjOk P w H h a (.tup (ks.map kV)) from ok a _ e);exact⟨o,its.toArray,n,h1,h2,h3,by simpa using items_are r⟩
theorem dt_rd {kvs:List (List Key×V)}(ok:HOk P w H h)(e:Rd H a (.dT kvs)):kvs.length≤sizeLine∧(a==sysModules)=false ∧
  ∃ xs,KT H kvs xs∧h.DictOfH (tupleKind (cA P w)) a xs:=by
 obtain⟨z,y,xs,r,o,es,ep,h1,h2,h3,h4,h5⟩:=(show ObjOk P w H h a (.dT kvs) from rd_of ok e);refine⟨z,y,xs,r,o,es,ep,h1,h2,h3,h4,fun x hx=>?_,h5⟩;have all:∀{l:List (List Key×V)} {m:List (List Key×Addr×Value)},KT H l m→∀ x∈m,(tupleKind (cA P w)).is h x.1 x.2.1:=by
  intro l m q
  induction q with
  | nil=>intro x hx; exact nomatch hx
  | @cons p q ps qs hq t ih=>
   intro x hx;rcases List.mem_cons.mp hx with e|hx
   ·subst e;exact key_of ok (by rw[← hq.1]; exact hq.2.1)
   ·exact ih x hx
 exact all r x hx
end
noncomputable def DGet (H:Hp)(a:Addr)(y:V)(r:Option V):Prop:=
 (∃ kvs k,Rd H a (.dK kvs)∧y=kV k∧r=valV kvs k)∨∃ kvs k b,Rd H a (.dT kvs)∧y=.ref b∧H b=some (.tup (k.map kV))∧r=valV kvs k
theorem DGet.k {H:Hp}{a:Addr}{kvs:List (Key×V)}{k:Key}(e:H a=some (.dK kvs)):DGet H a (kV k) (valV kvs k):=.inl ⟨kvs,k,.inl e,rfl,rfl⟩
section
variable {X:Cx}{pins:List (Addr×Obj)}{σ:St}{H:Hp}{s:Shared}{a:Addr}{y v:V}{u r:Value}{o:Option V}{A:Around}{E:Value→Shared→Prop}
theorem Inv.big (I:Inv X pins σ H s):sysModules<s.heap.objs.size:=by
 have h:mainGlobals<s.heap.objs.size:=(I.mod.glob.keeps I.bk).lt;exact Nat.lt_trans (by decide) h
theorem d_write {h':Heap}{t':Nat}{ob:HO}(I:Inv X pins σ H s)(mu:Mut (H a))(hs:Heap.SameBut a s.heap h')(he:∃ q,h'.get? a=some q)(new:ObjOk X.prog X.w (upd H a ob) h' a ob) :
  Inv X pins σ (upd H a ob) { s with heap:=h',toks:=t' }:=
 I.write (x:=a) (e:=a) mu (.inl rfl) (fun b q hb z=>(hs.2 b hb).trans z) he new
theorem dk_new {P:Program}{w:World}{H':Hp}{h':Heap}{kvs:List (Key×V)}{vs:List (Key×Value)}(z:kvs.length≤sizeLine)(hd:(a==sysModules)=false)(rel:KV kvs vs)(dd:h'.DictOf (cA P w) a vs) :
  ObjOk P w H' h' a (.dK kvs):=⟨z,hd,vs,rel,dd⟩
end
section
variable {X:Cx}{pins:List (Addr×Obj)}{σ:St}{H:Hp}{s:Shared}{a:Addr}{kvs:List (Key×V)}{k:Key}{u:Value}{A:Around}{E:Value→Shared→Prop}
end
section
variable {X:Cx}{o i e value:Expr}{pos pos' tpos:Pos}{td ty tv:TE}
end
theorem dk_empty {P:Program}{w:World}{H:Hp}(h:Heap)(hb:sysModules<h.objs.size):ObjOk P w H (h.push { cls:=.type "dict", data:=.dict #[] }) h.objs.size (.dK []):=
 ⟨Nat.zero_le _,beq_eq_false_iff_ne.mpr (Ne.symm (Nat.ne_of_lt hb)),[],.nil,Heap.DictOf.new h⟩
section
variable {X:Cx}{pos:Pos}
end
noncomputable def tPairs:List (TE×TE)→St→Hp→(List (V×V)→Hp→Prop)→Prop
 | [],_,H,Q=>Q [] H
 | (tk,tv)::r,σ,H,Q=>tk σ H fun x H1=>tv σ H1 fun y H2=>tPairs r σ H2 fun ps H3=>Q ((x,y)::ps) H3
abbrev VV:List (V×V)→List (Value×Value)→Prop:=Paired fun p q=>RelV p.1 q.1∧RelV p.2 q.2
noncomputable def PPs (X:Cx)(pos:Pos)(keys:List (Option Expr))(values:List Expr)(trs:List (TE×TE)):Prop:=
 ∀(pins:List (Addr×Obj)) (s:Shared) (σ:St) (H:Hp) (Q:List (V×V)→Hp→Prop),Inv X pins σ H s→tPairs trs σ H Q →
  wpAny (model X.prog X.w) X.A (evalPairs (pairTrees keys values X.env pos)) (fun vs s'=>∃ ps H',Inv X pins σ H' s'∧VV ps vs∧Q ps H') X.xe s
theorem pps_nil {X:Cx}{pos:Pos}:PPs X pos [] [] []:=fun pins s σ H Q I h=>pairTrees_nil_walk ⟨[],H,I,.nil,h⟩
theorem pps_cons {X:Cx}{pos:Pos}{k v:Expr}{ks:List (Option Expr)}{vs:List Expr}{tk tv:TE}{trs:List (TE×TE)}(hk:PE X k tk)(hv:PE X v tv)(hr:PPs X pos ks vs trs) :
  PPs X pos (some k::ks) (v::vs) ((tk,tv)::trs):=fun pins s σ H Q I h=>
 pairTrees_cons_walk (thn (hk pins s σ H _ I h) fun u s1 ⟨x,H1,I1,rx,q1⟩=>thn (hv pins s1 σ H1 _ I1 q1) fun w2 s2 ⟨y,H2,I2,ry,q2⟩=>
  thn (hr pins s2 σ H2 _ I2 q2) fun ws s3 ⟨ps,H3,I3,rel,q3⟩=>⟨(x,y)::ps,H3,I3,.cons ⟨rx,ry⟩ rel,q3⟩)
noncomputable def mergeK (kvs more:List (Key×V)):List (Key×V):=more.foldl (fun acc kv=>putK acc kv.1 kv.2) kvs
theorem KV.merge:∀{more:List (Key×V)} {rs:List (Key×Value)} {kvs:List (Key×V)} {vs:List (Key×Value)},KV more rs→KV kvs vs→KV (mergeK kvs more) (merged vs rs):=by
 intro more rs kvs vs r;unfold KV at r
 induction r generalizing kvs vs with
 | nil=>intro q; exact q
 | @cons p q ps qs h t ih=>
  intro r0;have e:KV (putK kvs p.1 p.2) (stored vs q.1 q.2):=by
   have:=r0.put p.1 h.2;rw[← h.1]; exact this
  exact ih e
theorem length_mergeK:∀(more kvs:List (Key×V)),(mergeK kvs more).length≤kvs.length+more.length
 | [],kvs=>by show kvs.length≤kvs.length+0; omega
 | p::r,kvs=>by
  have h1:=length_mergeK r (putK kvs p.1 p.2);have h2:=length_putK kvs p.1 p.2
  show(mergeK (putK kvs p.1 p.2) r).length≤_
  rw[List.length_cons]; omega
theorem carries_of {P:Program}{w:World}:∀{kvs:List (Key×V)} {ws:List (Value×Value)},VV (kvs.map fun kv=>(kV kv.1,kv.2)) ws→∃ rs,Carries (cA P w) ws rs∧KV kvs rs
 | [],_,r=>by rw[List.map_nil] at r; cases r; exact⟨[],True.intro,.nil⟩
 | p::kvs,_,r=>by
  rw[List.map_cons] at r
  cases r with
  | @cons a b as bs h t=>
   obtain⟨rs,c,q⟩:=carries_of (P:=P) (w:=w) t;obtain⟨b1,b2⟩:=b;exact⟨(p.1,b2)::rs,⟨kV_is h.1,rfl,c⟩,.cons ⟨rfl,h.2⟩ q⟩
noncomputable def tDisp (trs:List (TE×TE)):TE:=fun σ H Q=>∀ p,H p=none→tPairs trs σ (upd H p (.dK [])) fun ps H2=>H2 p=some (.dK [])∧∃ kvs:List (Key×V),ps=kvs.map (fun kv=>(kV kv.1,kv.2))∧kvs.length≤15∧Q (.ref p) (upd H2 p (.dK (mergeK [] kvs)))
theorem pe_disp {X:Cx}{pos:Pos}{keys:List (Option Expr)}{values:List Expr}{trs:List (TE×TE)}(h:PPs X pos keys values trs)(hall:keys.all (·.isSome)=true)(hl:keys.length=values.length)(h0:keys≠[])
  (h15:keys.length≤15):PE X (.Dict keys values pos) (tDisp trs):=by
 intro pins s σ H Q I q;have hn:=I.hok.fresh (Nat.le_refl s.heap.objs.size);have I1:=I.laid (a:=s.heap.objs.size) (o:=.dK []) (h':=s.heap.push { cls:=.type "dict", data:=.dict #[] }) (t':=s.toks) (fun _ _ q=>Heap.get?_push_of_some _ q) (Nat.le_refl _) (dk_empty s.heap I.big);refine wpAny_Dict_walk (knd:=cA X.prog X.w) hall hl h0 h15 (thn (h pins _ σ _ _ I1 (q _ hn)) fun ws s2 ⟨ps,H2,I2,rel,e,kvs,ep,lk,q2⟩=>?_);subst ep;obtain⟨rs,c,rk⟩:=carries_of (P:=X.prog) (w:=X.w) rel;obtain⟨z,hd,vs0,r0,dd⟩:=dk_of I2.hok e
 cases r0
 refine⟨rs,c,dd,fun h' dd' hs=>⟨.ref s.heap.objs.size,_,?_,rfl,q2⟩⟩;have hz:(mergeK [] kvs).length≤sizeLine:=by
  have h1:=length_mergeK kvs [];rw[List.length_nil] at h1;rw[sizeLine_eq]; omega
 have he:∃ q,h'.get? s.heap.objs.size=some q:=let ⟨q,_,_,hq,_⟩:=dd'; ⟨q,hq⟩;exact d_write I2 (by rw[e]; exact True.intro) hs he (dk_new hz hd (rk.merge .nil) dd')
structure M1 (X:Cx)(o:Expr)(m:Str)(apos:Pos)(e:Expr)(cpos:Pos):Prop where
 base:attributeBase o m X.env (eval o X.env)=eval o X.env
 few:((backTo cpos (starEach [e] X.env)).all (fun x => !x.1)&&(backToKw cpos (keywordEach [] X.env)).all (fun x=>x.1.isSome)
  && decide (([e]:List Expr).length+([]:List Keyword).length+(if ([]:List Keyword).isEmpty then 0 else 1)<30))=true
 line:(apos.endLine==cpos.line)=true
 trees:backTo cpos (starEach [e] X.env)=[(false,eval e X.env)]
noncomputable def IsD (H:Hp)(a:Addr):Prop:=(∃ kvs,Rd H a (.dK kvs))∨∃ kvs,Rd H a (.dT kvs)
theorem isD_at {X:Cx}{pins:List (Addr×Obj)}{σ:St}{H:Hp}{s:Shared}{a:Addr}(I:Inv X pins σ H s)(d:IsD H a) :
  s.TypeIs (.ref a) "dict" ∧ (∀ b,Value.ref a=.ref b→∃ ob,s.heap.get? b=some ob∧ob.dict=none)∧(a==sysModules)=false:=by
 rcases d with⟨kvs,e⟩|⟨kvs,e⟩
 ·obtain⟨_,hd,vs,_,dd⟩:=dk_rd I.hok e;refine⟨dd.typeIs,fun b q=>?_,hd⟩
  cases q
  obtain⟨ob,_,_,h1,h2,_⟩:=dd;exact⟨ob,h1,h2.2.1⟩
 ·obtain⟨_,hd,xs,_,dd⟩:=dt_rd I.hok e;refine⟨dd.typeIs,fun b q=>?_,hd⟩
  cases q
  obtain⟨ob,_,_,h1,h2,_⟩:=dd;exact⟨ob,h1,h2.2.1⟩
section
variable {X:Cx}{pins:List (Addr×Obj)}{σ:St}{H:Hp}{s:Shared}{a:Addr}{y d:V}{u r:Value}{o:Option V}{A:Around}{E:Value→Shared→Prop}
theorem d_get1 {Q:Value→Shared→Prop}(hu:A.units+1<cLine)(I:Inv X pins σ H s)(g:DGet H a y o)(ry:RelV y u)(h:∀ w' s',Inv X pins σ H s'→RelV (o.getD .non) w'→Q w' s') :
  wpAny (model X.prog X.w) A (call (.builtin "dict.get") [.ref a,u]) Q E s:=by
 rcases g with⟨kvs,k,e,ey,l⟩|⟨kvs,k,b,e,ey,eb,l⟩
 ·subst ey;obtain⟨z,hd,vs,rel,dd⟩:=dk_rd I.hok e;refine call_meetsIn PySem.F.slot_dict_get dd.typeIs PySem.F.entry_dict_get (PySem.F.args_dict_get_2 _ _) (meets_dict_get (cA X.prog X.w) a (kV_is ry) hd) ⟨_,dd.mapOf,h _ _ (I.tok _) ?_⟩;rw[l];exact(rel.val k).getD rfl
 ·subst ey
  cases(show u=Value.ref b from ry)
  obtain⟨z,hd,xs,rel,dd⟩:=dt_rd I.hok e;refine call_meetsIn PySem.F.slot_dict_get dd.typeIs PySem.F.entry_dict_get (PySem.F.args_dict_get_2 _ _) (meetsH_dict_get (tupleKind (cA X.prog X.w)) a b hd) ⟨tupleKind_room_in1 hu,k,xs,key_of I.hok eb,dd,h _ _ (I.tok _) ?_⟩;rw[l];exact(rel.val k).getD rfl
end
noncomputable def tDGet1 (td ty:TE):TE:=fun σ H Q=>td σ H fun x H1=>∃ a,x=.ref a∧IsD H1 a∧ty σ H1 fun y H2=>∃ o,DGet H2 a y o∧Q (o.getD .non) H2
section
variable {X:Cx}{o e f:Expr}{apos cpos:Pos}{td ty tx:TE}
theorem pe_dget1 (hu:X.A.units+1<cLine)(ho:PE X o td)(he:PE X e ty)(m:M1 X o "get" apos e cpos):PE X (.Call (.Attribute o "get" apos) [e] [] cpos) (tDGet1 td ty):=by
 intro pins s σ H Q I h;refine wpAny_Call_method m.base m.few m.line PySem.F.plainAttrs_dict PySem.F.slot_dict_get PySem.F.type_dict_get (thn (ho pins s σ H _ I h) fun u s1 ⟨x,H1,I1,rx,a,ex,d,q1⟩=>?_);subst ex;obtain rfl:u=Value.ref a:=rx;obtain⟨t1,t2,_⟩:=isD_at I1 d;refine⟨t1,t2,?_⟩;rw[m.trees];refine Calls.callWith_builtin rfl (Calls.evalArgs_plain (Calls.spliced_cons (thn (he pins s1 σ H1 _ I1 q1) fun iv s2 ⟨y,H2,I2,ry,ov,g,q2⟩=>Calls.spliced_nil ?_)));exact d_get1 hu I2 g ry fun w' s3 I3 rw'=>⟨_,H2,I3,rw',q2⟩
end
section
variable {X:Cx}{pins:List (Addr×Obj)}{σ:St}{H:Hp}{s:Shared}{a:Addr}{kvs:List (Key×V)}{A:Around}{E:Value→Shared→Prop}
end
section
variable {X:Cx}{pins:List (Addr×Obj)}{σ:St}{H:Hp}{s:Shared}{a:Addr}{y:V}{u:Value}{A:Around}{E:Value→Shared→Prop}
end
end L2
namespace L2
open PySem PySem.Spec PyProof.Rows
section
variable {κ:Type}[DecidableEq κ]
theorem valV_in {kvs:List (κ×V)}{k:κ}{v:V}(h:valV kvs k=some v):k∈kvs.map (·.1):=by
 have q:(kvs.any fun kv=>decide (kv.1=k))=true:=by
  rw[valV_any,h]
  all_goals rfl
 obtain⟨p,hp,e⟩:=List.any_eq_true.mp q;exact List.mem_map.mpr ⟨p,hp,of_decide_eq_true e⟩
end
end L2
abbrev Fg:=PySem.W.Frag
abbrev Mg:=PySem.Str→Option PySem.Value
namespace L2.VS
open PySem PySem.Spec PyProof.Rows
section
abbrev D:=PyData
structure Pb where
 P:V→Hp→Prop
 mono:∀{v G G'},Same G G'→P v G→P v G'
structure Bx where
 P:V→List Addr→Hp→Hp→Prop
 mono:∀{v fp G G' H},Same G G'→P v fp G H→P v fp G' H
 loc:∀{v fp G H H'},(∀ b∈fp,H' b=H b)→P v fp G H→P v fp G H'
 dom:∀{v fp G H},P v fp G H→∀ b∈fp,∃ o,H b=some o
 uniq:∀{v fp fp' G H},P v fp G H→P v fp' G H→fp=fp'
 nt:∀{v fp G H},P v fp G H→∀ b∈fp,∀ xs,H b=some (.tup xs)→∃ q∈fp,V.ref q∈xs∧∃ vs,H q=some (.lst vs)
 view:Option D
 vok:∀{v fp G H G' d},P v fp G H→view=some d→Same G G'→(∀ b∈fp,G' b=H b)→Dt G' v d
 pv:Option Pb:=none
 pok:∀{v fp G H G' B},P v fp G H→pv=some B→Same G G'→(∀ b∈fp,G' b=H b)→B.P v G':=by intro _ _ _ _ _ _ _ z; cases z
inductive Sl where
 | no|val (d:D)|own (ds:List D)|pen|con (p:Addr)|box (B:Bx)|pub (B:Pb)
abbrev En:=List Sl
inductive Rv where
 | val (d:D)|own (ds:List D)|box (B:Bx)
def Rv.d:Rv→D
 | .val d=>d
 | .own ds=>.list ds
 | .box B=>B.view.getD .none
def Rv.sl:Rv→Sl
 | .val d=>.val d
 | .own ds=>.own ds
 | .box B=>.box B
inductive Fl where
 | nx (Γ:En)|rt (r:Rv)|bk (Γ:En)|ct (Γ:En)
variable {P0:Addr→Hp→Prop}
structure Fra (P0:Addr→Hp→Prop) where
 H0:Hp
 G0:Hp
 pen:Option Addr
 stab:∀ p,pen=some p→∀ H H',(∀ b o,H0 b=some o→H' b=H b)→P0 p H→P0 p H'
 pin:∀ p,pen=some p→∀ H,P0 p H→∃ o,H p=some o
 pin0:∀ p,pen=some p→∃ o,H0 p=some o
 pg:∀ p,pen=some p→G0 p=none
def Fra.PI (F:Fra P0)(H:Hp):Prop:=∀ p,F.pen=some p→P0 p H
theorem Fra.stab' (F:Fra P0):∀ H H',(∀ b o,F.H0 b=some o→H' b=H b)→F.PI H→F.PI H':=fun H H' h pi p e=>F.stab p e H H' h (pi p e)
structure Rf (F:Fra P0)(G H:Hp):Prop where
 sub:Same G H
 g0:∀ b o,F.H0 b=some o→G b=F.G0 b
 h0:∀ b o,F.H0 b=some o→F.pen≠some b→H b=some o
 pn:F.PI H
def SlF (F:Fra P0)(G H:Hp)(x:Option (Option V))(fp:List Addr):Sl→Prop
 | .no=>fp=[]
 | .val d=>fp=[]∧∃ v,x=some (some v)∧Dt G v d
 | .own ds=>∃ p vs,fp=[p]∧x=some (some (.ref p))∧F.H0 p=none∧G p=none∧H p=some (.lst vs)∧Dts G vs ds
 | .pen=>fp=[]∧∃ p,x=some (some (.ref p))∧F.pen=some p
 | .con p=>fp=[]∧x=some (some (.ref p))
 | .pub B=>fp=[]∧∃ v,x=some (some v)∧B.P v G
 | .box B=>∃ v,x=some (some v)∧B.P v fp G H∧∀ b∈fp,F.H0 b=none∧G b=none
def SlOk (F:Fra P0)(G H:Hp)(x:Option (Option V)):Sl→Prop
 | .no=>True
 | .val d=>∃ v,x=some (some v)∧Dt G v d
 | .own ds=>∃ p vs,x=some (some (.ref p))∧F.H0 p=none∧G p=none∧H p=some (.lst vs)∧Dts G vs ds
 | .pen=>∃ p,x=some (some (.ref p))∧F.pen=some p
 | .con p=>x=some (some (.ref p))
 | .pub B=>∃ v,x=some (some v)∧B.P v G
 | .box B=>∃ v fp,x=some (some v)∧B.P v fp G H∧∀ b∈fp,F.H0 b=none∧G b=none
theorem SlF.ok {F:Fra P0}{G H:Hp}{x:Option (Option V)}{fp:List Addr}:∀{s:Sl},SlF F G H x fp s→SlOk F G H x s
 | .no,_=>trivial
 | .val _,h=>h.2
 | .own _,h=>let ⟨p,vs,_,r⟩:=h; ⟨p,vs,r⟩
 | .pen,h=>h.2
 | .con _,h=>h.2
 | .pub _,h=>h.2
 | .box _,h=>let ⟨v,r⟩:=h; ⟨v,fp,r⟩
theorem SlF.mine {F:Fra P0}{G H:Hp}{x:Option (Option V)}{fp:List Addr}{b:Addr}(hb:b∈fp):∀{s:Sl},SlF F G H x fp s→F.H0 b=none∧G b=none∧∃ o,H b=some o
 | .no,h=>by rw[show fp=[] from h] at hb; cases hb
 | .val _,h=>by rw[h.1] at hb; cases hb
 | .own _,h=>by
  obtain⟨p,vs,e,_,h1,h2,h3,_⟩:=h;rw[e] at hb;rw[List.mem_singleton.mp hb];exact⟨h1,h2,_,h3⟩
 | .pen,h=>by rw[h.1] at hb; cases hb
 | .con _,h=>by rw[h.1] at hb; cases hb
 | .pub _,h=>by rw[h.1] at hb; cases hb
 | .box B,h=>by
  obtain⟨v,_,h2,h3⟩:=h;exact⟨(h3 b hb).1,(h3 b hb).2,B.dom h2 b hb⟩
theorem SlF.go {F:Fra P0}{G H G' H':Hp}{x:Option (Option V)}{fp:List Addr}(g:Same G G')(k:∀ b∈fp,G' b=none∧H' b=H b):∀{s:Sl},SlF F G H x fp s→SlF F G' H' x fp s
 | .no,h=>h
 | .val _,h=>let ⟨e,v,e1,d1⟩:=h; ⟨e,v,e1,Dt.same g _ _ d1⟩
 | .own _,h=>by
  obtain⟨p,vs,e,e1,e2,e3,e4,e5⟩:=h;have:=k p (by rw[e]; exact List.mem_singleton.mpr rfl);exact⟨p,vs,e,e1,e2,this.1,this.2.trans e4,Dts.same g _ _ e5⟩
 | .pen,h=>h
 | .con _,h=>h
 | .pub B,h=>let ⟨e,v,e1,d1⟩:=h; ⟨e,v,e1,B.mono g d1⟩
 | .box B,h=>by
  obtain⟨v,h1,h2,h3⟩:=h;exact⟨v,h1,B.loc (fun b hb=>(k b hb).2) (B.mono g h2),fun b hb=>⟨(h3 b hb).1,(k b hb).1⟩⟩
structure R (F:Fra P0)(Γ:En)(σ:St)(G H:Hp):Prop where
 fr:Rf F G H
 len:Γ.length=σ.length
 fps:∃ fps:Nat→List Addr,(∀(i:Nat) s,Γ[i]?=some s→SlF F G H σ[i]? (fps i) s)∧∀(i j:Nat) (s t:Sl),Γ[i]?=some s→Γ[j]?=some t→i≠j→∀ b∈fps i,b∉fps j
theorem R.sl {F:Fra P0}{Γ:En}{σ:St}{G H:Hp}(r:R F Γ σ G H)(i:Nat)(s:Sl)(e:Γ[i]?=some s):SlOk F G H σ[i]? s:=
 let ⟨_,h,_⟩:=r.fps; (h i s e).ok
theorem R.of {F:Fra P0}{Γ:En}{σ:St}{G H:Hp}(fr:Rf F G H)(len:Γ.length=σ.length)(sl:∀(i:Nat) s,Γ[i]?=some s→SlOk F G H σ[i]? s)(nb:∀(i:Nat) B,Γ[i]?≠some (.box B))
  (ap:∀(i j:Nat) x y,i≠j→Γ[i]?=some (.own x)→Γ[j]?=some (.own y)→σ[i]?≠σ[j]?):R F Γ σ G H:=by
 refine⟨fr,len,fun i=>match Γ[i]?,σ[i]? with|some (.own _),some (some (.ref p))=>[p]|_,_=>[],fun i s e=>?_,fun i j s t ei ej hij b hb hc=>?_⟩
 ·have h:=sl i s e
  cases s with
  | no=>simp only[e]; rfl
  | val d=>simp only[e]; exact⟨rfl,h⟩
  | own ds=>
   obtain⟨p,vs,e1,r⟩:=h;simp only[e,e1];exact⟨p,vs,rfl,rfl,r⟩
  | pen=>simp only[e]; exact⟨rfl,h⟩
  | con q=>simp only[e]; exact⟨rfl,h⟩
  | pub B=>simp only[e]; exact⟨rfl,h⟩
  | box B=>exact absurd e (nb i B)
 ·simp only[ei] at hb;simp only[ej] at hc
  cases s with
  | own x=>
   cases t with
   | own y=>
    split at hb
    ·rename_i p _ e1
     split at hc
     ·rename_i q _ e2
      have e1:=List.mem_singleton.mp hb;have e2:=List.mem_singleton.mp hc;exact ap i j x y hij ei ej (by simp_all)
     ·cases hc
    ·cases hb
   | _=>simp at hc
  | _=>simp at hb
section
variable {F:Fra P0}{Γ:En}{σ:St}{G H G' H':Hp}{p:Addr}{o:HO}
theorem Rf.dom (h:Rf F G H){b:Addr}(e:F.H0 b=some o):∃ o',H b=some o':=by
 by_cases hb:F.pen=some b
 ·exact F.pin b hb H (h.pn b hb)
 ·exact⟨o,h.h0 b o e hb⟩
theorem Rf.fresh (h:Rf F G H)(hp:H p=none):F.H0 p=none:=by
 cases e:F.H0 p with
 | none=>rfl
 | some o=>
  obtain⟨o',e'⟩:=h.dom e;rw[hp] at e'; cases e'
theorem Rf.gfresh (h:Rf F G H)(hp:H p=none):G p=none:=h.sub.free hp
theorem Rf.pub (h:Rf F G H)(hp:H p=none):Rf F (upd G p o) (upd H p o):=by
 have hf:=h.fresh hp;have hn:∀ b u,F.H0 b=some u→b≠p:=fun b u e z=>by rw[z,hf] at e; cases e
 refine⟨fun b u e=>?_,fun b u e=>?_,fun b u e hb=>?_,F.stab' H _ (fun b u e=>bB (hn b u e)) h.pn⟩
 ·by_cases hb:b=p
  ·subst hb; rw[b8] at e; cases e; exact b8
  ·rw[bB hb] at e ⊢; exact h.sub b u e
 ·rw[bB (hn b u e)]; exact h.g0 b u e
 ·rw[bB (hn b u e)]; exact h.h0 b u e hb
theorem Rf.priv (h:Rf F G H)(hp:F.H0 p=none)(hg:G p=none):Rf F G (upd H p o):=by
 have hn:∀ b u,F.H0 b=some u→b≠p:=fun b u e z=>by rw[z,hp] at e; cases e
 refine⟨fun b u e=>?_,h.g0,fun b u e hb=>?_,F.stab' H _ (fun b u e=>bB (hn b u e)) h.pn⟩
 ·rw[bB (bA e hg)]; exact h.sub b u e
 ·rw[bB (hn b u e)]; exact h.h0 b u e hb
theorem Rf.give (h:Rf F G H)(hp:F.H0 p=none)(hH:H p=some o):Rf F (upd G p o) H:=by
 have hn:∀ b u,F.H0 b=some u→b≠p:=fun b u e z=>by rw[z,hp] at e; cases e
 refine⟨fun b u e=>?_,fun b u e=>?_,h.h0,h.pn⟩
 ·by_cases hb:b=p
  ·subst hb; rw[b8] at e; cases e; exact hH
  ·rw[bB hb] at e; exact h.sub b u e
 ·rw[bB (hn b u e)]; exact h.g0 b u e
def R.Has (_:R F Γ σ G H)(b:Addr):Prop:=∃(i:Nat) (s:Sl) (fp:List Addr),Γ[i]?=some s∧SlF F G H σ[i]? fp s∧b∈fp
theorem R.keep (r:R F Γ σ G H)(f:Rf F G' H')(g:Same G G')
  (k:∀ b o,r.Has b→F.H0 b=none→G b=none→H b=some o→G' b=none∧H' b=some o):R F Γ σ G' H':=by
 obtain⟨fps,h1,h2⟩:=r.fps;refine⟨f,r.len,fps,fun i s e=>(h1 i s e).go g fun b hb=>?_,h2⟩;obtain⟨m1,m2,o,m3⟩:=(h1 i s e).mine hb;obtain⟨k1,k2⟩:=k b o ⟨i,s,fps i,e,h1 i s e,hb⟩ m1 m2 m3;exact⟨k1,k2.trans m3.symm⟩
theorem R.new (r:R F Γ σ G H)(hp:H p=none):R F Γ σ (upd G p o) (upd H p o):=by
 refine r.keep (r.fr.pub hp) (same_new (r.fr.gfresh hp) o) fun q u _ _ g h=>?_;have hq:q≠p:=bA h hp;rw[bB hq,bB hq];exact⟨g,h⟩
theorem R.newP (r:R F Γ σ G H)(hp:H p=none):R F Γ σ G (upd H p o):=by
 refine r.keep (r.fr.priv (r.fr.fresh hp) (r.fr.gfresh hp)) (Same.refl _) fun q u _ _ g h=>?_;have hq:q≠p:=bA h hp;rw[bB hq];exact⟨g,h⟩
def RvO (F:Fra P0)(G H:Hp)(r:V):Rv→Prop
 | .val d=>Dt G r d
 | .own ds=>∃ p vs,r=.ref p∧F.H0 p=none∧G p=none∧H p=some (.lst vs)∧Dts G vs ds
 | .box B=>∃ fp,B.P r fp G H∧∀ b∈fp,F.H0 b=none∧G b=none
def Apart (F:Fra P0)(Γ:En)(σ:St)(G H:Hp)(r:V):Rv→Prop
 | .val _=>True
 | .own _=>∀(i:Nat) s fp,Γ[i]?=some s→SlF F G H σ[i]? fp s→∀ p,r=.ref p→p∉fp
 | .box B=>∀(i:Nat) s fp f,Γ[i]?=some s→SlF F G H σ[i]? fp s→B.P r f G H→∀ b∈f,b∉fp
theorem R.give (r:R F Γ σ G H){v:V}{ds:List D}(h:RvO F G H v (.own ds))(ha:Apart F Γ σ G H v (.own ds)):∃ G',Same G G'∧R F Γ σ G' H∧Dt G' v (.list ds):=by
 obtain⟨p,vs,rfl,e1,e2,e3,e4⟩:=h;have g:=same_new e2 (.lst vs);refine⟨upd G p (.lst vs),g,r.keep (r.fr.give e1 e3) g fun q u hq _ eg eh=>⟨?_,eh⟩,.lst b8 (Dts.same g _ _ e4)⟩;have hqp:q≠p:=fun z=>by
  obtain⟨i,s,fp,a1,a2,a3⟩:=hq;rw[z] at a3;exact ha i s fp a1 a2 p rfl a3
 rw[bB hqp];exact eg
theorem R.giveB (r:R F Γ σ G H){v:V}{B:Bx}{d:D}(h:RvO F G H v (.box B))(ha:Apart F Γ σ G H v (.box B))(hv:B.view=some d):∃ G',Same G G'∧R F Γ σ G' H∧Dt G' v d:=by
 obtain⟨fp,e1,e2⟩:=h;have g:Same G (fun b=>if b∈fp then H b else G b):=fun b o e=>by
  show(if b∈fp then H b else G b)=some o
  rw[if_neg (fun z=>by rw[(e2 b z).2] at e; cases e)];exact e
 refine⟨fun b=>if b∈fp then H b else G b,g,r.keep ⟨fun b o e=>?_,fun b o e=>?_,r.fr.h0,r.fr.pn⟩ g fun q u hq _ eg eh=>⟨?_,eh⟩,B.vok e1 hv g fun b hb=>if_pos hb⟩
 ·have e:(if b∈fp then H b else G b)=some o:=e
  split at e
  ·exact e
  ·exact r.fr.sub b o e
 ·show(if b∈fp then H b else G b)=_
  rw[if_neg (fun z=>by rw[(e2 b z).1] at e; cases e)];exact r.fr.g0 b o e
 ·obtain⟨i,s,f,a1,a2,a3⟩:=hq
  show(if q∈fp then H q else G q)=none
  rw[if_neg fun z=>ha i s f fp a1 a2 e1 q z a3];exact eg
theorem R.set (r:R F Γ σ G H){i:Nat}{v:V}{rv:Rv}(h:RvO F G H v rv)(ha:Apart F Γ σ G H v rv):R F (Γ.set i rv.sl) (σ.set i (some v)) G H:=by
 obtain⟨fps,h1,h2⟩:=r.fps;obtain⟨fp,hf,hd⟩:∃ fp,SlF F G H (some (some v)) fp rv.sl∧∀(j:Nat) s,Γ[j]?=some s→∀ b∈fp,b∉fps j:=by
  cases rv with
  | val d=>exact⟨[],⟨rfl,v,rfl,h⟩,fun j s _ b hb=>nomatch hb⟩
  | own ds=>
   obtain⟨p,vs,rfl,q⟩:=h;exact⟨[p],⟨p,vs,rfl,rfl,q⟩,fun j s ej b hb=>by rw[List.mem_singleton.mp hb]; exact ha j s (fps j) ej (h1 j s ej) p rfl⟩
  | box B=>
   obtain⟨fp,q1,q2⟩:=h;exact⟨fp,⟨v,rfl,q1,q2⟩,fun j s ej b hb=>ha j s (fps j) fp ej (h1 j s ej) q1 b hb⟩
 have lt:∀{m:Nat} {z},(Γ.set i rv.sl)[m]?=some z→m<Γ.length:=fun e=>by
  have:=(List.getElem?_eq_some_iff.mp e).1;simpa using this
 have old:∀{m:Nat} {z},m≠i→(Γ.set i rv.sl)[m]?=some z→Γ[m]?=some z:=fun hm e=>by rw[List.getElem?_set_ne (Ne.symm hm)] at e; exact e
 refine⟨r.fr,by rw[List.length_set,List.length_set]; exact r.len,fun j=>if j=i then fp else fps j,fun j s e=>?_,fun j k s t ej ek hjk b hb hc=>?_⟩
 ·dsimp only
  by_cases hj:j=i
  ·subst hj;have hi:=lt e;rw[List.getElem?_set_self hi] at e;rw[if_pos rfl,List.getElem?_set_self (by rw[← r.len]; exact hi)]
   cases e
   exact hf
  ·rw[if_neg hj,List.getElem?_set_ne (Ne.symm hj)];exact h1 j s (old hj e)
 ·dsimp only at hb hc
  by_cases hj:j=i
  ·have hk:k≠i:=fun z=>hjk (hj.trans z.symm);rw[if_pos hj] at hb;rw[if_neg hk] at hc;exact hd k t (old hk ek) b hb hc
  ·rw[if_neg hj] at hb
   by_cases hk:k=i
   ·rw[if_pos hk] at hc;exact hd j s (old hj ej) b hc hb
   ·rw[if_neg hk] at hc;exact h2 j k s t (old hj ej) (old hk ek) hjk b hb hc
theorem R.setV (r:R F Γ σ G H){i:Nat}{v:V}{d:D}(h:Dt G v d):R F (Γ.set i (.val d)) (σ.set i (some v)) G H:=r.set (rv:=.val d) h trivial
theorem R.drop (r:R F Γ σ G H)(i:Nat):R F (Γ.set i .no) σ G H:=by
 obtain⟨fps,h1,h2⟩:=r.fps;have back:∀{m z},m≠i→(Γ.set i .no)[m]?=some z→Γ[m]?=some z:=fun{m z} hm e=>by rw[List.getElem?_set_ne (Ne.symm hm)] at e; exact e
 refine⟨r.fr,by rw[List.length_set]; exact r.len,fun j=>if j=i then[] else fps j,fun j s e=>?_,fun j k s t ej ek hjk b hb hc=>?_⟩
 ·dsimp only
  by_cases hj:j=i
  ·subst hj;have hi:j<Γ.length:=by
    have:=(List.getElem?_eq_some_iff.mp e).1;simpa using this
   rw[List.getElem?_set_self hi] at e
   cases e
   rw[if_pos rfl];rfl
  ·rw[if_neg hj];exact h1 j s (back hj e)
 ·dsimp only at hb hc
  by_cases hj:j=i
  ·rw[if_pos hj] at hb; cases hb
  ·rw[if_neg hj] at hb
   by_cases hk:k=i
   ·rw[if_pos hk] at hc; cases hc
   ·rw[if_neg hk] at hc;exact h2 j k s t (back hj ej) (back hk ek) hjk b hb hc
theorem R.writeF (r:R F Γ σ G H){i:Nat}{s0 s1:Sl}{H':Hp}(e:Γ[i]?=some s0)(fr:Rf F G H')(h:∀ fp,SlF F G H σ[i]? fp s0→∃ fp',SlF F G H' σ[i]? fp' s1∧(∀ b,b∉fp→(∃ o,H b=some o)→H' b=H b∧b∉fp')):R F (Γ.set i s1) σ G H':=by
 obtain⟨fps,h1,h2⟩:=r.fps;obtain⟨fp',w1,w2⟩:=h (fps i) (h1 i s0 e);have hi:i<Γ.length:=(List.getElem?_eq_some_iff.mp e).1;have back:∀{m z},m≠i→(Γ.set i s1)[m]?=some z→Γ[m]?=some z:=fun{m z} hm e=>by rw[List.getElem?_set_ne (Ne.symm hm)] at e; exact e
 have away:∀{j:Nat} {s:Sl},j≠i→Γ[j]?=some s→∀ b∈fps j,H' b=H b∧b∉fp':=fun hj ej b hb=>
  w2 b (fun z=>h2 _ i _ s0 ej e hj b hb z) ((h1 _ _ ej).mine hb).2.2
 refine⟨fr,by rw[List.length_set]; exact r.len,fun j=>if j=i then fp' else fps j,fun j s ej=>?_,fun j k s t ej ek hjk b hb hc=>?_⟩
 ·dsimp only
  by_cases hj:j=i
  ·subst hj;rw[List.getElem?_set_self hi] at ej
   cases ej
   rw[if_pos rfl];exact w1
  ·rw[if_neg hj];have e0:=back hj ej;exact(h1 j s e0).go (Same.refl _) fun b hb=>⟨((h1 j s e0).mine hb).2.1,(away hj e0 b hb).1⟩
 ·dsimp only at hb hc
  by_cases hj:j=i
  ·have hk:k≠i:=fun z=>hjk (hj.trans z.symm);rw[if_pos hj] at hb;rw[if_neg hk] at hc;exact(away hk (back hk ek) b hc).2 hb
  ·rw[if_neg hj] at hb
   by_cases hk:k=i
   ·rw[if_pos hk] at hc;exact(away hj (back hj ej) b hb).2 hc
   ·rw[if_neg hk] at hc;exact h2 j k s t (back hj ej) (back hk ek) hjk b hb hc
theorem R.write (r:R F Γ σ G H){i:Nat}{ds es:List D}{p:Addr}{ws:List V}(e:Γ[i]?=some (.own ds))(ep:σ[i]?=some (some (.ref p)))(hw:Dts G ws es):R F (Γ.set i (.own es)) σ G (upd H p (.lst ws)):=by
 obtain⟨p',vs,e1,e2,e3,e4,e5⟩:=r.sl i _ e;rw[ep] at e1; cases e1;refine r.writeF e (r.fr.priv e2 e3) fun fp h=>?_;obtain⟨q,us,f0,f1,f2,f3,f4,f5⟩:=h;rw[ep] at f1; cases f1;refine⟨[p],⟨p,ws,rfl,ep,e2,e3,b8,hw⟩,fun b hb _=>?_⟩;have hbp:b≠p:=fun z=>hb (by rw[f0,z]; exact List.mem_singleton.mpr rfl);exact⟨bB hbp,fun z=>hbp (List.mem_singleton.mp z)⟩
end
abbrev ME:=En→(D→En→Prop)→Prop
abbrev MO:=En→(Rv→En→Prop)→Prop
abbrev MT:=En→(Bool→En→Prop)→Prop
abbrev MA:=En→(List Sl→En→Prop)→Prop
abbrev MD:=En→(List D→En→Prop)→Prop
abbrev MG:=D→En→(En→Prop)→Prop
abbrev MGs:=List D→En→(En→Prop)→Prop
abbrev MS:=En→(Fl→Prop)→Prop
abbrev Fm:=List Sl→(Rv→Prop)→Prop
def VT (P0:Addr→Hp→Prop)(t:TE)(m:ME):Prop:=∀(F:Fra P0) (Γ:En) (σ:St) (G H:Hp) (Q:VK) (Qm:D→En→Prop),R F Γ σ G H→m Γ Qm →
 (∀ d Γ' r G' H',Qm d Γ'→Same G G'→R F Γ' σ G' H'→Dt G' r d→Q r H')→t σ H Q
def VO (P0:Addr→Hp→Prop)(t:TE)(m:MO):Prop:=∀(F:Fra P0) (Γ:En) (σ:St) (G H:Hp) (Q:VK) (Qm:Rv→En→Prop),R F Γ σ G H→m Γ Qm →
 (∀ rv Γ' r G' H',Qm rv Γ'→Same G G'→R F Γ' σ G' H'→RvO F G' H' r rv→Apart F Γ' σ G' H' r rv→Q r H')→t σ H Q
def VTT (P0:Addr→Hp→Prop)(t:TT)(m:MT):Prop:=∀(F:Fra P0) (Γ:En) (σ:St) (G H:Hp) (Q:Bool→Hp→Prop) (Qm:Bool→En→Prop),R F Γ σ G H→m Γ Qm →
 (∀ b Γ' G' H',Qm b Γ'→Same G G'→R F Γ' σ G' H'→Q b H')→t σ H Q
def VD (P0:Addr→Hp→Prop)(t:TA)(m:MD):Prop:=∀(F:Fra P0) (Γ:En) (σ:St) (G H:Hp) (Q:List V→Hp→Prop) (Qm:List D→En→Prop),R F Γ σ G H→m Γ Qm →
 (∀ ds Γ' rs G' H',Qm ds Γ'→Same G G'→R F Γ' σ G' H'→Dts G' rs ds→Q rs H')→t σ H Q
def ArgOk (F:Fra P0)(G:Hp)(r:V):Sl→Prop
 | .val d=>Dt G r d
 | .pen=>∃ p,r=.ref p∧F.pen=some p
 | .con p=>r=.ref p
 | .pub B=>B.P r G
 | _=>False
def VA (P0:Addr→Hp→Prop)(t:TA)(m:MA):Prop:=∀(F:Fra P0) (Γ:En) (σ:St) (G H:Hp) (Q:List V→Hp→Prop) (Qm:List Sl→En→Prop),R F Γ σ G H→m Γ Qm →
 (∀ as Γ' rs G' H',Qm as Γ'→Same G G'→R F Γ' σ G' H'→Paired (ArgOk F G') rs as→Q rs H')→t σ H Q
def VG (P0:Addr→Hp→Prop)(A:Nat→Bool)(g:TG)(m:MG):Prop:=∀(F:Fra P0) (Γ:En) (σ:St) (G H:Hp) (v:V) (d:D) (Q:St→Hp→Prop) (Qm:En→Prop),R F Γ σ G H→Dt G v d→m d Γ Qm →
 (∀ Γ' σ',Qm Γ'→R F Γ' σ' G H→(∀ i,A i=false→σ'[i]?=σ[i]?)→Q σ' H)→g v σ H Q
def VGs (P0:Addr→Hp→Prop)(A:Nat→Bool)(g:TGs)(m:MGs):Prop:=∀(F:Fra P0) (Γ:En) (σ:St) (G H:Hp) (vs:List V) (ds:List D) (Q:St→Hp→Prop) (Qm:En→Prop),R F Γ σ G H→Dts G vs ds→m ds Γ Qm →
 (∀ Γ' σ',Qm Γ'→R F Γ' σ' G H→(∀ i,A i=false→σ'[i]?=σ[i]?)→Q σ' H)→g vs σ H Q
def Post (F:Fra P0)(A:Nat→Bool)(σ0:St)(G:Hp)(E:Ends):Fl→Prop
 | .nx Γ=>∀ σ G' H',Same G G'→R F Γ σ G' H'→(∀ i,A i=false→σ[i]?=σ0[i]?)→E.nx σ H'
 | .rt rv=>∀ r G' H',Same G G'→Rf F G' H'→RvO F G' H' r rv→E.rt r H'
 | .bk Γ=>∀ σ G' H',Same G G'→R F Γ σ G' H'→(∀ i,A i=false→σ[i]?=σ0[i]?)→E.bk σ H'
 | .ct Γ=>∀ σ G' H',Same G G'→R F Γ σ G' H'→(∀ i,A i=false→σ[i]?=σ0[i]?)→E.ct σ H'
def VSA (P0:Addr→Hp→Prop)(A:Nat→Bool)(t:TS)(m:MS):Prop:=∀(F:Fra P0) (Γ:En) (σ:St) (G H:Hp) (E:Ends) (Qm:Fl→Prop),R F Γ σ G H→m Γ Qm→(∀ fl,Qm fl→Post F A σ G E fl)→t E σ H
abbrev aAll:Nat→Bool:=fun _=>true
abbrev VS (P0:Addr→Hp→Prop)(t:TS)(m:MS):Prop:=VSA P0 aAll t m
theorem Post.same {F:Fra P0}{A:Nat→Bool}{σ0 σ1:St}{G G':Hp}{E:Ends}(g:Same G G')(hσ:∀ i,A i=false→σ1[i]?=σ0[i]?):∀{fl:Fl},Post F A σ0 G E fl→Post F A σ1 G' E fl
 | .nx _,h=>fun σ G2 H2 s r e=>h σ G2 H2 (g.trans s) r fun i hi=>(e i hi).trans (hσ i hi)
 | .rt _,h=>fun r G2 H2 s=>h r G2 H2 (g.trans s)
 | .bk _,h=>fun σ G2 H2 s r e=>h σ G2 H2 (g.trans s) r fun i hi=>(e i hi).trans (hσ i hi)
 | .ct _,h=>fun σ G2 H2 s r e=>h σ G2 H2 (g.trans s) r fun i hi=>(e i hi).trans (hσ i hi)
def SsX (P0:Addr→Hp→Prop)(X:Cx)(sts:List Stmt)(m:MS):Prop:=∃ t,PSs X sts t∧VS P0 t m
end
section
variable {P0:Addr→Hp→Prop}
theorem _root_.L2.Dts.get {G:Hp}:∀{vs:List V} {ds:List D} {i:Nat} {d:D},Dts G vs ds→ds[i]?=some d→∃ v,vs[i]?=some v∧Dt G v d
 := by
  intro vs ds i d h e
  induction ds generalizing vs i with
  | nil=>cases e
  | cons x ds ih=>
    cases h with
    | cons a b=>
      cases i with
      | zero=>cases e; exact⟨_,rfl,a⟩
      | succ i=>
        have q:=ih b (show ds[i]?=some d from e);exact q
theorem _root_.L2.Dts.len {G:Hp}:∀{vs:List V} {ds:List D},Dts G vs ds→vs.length=ds.length
 := by
  intro vs ds h
  induction ds generalizing vs with
  | nil=>cases h; rfl
  | cons x ds ih=>cases h with|cons a b=>exact congrArg Nat.succ (ih b)
theorem _root_.L2.Dts.app {G:Hp}:∀{vs ws:List V} {ds es:List D},Dts G vs ds→Dts G ws es→Dts G (vs++ws) (ds++es)
 := by
  intro vs ws ds es h g
  induction ds generalizing vs with
  | nil=>cases h; exact g
  | cons x ds ih=>cases h with|cons a b=>exact .cons a (ih b)
theorem _root_.L2.Dts.drp {G:Hp}:∀{vs:List V} {ds:List D} (n:Nat),Dts G vs ds→Dts G (vs.drop n) (ds.drop n)
 | _,_,0,h=>h
 | _,_,_+1,.nil=>.nil
 | _,_,n+1,.cons _ b=>Dts.drp n b
theorem _root_.L2.Dts.tak {G:Hp}:∀{vs:List V} {ds:List D} (n:Nat),Dts G vs ds→Dts G (vs.take n) (ds.take n)
 | _,_,0,_=>.nil
 | _,_,_+1,.nil=>.nil
 | _,_,n+1,.cons a b=>.cons a (Dts.tak n b)
def oQ (o:Option D)(k:D→Prop):Prop:=match o with
 | some d=>k d
 | none=>False
theorem oQ_out {o:Option D}{k:D→Prop}(h:oQ o k):∃ d,o=some d∧k d:=by
 cases o with
 | none=>exact h.elim
 | some d=>exact⟨d,rfl,h⟩
def mC (d:D):ME:=fun Γ Q=>Q d Γ
def bF (i:Nat):ME:=fun Γ Q=>match Γ[i]? with
 | some (.val d)=>Q d Γ
 | _=>False
def mI0 (g:Int→Int→D)(ma mb:ME):ME:=fun Γ Q=>ma Γ fun x Γ1=>mb Γ1 fun y Γ2=>match x,y with
 | .int i,.int j=>Q (g i j) Γ2
 | _,_=>False
def mI (C:Int→Int→Prop)(g:Int→Int→D)(ma mb:ME):ME:=fun Γ Q=>ma Γ fun x Γ1=>mb Γ1 fun y Γ2=>match x,y with
 | .int i,.int j=>C i j∧Q (g i j) Γ2
 | _,_=>False
def mU (g:Int→D)(ma:ME):ME:=fun Γ Q=>ma Γ fun x Γ1=>match x with
 | .int i=>Q (g i) Γ1
 | _=>False
def mEq (ma mb:ME):ME:=fun Γ Q=>ma Γ fun x Γ1=>mb Γ1 fun y Γ2=>Good x∧Good y∧Q (.bool (PyData.eqv x y)) Γ2
def mNe (ma mb:ME):ME:=fun Γ Q=>ma Γ fun x Γ1=>mb Γ1 fun y Γ2=>Good x∧Good y∧Q (.bool (!PyData.eqv x y)) Γ2
def isN:D→Bool
 | .none=>true
 | _=>false
def mIsN (ma:ME):ME:=fun Γ Q=>ma Γ fun x Γ1=>Q (.bool (isN x)) Γ1
def mAndV (ma mb:ME):ME:=fun Γ Q=>ma Γ fun x Γ1=>match x with
 | .bool c=>if c=true then mb Γ1 Q else Q (.bool false) Γ1
 | _=>False
def mNotV (ma:ME):ME:=fun Γ Q=>ma Γ fun x Γ1=>match x with
 | .bool c=>Q (.bool (!c)) Γ1
 | _=>False
def mTst (ma:ME):MT:=fun Γ Q=>ma Γ fun x Γ1=>match x with
 | .bool c=>Q c Γ1
 | _=>False
def mAnd (ma mb:MT):MT:=fun Γ Q=>ma Γ fun c Γ1=>if c=true then mb Γ1 Q else Q false Γ1
def mOr (ma mb:MT):MT:=fun Γ Q=>ma Γ fun c Γ1=>if c=true then Q true Γ1 else mb Γ1 Q
def mNot (ma:MT):MT:=fun Γ Q=>ma Γ fun c Γ1=>Q (!c) Γ1
def mIfO (mc:MT)(ma mb:MO):MO:=fun Γ Q=>mc Γ fun c Γ1=>if c=true then ma Γ1 Q else mb Γ1 Q
def mNil:MD:=fun Γ Q=>Q [] Γ
def cQ (ma:ME)(mr:MD):MD:=fun Γ Q=>ma Γ fun x Γ1=>mr Γ1 fun xs Γ2=>Q (x::xs) Γ2
def aNil:MA:=fun Γ Q=>Q [] Γ
def aVal (ma:ME)(mr:MA):MA:=fun Γ Q=>ma Γ fun x Γ1=>mr Γ1 fun xs Γ2=>Q (.val x::xs) Γ2
def aPen (i:Nat)(mr:MA):MA:=fun Γ Q=>match Γ[i]? with
 | some .pen=>mr Γ fun xs Γ2=>Q (.pen::xs) Γ2
 | _=>False
def mTup (md:MD):ME:=fun Γ Q=>md Γ fun ds Γ1=>ds.length≤1000∧Q (.tuple ds) Γ1
def mLst (md:MD):MO:=fun Γ Q=>md Γ fun ds Γ1=>ds.length≤1000∧Q (.own ds) Γ1
def ixD:D→D→Option D
 | .tuple ds,.int i=>atI ds i
 | .list ds,.int i=>atI ds i
 | _,_=>none
def mIx (ma mb:ME):ME:=fun Γ Q=>ma Γ fun x Γ1=>mb Γ1 fun y Γ2=>oQ (ixD x y) fun d=>Q d Γ2
def nbQ:Rv→Prop→Prop
 | .box B,p=>B.view.isSome=true∧p
 | _,p=>p
def eX (mo:MO):ME:=fun Γ Q=>mo Γ fun rv Γ1=>nbQ rv (Q rv.d Γ1)
def dB (m:ME):MO:=fun Γ Q=>m Γ fun d Γ1=>Q (.val d) Γ1
def mMove (i:Nat):MO:=fun Γ Q=>match Γ[i]? with
 | some (.val d)=>Q (.val d) Γ
 | some (.own ds)=>Q (.own ds) (Γ.set i .no)
 | some (.box B)=>Q (.box B) (Γ.set i .no)
 | _=>False
def bO (n:Nat)(f:Fm)(ma:MA):MO:=fun Γ Q=>ma Γ fun as Γ1=>as.length=n∧f as fun rv=>Q rv Γ1
def lenD:D→Option D
 | .tuple ds=>some (.int ds.length)
 | .list ds=>some (.int ds.length)
 | _=>none
def mLen (ma:ME):ME:=fun Γ Q=>ma Γ fun x Γ1=>oQ (lenD x) fun d=>Q d Γ1
def itemsD:D→Option (List D)
 | .tuple ds=>some ds
 | .list ds=>some ds
 | _=>none
def mListOf (ma:ME):MO:=fun Γ Q=>ma Γ fun x Γ1=>match itemsD x with
 | some ds=>Q (.own ds) Γ1
 | none=>False
def cutD (xs:List D)(lo hi:Option Int):List D:=(xs.drop (HT.sIx xs.length 0 lo)).take (HT.sIx xs.length xs.length hi-HT.sIx xs.length 0 lo)
abbrev MP:=En→(Option Int→En→Prop)→Prop
def pNo:MP:=fun Γ Q=>Q none Γ
def pSo (m:ME):MP:=fun Γ Q=>m Γ fun x Γ1=>match x with
 | .int i=>Q (some i) Γ1
 | _=>False
def mSlL (ma:ME)(ml mh:MP):MO:=fun Γ Q=>ma Γ fun x Γ1=>ml Γ1 fun lo Γ2=>mh Γ2 fun hi Γ3=>match x with
 | .list ds=>Q (.own (cutD ds lo hi)) Γ3
 | _=>False
def VP (P0:Addr→Hp→Prop)(t:TO)(m:MP):Prop:=∀(F:Fra P0) (Γ:En) (σ:St) (G H:Hp) (Q:Option Int→Hp→Prop) (Qm:Option Int→En→Prop),R F Γ σ G H→m Γ Qm →
 (∀ d Γ' G' H',Qm d Γ'→Same G G'→R F Γ' σ G' H'→Q d H')→t σ H Q
section
variable {ta tb tc:TE}{ma mb:ME}{tA tB':TT}{mA mB:MT}{K:Fg}
theorem vt_c {v:V}{d:D}(h:∀ G,Dt G v d):VT P0 (tC v) (mC d):=fun _ _ _ G _ _ _ r m k=>k _ _ _ _ _ m (Same.refl _) r (h G)
theorem aB {i:Nat}:VT P0 (tVar i) (bF i):=by
 intro F Γ σ G H Q Qm r m k;unfold bF at m
 split at m
 ·rename_i d e
  obtain⟨v,e1,d1⟩:=r.sl i _ e;exact⟨v,e1,k _ _ _ _ _ m (Same.refl _) r d1⟩
 ·exact m.elim
theorem vt_2 {r2:R2}{m2:D→D→(D→Prop)→Prop}(ha:VT P0 ta ma)(hb:VT P0 tb mb)
  (h:∀(F:Fra P0) (Γ:En) (σ:St) (G H:Hp) (x y:V) (d e:D) (Q:VK) (Qm:D→Prop),R F Γ σ G H→Dt G x d→Dt G y e→m2 d e Qm→(∀ u r G' H',Qm u→Same G G'→R F Γ σ G' H'→Dt G' r u→Q r H')→r2 x y H Q) :
  VT P0 (tOp r2 ta tb) (fun Γ Q=>ma Γ fun x Γ1=>mb Γ1 fun y Γ2=>m2 x y fun d=>Q d Γ2):=by
 intro F Γ σ G H Q Qm r m k;refine ha F Γ σ G H _ _ r m fun d Γ1 x G1 H1 m1 s1 r1 d1=>?_;refine hb F Γ1 σ G1 H1 _ _ r1 m1 fun e Γ2 y G2 H2 m2 s2 r2 d2=>?_;exact h F Γ2 σ G2 H2 x y d e _ _ r2 (Dt.same s2 _ _ d1) d2 m2 fun u w G3 H3 q s3 r3 d3=>k _ _ _ _ _ q ((s1.trans s2).trans s3) r3 d3
theorem vt_i0 {gv:Int→Int→V}{g:Int→Int→D}(hg:∀ G i j,Dt G (gv i j) (g i j))(ha:VT P0 ta ma)(hb:VT P0 tb mb):VT P0 (tOp (rI0 gv) ta tb) (mI0 g ma mb):=by
 refine vt_2 (m2:=fun x y Q=>match x,y with|.int i,.int j=>Q (g i j)|_,_=>False) ha hb fun F Γ σ G H x y d e Q Qm r d1 d2 m k=>?_
 split at m
 ·cases d1; cases d2
  exact⟨_,_,rfl,rfl,k _ _ _ _ m (Same.refl _) r (hg _ _ _)⟩
 ·exact m.elim
theorem vt_i {C:Int→Int→Prop}{gv:Int→Int→V}{g:Int→Int→D}(hg:∀ G i j,Dt G (gv i j) (g i j))(ha:VT P0 ta ma)(hb:VT P0 tb mb):VT P0 (tOp (rI C gv) ta tb) (mI C g ma mb):=by
 refine vt_2 (m2:=fun x y Q=>match x,y with|.int i,.int j=>C i j∧Q (g i j)|_,_=>False) ha hb fun F Γ σ G H x y d e Q Qm r d1 d2 m k=>?_
 split at m
 ·cases d1; cases d2
  exact⟨_,_,rfl,rfl,m.1,k _ _ _ _ m.2 (Same.refl _) r (hg _ _ _)⟩
 ·exact m.elim
theorem vt_u {gv:Int→V}{g:Int→D}(hg:∀ G i,Dt G (gv i) (g i))(ha:VT P0 ta ma):VT P0 (tUn (rU gv) ta) (mU g ma):=by
 intro F Γ σ G H Q Qm r m k;refine ha F Γ σ G H _ _ r m fun d Γ1 x G1 H1 m1 s1 r1 d1=>?_
 split at m1
 ·cases d1
  exact⟨_,rfl,k _ _ _ _ _ m1 s1 r1 (hg _ _)⟩
 ·exact m1.elim
theorem vt_eq (ha:VT P0 ta ma)(hb:VT P0 tb mb):VT P0 (tOp rEqD ta tb) (mEq ma mb):=by
 refine vt_2 (m2:=fun x y Q=>Good x∧Good y∧Q (.bool (PyData.eqv x y))) ha hb fun F Γ σ G H x y d e Q Qm r d1 d2 m k=>?_;exact⟨d,e,Dt.same r.fr.sub _ _ d1,Dt.same r.fr.sub _ _ d2,m.1,m.2.1,k _ _ _ _ m.2.2 (Same.refl _) r (.bl _)⟩
theorem vt_ne (ha:VT P0 ta ma)(hb:VT P0 tb mb):VT P0 (tOp rNeD ta tb) (mNe ma mb):=by
 refine vt_2 (m2:=fun x y Q=>Good x∧Good y∧Q (.bool (!PyData.eqv x y))) ha hb fun F Γ σ G H x y d e Q Qm r d1 d2 m k=>?_;exact⟨d,e,Dt.same r.fr.sub _ _ d1,Dt.same r.fr.sub _ _ d2,m.1,m.2.1,k _ _ _ _ m.2.2 (Same.refl _) r (.bl _)⟩
theorem isN_of {G:Hp}{x:V}{d:D}(h:Dt G x d):decide (x=V.non)=isN d:=by
 cases h<;>first|rfl|exact decide_eq_false (by intro z; cases z)
theorem vt_isN (ha:VT P0 ta ma):VT P0 (tOp (fun x y H Q=>y=.non∧Q (.bl (decide (x=.non))) H) ta (tC .non)) (mIsN ma):=by
 intro F Γ σ G H Q Qm r m k;refine ha F Γ σ G H _ _ r m fun d Γ1 x G1 H1 m1 s1 r1 d1=>⟨rfl,?_⟩;rw[isN_of d1];exact k _ _ _ _ _ m1 s1 r1 (.bl _)
theorem vt_and (ha:VT P0 ta ma)(hb:VT P0 tb mb):VT P0 (tAndV ta tb) (mAndV ma mb):=by
 intro F Γ σ G H Q Qm r m k;refine ha F Γ σ G H _ _ r m fun d Γ1 x G1 H1 m1 s1 r1 d1=>?_
 split at m1
 ·rename_i c
  cases d1
  refine⟨c,rfl,?_⟩
  cases c with
  | true=>exact iteT (hb F Γ1 σ G1 H1 _ _ r1 m1 fun e Γ2 y G2 H2 m2 s2 r2 d2=>k _ _ _ _ _ m2 (s1.trans s2) r2 d2)
  | false=>exact iteF (k _ _ _ _ _ m1 s1 r1 (.bl _))
 ·exact m1.elim
theorem vt_not (ha:VT P0 ta ma):VT P0 (tNotV ta) (mNotV ma):=by
 intro F Γ σ G H Q Qm r m k;refine ha F Γ σ G H _ _ r m fun d Γ1 x G1 H1 m1 s1 r1 d1=>?_
 split at m1
 ·cases d1
  exact⟨_,rfl,k _ _ _ _ _ m1 s1 r1 (.bl _)⟩
 ·exact m1.elim
theorem aW (ha:VT P0 ta ma):VTT P0 (tTest ta) (mTst ma):=by
 intro F Γ σ G H Q Qm r m k;refine ha F Γ σ G H _ _ r m fun d Γ1 x G1 H1 m1 s1 r1 d1=>?_
 split at m1
 ·cases d1
  exact⟨_,rfl,k _ _ _ _ m1 s1 r1⟩
 ·exact m1.elim
theorem vtt_b (ha:VT P0 ta ma):VTT P0 (tB ta) (mTst ma):=aW ha
theorem vtt_and (ha:VTT P0 tA mA)(hb:VTT P0 tB' mB):VTT P0 (tAnd tA tB') (mAnd mA mB):=by
 intro F Γ σ G H Q Qm r m k;refine ha F Γ σ G H _ _ r m fun c Γ1 G1 H1 m1 s1 r1=>?_
 cases c with
 | true=>exact iteT (hb F Γ1 σ G1 H1 _ _ r1 m1 fun e Γ2 G2 H2 m2 s2 r2=>k _ _ _ _ m2 (s1.trans s2) r2)
 | false=>exact iteF (k _ _ _ _ m1 s1 r1)
theorem vtt_or (ha:VTT P0 tA mA)(hb:VTT P0 tB' mB):VTT P0 (tOr tA tB') (mOr mA mB):=by
 intro F Γ σ G H Q Qm r m k;refine ha F Γ σ G H _ _ r m fun c Γ1 G1 H1 m1 s1 r1=>?_
 cases c with
 | true=>exact iteT (k _ _ _ _ m1 s1 r1)
 | false=>exact iteF (hb F Γ1 σ G1 H1 _ _ r1 m1 fun e Γ2 G2 H2 m2 s2 r2=>k _ _ _ _ m2 (s1.trans s2) r2)
theorem vtt_not (ha:VTT P0 tA mA):VTT P0 (tNot tA) (mNot mA):=by
 intro F Γ σ G H Q Qm r m k;exact ha F Γ σ G H _ _ r m fun c Γ1 G1 H1 m1 s1 r1=>k _ _ _ _ m1 s1 r1
theorem vo_ifE {oa ob:MO}(hc:VTT P0 tA mA)(ha:VO P0 ta oa)(hb:VO P0 tb ob):VO P0 (tIf tA ta tb) (mIfO mA oa ob):=by
 intro F Γ σ G H Q Qm r m k;refine hc F Γ σ G H _ _ r m fun c Γ1 G1 H1 m1 s1 r1=>?_
 cases c with
 | true=>exact iteT (ha F Γ1 σ G1 H1 _ _ r1 m1 fun e Γ2 y G2 H2 m2 s2 r2 d2 a2=>k _ _ _ _ _ m2 (s1.trans s2) r2 d2 a2)
 | false=>exact iteF (hb F Γ1 σ G1 H1 _ _ r1 m1 fun e Γ2 y G2 H2 m2 s2 r2 d2 a2=>k _ _ _ _ _ m2 (s1.trans s2) r2 d2 a2)
theorem bU:VD P0 tNil mNil:=fun _ _ _ _ _ _ _ r m k=>k _ _ _ _ _ m (Same.refl _) r .nil
theorem bD {tr:TA}{mr:MD}(ha:VT P0 ta ma)(hr:VD P0 tr mr):VD P0 (cZ ta tr) (cQ ma mr):=by
 intro F Γ σ G H Q Qm r m k;refine ha F Γ σ G H _ _ r m fun d Γ1 x G1 H1 m1 s1 r1 d1=>?_;exact hr F Γ1 σ G1 H1 _ _ r1 m1 fun e Γ2 y G2 H2 m2 s2 r2 d2=>k _ _ _ _ _ m2 (s1.trans s2) r2 (.cons (Dt.same s2 _ _ d1) d2)
theorem bC:VA P0 tNil aNil:=fun _ _ _ _ _ _ _ r m k=>k _ _ _ _ _ m (Same.refl _) r .nil
theorem aZ {tr:TA}{mr:MA}(ha:VT P0 ta ma)(hr:VA P0 tr mr):VA P0 (cZ ta tr) (aVal ma mr):=by
 intro F Γ σ G H Q Qm r m k;refine ha F Γ σ G H _ _ r m fun d Γ1 x G1 H1 m1 s1 r1 d1=>?_;exact hr F Γ1 σ G1 H1 _ _ r1 m1 fun e Γ2 y G2 H2 m2 s2 r2 d2=>k _ _ _ _ _ m2 (s1.trans s2) r2 (.cons (Dt.same s2 _ _ d1) d2)
theorem eN {i:Nat}{tr:TA}{mr:MA}(hr:VA P0 tr mr):VA P0 (cZ (tVar i) tr) (aPen i mr):=by
 intro F Γ σ G H Q Qm r m k;unfold aPen at m
 split at m
 ·rename_i e
  obtain⟨p,e1,e2⟩:=r.sl i _ e;exact⟨_,e1,hr F Γ σ G H _ _ r m fun as Γ2 y G2 H2 m2 s2 r2 d2=>k _ _ _ _ _ m2 s2 r2 (.cons ⟨p,rfl,e2⟩ d2)⟩
 ·exact m.elim
theorem vt_tup {t:TA}{md:MD}(h:VD P0 t md):VT P0 (tTup t) (mTup md):=by
 intro F Γ σ G H Q Qm r m k;refine h F Γ σ G H _ _ r m fun ds Γ1 xs G1 H1 m1 s1 r1 d1=>⟨small_le (by rw[d1.len]; exact m1.1),fun p hp=>?_⟩;have g:=same_new (r1.fr.gfresh hp) (.tup xs);exact k _ _ _ _ _ m1.2 (s1.trans g) (r1.new hp) (.tup b8 (Dts.same g _ _ d1))
theorem SlF.det {F:Fra P0}{G H:Hp}{x:Option (Option V)}{fp fp':List Addr}:∀{s:Sl},SlF F G H x fp s→SlF F G H x fp' s→fp=fp'
 | .no,h,g=>(show fp=[] from h).trans (show fp'=[] from g).symm
 | .val _,h,g=>h.1.trans g.1.symm
 | .pen,h,g=>h.1.trans g.1.symm
 | .con _,h,g=>h.1.trans g.1.symm
 | .pub _,h,g=>h.1.trans g.1.symm
 | .own _,h,g=>by
  obtain⟨p,vs,e,e1,_⟩:=h;obtain⟨q,ws,f,f1,_⟩:=g;rw[e1] at f1; cases f1;rw[e,f]
 | .box B,h,g=>by
  obtain⟨v,e1,e2,_⟩:=h;obtain⟨v',f1,f2,_⟩:=g;rw[e1] at f1; cases f1;exact B.uniq e2 f2
theorem R.before {F:Fra P0}{Γ:En}{σ:St}{G H G' H':Hp}(r:R F Γ σ G H)(g:Same G G')(k:∀ b o,F.H0 b=none→G b=none→H b=some o→G' b=none∧H' b=some o){i:Nat}{s:Sl}{fp:List Addr}(e:Γ[i]?=some s)(h:SlF F G' H' σ[i]? fp s):∀ b∈fp,∃ o,H b=some o:=by
 obtain⟨fps,h1,h2⟩:=r.fps;have h0:=h1 i s e;have h3:SlF F G' H' σ[i]? (fps i) s:=h0.go g fun b hb=>by
  obtain⟨m1,m2,o,m3⟩:=h0.mine hb;obtain⟨k1,k2⟩:=k b o m1 m2 m3;exact⟨k1,k2.trans m3.symm⟩
 rw[h.det h3];exact fun b hb=>(h0.mine hb).2.2
theorem Apart.new {F:Fra P0}{Γ:En}{σ:St}{G H G' H':Hp}(r:R F Γ σ G H){p:Addr}(hp:H p=none){ds:List D}(g:Same G G')(k:∀ b o,F.H0 b=none→G b=none→H b=some o→G' b=none∧H' b=some o):Apart F Γ σ G' H' (.ref p) (.own ds):=by
 intro i s fp e h q eq hq
 cases eq
 obtain⟨o,eo⟩:=r.before g k e h p hq;rw[hp] at eo; cases eo
theorem Apart.newB {F:Fra P0}{Γ:En}{σ:St}{G H G' H':Hp}(r:R F Γ σ G H){v:V}{B:Bx}(hp:∀ fp,B.P v fp G' H'→∀ b∈fp,H b=none)(g:Same G G')(k:∀ b o,F.H0 b=none→G b=none→H b=some o→G' b=none∧H' b=some o):Apart F Γ σ G' H' v (.box B):=by
 intro i s fp f e h hf b hb hc;obtain⟨o,eo⟩:=r.before g k e h b hc;rw[hp f hf b hb] at eo; cases eo
theorem own_new {F:Fra P0}{Γ:En}{σ:St}{G H:Hp}(r:R F Γ σ G H){p:Addr}{xs:List V}{ds:List D}(hp:H p=none)(d:Dts G xs ds) :
  R F Γ σ G (upd H p (.lst xs))∧RvO F G (upd H p (.lst xs)) (.ref p) (.own ds)∧Apart F Γ σ G (upd H p (.lst xs)) (.ref p) (.own ds):=
 ⟨r.newP hp,⟨p,xs,rfl,r.fr.fresh hp,r.fr.gfresh hp,b8,d⟩,Apart.new r hp (Same.refl _) fun b o _ g e=>⟨g,by rw[bB (bA e hp)]; exact e⟩⟩
theorem vo_lst {t:TA}{md:MD}(h:VD P0 t md):VO P0 (tLst t) (mLst md):=by
 intro F Γ σ G H Q Qm r m k;refine h F Γ σ G H _ _ r m fun ds Γ1 xs G1 H1 m1 s1 r1 d1=>⟨small_le (by rw[d1.len]; exact m1.1),fun p hp=>?_⟩;obtain⟨a,b,c⟩:=own_new r1 hp d1;exact k _ _ _ _ _ m1.2 s1 a b c
theorem aV {mo:MO}(h:VO P0 ta mo):VT P0 ta (eX mo):=by
 intro F Γ σ G H Q Qm r m k;refine h F Γ σ G H _ _ r m fun rv Γ1 x G1 H1 m1 s1 r1 d1 a1=>?_
 cases rv with
 | val d=>exact k _ _ _ _ _ m1 s1 r1 d1
 | own ds=>
  obtain⟨G2,s2,r2,d2⟩:=r1.give d1 a1;exact k _ _ _ _ _ m1 (s1.trans s2) r2 d2
 | box B=>
  obtain⟨hv,m1⟩:=m1;obtain⟨d,hd⟩:=Option.isSome_iff_exists.mp hv;obtain⟨G2,s2,r2,d2⟩:=r1.giveB d1 a1 hd;have m1:Qm (B.view.getD .none) Γ1:=m1;rw[hd] at m1;exact k _ _ _ _ _ m1 (s1.trans s2) r2 d2
theorem aL (h:VT P0 ta ma):VO P0 ta (dB ma):=by
 intro F Γ σ G H Q Qm r m k;exact h F Γ σ G H _ _ r m fun d Γ1 x G1 H1 m1 s1 r1 d1=>k _ _ _ _ _ m1 s1 r1 d1 trivial
theorem R.apart {F:Fra P0}{Γ:En}{σ:St}{G H:Hp}(r:R F Γ σ G H){i j:Nat}{s t:Sl}{fp fq:List Addr}(hij:i≠j)(ei:Γ[i]?=some s)(ej:Γ[j]?=some t)(hi:SlF F G H σ[i]? fp s)(hj:SlF F G H σ[j]? fq t):∀ b∈fp,b∉fq:=by
 obtain⟨fps,h1,h2⟩:=r.fps;rw[hi.det (h1 i s ei),hj.det (h1 j t ej)];exact h2 i j s t ei ej hij
theorem vo_move {i:Nat}:VO P0 (tVar i) (mMove i):=by
 intro F Γ σ G H Q Qm r m k;have other:∀{j:Nat} {s s0:Sl} {fp fq:List Addr},Γ[i]?=some s0→SlF F G H σ[i]? fp s0→(Γ.set i .no)[j]?=some s→SlF F G H σ[j]? fq s→∀ b∈fp,b∉fq:=by
  intro j s s0 fp fq e h ej hj b hb hc
  by_cases hij:i=j
  ·subst hij;have hi:i<Γ.length:=(List.getElem?_eq_some_iff.mp e).1;rw[List.getElem?_set_self hi] at ej
   cases ej
   rw[show fq=[] from hj] at hc; cases hc
  ·rw[List.getElem?_set_ne hij] at ej;exact r.apart hij e ej h hj b hb hc
 unfold mMove at m
 split at m
 ·rename_i d e
  obtain⟨v,e1,d1⟩:=r.sl i _ e;exact⟨v,e1,k _ _ _ _ _ m (Same.refl _) r d1 trivial⟩
 ·rename_i ds e
  obtain⟨p,vs,e1,e2⟩:=r.sl i _ e;refine⟨_,e1,k _ _ _ _ _ m (Same.refl _) (r.drop i) ⟨p,vs,rfl,e2⟩ fun j s fp ej hj q eq hq=>?_⟩
  cases eq
  exact other e (fp:=[p]) ⟨p,vs,rfl,e1,e2⟩ ej hj p (List.mem_singleton.mpr rfl) hq
 ·rename_i B e
  obtain⟨v,fp,e1,e2,e3⟩:=r.sl i _ e;refine⟨_,e1,k _ _ _ _ _ m (Same.refl _) (r.drop i) ⟨fp,e2,e3⟩ fun j s fq f ej hj hf b hb=>?_⟩;rw[B.uniq hf e2] at hb;exact other e (fp:=fp) ⟨v,e1,e2,e3⟩ ej hj b hb
 ·exact m.elim
theorem eG (ha:VT P0 ta ma)(hb:VT P0 tb mb):VT P0 (tOp (rIx K) ta tb) (mIx ma mb):=by
 refine vt_2 (m2:=fun x y Q=>oQ (ixD x y) Q) ha hb fun F Γ σ G H x y d e Q Qm r d1 d2 m k=>?_;obtain⟨u,hu,q⟩:=oQ_out m;unfold ixD at hu
 split at hu
 ·rename_i ds i
  cases d2
  cases d1 with
  | @tup p xs _ hp rs=>
   obtain⟨j,h1,h2⟩:∃ j,ixN ds.length i=some j∧ds[j]?=some u:=by
    unfold atI at hu
    cases e:ixN ds.length i with
    | none=>rw[e] at hu; cases hu
    | some j=>rw[e] at hu; exact⟨j,rfl,hu⟩
   obtain⟨v,hv,dv⟩:=Dts.get rs h2;refine .inr (.inl ⟨p,xs,i,v,rfl,rfl,SqT.of (r.fr.sub _ _ hp),?_,k _ _ _ _ q (Same.refl _) r dv⟩);unfold atI;rw[rs.len,h1];exact hv
 ·rename_i ds i
  cases d2
  cases d1 with
  | @lst p xs _ hp rs=>
   obtain⟨j,h1,h2⟩:∃ j,ixN ds.length i=some j∧ds[j]?=some u:=by
    unfold atI at hu
    cases e:ixN ds.length i with
    | none=>rw[e] at hu; cases hu
    | some j=>rw[e] at hu; exact⟨j,rfl,hu⟩
   obtain⟨v,hv,dv⟩:=Dts.get rs h2;refine .inl ⟨p,xs,i,v,rfl,rfl,SqL.of (r.fr.sub _ _ hp),?_,k _ _ _ _ q (Same.refl _) r dv⟩;unfold atI;rw[rs.len,h1];exact hv
 ·cases hu
theorem vt_cb1 {rr:List V→Hp→VK→Prop}{m1:D→(D→Prop)→Prop}(ha:VT P0 ta ma)
  (h:∀(F:Fra P0) (Γ:En) (σ:St) (G H:Hp) (x:V) (d:D) (Q:VK) (Qm:D→Prop),R F Γ σ G H→Dt G x d→m1 d Qm→(∀ u r G' H',Qm u→Same G G'→R F Γ σ G' H'→Dt G' r u→Q r H')→rr [x] H Q) :
  VT P0 (tCB rr (cZ ta tNil)) (fun Γ Q=>ma Γ fun x Γ1=>m1 x fun d=>Q d Γ1):=by
 intro F Γ σ G H Q Qm r m k;refine ha F Γ σ G H _ _ r m fun d Γ1 x G1 H1 m1 s1 r1 d1=>?_;exact h F Γ1 σ G1 H1 x d _ _ r1 d1 m1 fun u w G3 H3 q s3 r3 d3=>k _ _ _ _ _ q (s1.trans s3) r3 d3
theorem eH (ha:VT P0 ta ma):VT P0 (tCB (fun xs H Q=>∃ p ys,xs=[.ref p]∧(SqL K H p ys∨SqT K H p ys)∧Q (.int ys.length) H) (cZ ta tNil)) (mLen ma):=by
 refine vt_cb1 (m1:=fun x Q=>oQ (lenD x) Q) ha fun F Γ σ G H x d Q Qm r d1 m k=>?_;obtain⟨u,hu,q⟩:=oQ_out m;unfold lenD at hu
 split at hu
 ·cases hu
  cases d1 with
  | @tup p xs _ hp rs=>exact⟨p,xs,rfl,.inr (SqT.of (r.fr.sub _ _ hp)),by rw[rs.len]; exact k _ _ _ _ q (Same.refl _) r (.int _)⟩
 ·cases hu
  cases d1 with
  | @lst p xs _ hp rs=>exact⟨p,xs,rfl,.inl (SqL.of (r.fr.sub _ _ hp)),by rw[rs.len]; exact k _ _ _ _ q (Same.refl _) r (.int _)⟩
 ·cases hu
def mAbs (ma:ME):ME:=fun Γ Q=>ma Γ fun x Γ1=>match x with
 | .int i=>Q (.int (if i<0 then -i else i)) Γ1
 | _=>False
theorem vt_abs (ha:VT P0 ta ma):VT P0 (tCB (fun xs H Q=>∃ i,xs=[.int i]∧Q (.int (if i<0 then -i else i)) H) (cZ ta tNil)) (mAbs ma):=by
 refine vt_cb1 (m1:=fun x Q=>match x with|.int i=>Q (.int (if i<0 then -i else i))|_=>False) ha fun F Γ σ G H x d Q Qm r d1 m k=>?_
 split at m
 ·cases d1
  exact⟨_,rfl,k _ _ _ _ m (Same.refl _) r (.int _)⟩
 ·exact m.elim
theorem vo_listOf (ha:VT P0 ta ma):VO P0 (tCB (fun xs H Q=>∃ p ys,xs=[.ref p]∧(SqL K H p ys∨SqT K H p ys)∧∀ l,H l=none→Q (.ref l) (upd H l (.lst ys))) (cZ ta tNil)) (mListOf ma):=by
 intro F Γ σ G H Q Qm r m k;refine ha F Γ σ G H _ _ r m fun d Γ1 x G1 H1 m1 s1 r1 d1=>?_
 split at m1
 ·rename_i ds e
  cases d1<;>simp only[itemsD] at e<;>try (cases e)
  ·rename_i p xs hp rs
   refine⟨p,xs,rfl,.inr (SqT.of (r1.fr.sub _ _ hp)),fun l hl=>?_⟩;obtain⟨a,b,c⟩:=own_new r1 hl rs;exact k _ _ _ _ _ m1 s1 a b c
  ·rename_i p xs hp rs
   refine⟨p,xs,rfl,.inl (SqL.of (r1.fr.sub _ _ hp)),fun l hl=>?_⟩;obtain⟨a,b,c⟩:=own_new r1 hl rs;exact k _ _ _ _ _ m1 s1 a b c
 ·exact m1.elim
theorem vp_no:VP P0 tNoPart pNo:=fun _ _ _ _ _ _ _ r m k=>k _ _ _ _ m (Same.refl _) r
theorem vp_so (ha:VT P0 ta ma):VP P0 (tPart ta) (pSo ma):=by
 intro F Γ σ G H Q Qm r m k;refine ha F Γ σ G H _ _ r m fun d Γ1 x G1 H1 m1 s1 r1 d1=>?_
 split at m1
 ·cases d1
  exact⟨_,rfl,k _ _ _ _ m1 s1 r1⟩
 ·exact m1.elim
theorem _root_.L2.Dts.cut {G:Hp}{vs:List V}{ds:List D}(h:Dts G vs ds)(lo hi:Option Int):Dts G (cutV vs lo hi) (cutD ds lo hi):=by
 unfold cutV cutD;rw[h.len];exact Dts.tak _ (Dts.drp _ h)
theorem vo_slL {tl th:TO}{ml mh:MP}(ha:VT P0 ta ma)(hl:VP P0 tl ml)(hh:VP P0 th mh):VO P0 (tSl (rSlL K) ta tl th) (mSlL ma ml mh):=by
 intro F Γ σ G H Q Qm r m k;refine ha F Γ σ G H _ _ r m fun d Γ1 x G1 H1 m1 s1 r1 d1=>?_;refine hl F Γ1 σ G1 H1 _ _ r1 m1 fun lo Γ2 G2 H2 m2 s2 r2=>?_;refine hh F Γ2 σ G2 H2 _ _ r2 m2 fun hi Γ3 G3 H3 m3 s3 r3=>?_
 split at m3
 ·have d1:=Dt.same (s2.trans s3) _ _ d1
  cases d1 with
  | @lst p xs _ hp rs=>
   refine⟨p,xs,rfl,SqL.of (r3.fr.sub _ _ hp),fun l hl=>?_⟩;obtain⟨a,b,c⟩:=own_new r3 hl (rs.cut lo hi);exact k _ _ _ _ _ m3 ((s1.trans s2).trans s3) a b c
 ·exact m3.elim
def spM (P0:Addr→Hp→Prop)(n:Nat)(f:Fm):Sp:=fun vs H Q _=>∃(F:Fra P0) (as:List Sl) (Qm:Rv→Prop),F.H0=H∧Rf F F.G0 H∧Paired (ArgOk F F.G0) vs as∧as.length=n∧f as Qm ∧
 ∀ rv r G' H',Qm rv→Rf F G' H'→RvO F G' H' r rv→Q r H'
def Fra.sub (F:Fra P0){G H:Hp}(r:Rf F G H):Fra P0 where
 H0:=H
 G0:=G
 pen:=F.pen
 stab:=fun p e H1 H2 h=>F.stab p e H1 H2 fun b o e=>let ⟨o',e'⟩:=r.dom e; h b o' e'
 pin:=F.pin
 pin0:=fun p e=>F.pin p e H (r.pn p e)
 pg:=fun p e=>by
  obtain⟨o,e0⟩:=F.pin0 p e;rw[r.g0 p o e0];exact F.pg p e
theorem Fra.subRf (F:Fra P0){G H:Hp}(r:Rf F G H):Rf (F.sub r) G H:=⟨r.sub,fun _ _ _=>rfl,fun _ _ e _=>e,r.pn⟩
theorem Rf.back {F:Fra P0}{G H G' H':Hp}(r:Rf F G H)(h:Rf (F.sub r) G' H'):Rf F G' H'∧Same G G':=by
 refine⟨⟨h.sub,fun b o e=>?_,fun b o e hb=>?_,h.pn⟩,fun b o e=>?_⟩
 ·obtain⟨o',e'⟩:=r.dom e;exact(h.g0 b o' e').trans (r.g0 b o e)
 ·exact h.h0 b o (r.h0 b o e hb) hb
 ·exact(h.g0 b o (r.sub b o e)).trans e
theorem Fra.pen_ne (F:Fra P0){p:Addr}(h:F.H0 p=none):F.pen≠some p:=fun e=>by
 obtain⟨o,e0⟩:=F.pin0 p e;rw[h] at e0; cases e0
theorem R.after {F:Fra P0}{Γ:En}{σ:St}{G H G' H':Hp}(r:R F Γ σ G H)(h:Rf (F.sub r.fr) G' H'):R F Γ σ G' H'∧Same G G':=by
 obtain⟨a,b⟩:=r.fr.back h;refine⟨r.keep a b fun p u _ e1 e2 e3=>⟨(h.g0 p _ e3).trans e2,h.h0 p _ e3 (F.pen_ne e1)⟩,b⟩
theorem aN {n:Nat}{f:Fm}{t:TA}{m:MA}{E:XK}(h:VA P0 t m):VO P0 (tCall (spM P0 n f) [] E t) (bO n f m):=by
 intro F Γ σ G H Q Qm r hm k;refine h F Γ σ G H _ _ r hm fun as Γ1 rs G1 H1 m1 s1 r1 d1=>?_;refine⟨F.sub r1.fr,as,fun rv=>Qm rv Γ1,rfl,F.subRf r1.fr,?_,m1.1,m1.2,fun rv v G2 H2 q f2 v2=>?_⟩
 ·rw[List.append_nil];exact Paired.imp' (fun a s h=>by cases s<;>exact h) d1
 ·obtain⟨r2,s2⟩:=r1.after f2;refine k _ _ _ _ _ q (s1.trans s2) r2 ?_ ?_
  ·cases rv with
   | val d=>exact v2
   | own ds=>
    obtain⟨p,vs,e,e1,e2,e3,e4⟩:=v2;exact⟨p,vs,e,r1.fr.fresh e1,e2,e3,e4⟩
   | box B=>
    obtain⟨fp,e1,e2⟩:=v2;exact⟨fp,e1,fun b hb=>⟨r1.fr.fresh (e2 b hb).1,(e2 b hb).2⟩⟩
  ·have kp:∀ b o,F.H0 b=none→G1 b=none→H1 b=some o→G2 b=none∧H2 b=some o:=fun b o h1 h2 h3=>⟨(f2.g0 b _ h3).trans h2,f2.h0 b _ h3 (F.pen_ne h1)⟩
   cases rv with
   | val d=>trivial
   | own ds=>
    obtain⟨p,vs,rfl,e1,e2,e3,e4⟩:=v2;exact Apart.new r1 e1 s2 kp
   | box B=>
    obtain⟨fp,e1,e2⟩:=v2;exact Apart.newB r1 (fun f hf b hb=>by rw[B.uniq hf e1] at hb; exact(e2 b hb).1) s2 kp
end
end
section
variable {P0:Addr→Hp→Prop}{A:Nat→Bool}
def gN (i:Nat):MG:=fun d Γ Q=>Q (Γ.set i (.val d))
def gsNil:MGs:=fun ds Γ Q=>match ds with
 | []=>Q Γ
 | _=>False
def gsCons (g:MG)(gs:MGs):MGs:=fun ds Γ Q=>match ds with
 | d::r=>g d Γ fun Γ1=>gs r Γ1 Q
 | []=>False
def gT (n:Nat)(gs:MGs):MG:=fun d Γ Q=>match d with
 | .tuple ds=>ds.length=n∧gs ds Γ Q
 | _=>False
theorem set_off {i:Nat}{v:Option V}{σ:St}(hA:A i=true):∀ j,A j=false→(σ.set i v)[j]?=σ[j]?:=fun j hj=>List.getElem?_set_ne (fun z=>by rw[z,hj] at hA; cases hA)
theorem cR {i:Nat}(hA:A i=true:=by rfl):VG P0 A (gName i) (gN i):=fun _ _ _ _ _ _ _ _ _ r h m k=>k _ _ m (r.setV h) (set_off hA)
theorem vgs_nil:VGs P0 A gNil gsNil:=by
 intro F Γ σ G H vs ds Q Qm r h m k
 cases h with
 | nil=>exact⟨rfl,k _ _ m r fun _ _=>rfl⟩
 | cons _ _=>exact m.elim
theorem vgs_cons {g:TG}{gs:TGs}{m:MG}{ms:MGs}(h1:VG P0 A g m)(h2:VGs P0 A gs ms):VGs P0 A (gCons g gs) (gsCons m ms):=by
 intro F Γ σ G H vs ds Q Qm r h hm k
 cases h with
 | nil=>exact hm.elim
 | cons a b=>exact⟨_,_,rfl,h1 F Γ σ G H _ _ _ _ r a hm fun Γ1 σ1 m1 r1 e1=>h2 F Γ1 σ1 G H _ _ _ _ r1 b m1 fun Γ2 σ2 m2 r2 e2=>k _ _ m2 r2 fun i hi=>(e2 i hi).trans (e1 i hi)⟩
theorem vg_tup {K:Fg}{n:Nat}{gs:TGs}{ms:MGs}(h:VGs P0 A gs ms):VG P0 A (gTup K n gs) (gT n ms):=by
 intro F Γ σ G H v d Q Qm r hd m k;unfold gT at m
 split at m
 ·cases hd with
  | @tup p xs _ hp rs=>exact⟨p,xs,rfl,SqT.of (r.fr.sub _ _ hp),by rw[rs.len]; exact m.1,h F Γ σ G H _ _ _ _ r rs m.2 k⟩
 ·exact m.elim
def Walk (P0:Addr→Hp→Prop)(J:It)(G0:Hp)(ds:List D):Prop:=∀(F:Fra P0) (Γ:En) (σ:St) (G H:Hp),Same G0 G→R F Γ σ G H →
 (∀ i d,ds[i]?=some d→J.go i H∧∀ x H',J.yld i H x H'→∃ G',Same G G'∧R F Γ σ G' H'∧Dt G' x d)∧J.stop ds.length H
def VI (P0:Addr→Hp→Prop)(wi:TI)(m:MD):Prop:=∀(F:Fra P0) (Γ:En) (σ:St) (G H:Hp) (Q:It→Hp→Prop) (Qm:List D→En→Prop),R F Γ σ G H→m Γ Qm →
 (∀ ds Γ' J G' H',Qm ds Γ'→Same G G'→R F Γ' σ G' H'→Walk P0 J G' ds→Q J H')→wi σ H Q
def mItL (ma:ME):MD:=fun Γ Q=>ma Γ fun x Γ1=>match x with
 | .list ds=>Q ds Γ1
 | _=>False
def mItT (ma:ME):MD:=fun Γ Q=>ma Γ fun x Γ1=>match x with
 | .tuple ds=>Q ds Γ1
 | _=>False
def rangeD (lo:Int)(n:Nat):List D:=(List.range n).map fun(k:Nat)=>PyData.int (lo+k)
def mRng1 (md:MD):MD:=fun Γ Q=>md Γ fun ds Γ1=>match ds with
 | [.int j] => -(2^62)≤j∧j<2^62∧Q (rangeD 0 j.toNat) Γ1
 | _=>False
theorem vi_list {K:Fg}{ta:TE}{ma:ME}(ha:VT P0 ta ma):VI P0 (iList K ta) (mItL ma):=by
 intro F Γ σ G H Q Qm r m k;refine ha F Γ σ G H _ _ r m fun d Γ1 x G1 H1 m1 s1 r1 d1=>?_
 split at m1
 ·cases d1 with
  | @lst p xs ds hp rs=>
   refine⟨p,rfl,⟨xs,SqL.of (r1.fr.sub _ _ hp)⟩,k _ _ _ _ _ m1 s1 r1 fun F2 Γ2 σ2 G2 H2 s2 r2=>⟨fun i d e=>?_,?_⟩⟩
   ·have hq:H2 p=some (.lst xs):=r2.fr.sub _ _ (s2 _ _ hp);obtain⟨v,ev,dv⟩:=Dts.get rs e;refine⟨⟨xs,v,SqL.of hq,ev⟩,fun y H3 hy=>⟨G2,Same.refl _,?_⟩⟩;obtain⟨rfl,hy⟩:=hy;have:=hy xs (SqL.of hq);rw[ev] at this
    cases this
    exact⟨r2,Dt.same s2 _ _ dv⟩
   ·exact⟨xs,SqL.of (r2.fr.sub _ _ (s2 _ _ hp)),by rw[rs.len]; exact Nat.le_refl _⟩
 ·exact m1.elim
theorem vi_tup {K:Fg}{ta:TE}{ma:ME}(ha:VT P0 ta ma):VI P0 (iTup K ta) (mItT ma):=by
 intro F Γ σ G H Q Qm r m k;refine ha F Γ σ G H _ _ r m fun d Γ1 x G1 H1 m1 s1 r1 d1=>?_
 split at m1
 ·cases d1 with
  | @tup p xs ds hp rs=>
   refine⟨p,rfl,⟨xs,SqT.of (r1.fr.sub _ _ hp)⟩,k _ _ _ _ _ m1 s1 r1 fun F2 Γ2 σ2 G2 H2 s2 r2=>⟨fun i d e=>?_,?_⟩⟩
   ·have hq:H2 p=some (.tup xs):=r2.fr.sub _ _ (s2 _ _ hp);obtain⟨v,ev,dv⟩:=Dts.get rs e;refine⟨⟨xs,v,SqT.of hq,ev⟩,fun y H3 hy=>⟨G2,Same.refl _,?_⟩⟩;obtain⟨rfl,hy⟩:=hy;have:=hy xs (SqT.of hq);rw[ev] at this
    cases this
    exact⟨r2,Dt.same s2 _ _ dv⟩
   ·exact⟨xs,SqT.of (r2.fr.sub _ _ (s2 _ _ hp)),by rw[rs.len]; exact Nat.le_refl _⟩
 ·exact m1.elim
theorem walk_range {G:Hp}(lo:Int)(n:Nat):Walk P0 (Itr lo n) G (rangeD lo n):=by
 intro F Γ σ G2 H2 _ r;have hl:(rangeD lo n).length=n:=by simp[rangeD]
 refine⟨fun i d e=>?_,by rw[hl]; exact Nat.le_refl _⟩;have hi:i<n:=by have:=(List.getElem?_eq_some_iff.mp e).1; omega
 refine⟨hi,fun x H' hy=>?_⟩;obtain⟨rfl,rfl⟩:=hy;refine⟨G2,Same.refl _,r,?_⟩;unfold rangeD at e;rw[List.getElem?_map,List.getElem?_range hi] at e
 cases e
 exact .int _
theorem vi_rng1 {t:TA}{md:MD}(h:VD P0 t md):VI P0 (iRng1 t) (mRng1 md):=by
 intro F Γ σ G H Q Qm r m k;refine h F Γ σ G H _ _ r m fun ds Γ1 xs G1 H1 m1 s1 r1 d1=>?_
 split at m1
 ·rename_i j
  cases d1 with
  | cons a b=>
   cases a; cases b
   exact⟨j,rfl,m1.1,m1.2.1,k _ _ _ _ _ m1.2.2 s1 r1 (walk_range _ _)⟩
 ·exact m1.elim
def mNx:MS:=fun Γ Q=>Q (.nx Γ)
def dU (a b:MS):MS:=fun Γ Q=>a Γ fun fl=>match fl with
 | .nx Γ1=>b Γ1 Q
 | fl=>Q fl
def mDrop (m:ME):MS:=fun Γ Q=>m Γ fun _ Γ1=>Q (.nx Γ1)
def mSet (i:Nat)(m:MO):MS:=fun Γ Q=>m Γ fun rv Γ1=>Q (.nx (Γ1.set i rv.sl))
def mPar (i j:Nat)(m:MD):MS:=fun Γ Q=>m Γ fun ds Γ1=>match ds with
 | [d,e]=>Q (.nx ((Γ1.set i (.val d)).set j (.val e)))
 | _=>False
def mRet (m:MO):MS:=fun Γ Q=>m Γ fun rv _=>Q (.rt rv)
def mIf (c:MT)(a b:MS):MS:=fun Γ Q=>c Γ fun k Γ1=>if k=true then a Γ1 Q else b Γ1 Q
def mNever:MS:=fun _ _=>False
def forL (g:MG)(b:MS):List D→En→(Fl→Prop)→Prop
 | [],Γ,Q=>Q (.nx Γ)
 | d::ds,Γ,Q=>g d Γ fun Γ1=>b Γ1 fun fl=>match fl with
  | .nx Γ2=>forL g b ds Γ2 Q
  | .ct Γ2=>forL g b ds Γ2 Q
  | .bk Γ2=>Q (.nx Γ2)
  | .rt rv=>Q (.rt rv)
def mFor (mi:MD)(g:MG)(b:MS):MS:=fun Γ Q=>mi Γ fun ds Γ1=>forL g b ds Γ1 Q
def mWhile (c:MT)(b:MS):MS:=fun Γ Q=>∃ W:Nat→En→Prop,(∃ n,W n Γ)∧∀ n Γ,W n Γ→c Γ fun k Γ1=>if k=true then b Γ1 fun fl=>match fl with
  | .nx Γ2=>∃ n',n'<n∧W n' Γ2
  | .ct Γ2=>∃ n',n'<n∧W n' Γ2
  | .bk Γ2=>Q (.nx Γ2)
  | .rt rv=>Q (.rt rv)
 else Q (.nx Γ1)
def mAppend (i:Nat)(m:ME):MS:=fun Γ Q=>match Γ[i]? with
 | some (.own _)=>m Γ fun d Γ1=>match Γ1[i]? with
  | some (.own ds)=>ds.length<1000∧Q (.nx (Γ1.set i (.own (ds++[d]))))
  | _=>False
 | _=>False
def mPubS (i:Nat)(m:MS):MS:=fun Γ Q=>match Γ[i]? with
 | some (.own ds)=>m (Γ.set i (.val (.list ds))) Q
 | _=>m Γ Q
theorem dH:VSA P0 A tNext mNx:=fun _ _ _ _ _ _ _ r m k=>k _ m _ _ _ (Same.refl _) r fun _ _=>rfl
theorem vs_never:VSA P0 A tNever mNever:=fun _ _ _ _ _ _ _ _ m _=>m.elim
theorem aO {t u:TS}{a b:MS}(ha:VSA P0 A t a)(hb:VSA P0 A u b):VSA P0 A (tSeq t u) (dU a b):=by
 intro F Γ σ G H E Qm r m k;refine ha F Γ σ G H _ _ r m fun fl q=>?_
 cases fl with
 | nx Γ1=>exact fun σ1 G1 H1 s1 r1 e1=>hb F Γ1 σ1 G1 H1 E Qm r1 q fun fl q=>(k fl q).same s1 e1
 | rt rv=>exact k _ q
 | bk Γ1=>exact k _ q
 | ct Γ1=>exact k _ q
theorem vs_drop {t:TE}{m:ME}(h:VT P0 t m):VSA P0 A (tDrop t) (mDrop m):=by
 intro F Γ σ G H E Qm r hm k;exact h F Γ σ G H _ _ r hm fun d Γ1 x G1 H1 m1 s1 r1 d1=>k _ m1 _ _ _ s1 r1 fun _ _=>rfl
theorem bQ {i:Nat}{t:TE}{m:MO}(h:VO P0 t m)(hA:A i=true:=by rfl):VSA P0 A (tAsg t (gName i)) (mSet i m):=by
 intro F Γ σ G H E Qm r hm k;exact h F Γ σ G H _ _ r hm fun rv Γ1 x G1 H1 m1 s1 r1 d1 a1=>k _ m1 _ _ _ s1 (r1.set d1 a1) (set_off hA)
theorem vs_par {i j:Nat}{t:TA}{m:MD}(h:VD P0 t m)(hA:A i=true:=by rfl)(hB:A j=true:=by rfl):VSA P0 A (tPar i j t) (mPar i j m):=by
 intro F Γ σ G H E Qm r hm k;refine h F Γ σ G H _ _ r hm fun ds Γ1 x G1 H1 m1 s1 r1 d1=>?_
 split at m1
 ·cases d1 with
  | cons a b=>
   cases b with
   | cons b c=>
    cases c
    exact⟨_,_,rfl,k _ m1 _ _ _ s1 ((r1.setV a).setV b) fun q hq=>(set_off hB q hq).trans (set_off hA q hq)⟩
 ·exact m1.elim
theorem b7 {t:TE}{m:MO}(h:VO P0 t m):VSA P0 A (tRet t) (mRet m):=by
 intro F Γ σ G H E Qm r hm k;exact h F Γ σ G H _ _ r hm fun rv Γ1 x G1 H1 m1 s1 r1 d1 _=>k _ m1 _ _ _ s1 r1.fr d1
theorem cY {c:TT}{t u:TS}{mc:MT}{a b:MS}(hc:VTT P0 c mc)(ha:VSA P0 A t a)(hb:VSA P0 A u b):VSA P0 A (tIfS c t u) (mIf mc a b):=by
 intro F Γ σ G H E Qm r m k;refine hc F Γ σ G H _ _ r m fun k1 Γ1 G1 H1 m1 s1 r1=>?_
 cases k1 with
 | true=>exact iteT (ha F Γ1 σ G1 H1 E Qm r1 m1 fun fl q=>(k fl q).same s1 fun _ _=>rfl)
 | false=>exact iteF (hb F Γ1 σ G1 H1 E Qm r1 m1 fun fl q=>(k fl q).same s1 fun _ _=>rfl)
theorem vs_while {c:TT}{t:TS}{mc:MT}{b:MS}(hc:VTT P0 c mc)(hb:VSA P0 A t b):VSA P0 A (tWhile c t) (mWhile mc b):=by
 intro F Γ σ G H E Qm r m k;obtain⟨W,⟨n0,w0⟩,turn⟩:=m;refine⟨fun n σ1 H1=>∃ Γ1 G1,Same G G1∧R F Γ1 σ1 G1 H1∧W n Γ1∧∀ i,A i=false→σ1[i]?=σ[i]?,⟨n0,Γ,G,Same.refl _,r,w0,fun _ _=>rfl⟩,?_⟩;rintro n σ1 H1 ⟨Γ1,G1,s1,r1,w1,e1⟩;refine hc F Γ1 σ1 G1 H1 _ _ r1 (turn n Γ1 w1) fun k2 Γ2 G2 H2 m2 s2 r2=>?_
 cases k2 with
 | true=>
  refine iteT ⟨_,fun _ _ h=>h,?_⟩;refine hb F Γ2 σ1 G2 H2 _ _ r2 m2 fun fl q=>?_
  cases fl with
  | nx Γ3=>
   obtain⟨n',hn,w3⟩:=q;exact fun σ3 G3 H3 s3 r3 e3=>⟨n',hn,Γ3,G3,(s1.trans s2).trans s3,r3,w3,fun i hi=>(e3 i hi).trans (e1 i hi)⟩
  | ct Γ3=>
   obtain⟨n',hn,w3⟩:=q;exact fun σ3 G3 H3 s3 r3 e3=>⟨n',hn,Γ3,G3,(s1.trans s2).trans s3,r3,w3,fun i hi=>(e3 i hi).trans (e1 i hi)⟩
  | bk Γ3=>exact fun σ3 G3 H3 s3 r3 e3=>k _ q _ _ _ ((s1.trans s2).trans s3) r3 fun i hi=>(e3 i hi).trans (e1 i hi)
  | rt rv=>exact fun v G3 H3 s3 r3=>k _ q _ _ _ ((s1.trans s2).trans s3) r3
 | false=>exact iteF (k _ m2 _ _ _ (s1.trans s2) r2 e1)
theorem vs_for {wi:TI}{g:TG}{t:TS}{mi:MD}{mg:MG}{b:MS}(hi:VI P0 wi mi)(hg:VG P0 A g mg)(hb:VSA P0 A t b):VSA P0 A (tFor wi g t) (mFor mi mg b):=by
 intro F Γ σ G H E Qm r m k;refine hi F Γ σ G H _ _ r m fun ds Γ1 J G1 H1 m1 s1 r1 wk=>?_;refine⟨fun i n σ2 H2=>n=ds.length-i∧i≤ds.length∧∃ Γ2 G2,Same G1 G2∧R F Γ2 σ2 G2 H2∧forL mg b (ds.drop i) Γ2 Qm∧∀ i,A i=false→σ2[i]?=σ[i]?,⟨ds.length,by simp,Nat.zero_le _,Γ1,G1,Same.refl _,r1,m1,fun _ _=>rfl⟩,?_⟩;rintro i n σ2 H2 ⟨rfl,hle,Γ2,G2,s2,r2,m2,e2⟩;obtain⟨go,stop⟩:=wk F Γ2 σ2 G2 H2 s2 r2
 by_cases hlt:i<ds.length
 ·refine .inr ⟨(go i ds[i] (by simp[hlt])).1,fun σ' H'=>ds.length-(i+1)<ds.length-i∧i+1≤ds.length∧∃ Γ3 G3,Same G1 G3∧R F Γ3 σ' G3 H'∧forL mg b (ds.drop (i+1)) Γ3 Qm∧∀ i,A i=false→σ'[i]?=σ[i]?,fun σ' H' h=>⟨_,h.1,rfl,h.2⟩,fun x H' hy=>?_⟩;obtain⟨G3,s3,r3,d3⟩:=(go i ds[i] (by simp[hlt])).2 x H' hy;rw[List.drop_eq_getElem_cons hlt] at m2;refine hg F Γ2 σ2 G3 H' x _ _ _ r3 d3 m2 fun Γ4 σ4 m4 r4 e4=>?_;refine hb F Γ4 σ4 G3 H' _ _ r4 m4 fun fl q=>?_
  cases fl with
  | nx Γ5=>exact fun σ5 G5 H5 s5 r5 e5=>⟨by omega,hlt,Γ5,G5,(s2.trans s3).trans s5,r5,q,fun i hi=>((e5 i hi).trans (e4 i hi)).trans (e2 i hi)⟩
  | ct Γ5=>exact fun σ5 G5 H5 s5 r5 e5=>⟨by omega,hlt,Γ5,G5,(s2.trans s3).trans s5,r5,q,fun i hi=>((e5 i hi).trans (e4 i hi)).trans (e2 i hi)⟩
  | bk Γ5=>exact fun σ5 G5 H5 s5 r5 e5=>k _ q _ _ _ ((s1.trans s2).trans (s3.trans s5)) r5 fun i hi=>((e5 i hi).trans (e4 i hi)).trans (e2 i hi)
  | rt rv=>exact fun v G5 H5 s5 r5=>k _ q _ _ _ ((s1.trans s2).trans (s3.trans s5)) r5
 ·have e:i=ds.length:=by omega
  subst e;rw[List.drop_length] at m2;exact .inl ⟨stop,k _ m2 _ _ _ (s1.trans s2) r2 e2⟩
theorem vs_append {K:Fg}{i:Nat}{t:TE}{m:ME}(h:VT P0 t m):VSA P0 A (tDrop (tBM K "list" rAppend (tVar i) (cZ t tNil))) (mAppend i m):=by
 intro F Γ σ G H E Qm r hm k;unfold mAppend at hm
 split at hm
 ·rename_i ds0 e0
  obtain⟨p,vs,e1,e2,e3,e4,e5⟩:=r.sl i _ e0;refine⟨_,e1,.inl ⟨rfl,_,SqL.of e4⟩,?_⟩;refine h F Γ σ G H _ _ r hm fun d Γ1 x G1 H1 m1 s1 r1 d1=>?_
  split at m1
  ·rename_i ds e
   obtain⟨p',ws,f1,f2,f3,f4,f5⟩:=r1.sl i _ e;rw[e1] at f1; cases f1;refine⟨p,ws,x,rfl,rfl,f4,small1000 (by rw[f5.len]; exact Nat.le_of_lt m1.1),?_⟩;exact k _ m1.2 _ _ _ s1 (r1.write e e1 (f5.app (.cons d1 .nil))) fun _ _=>rfl
  ·exact m1.elim
 ·exact hm.elim
theorem R.pub1 {F:Fra P0}{Γ:En}{σ:St}{G H:Hp}(r:R F Γ σ G H){i:Nat}{ds:List D}(e:Γ[i]?=some (.own ds)):∃ G',Same G G'∧R F (Γ.set i (.val (.list ds))) σ G' H:=by
 obtain⟨p,vs,e1,e2,e3,e4,e5⟩:=r.sl i _ e;have hap:Apart F (Γ.set i .no) σ G H (.ref p) (.own ds):=fun j s fp ej hj q eq hq=>by
  cases eq
  by_cases hji:i=j
  ·subst hji;have hi:i<Γ.length:=(List.getElem?_eq_some_iff.mp e).1;rw[List.getElem?_set_self hi] at ej
   cases ej
   rw[show fp=[] from hj] at hq; cases hq
  ·rw[List.getElem?_set_ne hji] at ej;exact r.apart hji e ej (fp:=[p]) ⟨p,vs,rfl,e1,e2,e3,e4,e5⟩ hj p (List.mem_singleton.mpr rfl) hq
 obtain⟨G',s,r',d'⟩:=(r.drop i).give (ds:=ds) ⟨p,vs,rfl,e2,e3,e4,e5⟩ hap;refine⟨G',s,?_⟩;have q:=r'.setV (i:=i) d';rw[List.set_set] at q;have hs:σ.set i (some (.ref p))=σ:=by
  apply List.ext_getElem?;intro j
  by_cases hj:i=j
  ·subst hj;have hi:i<σ.length:=(List.getElem?_eq_some_iff.mp e1).1;rw[List.getElem?_set_self hi,e1]
  ·rw[List.getElem?_set_ne hj]
 rw[hs] at q;exact q
theorem vs_pub {i:Nat}{t:TS}{m:MS}(h:VSA P0 A t m):VSA P0 A t (mPubS i m):=by
 intro F Γ σ G H E Qm r hm k;unfold mPubS at hm
 split at hm
 ·rename_i ds e
  obtain⟨G',s,r'⟩:=r.pub1 e;exact h F _ σ G' H E Qm r' hm fun fl q=>(k fl q).same s fun _ _=>rfl
 ·exact h F Γ σ G H E Qm r hm k
def mFn (n:Nat)(b:MS):Fm:=fun as Q=>b (as++List.replicate n .no) fun fl=>match fl with
 | .rt rv=>Q rv
 | .nx _=>Q (.val .none)
 | _=>False
theorem fn_start {n k:Nat}{N:List Str}{t:TS}{b:MS}(h:VS P0 t b)(hN:N.length=n+k){vs:List V}{H:Hp}{Q:VK}{E:XK}(hs:spM P0 n (mFn k b) vs H Q E) :
  t { nx:=fun _ H'=>Q .non H',rt:=Q } (start N vs) H:=by
 obtain⟨F,as,Qm,rfl,rf,pr,hl,hm,q⟩:=hs;have hlen:vs.length=as.length:=Paired.length pr;have get:∀{vs:List V} {as:List Sl} {i:Nat} {s:Sl},Paired (ArgOk F F.G0) vs as→as[i]?=some s→∃ v,vs[i]?=some v∧ArgOk F F.G0 v s:=by
  intro vs as i s pr
  induction pr generalizing i with
  | nil=>intro e; simp at e
  | cons a b ih=>
   cases i with
   | zero=>intro e; simp at e; subst e; exact⟨_,rfl,a⟩
   | succ i=>intro e; simpa using ih (i:=i) (by simpa using e)
 have at_:∀{i:Nat} {s:Sl},(as++List.replicate k Sl.no)[i]?=some s→s≠.no→∃ v,(start N vs)[i]?=some (some v)∧ArgOk F F.G0 v s:=by
  intro i s e hne
  by_cases hi:i<as.length
  ·rw[List.getElem?_append_left hi] at e;obtain⟨v,ev,av⟩:=get pr e;refine⟨v,?_,av⟩;unfold start;rw[List.getElem?_append_left (by rw[List.length_map]; omega),List.getElem?_map,ev];rfl
  ·rw[List.getElem?_append_right (by omega),List.getElem?_replicate] at e
   split at e
   ·cases e; exact absurd rfl hne
   ·cases e
 have r:R F (as++List.replicate k .no) (start N vs) F.G0 F.H0:=by
  refine R.of rf ?_ (fun i s e=>?_) (fun i B e=>?_) (fun i j x y _ e _=>?_)
  ·unfold start;simp only[List.length_append,List.length_replicate,List.length_map];omega
  ·cases s with
   | no=>trivial
   | val d=>
    obtain⟨v,ev,av⟩:=at_ e (by intro z; cases z)
    exact⟨v,ev,av⟩
   | own ds=>
    obtain⟨v,ev,av⟩:=at_ e (by intro z; cases z)
    exact av.elim
   | pen=>
    obtain⟨v,ev,p,rfl,ep⟩:=at_ e (by intro z; cases z)
    exact⟨p,ev,ep⟩
   | con q=>
    obtain⟨v,ev,av⟩:=at_ e (by intro z; cases z)
    have av:v=.ref q:=av;rw[av] at ev;exact ev
   | pub B=>
    obtain⟨v,ev,av⟩:=at_ e (by intro z; cases z)
    exact⟨v,ev,av⟩
   | box B=>
    obtain⟨v,ev,av⟩:=at_ e (by intro z; cases z)
    exact av.elim
  ·obtain⟨v,ev,av⟩:=at_ e (by intro z; cases z)
   exact av.elim
  ·obtain⟨v,ev,av⟩:=at_ e (by intro z; cases z)
   exact av.elim
 refine h F _ _ _ _ _ _ r hm fun fl hq=>?_
 cases fl with
 | nx Γ=>exact fun σ G' H' _ r' _=>q _ _ _ _ hq r'.fr .non
 | rt rv=>exact fun v G' H' _ f' v'=>q _ _ _ _ hq f' v'
 | bk Γ=>exact hq.elim
 | ct Γ=>exact hq.elim
theorem spM_len {n:Nat}{f:Fm}{ps:List Str}(h:ps.length=n):∀ vs H Q E,spM P0 n f vs H Q E→vs.length=ps.length:=by
 rintro vs H Q E ⟨F,as,Qm,_,_,pr,hl,_⟩;rw[Paired.length pr,hl,h]
theorem _root_.L2.Fun.okV {P:Program}{w:World}{K:Fg}{mg:Mg}{base:Heap}{x qual:Str}{st:Stmt}{f:Addr}{fd:FuncData}{N ps:List Str}{k n j:Nat}{b:MS}
  (F:Fun K x qual st f fd) (S:FnScope N ps (aK st)) (hn:ps.length=n) (hN:N.length=n+j)
  (hbody:∀(cdv:Value) (A:Around) (outer:List Env) (s:Shared) (H:Hp) (E:XK),Room k (A.deeper (envOfC qual (aK st) s.heap.objs.size f cdv)) →
   SsX P0 (cxOf CX0 P w K mg base N qual (aK st) f cdv A outer s H E).nox (defBody st) b):FnOk P w K mg base CX0 (k+1) f fd ps (spM P0 n (mFn j b)):=by
 refine F.ok S (spM_len hn) fun cdv A outer s H vs Q E hr hs=>?_;obtain⟨t,h1,h2⟩:=hbody cdv A outer s H E hr;exact⟨t,h1,fn_start h2 hN hs⟩
end
section
variable {P0:Addr→Hp→Prop}
def cO:D→String
 | .none => "NoneType"
 | .bool _ => "bool"
 | .int _ => "int"
 | .str _ => "str"
 | .list _ => "list"
 | .tuple _ => "tuple"
 | .dict _ => "dict"
def subT (a b:String):Bool:=a==b||(a == "bool" && b == "int")
def tyL:List String:=["NoneType", "bool", "int", "str", "list", "tuple", "dict"]
def Kit (K:Fg):Prop:=∀ a∈tyL,∀ b∈tyL,PySem.W.kitOne K (.type a) (.type b)=some (subT a b)
theorem Kit.mk' {K:Fg}(h:∀ a∈tyL,∀ b∈tyL,(a==b)=false→PySem.W.kitOne K (.type a) (.type b)=some (a == "bool" && b == "int")):Kit K:=by
 intro a ha b hb
 by_cases e:a=b
 ·subst e;rw[kit_same];simp[subT]
 ·have e':(a==b)=false:=by simpa using e
  rw[h a ha b hb e'];simp[subT,e']
theorem tyOf_of {K:Fg}{H:Hp}{x:V}{d:D}(h:Dt H x d):TyOf K H x (.type (cO d))∧cO d∈tyL:=by
 cases h with
 | non=>exact⟨.non,by simp[cO,tyL]⟩
 | bl b=>exact⟨.bl b,by simp[cO,tyL]⟩
 | int i=>exact⟨.int i,by simp[cO,tyL]⟩
 | str x=>exact⟨.str x,by simp[cO,tyL]⟩
 | tup hp _=>exact⟨.tup hp,by simp[cO,tyL]⟩
 | lst hp _=>exact⟨.lst hp,by simp[cO,tyL]⟩
 | dic hp _=>exact⟨hp.elim .dK fun⟨_,q⟩=>.fdK q,by simp[cO,tyL]⟩
def mIsi (n:String)(ma:ME):ME:=fun Γ Q=>ma Γ fun x Γ1=>Q (.bool (subT (cO x) n)) Γ1
theorem bK {K:Fg}{n:String}{ta:TE}{ma:ME}(hk:Kit K)(hn:n∈tyL)(ha:VT P0 ta ma):VT P0 (tCB (rIsi K) (cZ ta (cZ (tC (.ty n)) tNil))) (mIsi n ma):=by
 intro F Γ σ G H Q Qm r m k;refine ha F Γ σ G H _ _ r m fun d Γ1 x G1 H1 m1 s1 r1 d1=>?_;obtain⟨h1,h2⟩:=tyOf_of (K:=K) (Dt.same r1.fr.sub _ _ d1);exact⟨x,.ty n,.type n,_,_,rfl,rfl,h1,hk _ h2 _ hn,k _ _ _ _ _ m1 s1 r1 (.bl _)⟩
section
variable {X:Cx}
structure Goods (ds:List D):Prop where
 lay:PyData.canLayAll0 ds=true
 dep:PyData.depthAll ds≤59
def rInD (neg:Bool):R2:=fun x y H Q=>∃ dx ds,Dt H x dx∧(Dt H y (.list ds)∨Dt H y (.tuple ds))∧Good dx∧Goods ds∧Q (.bl (if neg then !(ds.any fun e=>PyData.eqv e dx) else ds.any fun e=>PyData.eqv e dx)) H
theorem roomI {u a b:Nat}(h:u+64<cLine)(ha:a≤59):u+1+min a b<cLine:=by
 have:min a b≤a:=Nat.min_le_left _ _;omega
theorem op_inD (hu:X.A.units+64<cLine):OpR X (compareOp .In) (rInD false):=by
 intro pins s σ H x y v u Q I rx ry h;obtain⟨dx,ds,ex,ey,gx,gs,q⟩:=h;obtain⟨as,r1⟩:=Dt.reads I.hok dx x v ex rx;rcases ey with ey|ey
 ·obtain⟨bs,r2⟩:=Dt.reads I.hok _ y u ey ry;exact SeqAt.in_list_reads r2 r1 gs.lay gx.lay (roomI hu gs.dep) ⟨.bl _,H,I,rfl,q⟩
 ·obtain⟨bs,r2⟩:=Dt.reads I.hok _ y u ey ry;exact SeqAt.in_tuple_reads r2 r1 gs.lay gx.lay (roomI hu gs.dep) ⟨.bl _,H,I,rfl,q⟩
def mIn (neg:Bool)(ma mb:ME):ME:=fun Γ Q=>ma Γ fun x Γ1=>mb Γ1 fun y Γ2=>match itemsD y with
 | some ds=>Good x∧Goods ds∧Q (.bool (if neg then !(ds.any fun e=>PyData.eqv e x) else ds.any fun e=>PyData.eqv e x)) Γ2
 | none=>False
theorem vt_in {neg:Bool}{ta tb:TE}{ma mb:ME}(ha:VT P0 ta ma)(hb:VT P0 tb mb):VT P0 (tOp (rInD neg) ta tb) (mIn neg ma mb):=by
 refine vt_2 (m2:=fun x y Q=>match itemsD y with|some ds=>Good x∧Goods ds∧Q (.bool (if neg then !(ds.any fun e=>PyData.eqv e x) else ds.any fun e=>PyData.eqv e x))|none=>False) ha hb fun F Γ σ G H x y d e Q Qm r d1 d2 m k=>?_
 split at m
 ·rename_i ds hds
  refine⟨d,ds,Dt.same r.fr.sub _ _ d1,?_,m.1,m.2.1,k _ _ _ _ m.2.2 (Same.refl _) r (.bl _)⟩;have d2:=Dt.same r.fr.sub _ _ d2
  cases d2<;>simp only[itemsD] at hds<;>try (cases hds)
  ·exact .inr (.tup (by assumption) (by assumption))
  ·exact .inl (.lst (by assumption) (by assumption))
 ·exact m.elim
end
def SameU (H H':Hp):Prop:=∀ b xs,H b=some (.tup xs)→H' b=some (.tup xs)∨∃ q vs,V.ref q∈xs∧H q=some (.lst vs)
theorem no_ref {H:Hp}{q:Addr}{vs:List V}(hq:H q=some (.lst vs)):∀(ds:List D) (xs:List V),noLsts ds=true→Dts H xs ds→V.ref q∉xs
 | [],xs,_,e,h=>by cases e; cases h
 | d::ds,xs,z,e,h=>by
  have z':noLst d=true∧noLsts ds=true:=by simpa [noLsts] using z
  cases e with
  | cons e1 e2=>
   rcases List.mem_cons.mp h with e|e
   ·subst e
    cases e1 with
    | tup hp _=>rw[hq] at hp; cases hp
    | lst hp _=>exact absurd z'.1 (by simp[noLst])
    | dic hp _=>exact absurd z'.1 (by simp[noLst])
   ·exact no_ref hq ds _ z'.2 e2 e
mutual
theorem Dt.sameU {H H':Hp}(g:SameU H H'):∀(d:PyData) (x:V),noLst d=true→Dt H x d→Dt H' x d
 | .none,_,_,e=>by cases e; exact .non
 | .bool _,_,_,e=>by cases e; exact .bl _
 | .int _,_,_,e=>by cases e; exact .int _
 | .str _,_,_,e=>by cases e; exact .str _
 | .list _,_,z,_=>absurd z (by simp[noLst])
 | .tuple ds,_,z,e=>by
  have z':noLsts ds=true:=by simpa [noLst] using z
  cases e with
  | tup hp rs=>
   rcases g _ _ hp with h|⟨q,vs,h1,h2⟩
   ·exact .tup h (Dts.sameU g ds _ z' rs)
   ·exact absurd h1 (no_ref h2 ds _ z' rs)
 | .dict _,_,z,_=>absurd z (by simp[noLst])
theorem Dts.sameU {H H':Hp}(g:SameU H H'):∀(ds:List PyData) (xs:List V),noLsts ds=true→Dts H xs ds→Dts H' xs ds
 | [],_,_,e=>by cases e; exact .nil
 | d::ds,_,z,e=>by
  have z':noLst d=true∧noLsts ds=true:=by simpa [noLsts] using z
  cases e with
  | cons e1 e2=>exact .cons (Dt.sameU g d _ z'.1 e1) (Dts.sameU g ds _ z'.2 e2)
end
def pubA:En→En:=List.map fun s=>match s with
 | .own ds=>.val (.list ds)
 | .box B=>match B.view with
  | some d=>.val d
  | none=>match B.pv with
   | some b=>.pub b
   | none=>.no
 | s=>s
def mPeekT (m:MT):MT:=fun Γ Q=>m (pubA Γ) fun b Γ1=>Γ1=pubA Γ∧Q b Γ
def OwnA (F:Fra P0)(Γ:En)(σ:St)(G H:Hp)(b:Addr):Prop:=∃(i:Nat) (s:Sl) (fp:List Addr),Γ[i]?=some s∧SlF F G H σ[i]? fp s∧b∈fp
section
variable {F:Fra P0}{Γ:En}{σ:St}{G H:Hp}
open Classical in
noncomputable def gPub (F:Fra P0)(Γ:En)(σ:St)(G H:Hp):Hp:=fun b=>if OwnA F Γ σ G H b then H b else G b
noncomputable def gBack (F:Fra P0)(Γ:En)(σ:St)(G H:Hp)(G1:Hp):Hp:=fun b=>open Classical in if OwnA F Γ σ G H b then none else G1 b
theorem OwnA.at {b:Addr}(h:OwnA F Γ σ G H b):F.H0 b=none∧G b=none∧∃ o,H b=some o:=by
 obtain⟨i,s,fp,_,e,hb⟩:=h;exact e.mine hb
theorem OwnA.tup {b:Addr}(h:OwnA F Γ σ G H b){xs:List V}(e:H b=some (.tup xs)):∃ q vs,V.ref q∈xs∧OwnA F Γ σ G H q∧H q=some (.lst vs):=by
 obtain⟨i,s,fp,e0,e1,hb⟩:=h
 cases s with
 | no=>rw[show fp=[] from e1] at hb; cases hb
 | val d=>rw[e1.1] at hb; cases hb
 | pen=>rw[e1.1] at hb; cases hb
 | con q=>rw[e1.1] at hb; cases hb
 | pub B=>rw[e1.1] at hb; cases hb
 | own ds=>
  obtain⟨p,vs,f0,_,_,_,f3,_⟩:=e1;rw[f0] at hb;rw[List.mem_singleton.mp hb,f3] at e
  cases e
 | box B=>
  have e1':=e1;obtain⟨v,_,h2,_⟩:=e1;obtain⟨q,q1,q2,vs,q3⟩:=B.nt h2 b hb xs e;exact⟨q,vs,q2,⟨i,_,fp,e0,e1',q1⟩,q3⟩
theorem R.pubAll (r:R F Γ σ G H):Same G (gPub F Γ σ G H)∧R F (pubA Γ) σ (gPub F Γ σ G H) H:=by
 have g:Same G (gPub F Γ σ G H):=fun b o e=>by
  unfold gPub
  by_cases h:OwnA F Γ σ G H b
  ·have:=h.at.2.1;rw[e] at this; cases this
  ·rw[if_neg h]; exact e
 have nob:∀(i:Nat) s,(pubA Γ)[i]?=some s→(∀ x,s≠.own x)∧∀ B,s≠.box B:=by
  intro i s e;unfold pubA at e;rw[List.getElem?_map] at e
  cases e0:Γ[i]? with
  | none=>rw[e0] at e; cases e
  | some s0=>
   rw[e0] at e
   cases s0 with
   | box B=>
    have e:(match B.view with|some d=>Sl.val d|none=>match B.pv with|some b=>Sl.pub b|none=>Sl.no)=s:=Option.some.inj e
    cases hv:B.view with
    | none=>
     cases hw:B.pv with
     | none=>rw[hv,hw] at e; subst e; exact⟨fun x z=>(nomatch z),fun x z=>(nomatch z)⟩
     | some b=>rw[hv,hw] at e; subst e; exact⟨fun x z=>(nomatch z),fun x z=>(nomatch z)⟩
    | some d=>rw[hv] at e; subst e; exact⟨fun x z=>(nomatch z),fun x z=>(nomatch z)⟩
   | _=>cases e; exact⟨fun x z=>(nomatch z),fun x z=>(nomatch z)⟩
 refine⟨g,R.of ⟨fun b o e=>?_,fun b o e=>?_,r.fr.h0,r.fr.pn⟩ ?_ (fun i s e=>?_) (fun i B e=>(nob i _ e).2 B rfl) (fun i j x y _ e=>((nob i _ e).1 x rfl).elim)⟩
 ·unfold gPub at e
  split at e
  ·exact e
  ·exact r.fr.sub b o e
 ·have h:¬OwnA F Γ σ G H b:=fun h=>by
   have:=h.at.1;rw[e] at this; cases this
  unfold gPub;rw[if_neg h];exact r.fr.g0 b o e
 ·unfold pubA;rw[List.length_map];exact r.len
 ·unfold pubA at e;rw[List.getElem?_map] at e
  cases e0:Γ[i]? with
  | none=>rw[e0] at e; cases e
  | some s0=>
   rw[e0] at e;have h:=r.sl i s0 e0
   cases s0 with
   | no=>cases e; trivial
   | val d=>cases e; obtain⟨v,e1,d1⟩:=h; exact⟨v,e1,Dt.same g _ _ d1⟩
   | own ds=>
    cases e
    obtain⟨p,vs,e1,e2,e3,e4,e5⟩:=h;refine⟨_,e1,.lst ?_ (Dts.same g _ _ e5)⟩;unfold gPub;rw[if_pos ⟨i,_,[p],e0,⟨p,vs,rfl,e1,e2,e3,e4,e5⟩,List.mem_singleton.mpr rfl⟩];exact e4
   | pen=>cases e; exact h
   | con q=>cases e; exact h
   | pub B=>cases e; obtain⟨v,e1,e2⟩:=h; exact⟨v,e1,B.mono g e2⟩
   | box B=>
    have e:(match B.view with|some d=>Sl.val d|none=>match B.pv with|some b=>Sl.pub b|none=>Sl.no)=s:=Option.some.inj e;obtain⟨v,fp,e1,e2,e3⟩:=h
    cases hv:B.view with
    | none=>
     cases hw:B.pv with
     | none=>rw[hv,hw] at e; subst e; trivial
     | some b0=>
      rw[hv,hw] at e;subst e;refine⟨v,e1,B.pok e2 hw g fun b hb=>?_⟩;unfold gPub;rw[if_pos ⟨i,_,fp,e0,⟨v,e1,e2,e3⟩,hb⟩]
    | some d=>
     rw[hv] at e;subst e;refine⟨v,e1,B.vok e2 hv g fun b hb=>?_⟩;unfold gPub;rw[if_pos ⟨i,_,fp,e0,⟨v,e1,e2,e3⟩,hb⟩]
theorem R.backG (r:R F Γ σ G H){G1 H1:Hp}(s:Same (gPub F Γ σ G H) G1)(f1:Rf F G1 H1) :
  (∀ b,OwnA F Γ σ G H b→G1 b=H b∧H1 b=H b)∧Same G (gBack F Γ σ G H G1)∧Rf F (gBack F Γ σ G H G1) H1∧SameU G1 (gBack F Γ σ G H G1):=by
 have s0:=(r.pubAll).1;have own:∀ b,OwnA F Γ σ G H b→G1 b=H b∧H1 b=H b:=fun b h=>by
  obtain⟨_,_,o,e⟩:=h.at;have q:gPub F Γ σ G H b=H b:=by unfold gPub; rw[if_pos h]
  rw[e] at q ⊢;exact⟨s b _ q,f1.sub b _ (s b _ q)⟩
 have g:Same G (gBack F Γ σ G H G1):=fun b o e=>by
  have h:¬OwnA F Γ σ G H b:=fun h=>by
   have:=h.at.2.1;rw[e] at this; cases this
  unfold gBack;rw[if_neg h];exact s b o (s0 b o e)
 refine⟨own,g,⟨fun b o e=>?_,fun b o e=>?_,f1.h0,f1.pn⟩,fun b xs e=>?_⟩
 ·unfold gBack at e
  split at e
  ·cases e
  ·exact f1.sub b o e
 ·have h:¬OwnA F Γ σ G H b:=fun h=>by
   have:=h.at.1;rw[e] at this; cases this
  unfold gBack;rw[if_neg h];exact f1.g0 b o e
 ·by_cases h:OwnA F Γ σ G H b
  ·have e':H b=some (.tup xs):=by rw[← (own b h).1]; exact e
   obtain⟨q,vs,q1,q2,q3⟩:=h.tup e';exact .inr ⟨q,vs,q1,by rw[(own q q2).1]; exact q3⟩
  ·refine .inl ?_;unfold gBack;rw[if_neg h];exact e
theorem gBack_own {G1:Hp}{b:Addr}(h:OwnA F Γ σ G H b):gBack F Γ σ G H G1 b=none:=by
 unfold gBack;rw[if_pos h]
theorem R.back (r:R F Γ σ G H){G' H':Hp}(s:Same (gPub F Γ σ G H) G')(r':R F (pubA Γ) σ G' H'):Same G (gBack F Γ σ G H G')∧R F Γ σ (gBack F Γ σ G H G') H'∧SameU G' (gBack F Γ σ G H G'):=by
 obtain⟨own,g,f,t⟩:=r.backG s r'.fr;obtain⟨fps,h1,h2⟩:=r.fps;refine⟨g,⟨f,r.len,fps,fun i sl e=>(h1 i sl e).go g fun b hb=>?_,h2⟩,t⟩;have ho:OwnA F Γ σ G H b:=⟨i,sl,fps i,e,h1 i sl e,hb⟩;exact⟨gBack_own ho,(own b ho).2⟩
end
theorem vtt_peek {t:TT}{m:MT}(h:VTT P0 t m):VTT P0 t (mPeekT m):=by
 intro F Γ σ G H Q Qm r hm k;obtain⟨s0,r0⟩:=r.pubAll;refine h F _ σ _ H _ _ r0 hm fun b Γ1 G1 H1 m1 s1 r1=>?_;obtain⟨rfl,q⟩:=m1;obtain⟨s2,r2,t2⟩:=r.back s1 r1;exact k _ _ _ _ q s2 r2
section
variable {ta tb:TE}{ma mb:ME}
abbrev mAdd:=mI0 fun i j=>PyData.int (i+j)
abbrev mSub:=mI0 fun i j=>PyData.int (i-j)
abbrev mMul:=mI IntMulOk fun i j=>PyData.int (i*j)
abbrev mDivX:=mI CDivX fun i j=>PyData.int (i.fdiv j)
abbrev mMod:=mI (fun _ j=>0<j) fun i j=>PyData.int (i%j)
abbrev mNeg:=mU fun i=>PyData.int (-i)
abbrev mLt:=mI0 fun i j=>PyData.bool (decide (i<j))
abbrev mGt:=mI0 fun i j=>PyData.bool (decide (j<i))
abbrev mGe:=mI0 fun i j=>PyData.bool (decide (j≤i))
theorem vt_add (ha:VT P0 ta ma)(hb:VT P0 tb mb):VT P0 (tOp (rI0 fun i j=>.int (i+j)) ta tb) (mAdd ma mb):=vt_i0 (fun _ _ _=>.int _) ha hb
theorem vt_sub (ha:VT P0 ta ma)(hb:VT P0 tb mb):VT P0 (tOp (rI0 fun i j=>.int (i-j)) ta tb) (mSub ma mb):=vt_i0 (fun _ _ _=>.int _) ha hb
theorem vt_mul (ha:VT P0 ta ma)(hb:VT P0 tb mb):VT P0 (tOp (rI IntMulOk fun i j=>.int (i*j)) ta tb) (mMul ma mb):=vt_i (fun _ _ _=>.int _) ha hb
theorem vt_divX (ha:VT P0 ta ma)(hb:VT P0 tb mb):VT P0 (tOp (rI CDivX fun i j=>.int (i.fdiv j)) ta tb) (mDivX ma mb):=vt_i (fun _ _ _=>.int _) ha hb
theorem vt_mod (ha:VT P0 ta ma)(hb:VT P0 tb mb):VT P0 (tOp (rI (fun _ j=>0<j) fun i j=>.int (i%j)) ta tb) (mMod ma mb):=vt_i (fun _ _ _=>.int _) ha hb
theorem vt_neg (ha:VT P0 ta ma):VT P0 (tUn (rU fun i=>.int (-i)) ta) (mNeg ma):=vt_u (fun _ _=>.int _) ha
theorem vt_lt (ha:VT P0 ta ma)(hb:VT P0 tb mb):VT P0 (tOp (rI0 fun i j=>.bl (decide (i<j))) ta tb) (mLt ma mb):=vt_i0 (fun _ _ _=>.bl _) ha hb
theorem vt_gt (ha:VT P0 ta ma)(hb:VT P0 tb mb):VT P0 (tOp (rI0 fun i j=>.bl (decide (j<i))) ta tb) (mGt ma mb):=vt_i0 (fun _ _ _=>.bl _) ha hb
theorem vt_ge (ha:VT P0 ta ma)(hb:VT P0 tb mb):VT P0 (tOp (rI0 fun i j=>.bl (decide (j≤i))) ta tb) (mGe ma mb):=vt_i0 (fun _ _ _=>.bl _) ha hb
theorem aM {i:Int}:VT P0 (tC (.int i)) (mC (.int i)):=vt_c fun _=>.int i
theorem vt_bl {b:Bool}:VT P0 (tC (.bl b)) (mC (.bool b)):=vt_c fun _=>.bl b
theorem cM {s:Str}:VT P0 (tC (.str s)) (mC (.str s)):=vt_c fun _=>.str s
theorem vt_non:VT P0 (tC .non) (mC .none):=vt_c fun _=>.non
end
end
section
def mTake:Fm:=fun as Q=>match as with
 | [.pen,.val (.int m)]=>0<m∧m<1073741824∧∀ r:Int,0≤r→r<m→Q (.val (.int r))
 | _=>False
def TrueEnd:Fl→Prop:=fun fl=>fl=.rt (.val (.bool true))
end
end L2.VS
namespace L2.VS
open PySem PySem.Spec PyProof.Rows LT
section
variable {Γ:En}{i j n:Nat}{d e x y:D}{ma mb:ME}{oa ob:MO}{ta tb:MT}{md:MD}{aa:MA}{sa sb:MS}{g:MG}{gs:MGs}{mp mq:MP}
theorem i_seq {Q:Fl→Prop}(h:sa Γ fun fl=>match fl with|.nx Γ1=>sb Γ1 Q|fl=>Q fl):dU sa sb Γ Q:=h
theorem i_nx {Q:Fl→Prop}(h:Q (.nx Γ)):mNx Γ Q:=h
theorem i_drop {Q:Fl→Prop}(h:ma Γ fun _ Γ1=>Q (.nx Γ1)):mDrop ma Γ Q:=h
theorem i_set {Q:Fl→Prop}(h:oa Γ fun rv Γ1=>Q (.nx (Γ1.set i rv.sl))):mSet i oa Γ Q:=h
theorem i_par {Q:Fl→Prop}(h:md Γ fun ds Γ1=>match ds with|[d,e]=>Q (.nx ((Γ1.set i (.val d)).set j (.val e)))|_=>False):mPar i j md Γ Q:=h
theorem i_ret {Q:Fl→Prop}(h:oa Γ fun rv _=>Q (.rt rv)):mRet oa Γ Q:=h
theorem i_if {Q:Fl→Prop}(h:ta Γ fun k Γ1=>if k=true then sa Γ1 Q else sb Γ1 Q):mIf ta sa sb Γ Q:=h
theorem i_for {Q:Fl→Prop}(h:md Γ fun ds Γ1=>forL g sa ds Γ1 Q):mFor md g sa Γ Q:=h
def appK (i:Nat)(d:D)(Γ1:En)(Q:Fl→Prop):Prop:=match Γ1[i]? with
 | some (.own ds)=>ds.length<1000∧Q (.nx (Γ1.set i (.own (ds++[d]))))
 | _=>False
theorem i_append {Q:Fl→Prop}{ds:List D}(h0:Γ[i]?=some (.own ds))(h:ma Γ fun d Γ1=>appK i d Γ1 Q):mAppend i ma Γ Q:=by
 unfold mAppend;rw[h0];exact h
theorem i_appK {Q:Fl→Prop}{Γ1:En}{ds:List D}(h0:Γ1[i]?=some (.own ds))(h1:ds.length<1000)(h:Q (.nx (Γ1.set i (.own (ds++[d]))))):appK i d Γ1 Q:=by
 unfold appK;rw[h0];exact⟨h1,h⟩
theorem i_pubS {Q:Fl→Prop}{ds:List D}(h0:Γ[i]?=some (.own ds))(h:sa (Γ.set i (.val (.list ds))) Q):mPubS i sa Γ Q:=by
 unfold mPubS;rw[h0];exact h
theorem i_c {Q:D→En→Prop}(h:Q d Γ):mC d Γ Q:=h
theorem i_var {Q:D→En→Prop}(h0:Γ[i]?=some (.val d))(h:Q d Γ):bF i Γ Q:=by
 unfold bF;rw[h0];exact h
theorem i_I0 {f:Int→Int→D}{Q:D→En→Prop}(h:ma Γ fun x Γ1=>mb Γ1 fun y Γ2=>match x,y with|.int i,.int j=>Q (f i j) Γ2|_,_=>False):mI0 f ma mb Γ Q:=h
theorem i_I {C:Int→Int→Prop}{f:Int→Int→D}{Q:D→En→Prop}(h:ma Γ fun x Γ1=>mb Γ1 fun y Γ2=>match x,y with|.int i,.int j=>C i j∧Q (f i j) Γ2|_,_=>False):mI C f ma mb Γ Q:=h
theorem i_U {f:Int→D}{Q:D→En→Prop}(h:ma Γ fun x Γ1=>match x with|.int i=>Q (f i) Γ1|_=>False):mU f ma Γ Q:=h
theorem i_abs {Q:D→En→Prop}(h:ma Γ fun x Γ1=>match x with|.int i=>Q (.int (if i<0 then -i else i)) Γ1|_=>False):mAbs ma Γ Q:=h
theorem i_eq {Q:D→En→Prop}(h:ma Γ fun x Γ1=>mb Γ1 fun y Γ2=>Good x∧Good y∧Q (.bool (PyData.eqv x y)) Γ2):mEq ma mb Γ Q:=h
theorem i_ne {Q:D→En→Prop}(h:ma Γ fun x Γ1=>mb Γ1 fun y Γ2=>Good x∧Good y∧Q (.bool (!PyData.eqv x y)) Γ2):mNe ma mb Γ Q:=h
theorem i_isN {Q:D→En→Prop}(h:ma Γ fun x Γ1=>Q (.bool (isN x)) Γ1):mIsN ma Γ Q:=h
theorem i_andV {Q:D→En→Prop}(h:ma Γ fun x Γ1=>match x with|.bool c=>if c=true then mb Γ1 Q else Q (.bool false) Γ1|_=>False):mAndV ma mb Γ Q:=h
theorem i_notV {Q:D→En→Prop}(h:ma Γ fun x Γ1=>match x with|.bool c=>Q (.bool (!c)) Γ1|_=>False):mNotV ma Γ Q:=h
theorem i_tst {Q:Bool→En→Prop}(h:ma Γ fun x Γ1=>match x with|.bool c=>Q c Γ1|_=>False):mTst ma Γ Q:=h
theorem i_and {Q:Bool→En→Prop}(h:ta Γ fun c Γ1=>if c=true then tb Γ1 Q else Q false Γ1):mAnd ta tb Γ Q:=h
theorem i_or {Q:Bool→En→Prop}(h:ta Γ fun c Γ1=>if c=true then Q true Γ1 else tb Γ1 Q):mOr ta tb Γ Q:=h
theorem i_not {Q:Bool→En→Prop}(h:ta Γ fun c Γ1=>Q (!c) Γ1):mNot ta Γ Q:=h
theorem i_ifO {Q:Rv→En→Prop}(h:ta Γ fun c Γ1=>if c=true then oa Γ1 Q else ob Γ1 Q):mIfO ta oa ob Γ Q:=h
theorem i_nil {Q:List D→En→Prop}(h:Q [] Γ):mNil Γ Q:=h
theorem i_cons {Q:List D→En→Prop}(h:ma Γ fun x Γ1=>md Γ1 fun xs Γ2=>Q (x::xs) Γ2):cQ ma md Γ Q:=h
theorem i_anil {Q:List Sl→En→Prop}(h:Q [] Γ):aNil Γ Q:=h
theorem i_aval {Q:List Sl→En→Prop}(h:ma Γ fun x Γ1=>aa Γ1 fun xs Γ2=>Q (.val x::xs) Γ2):aVal ma aa Γ Q:=h
theorem i_apen {Q:List Sl→En→Prop}(h0:Γ[i]?=some .pen)(h:aa Γ fun xs Γ2=>Q (.pen::xs) Γ2):aPen i aa Γ Q:=by
 unfold aPen;rw[h0];exact h
theorem i_tup {Q:D→En→Prop}(h:md Γ fun ds Γ1=>ds.length≤1000∧Q (.tuple ds) Γ1):mTup md Γ Q:=h
theorem i_lst {Q:Rv→En→Prop}(h:md Γ fun ds Γ1=>ds.length≤1000∧Q (.own ds) Γ1):mLst md Γ Q:=h
theorem i_ix {Q:D→En→Prop}(h:ma Γ fun x Γ1=>mb Γ1 fun y Γ2=>oQ (ixD x y) fun d=>Q d Γ2):mIx ma mb Γ Q:=h
theorem i_len {Q:D→En→Prop}(h:ma Γ fun x Γ1=>oQ (lenD x) fun d=>Q d Γ1):mLen ma Γ Q:=h
theorem i_isi {s:String}{Q:D→En→Prop}(h:ma Γ fun x Γ1=>Q (.bool (subT (cO x) s)) Γ1):mIsi s ma Γ Q:=h
theorem i_pub {Q:D→En→Prop}(h:oa Γ fun rv Γ1=>nbQ rv (Q rv.d Γ1)):eX oa Γ Q:=h
theorem i_val {Q:Rv→En→Prop}(h:ma Γ fun d Γ1=>Q (.val d) Γ1):dB ma Γ Q:=h
theorem i_move {Q:Rv→En→Prop}{ds:List D}(h0:Γ[i]?=some (.own ds))(h:Q (.own ds) (Γ.set i .no)):mMove i Γ Q:=by
 unfold mMove;rw[h0];exact h
theorem i_call {f:Fm}{Q:Rv→En→Prop}(h:aa Γ fun as Γ1=>as.length=n∧f as fun rv=>Q rv Γ1):bO n f aa Γ Q:=h
theorem i_listOf {Q:Rv→En→Prop}(h:ma Γ fun x Γ1=>match itemsD x with|some ds=>Q (.own ds) Γ1|none=>False):mListOf ma Γ Q:=h
theorem i_slL {Q:Rv→En→Prop}(h:ma Γ fun x Γ1=>mp Γ1 fun lo Γ2=>mq Γ2 fun hi Γ3=>match x with|.list ds=>Q (.own (cutD ds lo hi)) Γ3|_=>False):mSlL ma mp mq Γ Q:=h
theorem i_pNo {Q:Option Int→En→Prop}(h:Q none Γ):pNo Γ Q:=h
theorem i_pSo {Q:Option Int→En→Prop}(h:ma Γ fun x Γ1=>match x with|.int i=>Q (some i) Γ1|_=>False):pSo ma Γ Q:=h
theorem i_in {neg:Bool}{Q:D→En→Prop}(h:ma Γ fun x Γ1=>mb Γ1 fun y Γ2=>match itemsD y with|some ds=>Good x∧Goods ds∧Q (.bool (if neg then !(ds.any fun e=>PyData.eqv e x) else ds.any fun e=>PyData.eqv e x)) Γ2|none=>False):mIn neg ma mb Γ Q:=h
theorem i_peekT {Q:Bool→En→Prop}(h:ta (pubA Γ) fun b Γ1=>Γ1=pubA Γ∧Q b Γ):mPeekT ta Γ Q:=h
theorem i_itL {Q:List D→En→Prop}(h:ma Γ fun x Γ1=>match x with|.list ds=>Q ds Γ1|_=>False):mItL ma Γ Q:=h
theorem i_itT {Q:List D→En→Prop}(h:ma Γ fun x Γ1=>match x with|.tuple ds=>Q ds Γ1|_=>False):mItT ma Γ Q:=h
theorem i_rng1 {Q:List D→En→Prop}(h:md Γ fun ds Γ1=>match ds with|[.int j] => -(2^62)≤j∧j<2^62∧Q (rangeD 0 j.toNat) Γ1|_=>False):mRng1 md Γ Q:=h
theorem i_gN {Q:En→Prop}(h:Q (Γ.set i (.val d))):gN i d Γ Q:=h
theorem i_gT {Q:En→Prop}{ds:List D}(hl:ds.length=n)(h:gs ds Γ Q):gT n gs (.tuple ds) Γ Q:=⟨hl,h⟩
theorem i_gsNil {Q:En→Prop}(h:Q Γ):gsNil [] Γ Q:=h
theorem i_gsCons {Q:En→Prop}{ds:List D}(h:g d Γ fun Γ1=>gs ds Γ1 Q):gsCons g gs (d::ds) Γ Q:=h
theorem i_fn {k:Nat}{as:List Sl}{Q:Rv→Prop}(h:sa (as++List.replicate k .no) fun fl=>match fl with|.rt rv=>Q rv|.nx _=>Q (.val .none)|_=>False):mFn k sa as Q:=h
theorem i_oQ {o:Option D}{k:D→Prop}(h0:o=some d)(h:k d):oQ o k:=by rw[h0]; exact h
theorem i_take {m:Int}{Q:Rv→Prop}(h1:0<m)(h2:m<1073741824)(h:∀ r:Int,0≤r→r<m→Q (.val (.int r))):mTake [.pen,.val (.int m)] Q:=⟨h1,h2,h⟩
structure KOk (I:En→Prop)(Q K:Fl→Prop):Prop where
 nx:∀ Γ,I Γ→K (.nx Γ)
 ct:∀ Γ,I Γ→K (.ct Γ)
 bk:∀ Γ,Q (.nx Γ)→K (.bk Γ)
 rt:∀ rv,Q (.rt rv)→K (.rt rv)
theorem for_inv {ds:List D}{Q:Fl→Prop}(I:Nat→En→Prop)(h0:I 0 Γ)(hs:∀ i d Γ K,ds[i]?=some d→I i Γ→KOk (I (i+1)) Q K→g d Γ fun Γ1=>sa Γ1 K)(he:∀ Γ,I ds.length Γ→Q (.nx Γ)):forL g sa ds Γ Q:=by
 have aux:∀(es:List D) (k:Nat) (Γ:En),(∀ i d,es[i]?=some d→ds[k+i]?=some d)→k+es.length=ds.length→I k Γ→forL g sa es Γ Q:=by
  intro es
  induction es with
  | nil=>intro k Γ _ hl hi; exact he Γ (by rw[← hl]; simpa using hi)
  | cons d es ih=>
   intro k Γ hd hl hi;have next:∀ Γ2,I (k+1) Γ2→forL g sa es Γ2 Q:=fun Γ2 h3=>ih (k+1) Γ2 (fun i e he'=>by
    have:=hd (i+1) e (by simpa using he');rw[show k+1+i=k+(i+1) by omega]; exact this) (by rw[← hl,List.length_cons]; omega) h3
   exact hs k d Γ _ (by simpa using hd 0 d rfl) hi ⟨next,next,fun _ h=>h,fun _ h=>h⟩
 exact aux ds 0 Γ (fun i d h=>by simpa using h) (by simp) h0
theorem range_inv {lo:Int}{n:Nat}{Q:Fl→Prop}(I:Nat→En→Prop)(h0:I 0 Γ)(hs:∀ i Γ K,i<n→I i Γ→KOk (I (i+1)) Q K→g (.int (lo+i)) Γ fun Γ1=>sa Γ1 K)(he:∀ Γ,I n Γ→Q (.nx Γ)):forL g sa (rangeD lo n) Γ Q:=by
 have hl:(rangeD lo n).length=n:=by simp[rangeD]
 refine for_inv I h0 (fun i d Γ K e hi hk=>?_) (by rw[hl]; exact he);have hi':i<n:=by have:=(List.getElem?_eq_some_iff.mp e).1; omega
 unfold rangeD at e;rw[List.getElem?_map,List.getElem?_range hi'] at e
 cases e
 exact hs i Γ K hi' hi hk
theorem while_inv {Q:Fl→Prop}(I:Nat→En→Prop)(m0:Nat)(h0:I m0 Γ)(hs:∀ m Γ,I m Γ→ta Γ fun k Γ1=>if k=true then sa Γ1 fun fl=>match fl with
  | .nx Γ2=>∃ n',n'<m∧I n' Γ2
  | .ct Γ2=>∃ n',n'<m∧I n' Γ2
  | .bk Γ2=>Q (.nx Γ2)
  | .rt rv=>Q (.rt rv)
 else Q (.nx Γ1)):mWhile ta sa Γ Q:=⟨I,⟨m0,h0⟩,hs⟩
end
theorem iteNT {A B:Prop}(h:B):if (!true)=true then A else B:=iteF h
theorem iteNF {A B:Prop}(h:A):if (!false)=true then A else B:=iteT h
theorem good_int (i:Int):Good (.int i):=⟨rfl,by show 0≤60; decide⟩
theorem good_bool (b:Bool):Good (.bool b):=⟨rfl,by show 0≤60; decide⟩
theorem good_none:Good .none:=⟨rfl,by show 0≤60; decide⟩
theorem eqv_int (i j:Int):PyData.eqv (.int i) (.int j)=decide (i=j):=by
 show(i==j)=_
 exact Bool.beq_eq_decide_eq i j
theorem eqv_bool (i j:Bool):PyData.eqv (.bool i) (.bool j)=decide (i=j):=by
 show(i==j)=_
 exact Bool.beq_eq_decide_eq i j
section
variable {P:D→Prop}{Γ:En}{Q:D→En→Prop}
end
def Gd (n:Nat)(d:D):Prop:=d.canLay0=true∧d.depth≤n
theorem Gd.good {n:Nat}{d:D}(h:Gd n d)(hn:n≤60:=by decide):Good d:=⟨h.1,Nat.le_trans h.2 hn⟩
theorem Gd.mono {n m:Nat}{d:D}(h:Gd n d)(hn:n≤m:=by decide):Gd m d:=⟨h.1,Nat.le_trans h.2 hn⟩
theorem gds {n:Nat}:∀{ds:List D},(∀ d∈ds,Gd n d)→PyData.canLayAll0 ds=true∧PyData.depthAll ds≤n
 | [],_=>⟨rfl,Nat.zero_le _⟩
 | d::ds,h=>by
  have h1:=h d List.mem_cons_self;have h2:=gds (ds:=ds) fun e he=>h e (List.mem_cons_of_mem _ he);refine⟨by show(d.canLay0&&PyData.canLayAll0 ds)=true; rw[h1.1,h2.1]; rfl,?_⟩;show max d.depth (PyData.depthAll ds)≤n;exact Nat.max_le.mpr ⟨h1.2,h2.2⟩
theorem gd_tup {n:Nat}{ds:List D}(h:∀ d∈ds,Gd n d):Gd (n+1) (.tuple ds):=⟨(gds h).1,Nat.succ_le_succ (gds h).2⟩
theorem gd_lst {n:Nat}{ds:List D}(h:∀ d∈ds,Gd n d):Gd (n+1) (.list ds):=⟨(gds h).1,Nat.succ_le_succ (gds h).2⟩
theorem gd_goods {n:Nat}{ds:List D}(h:∀ d∈ds,Gd n d)(hn:n≤59:=by decide):Goods ds:=⟨(gds h).1,Nat.le_trans (gds h).2 hn⟩
theorem gd_int (i:Int):Gd 0 (.int i):=⟨rfl,Nat.le_refl _⟩
theorem gd_str (s:Str)(h:(PyData.str s).canLay0=true:=by decide +kernel):Gd 0 (.str s):=⟨h,Nat.le_refl _⟩
theorem gd_num (q:Rat):Gd 1 (dNum q):=gd_tup (n:=0) fun d h=>by
 rcases List.mem_cons.mp h with rfl|h
 ·exact gd_int _
 ·rw[List.mem_singleton.mp h]; exact gd_int _
theorem eqv_self {d:D}(h:Good d):PyData.eqv d d=true:=SeqAt.eqv_refl d h.lay
theorem isT {d:D}{n:String}{A B:Prop}(h:subT (cO d) n=true)(a:A):if subT (cO d) n=true then A else B:=by rw[h]; exact iteT a
theorem isF {d:D}{n:String}{A B:Prop}(h:subT (cO d) n=false)(b:B):if subT (cO d) n=true then A else B:=by rw[h]; exact iteF b
theorem isNT {d:D}{n:String}{A B:Prop}(h:subT (cO d) n=true)(b:B):if (!subT (cO d) n)=true then A else B:=by rw[h]; exact iteF b
theorem ix_num0 (q:Rat):ixD (dNum q) (.int 0)=some (.int q.num):=rfl
theorem ix_num1 (q:Rat):ixD (dNum q) (.int 1)=some (.int (q.den:Int)):=rfl
end L2.VS
namespace L2
open PySem PySem.Spec PyProof.Rows
def clGo (env:Env):List (Str×NameKind)→List (Str×Addr)→List (Str×Addr)
 | [],cs=>cs
 | (n,k)::r,cs=>if (k==.free)=true then clGo env r ((n,(env.cells.lookup n).getD 0)::cs) else clGo env r cs
theorem clos_go {env:Env}:∀(names:List (Str×NameKind)) (cs:List (Str×Addr)),(∀ y∈names,y.2=.free→∃ c,env.cells.lookup y.1=some c) →
  (forIn names cs fun(x:Str×NameKind) (r:List (Str×Addr))=>(do
   if (x.2==NameKind.free)=true then do
    let a←cellOf env x.1
    pure (ForInStep.yield ((x.1,a)::r))
   else pure (ForInStep.yield r):Sem (ForInStep (List (Str×Addr)))))=pure (clGo env names cs)
 | [],cs,_=>rfl
 | (n,k)::r,cs,h=>by
  have ih:=fun cs=>clos_go (env:=env) r cs fun y hy=>h y (List.mem_cons_of_mem _ hy);rw[List.forIn_cons];unfold clGo
  by_cases hk:(k==NameKind.free)=true
  ·obtain⟨c,hc⟩:=h (n,k) List.mem_cons_self (by simpa using hk);have hc':env.cells.lookup n=some c:=hc;have e:cellOf env n=pure c:=by unfold cellOf; rw[hc']
   simp only[hk,if_true,e,hc',Option.getD_some];simp only[pure_bind];exact ih _
  ·have hk':(k==NameKind.free)=false:=by simpa using hk
   simp only[hk',Bool.false_eq_true,if_false,pure_bind];exact ih _
theorem clos_of {scope:Scope}{env:Env}(h:∀ y∈scope.names,y.2=.free→∃ c,env.cells.lookup y.1=some c):closureFor scope env=pure (clGo env scope.names []):=by
 have e:=clos_go (env:=env) scope.names [] h;unfold closureFor;rw[← e];simp only[bind_pure]
theorem clGo_sub {env:Env}:∀(names:List (Str×NameKind)) (cs:List (Str×Addr)),(∀ y∈names,y.2=.free→∃ c,env.cells.lookup y.1=some c)→(∀ x c,cs.lookup x=some c→env.cells.lookup x=some c) →
  ∀ x c,(clGo env names cs).lookup x=some c→env.cells.lookup x=some c
 | [],cs,_,h=>h
 | (n,k)::r,cs,hf,h=>by
  have ih:=fun cs=>clGo_sub (env:=env) r cs fun y hy=>hf y (List.mem_cons_of_mem _ hy);unfold clGo
  by_cases hk:(k==NameKind.free)=true
  ·rw[if_pos hk];obtain⟨c0,hc⟩:=hf (n,k) List.mem_cons_self (by simpa using hk);have hc':env.cells.lookup n=some c0:=hc;refine ih _ fun x c e=>?_;rw[List.lookup_cons] at e
   cases hx:x==n with
   | true=>
    rw[hx,hc'] at e;have:x=n:=by simpa using hx
    rw[this,hc'];exact e
   | false=>rw[hx] at e; exact h x c e
  ·rw[if_neg hk];exact ih _ h
theorem clGo_has {env:Env}:∀(names:List (Str×NameKind)) (cs:List (Str×Addr)) (x:Str),((∃ k,(x,k)∈names∧k=.free)∨(cs.lookup x).isSome=true)→((clGo env names cs).lookup x).isSome=true
 | [],cs,x,h=>by
  rcases h with⟨k,hm,_⟩|h
  ·cases hm
  ·exact h
 | (n,k)::r,cs,x,h=>by
  unfold clGo
  by_cases hk:(k==NameKind.free)=true
  ·rw[if_pos hk];refine clGo_has r _ x ?_
   by_cases hx:x=n
   ·right
    rw[List.lookup_cons,hx];simp
   ·rcases h with⟨k',hm,hf⟩|h
    ·rcases List.mem_cons.mp hm with e|hm
     ·cases e; exact absurd rfl hx
     ·exact .inl ⟨k',hm,hf⟩
    ·right
     rw[List.lookup_cons];have:(x==n)=false:=by simpa using hx
     rw[this];exact h
  ·rw[if_neg hk];refine clGo_has r _ x ?_;rcases h with⟨k',hm,hf⟩|h
   ·rcases List.mem_cons.mp hm with e|hm
    ·cases e; subst hf; exact absurd rfl hk
    ·exact .inl ⟨k',hm,hf⟩
   ·exact .inr h
theorem relabel_back {env:Env}:∀{names:List (Str×NameKind)} {x:Str},(∀ y∈names,y.2≠.cell) →
    ((names.map fun(n,k)=>if (k==NameKind.free&&env.scope.kind==.function&&env.kindOf n==some .cell) then(n,NameKind.cell) else(n,k)).lookup x=some .cell ∨
     (names.map fun(n,k)=>if (k==NameKind.free&&env.scope.kind==.function&&env.kindOf n==some .cell) then(n,NameKind.cell) else(n,k)).lookup x=some .free)→(x,NameKind.free)∈names
  | [],_,_,h=>by simp at h
  | (n,k)::r,x,hc,h=>by
    have ih:=@relabel_back env r x (fun y hy=>hc y (List.mem_cons_of_mem _ hy));have hk:k≠.cell:=hc (n,k) List.mem_cons_self;rw[List.map_cons] at h
    by_cases hf:(k==NameKind.free&&env.scope.kind==.function&&env.kindOf n==some .cell)=true
    · have kf:k=.free:=by
        have:=(Bool.and_eq_true _ _▸hf:_∧_).1;have:=(Bool.and_eq_true _ _▸this:_∧_).1;simpa using this
      simp only[hf,if_true] at h;rw[List.lookup_cons] at h
      cases hx:x==n with
      | true=>
        have:x=n:=by simpa using hx
        subst this; subst kf;exact List.mem_cons_self
      | false=>rw[hx] at h; exact List.mem_cons_of_mem _ (ih h)
    · simp only[hf,Bool.false_eq_true,if_false] at h;rw[List.lookup_cons] at h
      cases hx:x==n with
      | true=>
        have:x=n:=by simpa using hx
        subst this;rw[hx] at h;rcases h with h|h
        · exact absurd (Option.some.inj h) hk
        · have:k=.free:=Option.some.inj h;subst this;exact List.mem_cons_self
      | false=>rw[hx] at h; exact List.mem_cons_of_mem _ (ih h)
def cxBlk (X:Cx)(N:List Str)(scope:Scope)(C:Addr)(s₀:Shared)(H₀:Hp)(ex:List Addr):Cx where
 prog:=X.prog
 w:=X.w
 K:=X.K
 mg:=X.mg
 base:=X.base
 A:=X.A
 N:=N
 s₀:=s₀
 H₀:=H₀
 env:=compEnvC scope (clGo X.env scope.names []) C X.env
 outer:=X.stack
 stack:=X.stack
 ex:=ex
 fn:=fun _=>false
 calm:=X.calm
 pn:=[]
 xe:=fun _ _=>False
def blk (nt:Nat)(fv:List Nat)(σ:St):St:=List.replicate nt none++fv.map fun j=>(σ[j]?).getD none
def tComp (nt:Nat)(fv:List Nat)(wi:TI)(g:TG)(ti:TT)(te:TE):TE:=fun σ H Q=>wi σ H fun J H1=>∃ W:Nat→Nat→List V→Hp→Prop,(∃ m,W 0 m [] H1)∧∀ i m ys H,W i m ys H →
 (J.stop i H∧ys.length≤sizeLine∧∀ p,H p=none→Q (.ref p) (upd H p (.lst ys))) ∨
 (J.go i H∧ys.length≤sizeLine∧∀ x H',J.yld i H x H'→g x (blk nt fv σ) H' fun σ2 H2=>(∀ i,nt≤i→σ2[i]?=(blk nt fv σ)[i]?)∧ti σ2 H2 fun b H3=>if b=true then te σ2 H3 fun v H4=>∃ m',m'<m∧W (i+1) m' (ys++[v]) H4 else ∃ m',m'<m∧W (i+1) m' ys H3)
def PTs (X:Cx)(cs:List Expr)(t:TT):Prop:=
 ∀(pins:List (Addr×Obj)) (s:Shared) (σ:St) (H:Hp) (Q:Bool→Hp→Prop),Inv X pins σ H s→t σ H Q →
  wpAny (model X.prog X.w) X.A (forIn cs true fun c r=>if r=true then do let ok←isTrue c X.env (eval c X.env); pure (ForInStep.yield ok) else pure (ForInStep.yield r)) (TP X pins σ Q) X.xe s
def tTrue:TT:=fun _ H Q=>Q true H
theorem pts_nil {X:Cx}:PTs X [] tTrue:=fun _ _ _ H _ I h=>wpAny_tests_nil ⟨H,I,h⟩
structure BlkOk (X:Cx)(N:List Str)(scope:Scope)(nt:Nat)(fv:List Nat):Prop where
 kind:scope.kind=.function
 ncell:∀ y∈scope.names,y.2≠.cell
 names:∀ y∈scope.names,y.2=.local→scope.names.lookup y.1=some .local
 free:∀ y∈scope.names,y.2=.free→X.env.kindOf y.1=some .cell
 len:N.length=nt+fv.length
 fv:∀ i x,N[nt+i]?=some x→∃ j,fv[i]?=some j∧X.N[j]?=some x∧X.env.kindOf x=some .cell∧(relabel scope X.env).names.lookup x=some .cell
section
variable {X:Cx}{N:List Str}{scope:Scope}{nt:Nat}{fv:List Nat}{pins:List (Addr×Obj)}{σ:St}{H:Hp}{s:Shared}
theorem BlkOk.cells (B:BlkOk X N scope nt fv)(I:Inv X pins σ H s):∀ y∈scope.names,y.2=.free→∃ c,X.env.cells.lookup y.1=some c:=fun y hy hf=>I.ok.has y.1 (.inl (B.free y hy hf))
theorem blk_ok (B:BlkOk X N scope nt fv)(I:Inv X pins σ H s){C:Addr}{fp:List Addr}(hC:s.heap.objs.size≤C)(hf:∀ b∈fp,FpOk X pins H b)(hlt:∀ b∈fp,b<s.heap.objs.size) :
  (cxBlk X N scope C s H fp).Ok:=by
 have sub:∀ x c,(clGo X.env scope.names []).lookup x=some c→X.env.cells.lookup x=some c:=clGo_sub _ _ (B.cells I) (fun x c e=>by simp at e);refine⟨I.ok.mod,B.kind,I.ok.glob,I.ok.blt,hC,fun x y c e1 e2=>I.ok.inj x y c (sub x c e1) (sub y c e2),fun x hx=>?_,fun x c h=>absurd h (by show ¬(false=true); decide),I.ok.hd,I.ok.frames,.inl rfl,fun b hb=>⟨?_,fun x c e=>?_⟩,I.bs,Nat.le_trans I.ok.bsz I.sz,fun b o e hb=>?_,fun b hb z=>?_,I.stack,I.stkFree⟩
 ·have hm:(x,NameKind.free)∈scope.names:=relabel_back B.ncell hx;exact Option.isSome_iff_exists.mp (clGo_has scope.names [] x (.inl ⟨_,hm,rfl⟩))
 ·exact Nat.ne_of_lt (Nat.lt_of_lt_of_le (hlt b hb) hC)
 ·exact(hf b hb).2.2.2.2.1 x c (sub x c e)
 ·rcases(hf b hb).2.2.2.1 with z|z
  ·exact I.ok.noex b o e z
  ·exact absurd (Nat.lt_of_lt_of_le (Heap.lt_size e) (Nat.le_trans I.ok.bsz z)) (Nat.lt_irrefl _)
 ·rcases List.mem_cons.mp (I.stkSub b z) with z|z
  ·exact(hf b hb).2.1 z
  ·exact(hf b hb).2.2.1 z
theorem blk_inv (B:BlkOk X N scope nt fv)(I:Inv X pins σ H s){C:Addr}{fp:List Addr}(hC:s.heap.objs.size≤C)(hf:∀ b∈fp,FpOk X pins H b)(hlt:∀ b∈fp,b<s.heap.objs.size){h':Heap}{tk:Nat}
  (k:∀ b o,s.heap.get? b=some o→h'.get? b=some o) (hn:∃ m,h'.Ns C m):Inv (cxBlk X N scope C s H fp) [] (blk nt fv σ) H { s with heap:=h',toks:=tk }:=by
 have sub:∀ x c,(clGo X.env scope.names []).lookup x=some c→X.env.cells.lookup x=some c:=clGo_sub _ _ (B.cells I) (fun x c e=>by simp at e);obtain⟨m,hn⟩:=hn;refine⟨blk_ok B I hC hf hlt,rfl,I.bare,Un.kept k,⟨m,hn,fun i x v e1 e2 e3=>?_⟩,fun x c e=>?_,I.hok.fresh hC,fun x c e=>I.freeC x c (sub x c e),fun p hp=>(nomatch hp),I.hok.kept k,?_⟩
 ·have hi:nt≤i:=by
   refine Nat.le_of_not_lt fun hlt=>?_;unfold blk at e2;rw[List.getElem?_append_left (by simpa using hlt),List.getElem?_replicate] at e2
   split at e2<;>cases e2
  obtain⟨j,hj⟩:∃ j,i=nt+j:=⟨i-nt,by omega⟩;subst hj;obtain⟨o,f1,f2,f3,f4⟩:=B.fv j x e1;unfold blk at e2;rw[List.getElem?_append_right (by simp),List.length_replicate,Nat.add_sub_cancel_left,List.getElem?_map,f1] at e2;have e2':(σ[o]?).getD none=some v:=Option.some.inj e2;have e4:σ[o]?=some (some v):=by
   cases q:σ[o]? with
   | none=>rw[q] at e2'; cases e2'
   | some z=>rw[q] at e2'; exact congrArg some e2'
  obtain⟨m0,hn0,hl⟩:=I.loc;obtain⟨u,ru,lk⟩:=hl o x v f2 e4 (.inr (.inl f3));refine⟨u,ru,.inr ⟨.inl f4,?_⟩⟩;rcases lk with⟨z,_⟩|⟨_,c,hc,hcell⟩
  ·rw[f3] at z; cases z
  ·have hm:(x,NameKind.free)∈scope.names:=relabel_back B.ncell (.inl f4);obtain⟨c',hc'⟩:=Option.isSome_iff_exists.mp (clGo_has (env:=X.env) scope.names [] x (.inl ⟨_,hm,rfl⟩));have:=sub x c' hc';rw[hc] at this
   cases this
   obtain⟨oc,h1,h2⟩:=hcell;exact⟨c,hc',oc,k c oc h1,h2⟩
 ·obtain⟨v,oc,h1,h2⟩:=I.cell x c (sub x c e);exact⟨v,oc,k c oc h1,h2⟩
 ·show(blk nt fv σ).length=N.length
  unfold blk;rw[List.length_append,List.length_replicate,List.length_map];exact B.len.symm
end
section
variable {prog:Program}{w:World}{A:Around}{R:Result→Shared→Prop}{s:Shared}
theorem compLoop_any {elt target iter:Expr}{ifs:List Expr}{scope:Scope}{pos:Pos}{it acc:Value}{env:Env}(I:Nat→Shared→Prop)
  (turn:∀ n s,I n s→wpAny (model prog w) A (pyNext it) (fun r s₁=>match r with
   | none=>R (.ok .next) s₁
   | some v=>wpAny (model prog w) A (letOwnedTupleGo target it v) (fun _ s₁'=>wpAny (model prog w) A (assign target env v) (fun _ s₂=>
     wpAny (model prog w) A (forIn ifs true fun c r=>if r=true then do let ok←isTrue c env (eval c env); pure (ForInStep.yield ok) else pure (ForInStep.yield r)) (fun ok s₃=>
      if ok=true then wpAny (model prog w) A (eval elt env) (fun x s₄=>
       wpAny (model prog w) A (call (.builtin "list.append") [acc,x]) (fun _ s₅=>∃ m,m<n∧I m s₅) (fun _ _=>False) s₄) (fun _ _=>False) s₃
      else ∃ m,m<n∧I m s₃) (fun _ _=>False) s₂) (fun _ _=>False) s₁') (fun _ _=>False) s₁) (fun _ _=>False) s)
  (n:Nat) (h:I n s) :
  codeAny (model prog w) A (.compLoop (.ListComp elt [⟨target,iter,ifs,0⟩] scope pos) 0 it acc env) R s:=by
 refine codeAny_loop rfl I (fun n s hI=>?_) n h;show wpAny _ A ((compTurn (.ListComp elt [⟨target,iter,ifs,0⟩] scope pos) 0 it acc env).onRaise (fun x=>do noteFrame x env; theTreesLotGoes x)) _ _ s;refine wpAny_noted ?_;rw[compTurn_list];refine wpAny_bind (wpAny_standAt (wpAny_bind (wpAny_mono (turn n s hI) (fun r s₁ h₁=>?_) fun _ _ f=>f.elim)))
 cases r with
 | none=>exact wpAny_pure h₁
 | some v=>
  refine wpAny_bind (wpAny_mono h₁ (fun _ s₁' h₁'=>?_) fun _ _ f=>f.elim);refine wpAny_bind (wpAny_mono h₁' (fun _ s₂ h₂=>wpAny_bind (wpAny_mono h₂ (fun ok s₃ h₃=>?_) fun _ _ f=>f.elim)) fun _ _ f=>f.elim)
  cases ok with
  | false=>exact wpAny_pure ⟨rfl,h₃⟩
  | true=>
   exact wpAny_bind (wpAny_bind (wpAny_mono h₃ (fun x s₄ h₄=>wpAny_bind (wpAny_mono h₄ (fun _ s₅ h₅=>wpAny_pure (wpAny_pure ⟨rfl,h₅⟩)) fun _ _ f=>f.elim)) fun _ _ f=>f.elim))
end
end L2
namespace L2
open PySem PySem.Spec PyProof.Rows
section
variable {X:Cx}{N:List Str}{scope:Scope}{nt:Nat}{fv:List Nat}{elt tg iter:Expr}{ifs:List Expr}{wi:TI}{g:TG}{ti:TT}{te:TE}{pos:Pos}
def listO (its:List Value)(n:Nat):Obj:={ cls:=.type "list", dict:=none,data:=.seq its.toArray n }
theorem comp_run (hc:X.calm=true)(B:BlkOk X N scope nt fv)
  (hg:∀ C s₀ H₀ ex,PG (cxBlk X N scope C s₀ H₀ ex) tg g) (ht:∀ C s₀ H₀ ex,PTs (cxBlk X N scope C s₀ H₀ ex) ifs ti) (he:∀ C s₀ H₀ ex,PE (cxBlk X N scope C s₀ H₀ ex) elt te)
  {pins:List (Addr×Obj)} {σ:St} {s2:Shared} {H2:Hp} {it:Addr} {fp:List Addr} {tn:Nat→Heap→Prop} {J:It} (I2:Inv X pins σ H2 s2) (T:Turn X.prog X.w X.K tg J fp it tn) (st2:tn 0 s2.heap) (f2:∀ b∈fp,FpOk X pins H2 b)
  {W:Nat→Nat→List V→Hp→Prop} {m0:Nat} (w0:W 0 m0 [] H2) {Q:VK}
  (turn:∀ i m ys H,W i m ys H→(J.stop i H∧ys.length≤sizeLine∧∀ p,H p=none→Q (.ref p) (upd H p (.lst ys))) ∨
   (J.go i H∧ys.length≤sizeLine∧∀ x H',J.yld i H x H'→g x (blk nt fv σ) H' fun σ2 H2=>(∀ i,nt≤i→σ2[i]?=(blk nt fv σ)[i]?)∧ti σ2 H2 fun b H3=>if b=true then te σ2 H3 fun v H4=>∃ m',m'<m∧W (i+1) m' (ys++[v]) H4 else ∃ m',m'<m∧W (i+1) m' ys H3))
  {RR:Value→Addr→Result→Shared→Prop}
  (hR:∀ D C s',s2.heap.objs.size≤C→(∃ m,s'.heap.Ns C m)→(∀ h',Heap.SameBut C s'.heap h'→∃ H',Inv X pins σ H' { s' with heap:=h' }∧H' C=none∧Q (.ref D) H')→RR (.ref D) C (.ok .next) s') :
  wpAny (model X.prog X.w) X.A (newList []) (fun acc s₃=>wpAny (model X.prog X.w) X.A (newFunctionEnv scope X.env.globals (clGo X.env scope.names []) [] X.env.qual none .none (some X.env)) (fun cenv s₄=>
   codeAny (model X.prog X.w) X.A (.compStart (.ListComp elt [⟨tg,iter,ifs,0⟩] scope pos) 0 (.ref it) acc { cenv with scope:=relabel scope X.env }) (RR acc cenv.locals) s₄) X.xe s₃) X.xe s2:=by
 refine wpAny_newObj_type (wpAny_newFunctionEnv B.ncell (by intro y hy; simp at hy) (fun h₁ hns₁ hsb₁=>?_) B.kind);dsimp only at hns₁ hsb₁ ⊢;generalize hH2:s2.heap.push { cls:=.type "list", dict:=none,data:=.seq ([]:List Value).toArray }=Hh at hns₁ hsb₁ ⊢;have hC:Hh.objs.size=s2.heap.objs.size+1:=by rw[← hH2,Heap.size_push]
 have hDC:s2.heap.objs.size≠Hh.objs.size:=by rw[hC]; exact Nat.ne_of_lt (Nat.lt_succ_self _)
 have hCle:s2.heap.objs.size≤Hh.objs.size:=by rw[hC]; exact Nat.le_succ _
 have below:∀ b,b<s2.heap.objs.size→b≠Hh.objs.size∧b≠s2.heap.objs.size:=fun b hb=>⟨by rw[hC]; exact Nat.ne_of_lt (Nat.lt_succ_of_lt hb),Nat.ne_of_lt hb⟩;have old:∀ b o,s2.heap.get? b=some o→h₁.get? b=some o:=fun b o e=>hsb₁.extBut b o (below b (Heap.lt_size e)).1 (Heap.get?_push_of_some _ (hH2▸Heap.get?_push_of_some _ e));have hacc:h₁.get? s2.heap.objs.size=some (listO [] 0):=hsb₁.extBut _ _ hDC (Heap.get?_push_of_some _ (hH2▸Heap.get?_push_size _ rfl));have flt:∀ b∈fp,b<s2.heap.objs.size:=fun b hb=>by obtain⟨o,e,_⟩:=T.obj 0 _ st2 b hb; exact Heap.lt_size e
 have fresh:∀ a,s2.heap.objs.size≤a→s2.heap.get? a=none:=fun a ha=>by
  cases e:s2.heap.get? a with
  | none=>rfl
  | some o'=>exact absurd (Heap.lt_size e) (Nat.not_lt.mpr ha)
 have ftk:∀{H':Hp} {pl:List (Addr×Obj)},(∀ b∈fp,H' b=none)→(∀ p∈pl,p.1∉fp)→∀ b∈fp,FpOk (cxBlk X N scope Hh.objs.size s2 H2 fp) pl H' b:=fun{H' pl} hn hp b hb=>
  ⟨hn b hb,(below b (flt b hb)).1,fun z=>by
   rcases List.mem_cons.mp (I2.stkSub b z) with z|z
   ·exact(f2 b hb).2.1 z
   ·exact(f2 b hb).2.2.1 z,.inl hb,fun x c e=>(f2 b hb).2.2.2.2.1 x c (clGo_sub _ _ (B.cells I2) (fun x c e=>by simp at e) x c e),fun p hp' z=>hp p hp' (z▸hb)⟩
 have Dfp:s2.heap.objs.size∉fp:=fun hm=>Nat.lt_irrefl _ (flt _ hm);have Dfs:s2.heap.objs.size∉frs X.stack:=fun z=>by
  rcases List.mem_cons.mp (I2.stkSub _ z) with z|z
  ·exact Nat.lt_irrefl _ (z▸I2.lt)
  ·exact I2.nofs (Nat.le_refl _) z
 have Dcell:∀ x c,(clGo X.env scope.names []).lookup x=some c→c≠s2.heap.objs.size:=fun x c e z=>by
  obtain⟨v,q⟩:=I2.cell x c (clGo_sub _ _ (B.cells I2) (fun x c e=>by simp at e) x c e);exact Nat.lt_irrefl _ (z▸q.lt)
 have Iblk:Inv (cxBlk X N scope Hh.objs.size s2 H2 fp) [] (blk nt fv σ) H2 { s2 with heap:=h₁,toks:=s2.toks+([]:List (Str×Value)).length }:=blk_inv B I2 hCle f2 flt old ⟨_,hns₁⟩;have pinD:∀{s':Shared} {H':Hp} {σ':St} {its:List Value} {n:Nat} {pl:List (Addr×Obj)},Inv (cxBlk X N scope Hh.objs.size s2 H2 fp) pl σ' H' s'→s'.heap.get? s2.heap.objs.size=some (listO its n)→H' s2.heap.objs.size=none →
   Inv (cxBlk X N scope Hh.objs.size s2 H2 fp) [(s2.heap.objs.size,listO its n)] σ' H' s':=fun I e hn=>I.pins_of fun p hp=>by
  rw[List.mem_singleton.mp hp];exact⟨e,hn,hDC,Dfs,fun v z=>by cases z⟩
 have loop:∀ s₃:Shared,s₃={ s2 with heap:=h₁,toks:=s2.toks+([]:List (Str×Value)).length } →
   codeAny (model X.prog X.w) X.A (.compLoop (.ListComp elt [⟨tg,iter,ifs,0⟩] scope pos) 0 (.ref it) (.ref s2.heap.objs.size) (compEnvC scope (clGo X.env scope.names []) Hh.objs.size X.env)) (RR (.ref s2.heap.objs.size) Hh.objs.size) s₃:=by
  rintro s₃ rfl;refine compLoop_any (fun n s'=>∃ i ys its k H',Inv (cxBlk X N scope Hh.objs.size s2 H2 fp) [(s2.heap.objs.size,listO its k)] (blk nt fv σ) H' s'∧tn i s'.heap∧(∀ b∈fp,H' b=none)∧W i n ys H'∧Vals ys its) ?_ m0
   ⟨0,[],[],0,H2,pinD Iblk hacc (I2.hok.fresh (Nat.le_refl _)),T.keep _ _ _ st2 fun b _ o e=>old b o e,fun b hb=>(f2 b hb).1,w0,.nil⟩
  rintro n s' ⟨i,ys,its,k,H',I',st',fr',w',vs'⟩;obtain⟨pd,pn,_,_,_⟩:=I'.pin (s2.heap.objs.size,listO its k) (by exact List.mem_cons_self);have pfp:∀{o:Obj},∀ p∈[(s2.heap.objs.size,o)],p.1∉fp:=fun p hp=>by rw[List.mem_singleton.mp hp]; exact Dfp
  rcases turn i n ys H' w' with⟨stop,hz,q⟩|⟨go,hz,step⟩
  ·refine wpAny_mono (T.done (cxBlk X N scope Hh.objs.size s2 H2 fp) rfl rfl rfl hc i _ s' _ H' (fun _ _=>False) I' (ftk fr' pfp) st' stop) (fun r s1 ⟨hr,I1⟩=>?_) fun _ _ f=>f;subst hr;obtain⟨pd1,pn1,_,_,_⟩:=I1.pin (s2.heap.objs.size,listO its k) (by exact List.mem_cons_self);obtain⟨m,hm,_⟩:=I1.loc;refine hR _ _ s1 hCle ⟨m,hm⟩ fun h' sb=>⟨upd H' s2.heap.objs.size (.lst ys),?_,by rw[bB (Ne.symm hDC)]; exact I1.free,q _ pn1⟩;have keepT:∀ b u,H' b=some u→b≠Hh.objs.size:=fun b u e z=>by
    have e0:H' Hh.objs.size=none:=I1.free;rw[z,e0] at e
    cases e
   have kept:∀ b o,b≠Hh.objs.size→s1.heap.get? b=some o→h'.get? b=some o:=fun b o hb e=>sb.extBut b o hb e;have un:=I1.base;refine I2.call' (s':={ s1 with heap:=h' }) (ch:=fp) I1.os ⟨fun b o e hn hb hx=>?_,fun b o e hn hb hx=>?_,fun b o e hn hx=>?_,fun b o e hx=>?_,fun b xs e=>?_,fun b o u e=>?_,fun b ps e=>?_⟩ ?_ I1.bare fun b hb=>?_
   ·exact kept b o (below b (Heap.lt_size e)).1 (un.keep b o e hn hb hx)
   ·obtain⟨sl,e1⟩:=un.slot b o e hn hb hx;exact⟨sl,kept b _ (below b (Heap.lt_size e)).1 e1⟩
   ·rw[bB (below b (Heap.lt_size e)).2];exact un.free b o e hn hx
   ·obtain⟨o',e1⟩:=un.there b o e hx;exact⟨o',kept b o' (below b (Heap.lt_size e)).1 e1⟩
   ·have e1:=un.tups b xs e;rw[bB (bA e1 pn1)];exact e1
   ·have e1:=un.frzs b o u e;rw[bB (bA e1 pn1)];exact e1
   ·obtain⟨mo,e1⟩:=un.tbls b ps e;exact⟨mo,by rw[bB (bA e1 pn1)]; exact e1⟩
   ·intro b u e
    by_cases hb:b=s2.heap.objs.size
    ·subst hb;rw[b8] at e
     cases e
     exact⟨hz,its,k,vs',kept _ _ hDC pd1⟩
    ·rw[bB hb] at e;refine(I1.hok b u e).stay (fun c v hc' q'=>kept c v ?_ q') (fun c q'=>by rw[bB (bA q' pn1)]; exact q') fun c xs q'=>by rw[bB (bA q' pn1)]; exact q'
     rcases hc' with z|z
     ·rw[z]; exact keepT b u e
     ·exact keepT c _ z
   ·exact⟨(f2 b hb).2.2.2.1,(f2 b hb).2.1,(f2 b hb).2.2.2.2.1,(f2 b hb).2.2.2.2.2⟩
  ·refine wpAny_mono (T.item (cxBlk X N scope Hh.objs.size s2 H2 fp) rfl rfl rfl hc i _ s' _ H' (fun _ _=>False) I' (ftk fr' pfp) st' go) (fun r s3 ⟨u,hr,h3⟩=>?_) fun _ _ f=>f;subst hr;refine wpAny_mono h3 (fun _ s4 ⟨x,H4,I4,r4,y4,st4,fr4⟩=>?_) fun _ _ f=>f;have I4':=I4.pinned (ftk fr4 pfp) (T.obj _ _ st4);refine wpAny_mono (hg Hh.objs.size s2 H2 fp _ s4 _ H4 x u _ I4' r4 (step x H4 y4)) (fun _ s5 ⟨σ5,H5,I5,x5,q5⟩=>?_) fun _ _ f=>f;refine wpAny_mono (ht Hh.objs.size s2 H2 fp _ s5 σ5 H5 _ I5 q5) (fun b s6 ⟨H6,I6,q6⟩=>?_) fun _ _ f=>f;have weak:∀{s':Shared} {H':Hp} {pl:List (Addr×Obj)},Inv (cxBlk X N scope Hh.objs.size s2 H2 fp) pl σ5 H' s'→Inv (cxBlk X N scope Hh.objs.size s2 H2 fp) pl (blk nt fv σ) H' s':=by
    intro s' H' pl I;refine I.weak ((blk_inv B I2 hCle f2 flt old ⟨_,hns₁⟩ (tk:=0)).len.trans I.len.symm) fun j v e=>?_
    by_cases hj:nt≤j
    ·rw[x5 j hj]; exact e
    ·unfold blk at e;rw[List.getElem?_append_left (by simpa using hj),List.getElem?_replicate] at e
     split at e<;>cases e
   have pnew:∀{s':Shared} {H':Hp} {σ':St},Inv (cxBlk X N scope Hh.objs.size s2 H2 fp) ([(s2.heap.objs.size,listO its k)]++pinsAt fp s4.heap) σ' H' s' →
     s'.heap.get? s2.heap.objs.size=some (listO its k)∧H' s2.heap.objs.size=none∧tn (i+1) s'.heap∧∀ b∈fp,H' b=none:=fun{s' H' σ'} I=>by
    obtain⟨p1,p2,_⟩:=I.pin (s2.heap.objs.size,listO its k) (by exact List.mem_cons_self);refine⟨p1,p2,T.keep _ _ _ st4 fun b hb o e=>(I.pin (b,o) (List.mem_append_right _ (List.mem_append_right _ (mem_pinsAt hb e)))).1,fun b hb=>?_⟩;obtain⟨o,e,d⟩:=T.obj _ _ st4 b hb;exact(I.pin (b,o) (List.mem_append_right _ (List.mem_append_right _ (mem_pinsAt hb e)))).2.1
   cases b with
   | false=>
    obtain⟨m',hm,w6⟩:=q6;obtain⟨p1,p2,p3,p4⟩:=pnew I6;exact⟨m',hm,i+1,ys,its,k,H6,weak (pinD I6 p1 p2),p3,p4,w6,vs'⟩
   | true=>
    refine wpAny_mono (he Hh.objs.size s2 H2 fp _ s6 σ5 H6 _ I6 q6) (fun v s7 ⟨y,H7,I7,r7,q7⟩=>?_) fun _ _ f=>f;obtain⟨m',hm,w7⟩:=q7;obtain⟨p1,p2,p3,p4⟩:=pnew I7;have hl:=vs'.length;refine wpAny_list_append_plain (l:=s2.heap.objs.size) (items:=its.toArray) ⟨k,p1⟩ (fun h8 pl8 sb8=>?_) (by rw[List.size_toArray]; omega);obtain⟨k8,e8⟩:=pl8;have e8':h8.get? s2.heap.objs.size=some (listO (its++[v]) k8):=by
     rw[e8];unfold listO;simp
    have I7':=(weak I7).pins_of (pins':=[]) fun p hp=>(nomatch hp);have I8:Inv (cxBlk X N scope Hh.objs.size s2 H2 fp) [] (blk nt fv σ) H7 { s7 with heap:=h8 }:=I7'.turned (t':=s7.toks) (it:=s2.heap.objs.size) (fun b o hb e=>(sb8.2 b hb).trans e) p2 hDC (.inr (Nat.le_refl _)) Dcell (fun p hp=>(nomatch hp));exact⟨m',hm,i+1,ys++[y],its++[v],k8,H7,pinD I8 e8' p2,T.keep _ _ _ p3 fun b hb o e=>(sb8.2 b (fun z=>Dfp (z▸hb))).trans e,p4,w7,vs'.append (.cons r7 .nil)⟩
 exact codeAny_compStart_list (loop _ rfl) (T.self X.A 0 _ _ _ (T.keep _ _ _ st2 fun b _ o e=>old b o e) (loop _ rfl))
theorem pe_lcomp (hc:X.calm=true)(B:BlkOk X N scope nt fv)(hi:PI X tg iter wi)
  (hg:∀ C s₀ H₀ ex,PG (cxBlk X N scope C s₀ H₀ ex) tg g) (ht:∀ C s₀ H₀ ex,PTs (cxBlk X N scope C s₀ H₀ ex) ifs ti) (he:∀ C s₀ H₀ ex,PE (cxBlk X N scope C s₀ H₀ ex) elt te)
  (hs:∀ x,foldedSetIterable iter X.env x=pure x:=by intro _; rfl):PE X (.ListComp elt [⟨tg,iter,ifs,0⟩] scope pos) (tComp nt fv wi g ti te):=by
 intro pins s σ H Q I h;rw[eval_ListComp];refine wpAny_comprehension_free (use:=none) rfl hs (clos_of (B.cells I)) B.kind B.names (thn (hi pins s σ H _ I h) fun xv s1 h1=>thn h1 fun itv s2 h2=>?_);obtain⟨it,fp,tn,J,H2,rfl,I2,T,st2,f2,W,⟨m0,w0⟩,turn⟩:=h2;refine comp_run hc B hg ht he I2 T st2 f2 w0 turn (RR:=fun acc C=>compPost (model X.prog X.w) X.A X.xe none (EP X pins σ Q) acc C) fun D C s' hC hn hq=>?_;obtain⟨m,hm⟩:=hn;refine⟨m,hm,fun h' sb=>?_⟩;obtain⟨H',I',_,q'⟩:=hq h' sb;exact⟨.ref D,H',I',rfl,q'⟩
theorem ps_setC {i:Nat}{x:Str}{pos' spos:Pos}(hN:X.N.Nodup)(hi':X.N[i]?=some x)(hx:X.env.scope.names.lookup x=some .local)(hc:X.calm=true)(B:BlkOk X N scope nt fv)(hi:PI X tg iter wi)
  (hg:∀ C s₀ H₀ ex,PG (cxBlk X N scope C s₀ H₀ ex) tg g) (ht:∀ C s₀ H₀ ex,PTs (cxBlk X N scope C s₀ H₀ ex) ifs ti) (he:∀ C s₀ H₀ ex,PE (cxBlk X N scope C s₀ H₀ ex) elt te)
  (hsw:swapsWith (.ListComp elt [⟨tg,iter,ifs,0⟩] scope pos) (some (.Name x pos')) spos.line X.env=pure true:=by rfl)
  (hs:∀ x,foldedSetIterable iter X.env x=pure x:=by intro _; rfl):PS X (.Assign [.Name x pos'] (.ListComp elt [⟨tg,iter,ifs,0⟩] scope pos) spos) (tAsg (tComp nt fv wi g ti te) (gName i)):=by
 intro pins s σ H D I h;rw[exec_Assign_Name_used _ _ _ _ hsw];refine wpAny_bind (wpAny_standAt (wpAny_bind ?_));show wpAny _ X.A (do let _←comprehension (.ListComp elt [⟨tg,iter,ifs,0⟩] scope pos) scope X.env _ (newList []) false (eval iter X.env) (some (assign (.Name x pos') X.env))) _ _ s;refine wpAny_bind (wpAny_mono (wpAny_comprehension_free (use:=some (assign (.Name x pos') X.env)) (Q:=fun _ s'=>SP X pins D .next s') rfl hs (clos_of (B.cells I)) B.kind B.names
  (thn (hi pins s σ H _ I h) fun xv s1 h1=>thn h1 fun itv s2 h2=>?_)) (fun _ s' h'=>wpAny_pure (wpAny_pure h')) fun _ _ e=>e)
 obtain⟨it,fp,tn,J,H2,rfl,I2,T,st2,f2,W,⟨m0,w0⟩,turn⟩:=h2;refine comp_run (Q:=fun v H1=>gName i v σ H1 D.nx) hc B hg ht he I2 T st2 f2 w0 turn (RR:=fun acc C=>compPost (model X.prog X.w) X.A X.xe (some (assign (.Name x pos') X.env)) (fun _ s'=>SP X pins D .next s') acc C) fun L C s' hC hn hq=>?_;obtain⟨m,hm⟩:=hn;obtain⟨H',I',hC',q'⟩:=hq s'.heap (Heap.SameBut.refl ..);have hCL:C≠X.env.locals:=fun z=>by
  have:=I2.lt;rw[← z] at this;exact Nat.lt_irrefl _ (Nat.lt_of_lt_of_le this hC)
 have Ccell:∀ y c,X.env.cells.lookup y=some c→c≠C:=fun y c e z=>by
  obtain⟨v,qc⟩:=I2.cell y c e;exact Nat.lt_irrefl _ (Nat.lt_of_lt_of_le (z▸qc.lt) hC)
 show wpAny _ X.A (assign (.Name x pos') X.env (.ref L)) _ _ s';refine wpAny_assign_Name (store_ok2 (v:=.ref L) I' hN hi' (.inl hx) rfl (fun s'' I'' sb''=>?_) (.inr hx));obtain⟨a,sb,ha⟩:=sb'';have haC:C≠a:=by
  rcases ha with z|z
  ·rw[z]; exact hCL
  ·exact(Ccell x a z).symm
 refine⟨m,hm.sameBut sb haC,fun h' sb'=>?_⟩;refine⟨_,H',I''.turned (t':=s''.toks) (it:=C) (fun b o hb e=>(sb'.2 b hb).trans e) hC' hCL (.inr (Nat.le_trans I2.sz hC)) Ccell fun p hp z=>?_,q'⟩;have e:=(I2.pin p hp).1;exact Nat.lt_irrefl _ (Nat.lt_of_lt_of_le (z▸Heap.lt_size e) hC)
end
end L2
namespace L2
open PySem PySem.Spec PyProof.Rows
def relS (scope osc:Scope):List (Str×NameKind):=scope.names.map fun(n,k)=>if (k==.free&&osc.kind==.function&&osc.names.lookup n==some .cell) then(n,.cell) else(n,k)
def blkC (osc:Scope)(ON N:List Str)(scope:Scope)(nt:Nat)(fv:List Nat):Bool:=
 scope.kind==.function&&scope.names.all (fun y=>y.2 != .cell)&&scope.names.all (fun y=>y.2 != .local||scope.names.lookup y.1==some .local) &&
 scope.names.all (fun y=>y.2 != .free||osc.names.lookup y.1==some .cell)&&N.length==nt+fv.length &&
 (List.range fv.length).all fun i=>match N[nt+i]?,fv[i]? with
  | some x,some j=>ON[j]?==some x&&osc.names.lookup x==some .cell&&(relS scope osc).lookup x==some .cell
  | _,_=>false
theorem blk_of {X:Cx}{osc:Scope}{ON N:List Str}{scope:Scope}{nt:Nat}{fv:List Nat}(h:blkC osc ON N scope nt fv=true)(e1:X.env.scope=osc:=by rfl)(e2:X.N=ON:=by rfl):BlkOk X N scope nt fv:=by
 subst e1 e2;unfold blkC at h;simp only[Bool.and_eq_true,List.all_eq_true,Bool.or_eq_true,bne_iff_ne,ne_eq,beq_iff_eq] at h;obtain⟨⟨⟨⟨⟨h1,h2⟩,h3⟩,h4⟩,h5⟩,h6⟩:=h;refine⟨h1,h2,fun y hy e=>?_,fun y hy e=>?_,h5,fun i x e=>?_⟩
 ·rcases h3 y hy with z|z
  ·exact absurd e z
  ·exact z
 ·rcases h4 y hy with z|z
  ·exact absurd e z
  ·exact z
 ·have hi:i<fv.length:=by
   have:=(List.getElem?_eq_some_iff.mp e).1;omega
  have q:=h6 i (List.mem_range.mpr hi);rw[e,List.getElem?_eq_getElem hi] at q;simp only[Bool.and_eq_true,beq_iff_eq] at q;obtain⟨⟨q1,q2⟩,q3⟩:=q;exact⟨fv[i],List.getElem?_eq_getElem hi,q1,q2,q3⟩
end L2
namespace L2.VS
open PySem PySem.Spec PyProof.Rows
section
variable {P0:Addr→Hp→Prop}
def mTrue:MT:=fun Γ Q=>Q true Γ
theorem vtt_true:VTT P0 tTrue mTrue:=fun _ _ _ _ _ _ _ r m k=>k _ _ _ _ m (Same.refl _) r
def blkS:Option Sl→Sl
 | some (.val d)=>.val d
 | some .pen=>.pen
 | some (.pub B)=>.pub B
 | _=>.no
def blkE (nt:Nat)(fv:List Nat)(Γ:En):En:=List.replicate nt .no++fv.map fun j=>blkS Γ[j]?
def compL (g:MG)(t:MT)(e:ME)(Γb:En):List D→List D→(List D→Prop)→Prop
 | [],acc,Q=>Q acc
 | d::ds,acc,Q=>g d Γb fun Γ1=>t Γ1 fun b Γ2=>if b=true then e Γ2 fun v _=>compL g t e Γb ds (acc++[v]) Q else compL g t e Γb ds acc Q
def mComp (nt:Nat)(fv:List Nat)(mi:MD)(g:MG)(t:MT)(e:ME):MO:=fun Γ Q=>mi Γ fun ds Γ1=>ds.length≤1000∧compL g t e (blkE nt fv Γ1) ds [] fun out=>Q (.own out) Γ1
theorem blk_R {F:Fra P0}{Γ:En}{σ:St}{G H G' H':Hp}{nt:Nat}{fv:List Nat}(r:R F Γ σ G H)(rf:Rf (F.sub r.fr) G' H')(s:Same G G'):R (F.sub r.fr) (blkE nt fv Γ) (blk nt fv σ) G' H':=by
 have at_:∀{i:Nat} {sl:Sl},(blkE nt fv Γ)[i]?=some sl→sl≠.no→∃(j:Nat) (s0:Sl),Γ[j]?=some s0∧sl=blkS (some s0)∧(blk nt fv σ)[i]?=some ((σ[j]?).getD none):=by
  intro i sl e hn;unfold blkE at e
  by_cases hi:i<nt
  ·rw[List.getElem?_append_left (by simpa using hi),List.getElem?_replicate] at e;rw[if_pos hi] at e
   cases e
   exact absurd rfl hn
  ·rw[List.getElem?_append_right (by simpa using hi),List.length_replicate,List.getElem?_map] at e
   cases ej:fv[i-nt]? with
   | none=>rw[ej] at e; cases e
   | some j=>
    rw[ej] at e;have e':blkS Γ[j]?=sl:=Option.some.inj e
    cases es:Γ[j]? with
    | none=>rw[es] at e'; exact absurd e'.symm hn
    | some s0=>
     rw[es] at e';refine⟨j,s0,es,e'.symm,?_⟩;unfold blk;rw[List.getElem?_append_right (by simpa using hi),List.length_replicate,List.getElem?_map,ej];rfl
 refine R.of rf (by simp[blkE,blk]) (fun i sl e=>?_) (fun i B e=>?_) (fun i j x y _ e=>?_)
 ·cases sl with
  | no=>trivial
  | val d=>
   obtain⟨j,s0,h1,h2,h3⟩:=at_ e (by intro z; cases z)
   cases s0 with
   | val d0=>
    cases h2
    obtain⟨v,e1,d1⟩:=r.sl j _ h1;rw[e1] at h3;exact⟨v,h3,Dt.same s _ _ d1⟩
   | _=>cases h2
  | own ds=>
   obtain⟨j,s0,h1,h2,h3⟩:=at_ e (by intro z; cases z)
   cases s0<;>cases h2
  | pen=>
   obtain⟨j,s0,h1,h2,h3⟩:=at_ e (by intro z; cases z)
   cases s0 with
   | pen=>
    obtain⟨p,e1,e2⟩:=r.sl j _ h1;rw[e1] at h3;exact⟨p,h3,e2⟩
   | _=>cases h2
  | con q=>
   obtain⟨j,s0,h1,h2,h3⟩:=at_ e (by intro z; cases z)
   cases s0<;>cases h2
  | pub B=>
   obtain⟨j,s0,h1,h2,h3⟩:=at_ e (by intro z; cases z)
   cases s0 with
   | pub B'=>
    cases h2
    obtain⟨v,e1,e2⟩:=r.sl j _ h1;rw[e1] at h3;exact⟨v,h3,B.mono s e2⟩
   | _=>cases h2
  | box B=>
   obtain⟨j,s0,h1,h2,h3⟩:=at_ e (by intro z; cases z)
   cases s0<;>cases h2
 ·obtain⟨j,s0,h1,h2,h3⟩:=at_ e (by intro z; cases z)
  cases s0<;>cases h2
 ·obtain⟨j,s0,h1,h2,h3⟩:=at_ e (by intro z; cases z)
  cases s0<;>cases h2
theorem vo_comp {nt:Nat}{fv:List Nat}{wi:TI}{g:TG}{ti:TT}{te:TE}{mi:MD}{mg:MG}{mt:MT}{me:ME}(hi:VI P0 wi mi)(hg:VG P0 (fun i=>decide (i<nt)) g mg)(ht:VTT P0 ti mt)(he:VT P0 te me) :
  VO P0 (tComp nt fv wi g ti te) (mComp nt fv mi mg mt me):=by
 intro F Γ σ G H Q Qm r m k;refine hi F Γ σ G H _ _ r m fun ds Γ1 J G1 H1 m1 s1 r1 wk=>?_;obtain⟨hsz,m1⟩:=m1;refine⟨fun i n ys H2=>n=ds.length-i∧i≤ds.length∧ys.length≤i∧∃ G2 out,Rf (F.sub r1.fr) G2 H2∧Same G1 G2∧Dts G2 ys out∧compL mg mt me (blkE nt fv Γ1) (ds.drop i) out fun out=>Qm (.own out) Γ1,
  ⟨ds.length,by simp,Nat.zero_le _,Nat.zero_le _,G1,[],F.subRf r1.fr,Same.refl _,.nil,by simpa using m1⟩,?_⟩
 rintro i n ys H2 ⟨rfl,hle,hy,G2,out,rf2,s2,d2,m2⟩;have rb:=blk_R (nt:=nt) (fv:=fv) r1 rf2 s2;obtain⟨go,stop⟩:=wk (F.sub r1.fr) _ _ G2 H2 s2 rb;have small:ys.length≤sizeLine:=small_le (by omega)
 by_cases hlt:i<ds.length
 ·refine .inr ⟨(go i ds[i] (by simp[hlt])).1,small,fun x H' hyl=>?_⟩;obtain⟨G3,s3,r3,d3⟩:=(go i ds[i] (by simp[hlt])).2 x H' hyl;rw[List.drop_eq_getElem_cons hlt] at m2;refine hg (F.sub r1.fr) _ _ G3 H' x _ _ _ r3 d3 m2 fun Γ4 σ4 m4 r4 e4=>⟨fun j hj=>e4 j (decide_eq_false (by omega)),?_⟩;refine ht (F.sub r1.fr) _ _ G3 H' _ _ r4 m4 fun b Γ5 G5 H5 m5 s5 r5=>?_
  cases b with
  | true=>
   refine iteT (he (F.sub r1.fr) _ _ G5 H5 _ _ r5 m5 fun d Γ6 v G6 H6 m6 s6 r6 d6=>?_);refine⟨ds.length-(i+1),by omega,rfl,hlt,by rw[List.length_append,List.length_singleton]; omega,G6,out++[d],r6.fr,((s2.trans s3).trans s5).trans s6,?_,m6⟩;exact(Dts.same ((s3.trans s5).trans s6) _ _ d2).app (.cons d6 .nil)
  | false=>
   refine iteF ?_;exact⟨ds.length-(i+1),by omega,rfl,hlt,by omega,G5,out,r5.fr,(s2.trans s3).trans s5,Dts.same (s3.trans s5) _ _ d2,m5⟩
 ·have e:i=ds.length:=by omega
  subst e;rw[List.drop_length] at m2;refine .inl ⟨stop,small,fun p hp=>?_⟩;obtain⟨r7,s7⟩:=r1.after rf2;obtain⟨a,b,c⟩:=own_new r7 hp d2;exact k _ _ _ _ _ m2 (s1.trans s7) a b c
theorem i_comp {nt:Nat}{fv:List Nat}{mi:MD}{mg:MG}{mt:MT}{me:ME}{Γ:En}{Q:Rv→En→Prop}(h:mi Γ fun ds Γ1=>ds.length≤1000∧compL mg mt me (blkE nt fv Γ1) ds [] fun out=>Q (.own out) Γ1):mComp nt fv mi mg mt me Γ Q:=h
theorem comp_fm {α:Type}{mg:MG}{mt:MT}{me:ME}{Γb:En}(p:α→Bool)(f:α→D)(enc:α→D):∀(xs:List α) (acc:List D) (Q:List D→Prop),
  (∀ x∈xs,∀(K:List D→Prop) (k:D→Prop) (k0:Prop),(p x=true→k (f x))→(p x=false→k0)→mg (enc x) Γb fun Γ1=>mt Γ1 fun b Γ2=>if b=true then me Γ2 fun v _=>k v else k0) →
  Q (acc++(xs.filter p).map f)→compL mg mt me Γb (xs.map enc) acc Q
 | [],acc,Q,_,q=>by simpa [compL] using q
 | x::xs,acc,Q,h,q=>by
  show mg (enc x) Γb fun Γ1=>mt Γ1 fun b Γ2=>if b=true then me Γ2 fun v _=>compL mg mt me Γb (xs.map enc) (acc++[v]) Q else compL mg mt me Γb (xs.map enc) acc Q
  refine h x List.mem_cons_self Q (fun v=>compL mg mt me Γb (xs.map enc) (acc++[v]) Q) _ (fun hp=>?_) fun hp=>?_
  ·refine comp_fm p f enc xs _ Q (fun y hy=>h y (List.mem_cons_of_mem _ hy)) ?_;simpa [List.filter_cons,hp,List.append_assoc] using q
  ·refine comp_fm p f enc xs _ Q (fun y hy=>h y (List.mem_cons_of_mem _ hy)) ?_;simpa [List.filter_cons,hp] using q
end
end L2.VS
namespace L2
open PySem PySem.Spec PyProof.Rows
section
variable {X:Cx}
end
end L2
namespace L2.VS
open PySem PySem.Spec PyProof.Rows
section
variable {P0:Addr→Hp→Prop}
end
end L2.VS
namespace L2
open PySem PySem.Spec PyProof.Rows
section
variable {X:Cx}
def bAt (ys:List V)(i:Nat):Bool:=match ys[i]? with
 | some (.bl b)=>b
 | _=>false
def isBl:V→Bool
 | .bl _=>true
 | _=>false
theorem truth_bl {A:Around}{ys:List V}{its:List Value}(r:Vals ys its)(hb:ys.all isBl=true):TruthOf X.prog X.w A (fun i v=>its.toArray[i]?=some v) (bAt ys):=by
 intro i v s Q E hP hq;have hv:its[i]?=some v:=by simpa using hP
 have hi:i<ys.length:=by
  have:=(List.getElem?_eq_some_iff.mp hv).1;rw[r.length]; exact this
 obtain⟨u,hu,ru⟩:=r.get (List.getElem?_eq_getElem hi);rw[hv] at hu
 cases hu
 have hbl:=List.all_eq_true.mp hb ys[i] (List.getElem_mem hi);unfold bAt at hq;rw[List.getElem?_eq_getElem hi] at hq
 cases e:ys[i] with
 | bl b=>
  rw[e] at ru hq
  cases ru
  exact wpAny_truthy_bool hq
 | _=>rw[e] at hbl; cases hbl
theorem range_all (ys:List V)(bs:List Bool)(h:ys=bs.map V.bl):(List.range ys.length).all (bAt ys)=bs.all id:=by
 subst h;rw[Bool.eq_iff_iff,List.all_eq_true,List.all_eq_true];constructor
 ·intro h b hb;obtain⟨i,hi,e⟩:=List.mem_iff_getElem.mp hb;have q:=h i (List.mem_range.mpr (by simpa using hi));unfold bAt at q;rw[List.getElem?_map,List.getElem?_eq_getElem hi,e] at q;exact q
 ·intro h i hi;have hi':i<bs.length:=by simpa using List.mem_range.mp hi
  unfold bAt;rw[List.getElem?_map,List.getElem?_eq_getElem hi'];exact h _ (List.getElem_mem hi')
theorem all_bl (bs:List Bool):(bs.map V.bl).all isBl=true:=by simp[isBl]
theorem consume (hc:X.calm=true){pins:List (Addr×Obj)}{σ:St}{H:Hp}{s:Shared}{p:Addr}{bs:List Bool}{f:(Nat→Bool)→List Nat→Bool}{Q:Value→Shared→Prop}(I:Inv X pins σ H s)(hx:SqL X.K H p (bs.map V.bl))
  (h:∀ s',Inv X pins σ H s'→Q (.bool (f (bAt (bs.map V.bl)) (List.range (bs.map V.bl).length))) s') :
  wpAny (model X.prog X.w) X.A.in1 (pyIter (.ref p)) (fun it s₂=>∃ I fp wr n P St tr,it=.ref I∧Walks X.prog X.w X.A.in1 I fp wr n P St∧St 0 s₂.heap∧TruthOf X.prog X.w X.A.in1 P tr ∧
   ∀ h' tk,(∀ b o,b∉wr→s₂.heap.get? b=some o→h'.get? b=some o)→Q (.bool (f tr (List.range n))) { s₂ with heap:=h',toks:=tk }) X.xe s:=by
 obtain⟨its,r,ht,hz⟩:=I.list hx;have hlt:p<s.heap.objs.size:=by
  obtain⟨o,ho,_⟩:=ht.isList;exact Heap.lt_size ho
 refine wpAny_pyIter_list ht.isList ?_;refine⟨s.heap.objs.size,_,_,_,_,_,bAt (bs.map V.bl),rfl,Walks.list (A:=X.A.in1) (show X.A.in1.handled=none from I.ok.hd hc) s.heap.objs.size p (Nat.ne_of_lt hlt) its.toArray,⟨⟨_,Heap.get?_push_size _ rfl,rfl,rfl⟩,?_⟩,truth_bl r (all_bl bs),fun h' tk hk=>?_⟩
 ·obtain⟨o,ho,q⟩:=ht.isList;exact⟨o,Heap.get?_push_of_some _ ho,q⟩
 ·have hl:its.toArray.size=(bs.map V.bl).length:=by rw[List.size_toArray]; exact r.length.symm
  rw[hl];refine h _ (I.kept (h':=h') (t':=tk) fun b o e=>hk b o (by simp; exact Nat.ne_of_lt (Heap.lt_size e)) (Heap.get?_push_of_some _ e))
theorem call_allL (hc:X.calm=true):CallR X (.builtin "all") (fun xs H Q=>∃(p:Addr) (bs:List Bool),xs=[.ref p]∧SqL X.K H p (bs.map V.bl)∧Q (.bl (bs.all id)) H):=by
 intro pins s σ H xs us Q I r h;obtain⟨p,bs,rfl,hx,q⟩:=h;obtain⟨u,rfl,ru⟩:=vals1 r
 cases ru
 exact call_all_walk (consume (f:=fun tr l=>l.all tr) hc I hx fun s' I'=>⟨.bl _,H,I',rfl,by rw[range_all _ bs rfl]; exact q⟩)
end
end L2
namespace L2.VS
open PySem PySem.Spec PyProof.Rows
section
variable {P0:Addr→Hp→Prop}
def boolsD:List D→Option (List Bool)
 | []=>some []
 | .bool b::ds=>(boolsD ds).map (b::·)
 | _::_=>none
theorem boolsD_map (bs:List Bool):boolsD (bs.map PyData.bool)=some bs:=by
 induction bs with
 | nil=>rfl
 | cons b bs ih=>show(boolsD (bs.map PyData.bool)).map (b::·)=_; rw[ih]; rfl
theorem bools_vals {G:Hp}:∀{vs:List V} {ds:List D} {bs:List Bool},Dts G vs ds→boolsD ds=some bs→vs=bs.map V.bl
 | _,_,_,.nil,e=>by cases e; rfl
 | _,d::ds,bs,.cons a b,e=>by
  cases a with
  | bl c=>
   show _;have e':(boolsD ds).map (c::·)=some bs:=e
   cases e2:boolsD ds with
   | none=>rw[e2] at e'; cases e'
   | some cs=>
    rw[e2] at e'
    cases e'
    rw[bools_vals b e2];rfl
  | _=>cases e
def mBs (f:List Bool→Bool)(ma:ME):ME:=fun Γ Q=>ma Γ fun x Γ1=>match x with
 | .list ds=>(match boolsD ds with
  | some bs=>Q (.bool (f bs)) Γ1
  | none=>False)
 | _=>False
abbrev mAll:=mBs fun bs=>bs.all id
theorem vt_bs {K:Fg}{f:List Bool→Bool}{ta:TE}{ma:ME}(ha:VT P0 ta ma):VT P0 (tCB (fun xs H Q=>∃(p:Addr) (bs:List Bool),xs=[.ref p]∧SqL K H p (bs.map V.bl)∧Q (.bl (f bs)) H) (cZ ta tNil)) (mBs f ma):=by
 intro F Γ σ G H Q Qm r m k;refine ha F Γ σ G H _ _ r m fun d Γ1 x G1 H1 m1 s1 r1 d1=>?_
 split at m1
 ·split at m1
  ·rename_i bs e
   cases d1 with
   | @lst p xs _ hp rs=>
    refine⟨p,bs,rfl,SqL.of ?_,k _ _ _ _ _ m1 s1 r1 (.bl _)⟩;rw[← bools_vals rs e];exact r1.fr.sub _ _ hp
  ·exact m1.elim
 ·exact m1.elim
theorem vt_all {K:Fg}{ta:TE}{ma:ME}(ha:VT P0 ta ma):VT P0 (tCB (fun xs H Q=>∃(p:Addr) (bs:List Bool),xs=[.ref p]∧SqL K H p (bs.map V.bl)∧Q (.bl (bs.all id)) H) (cZ ta tNil)) (mAll ma):=vt_bs ha
theorem i_bs {f:List Bool→Bool}{ma:ME}{Γ:En}{Q:D→En→Prop}(h:ma Γ fun x Γ1=>match x with|.list ds=>(match boolsD ds with|some bs=>Q (.bool (f bs)) Γ1|none=>False)|_=>False):mBs f ma Γ Q:=h
end
section
variable {P0:Addr→Hp→Prop}
def tameS:Option Sl→Sl
 | some (.val d)=>if noLst d=true then .val d else .no
 | some (.own es)=>if noLsts es=true then .own es else .no
 | some .pen=>.pen
 | _=>.no
def backE (as:List Nat)(Γ Γ1:En):En:=(List.range Γ.length).map fun j=>if as.contains j=true then tameS Γ1[j]? else(Γ[j]?).getD .no
def mPeekS (as:List Nat)(m:MS):MS:=fun Γ Q=>m (pubA Γ) fun fl=>match fl with
 | .nx Γ1=>Γ1.length=Γ.length∧Q (.nx (backE as Γ Γ1))
 | .bk Γ1=>Γ1.length=Γ.length∧Q (.bk (backE as Γ Γ1))
 | .ct Γ1=>Γ1.length=Γ.length∧Q (.ct (backE as Γ Γ1))
 | .rt rv=>Q (.rt rv)
theorem backE_get {as:List Nat}{Γ Γ1:En}{j:Nat}{s:Sl}(h:(backE as Γ Γ1)[j]?=some s):(as.contains j=true∧s=tameS Γ1[j]?)∨(as.contains j=false∧Γ[j]?=some s):=by
 unfold backE at h;rw[List.getElem?_map] at h;have hj:j<Γ.length:=by
  apply Classical.byContradiction;intro c;rw[List.getElem?_eq_none (by simpa using c)] at h
  cases h
 rw[List.getElem?_range hj] at h;have h':(if as.contains j=true then tameS Γ1[j]? else(Γ[j]?).getD .no)=s:=Option.some.inj h
 by_cases c:as.contains j=true
 ·rw[if_pos c] at h'; exact .inl ⟨c,h'.symm⟩
 ·rw[if_neg c,List.getElem?_eq_getElem hj] at h';refine .inr ⟨by simpa using c,?_⟩;rw[List.getElem?_eq_getElem hj];exact congrArg some h'
theorem tame_val {o:Option Sl}{d:D}(h:Sl.val d=tameS o):o=some (.val d)∧noLst d=true:=by
 unfold tameS at h
 split at h
 ·split at h
  ·rename_i c; cases h; exact⟨rfl,c⟩
  ·cases h
 ·split at h<;>cases h
 ·cases h
 ·cases h
theorem tame_own {o:Option Sl}{es:List D}(h:Sl.own es=tameS o):o=some (.own es)∧noLsts es=true:=by
 unfold tameS at h
 split at h
 ·split at h<;>cases h
 ·split at h
  ·rename_i c; cases h; exact⟨rfl,c⟩
  ·cases h
 ·cases h
 ·cases h
theorem tame_pen {o:Option Sl}(h:Sl.pen=tameS o):o=some .pen:=by
 unfold tameS at h
 split at h
 ·split at h<;>cases h
 ·split at h<;>cases h
 ·rfl
 ·cases h
theorem tame_pub {o:Option Sl}{B:Pb}(h:Sl.pub B=tameS o):False:=by
 unfold tameS at h
 split at h
 ·split at h<;>cases h
 ·split at h<;>cases h
 ·cases h
 ·cases h
theorem tame_con {o:Option Sl}{q:Addr}(h:Sl.con q=tameS o):False:=by
 unfold tameS at h
 split at h
 ·split at h<;>cases h
 ·split at h<;>cases h
 ·cases h
 ·cases h
theorem tame_box {o:Option Sl}{B:Bx}(h:Sl.box B=tameS o):False:=by
 unfold tameS at h
 split at h
 ·split at h<;>cases h
 ·split at h<;>cases h
 ·cases h
 ·cases h
theorem R.backS {F:Fra P0}{Γ Γ1:En}{σ σ1:St}{G H G1 H1:Hp}{as:List Nat}(r:R F Γ σ G H)(s:Same (gPub F Γ σ G H) G1)(r1:R F Γ1 σ1 G1 H1)(e:∀ j,as.contains j=false→σ1[j]?=σ[j]?)(hl:Γ1.length=Γ.length) :
  Same G (gBack F Γ σ G H G1)∧R F (backE as Γ Γ1) σ1 (gBack F Γ σ G H G1) H1:=by
 obtain⟨own,g,f,t⟩:=r.backG s r1.fr;obtain⟨fps,h1,h2⟩:=r.fps;obtain⟨fps1,g1,g2⟩:=r1.fps;refine⟨g,⟨f,by rw[← r1.len,hl]; simp[backE],fun j=>if as.contains j=true then(match tameS Γ1[j]? with|.own _=>fps1 j|_=>[]) else fps j,fun j sl q=>?_,fun i j x y qi qj hij b hb hc=>?_⟩⟩
 ·dsimp only;rcases backE_get q with⟨c,q'⟩|⟨c,q'⟩
  ·rw[if_pos c,←q']
   cases sl with
   | no=>rfl
   | val d=>
    obtain⟨q1,q2⟩:=tame_val q';obtain⟨_,v,e1,d1⟩:=g1 j _ q1;exact⟨rfl,v,e1,Dt.sameU t _ _ q2 d1⟩
   | own es=>
    obtain⟨q1,q2⟩:=tame_own q';obtain⟨p,vs,e0,e1,e2,e3,e4,e5⟩:=g1 j _ q1;refine⟨p,vs,e0,e1,e2,?_,e4,Dts.sameU t _ _ q2 e5⟩;unfold gBack
    split
    ·rfl
    ·exact e3
   | pen=>exact⟨rfl,(g1 j _ (tame_pen q')).2⟩
   | con q=>exact(tame_con q').elim
   | pub B=>exact(tame_pub q').elim
   | box B=>exact(tame_box q').elim
  ·rw[if_neg (by rw[c]; decide),e j c];refine(h1 j sl q').go g fun b hb=>?_;have ho:OwnA F Γ σ G H b:=⟨j,sl,fps j,q',h1 j sl q',hb⟩;exact⟨gBack_own ho,(own b ho).2⟩
 ·
  have mixed:∀{i j:Nat} {x y:Sl} {b:Addr},as.contains i=false→Γ[i]?=some x→y=tameS Γ1[j]?→b∈fps i→b∈(match tameS Γ1[j]? with|.own _=>fps1 j|_=>[])→False:=by
   intro i j x y b ci qi qj hb hc;have ho:OwnA F Γ σ G H b:=⟨i,x,fps i,qi,h1 i x qi,hb⟩
   split at hc
   ·rename_i es q1
    obtain⟨q2,_⟩:=tame_own q1.symm;obtain⟨_,m2,_⟩:=(g1 j _ q2).mine hc;obtain⟨_,_,o,e6⟩:=ho.at;have:=(own b ho).1;rw[m2,e6] at this; cases this
   ·cases hc
  dsimp only at hb hc;rcases backE_get qi with⟨c1,q1⟩|⟨c1,q1⟩
  ·rw[if_pos c1] at hb;rcases backE_get qj with⟨c2,q2⟩|⟨c2,q2⟩
   ·rw[if_pos c2] at hc
    split at hb
    ·rename_i u1 z1
     split at hc
     ·rename_i u2 z2
      exact g2 i j _ _ (tame_own z1.symm).1 (tame_own z2.symm).1 hij b hb hc
     ·cases hc
    ·cases hb
   ·rw[if_neg (by rw[c2]; decide)] at hc;exact mixed c2 q2 q1 hc hb
  ·rw[if_neg (by rw[c1]; decide)] at hb;rcases backE_get qj with⟨c2,q2⟩|⟨c2,q2⟩
   ·rw[if_pos c2] at hc;exact mixed c1 q1 q2 hb hc
   ·rw[if_neg (by rw[c2]; decide)] at hc;exact h2 i j _ _ q1 q2 hij b hb hc
theorem vs_peek {as:List Nat}{A:Nat→Bool}{t:TS}{m:MS}(h:VSA P0 (fun j=>as.contains j) t m)(hA:∀ j,as.contains j=true→A j=true):VSA P0 A t (mPeekS as m):=by
 intro F Γ σ G H E Qm r hm k;obtain⟨s0,r0⟩:=r.pubAll;have off:∀{σ1:St},(∀ j,as.contains j=false→σ1[j]?=σ[j]?)→∀ j,A j=false→σ1[j]?=σ[j]?:=fun e j hj=>e j (by
  cases c:as.contains j with
  | false=>rfl
  | true=>rw[hA j c] at hj; cases hj)
 refine h F _ σ _ H E _ r0 hm fun fl q=>?_
 cases fl with
 | nx Γ1=>
  intro σ1 G1 H1 s1 r1 e1;obtain⟨s2,r2⟩:=r.backS s1 r1 e1 q.1;exact k _ q.2 _ _ _ s2 r2 (off e1)
 | bk Γ1=>
  intro σ1 G1 H1 s1 r1 e1;obtain⟨s2,r2⟩:=r.backS s1 r1 e1 q.1;exact k _ q.2 _ _ _ s2 r2 (off e1)
 | ct Γ1=>
  intro σ1 G1 H1 s1 r1 e1;obtain⟨s2,r2⟩:=r.backS s1 r1 e1 q.1;exact k _ q.2 _ _ _ s2 r2 (off e1)
 | rt rv=>
  intro v G1 H1 s1 rf rv';exact k _ q v G1 H1 (s0.trans s1) rf rv'
theorem i_peekS {as:List Nat}{m:MS}{Γ:En}{Q:Fl→Prop}(h:m (pubA Γ) fun fl=>match fl with
 | .nx Γ1=>Γ1.length=Γ.length∧Q (.nx (backE as Γ Γ1))
 | .bk Γ1=>Γ1.length=Γ.length∧Q (.bk (backE as Γ Γ1))
 | .ct Γ1=>Γ1.length=Γ.length∧Q (.ct (backE as Γ Γ1))
 | .rt rv=>Q (.rt rv)):mPeekS as m Γ Q:=h
end
section
def Pen2 (K:Fg)(pen a:Addr)(ns:List Int)(H:Hp):Prop:=∃ z k:Int,0≤z∧0≤k∧H pen=some (.lst [.int z,.int k,.ref a])∧SqL K H a (ns.map V.int)
theorem penS2 {K:Fg}{pen a:Addr}{ns:List Int}{z k:Int}{H H':Hp}(hp:H pen=some (.lst [.int z,.int k,.ref a]))(h:SqL K H a (ns.map V.int))(e:SameX pen H H'):SqL K H' a (ns.map V.int):=by
 rcases h with(h|⟨o,h⟩)|h
 ·refine .inl (.inl (e _ _ ?_ h));rintro rfl;rw[hp] at h;injection h with h;injection h with h;have h2:([V.int z,V.int k,V.ref a]:List V)[2]?=(ns.map V.int)[2]?:=by rw[h]
  rw[List.getElem?_map] at h2
  cases e2:ns[2]? with
  | none=>rw[e2] at h2; cases h2
  | some n=>rw[e2] at h2; cases h2
 ·refine .inl (.inr ⟨o,e _ _ ?_ h⟩);rintro rfl;rw[hp] at h
  cases h
 ·exact .inr h
def spTake2 (K:Fg):Sp:=fun vs H Q _=>∃ pen a ns,∃ m:Int,vs=[.ref pen,.int m]∧Pen2 K pen a ns H∧0<m∧m<1073741824∧∀(r:Int) H',0≤r→r<m→Pen2 K pen a ns H'→SameX pen H H'→Q (.int r) H'
def bH (K:Fg)(a:Addr)(ns:List Int):Addr→Hp→Prop:=fun p H=>Pen2 K p a ns H
theorem take_of2 {K:Fg}{a:Addr}{ns:List Int}:∀ vs H Q E,spM (bH K a ns) 2 mTake vs H Q E→spTake2 K vs H Q E:=by
 rintro vs H Q E ⟨F,as,Qm,rfl,rf,pr,hl,hm,q⟩;unfold mTake at hm
 split at hm
 ·rename_i m
  cases pr with
  | cons a1 b1=>
   cases b1 with
   | cons a2 b2=>
    cases b2
    obtain⟨p,rfl,ep⟩:=a1;have a2:Dt F.G0 _ (.int m):=a2
    cases a2
    refine⟨p,a,ns,m,rfl,rf.pn p ep,hm.1,hm.2.1,fun r H' h1 h2 hp hx=>?_⟩;refine q _ _ F.G0 H' (hm.2.2 r h1 h2) ⟨fun b o e=>hx b o (fun z=>?_) (rf.sub b o e),fun _ _ _=>rfl,fun b o e hb=>hx b o (fun z=>hb (by rw[z]; exact ep)) e,fun p' ep'=>?_⟩ (.int _)
    ·rw[z,F.pg p ep] at e; cases e
    ·rw[ep] at ep'; cases ep'; exact hp
 ·exact hm.elim
theorem pen_stab2 {K:Fg}{a:Addr}{ns:List Int}{pen:Addr}{H0:Hp}(h0:∃ o,H0 pen=some o)(hS:SqL K H0 a (ns.map V.int)):∀ H H',(∀ b o,H0 b=some o→H' b=H b)→bH K a ns pen H→bH K a ns pen H':=by
 rintro H H' h ⟨z,k,hz,hk,e,s⟩;obtain⟨o,e0⟩:=h0;refine⟨z,k,hz,hk,(h pen o e0).trans e,?_⟩;rcases hS with(q|⟨ob,q⟩)|q
 ·have ea:=h a _ q;rcases s with(s|⟨ob',s⟩)|s
  ·exact .inl (.inl (ea.trans s))
  ·exact .inl (.inr ⟨ob',ea.trans s⟩)
  ·exact .inr s
 ·have ea:=h a _ q;rcases s with(s|⟨ob',s⟩)|s
  ·exact .inl (.inl (ea.trans s))
  ·exact .inl (.inr ⟨ob',ea.trans s⟩)
  ·exact .inr s
 ·exact .inr q
theorem law_go2 {K:Fg}{a:Addr}{ns:List Int}{k:Nat}{t:TS}{b:MS}{H:Hp}{pen:Addr}{Q:VK}{nx:St→Hp→Prop}(h:VS (bH K a ns) t b)(hp:H pen=none)(hS:SqL K H a (ns.map V.int))
    (hb:b (.no::.pen::List.replicate k .no) TrueEnd) (q:∀ H',Q (.bl true) H') :
    t { nx:=nx,rt:=Q } (some (.ref a)::some (.ref pen)::List.replicate k none) (upd H pen (.lst [.int 0,.int 0,.ref a])):=by
  have g:=same_new hp (.lst [.int 0,.int 0,.ref a]);have hS':=g.seq hS
  let F:Fra (bH K a ns):=
    { H0:=upd H pen (.lst [.int 0,.int 0,.ref a])
      G0:=fun _=>none
      pen:=some pen
      stab:=fun p e=>by cases e; exact pen_stab2 ⟨_,b8⟩ hS'
      pin:=fun p e H1 h1=>by obtain⟨z,k,_,_,e1,_⟩:=h1; exact⟨_,e1⟩
      pin0:=fun p e=>by cases e; exact⟨_,b8⟩
      pg:=fun _ _=>rfl }
  refine h F (.no::.pen::List.replicate k .no) _ F.G0 _ _ TrueEnd (R.of ⟨fun b o e=>(nomatch e),fun _ _ _=>rfl,fun _ _ e _=>e,fun p e=>?_⟩ ?_ (fun i s e=>?_) (fun i B e=>?_) (fun i j x y _ e=>?_)) hb fun fl e=>?_
  · cases e
    exact⟨0,0,by decide,by decide,b8,hS'⟩
  · simp
  · match i with
    | 0=>cases e; trivial
    | 1=>cases e; exact⟨pen,rfl,rfl⟩
    | i+2=>
      have e':(List.replicate k Sl.no)[i]?=some s:=by simpa using e
      rw[List.getElem?_replicate] at e'
      split at e'
      · cases e'; trivial
      · cases e'
  · match i with
    | 0=>cases e
    | 1=>cases e
    | i+2=>
      have e':(List.replicate k Sl.no)[i]?=some (.box B):=by simpa using e
      rw[List.getElem?_replicate] at e'
      split at e'
      · cases e'
      · cases e'
  · match i with
    | 0=>cases e
    | 1=>cases e
    | i+2=>
      have e':(List.replicate k Sl.no)[i]?=some (.own x):=by simpa using e
      rw[List.getElem?_replicate] at e'
      split at e'
      · cases e'
      · cases e'
  · unfold TrueEnd at e;subst e;intro r G' H' _ _ hr;have hr:Dt G' r (.bool true):=hr
    cases hr
    exact q H'
theorem law_body2 {K:Fg}{a:Addr}{ns:List Int}{k:Nat}{b:MS}{H:Hp}{Q:VK}{nx:St→Hp→Prop}{X:Cx}{st:Stmt}{rest:List Stmt}{N:List Str}
  (h1:PS X st (tAsg (tLst (cZ (tC (.int 0)) (cZ (tC (.int 0)) (cZ (tVar 0) tNil)))) (gName 1))) (h2:∃ t,PSs X rest t∧VS (bH K a ns) t b) (hN:N.length=k+2) (hS:SqL K H a (ns.map V.int))
  (hb:b (.no::.pen::List.replicate k .no) TrueEnd) (q:∀ H',Q (.bl true) H'):∃ t,PSs X (st::rest) t∧t { nx:=nx,rt:=Q } (start N [.ref a]) H:=by
 obtain⟨t,h2,h3⟩:=h2;refine⟨_,aD h1 h2,?_⟩;have e:start N [.ref a]=some (.ref a)::none::List.replicate k none:=by
  unfold start;rw[hN];rfl
 rw[e];refine⟨_,rfl,small_b rfl,fun pen hp=>?_⟩;exact law_go2 (t:=t) h3 hp hS hb q
end
section
variable {P0:Addr→Hp→Prop}{K:Fg}
def mSlT (ma:ME)(ml mh:MP):ME:=fun Γ Q=>ma Γ fun x Γ1=>ml Γ1 fun lo Γ2=>mh Γ2 fun hi Γ3=>match x with
 | .tuple ds=>¬(HT.sIx ds.length 0 lo=0∧HT.sIx ds.length ds.length hi=ds.length)∧Q (.tuple (cutD ds lo hi)) Γ3
 | _=>False
theorem vt_slT {ta:TE}{ma:ME}{tl th:TO}{ml mh:MP}(ha:VT P0 ta ma)(hl:VP P0 tl ml)(hh:VP P0 th mh):VT P0 (tSl (rSlT K) ta tl th) (mSlT ma ml mh):=by
 intro F Γ σ G H Q Qm r m k;refine ha F Γ σ G H _ _ r m fun d Γ1 x G1 H1 m1 s1 r1 d1=>?_;refine hl F Γ1 σ G1 H1 _ _ r1 m1 fun lo Γ2 G2 H2 m2 s2 r2=>?_;refine hh F Γ2 σ G2 H2 _ _ r2 m2 fun hi Γ3 G3 H3 m3 s3 r3=>?_
 split at m3
 ·have d1:=Dt.same (s2.trans s3) _ _ d1
  cases d1 with
  | @tup p xs _ hp rs=>
   refine⟨p,xs,rfl,SqT.of (r3.fr.sub _ _ hp),by rw[rs.len]; exact m3.1,fun l hl=>?_⟩;have g:=same_new (r3.fr.gfresh hl) (.tup (cutV xs lo hi));exact k _ _ _ _ _ m3.2 (((s1.trans s2).trans s3).trans g) (r3.new hl) (.tup b8 (Dts.same g _ _ (rs.cut lo hi)))
 ·exact m3.elim
theorem i_slT {ma:ME}{ml mh:MP}{Γ:En}{Q:D→En→Prop}(h:ma Γ fun x Γ1=>ml Γ1 fun lo Γ2=>mh Γ2 fun hi Γ3=>match x with|.tuple ds=>¬(HT.sIx ds.length 0 lo=0∧HT.sIx ds.length ds.length hi=ds.length)∧Q (.tuple (cutD ds lo hi)) Γ3|_=>False):mSlT ma ml mh Γ Q:=h
end
end L2.VS
namespace L2
open PySem PySem.Spec PyProof.Rows
section
variable {X:Cx}
end
end L2
namespace L2.VS
open PySem PySem.Spec PyProof.Rows
section
variable {P0:Addr→Hp→Prop}{A:Nat→Bool}
end
end L2.VS
namespace PySem
open Sem (wp)
namespace F
end F
set_option hygiene false in
local macro_rules|`(tactic| walk_at "zr")=>`(tactic| (
 simp only[Bool.false_eq_true,if_false,List.forIn_toArray,List.forIn_cons,List.forIn_nil];refine wpAny_bind (wpAny_bind (wpAny_bind (wpAny_holding ?_)));show wpAny _ _ (Builtin.SmallTypes.nextOf (.ref i1) >>= _) _ _ _;refine wpAny_bind (wpAny_nextOf_list_item (h1.extBut hs₀.extBut D.i1z) (hl1.extBut hs₀.extBut D.l1z) hx fun h₂ h1₂ hs₂=>wpAny_pure ?_);refine wpAny_pure ?_;refine wpAny_bind (wpAny_bind (wpAny_holding ?_));show wpAny _ _ (Builtin.SmallTypes.nextOf (.ref i2) >>= _) _ _ _;refine wpAny_bind (wpAny_nextOf_list_item ((h2.extBut hs₀.extBut D.i2z).extBut hs₂.extBut D.i12.symm) ((hl2.extBut hs₀.extBut D.l2z).extBut hs₂.extBut D.l2i1) hy fun h₄ h2₄ hs₄=>wpAny_pure ?_);refine wpAny_pure (wpAny_pure ?_);show wpAny _ _ (newTuple [x,y] >>= _) _ _ _;refine wpAny_bind (wpAny_newTuple (wpAny_pure ⟨_,rfl,?_⟩))
 replace hs₂:Heap.SameBut i1 h₀ h₂:=hs₂
 replace hs₄:Heap.SameBut i2 h₂ h₄:=hs₄
 have hsz:h₄.objs.size=hp.objs.size:=by rw[hs₄.1,hs₂.1,hs₀.1]
 show Q (.ref h₄.objs.size) ⟨h₄.push { cls:=.type "tuple", data:=.seq #[x,y] },g,d,tk,os⟩;have hz₄:IsZipK h₄ z TI TO (rawInt T) (.bool true):=hs₄.extBut _ _ D.i2z.symm (hs₂.extBut _ _ D.i1z.symm hz₀);have hT₄:IsPair (h₄.push { cls:=.type "tuple", data:=.seq #[x,y] }) h₄.objs.size x y:=Heap.get?_push_size _ rfl;rw[hsz] at hT₄ ⊢;exact hQ _ (Heap.get?_push_of_some _ hz₄) ((h1₂.extBut hs₄.extBut D.i12).at fun o e=>Heap.get?_push_of_some _ e) (h2₄.at fun o e=>Heap.get?_push_of_some _ e) hT₄ (by rw[Heap.size_push,hsz])
  fun c o c1 c2 c3 e=>Heap.get?_push_of_some _ (hs₄.extBut _ _ c3 (hs₂.extBut _ _ c2 (hs₀.extBut _ _ c1 e)))))
set_option hygiene false in
local macro_rules|`(tactic| walk_at "ze")=>`(tactic| (
 simp only[Bool.false_eq_true,if_false,List.forIn_toArray,List.forIn_cons,List.forIn_nil];refine wpAny_bind (wpAny_bind (wpAny_bind (wpAny_holding ?_)));show wpAny _ _ (Builtin.SmallTypes.nextOf (.ref i1) >>= _) _ _ _
 cases hx:xs[k1]? with
 | none=>
  refine wpAny_bind (wpAny_nextOf_list_end hh (h1.extBut hs₀.extBut D.i1z) (hl1.extBut hs₀.extBut D.l1z) hx fun h₂ e hs₂ he=>?_);exact hE h₂ e (fun c o c1 c2 c3 x=>hs₂ _ _ c2 (hs₀.extBut _ _ c1 x)) he
 | some x=>
  have hy:ys[k2]?=none:=by rcases hend with h|h; rw[hx] at h; cases h; exact h
  refine wpAny_bind (wpAny_nextOf_list_item (h1.extBut hs₀.extBut D.i1z) (hl1.extBut hs₀.extBut D.l1z) hx fun h₂ h1₂ hs₂=>wpAny_pure ?_);refine wpAny_pure ?_;refine wpAny_bind (wpAny_bind (wpAny_holding ?_));show wpAny _ _ (Builtin.SmallTypes.nextOf (.ref i2) >>= _) _ _ _;refine wpAny_bind (wpAny_nextOf_list_end hh ((h2.extBut hs₀.extBut D.i2z).extBut hs₂.extBut D.i12.symm) ((hl2.extBut hs₀.extBut D.l2z).extBut hs₂.extBut D.l2i1) hy fun h₄ e hs₄ he=>?_);exact hE h₄ e (fun c o c1 c2 c3 x=>hs₄ _ _ c3 (hs₂.extBut _ _ c2 (hs₀.extBut _ _ c1 x))) he))
section
variable {prog:Program}{w:World}{A:Around}{E:Value→Shared→Prop}{s:Shared}
end
end PySem
namespace PySem
open Sem (wp)
section
variable {prog:Program}{w:World}{A:Around}{R:Result→Shared→Prop}
end
section
variable {prog:Program}{w:World}{A:Around}{E:Value→Shared→Prop}{s:Shared}
end
end PySem
namespace L2
open PySem PySem.Spec PyProof.Rows
section
variable {X:Cx}{pins:List (Addr×Obj)}{σ:List (Option V)}{H:Hp}{s:Shared}
end
end L2
namespace L2.VS
open PySem PySem.Spec PyProof.Rows
section
variable {P0:Addr→Hp→Prop}{K:Fg}
def zipD (ds es:List D):List D:=(ds.zip es).map fun p=>.tuple [p.1,p.2]
end
end L2.VS
namespace L2
open PySem PySem.Spec PyProof.Rows
section
variable {X:Cx}{pins:List (Addr×Obj)}{σ:List (Option V)}{H:Hp}{s:Shared}
theorem Inv.turnedL {h':Heap}{t':Nat}{ch:List Addr}{T:Addr}{o:HO}(I:Inv X pins σ H s)(k:∀ b u,b∉ch→s.heap.get? b=some u→h'.get? b=some u)(hch:∀ b∈ch,FpOk X pins H b)(hT:s.heap.objs.size≤T)
  (new:ObjOk X.prog X.w (upd H T o) h' T o):Inv X pins σ (upd H T o) { s with heap:=h',toks:=t' }:=by
 have hn:=I.hok.fresh hT;have nch:∀ b u,H b=some u→b∉ch:=fun b u e z=>by rw[(hch b z).1] at e; cases e
 refine I.step (g':=s.gens) (d':=s.drawn) (ch:=ch) (fun b hb=>⟨(hch b hb).2.2.2.1,(hch b hb).2.1,(hch b hb).2.2.2.2.1,(hch b hb).2.2.2.2.2⟩) (fun b o _ _ hc e _=>k b o hc e) (fun b o _ _ hc e _=>⟨o.slots,k b o hc e⟩)
  (fun b u _ e n=>by rw[bB (Nat.ne_of_lt (Nat.lt_of_lt_of_le (Heap.lt_size e) hT))]; exact n) (fun b o hc e=>⟨o,k b o hc e⟩) (fun b xs q=>by rw[bB (bA q hn)]; exact q) (fun b u xs q=>by rw[bB (bA q hn)]; exact q)
  (fun b ps q=>⟨#[],by rw[bB (bA q hn),q]; simp⟩) (fun m hm=>?_) (fun b u e=>?_) I.bare
 ·obtain⟨o,es,ep,ho,r⟩:=hm;exact⟨o,es,ep,k _ o (fun z=>(hch _ z).2.1 rfl) ho,r⟩
 ·by_cases hb:b=T
  ·subst hb; rw[b8] at e; cases e; exact new
  ·rw[bB hb] at e;refine(I.hok b u e).stay (fun c v hc q=>k c v ?_ q) (fun c q=>by rw[bB (bA q hn)]; exact q) fun c xs q=>by rw[bB (bA q hn)]; exact q
   rcases hc with z|z
   ·rw[z]; exact nch b u e
   ·exact nch c _ z
theorem Inv.turnedC {h':Heap}{t':Nat}{ch:List Addr}(I:Inv X pins σ H s)(k:∀ b u,b∉ch→s.heap.get? b=some u→h'.get? b=some u)(hch:∀ b∈ch,FpOk X pins H b):Inv X pins σ H { s with heap:=h',toks:=t' }:=by
 have nch:∀ b u,H b=some u→b∉ch:=fun b u e z=>by rw[(hch b z).1] at e; cases e
 refine I.step (g':=s.gens) (d':=s.drawn) (ch:=ch) (fun b hb=>⟨(hch b hb).2.2.2.1,(hch b hb).2.1,(hch b hb).2.2.2.2.1,(hch b hb).2.2.2.2.2⟩) (fun b o _ _ hc e _=>k b o hc e) (fun b o _ _ hc e _=>⟨o.slots,k b o hc e⟩)
  (fun b u _ e n=>n) (fun b o hc e=>⟨o,k b o hc e⟩) (fun b xs q=>q) (fun b u xs q=>q) (fun b ps q=>⟨#[],by rw[q]; simp⟩) (fun m hm=>?_) (fun b u e=>?_) I.bare
 ·obtain⟨o,es,ep,ho,r⟩:=hm;exact⟨o,es,ep,k _ o (fun z=>(hch _ z).2.1 rfl) ho,r⟩
 ·refine(I.hok b u e).stay (fun c v hc q=>k c v ?_ q) (fun _ q=>q) fun _ _ q=>q;rcases hc with z|z
  ·rw[z]; exact nch b u e
  ·exact nch c _ z
end
section
variable {X:Cx}
end
end L2
namespace L2.VS
open PySem PySem.Spec PyProof.Rows
section
variable {P0:Addr→Hp→Prop}{K:Fg}
end
end L2.VS
namespace L2
open PySem PySem.Spec PyProof.Rows
section
variable {X:Cx}
end
end L2
namespace L2.VS
open PySem PySem.Spec PyProof.Rows
section
variable {P0:Addr→Hp→Prop}
end
section
variable {P0:Addr→Hp→Prop}{ta tb:TE}{ma mb:ME}
end
section
variable {P0:Addr→Hp→Prop}{A:Nat→Bool}
end
section
variable {P0:Addr→Hp→Prop}{A:Nat→Bool}
end
end L2.VS
namespace L2
open PySem PySem.Spec PyProof.Rows
@[irreducible] def PSi (X:Cx) (L:List Stmt) (t:TS):Prop:=PSs X L t
@[irreducible] def PSd (X:Cx) (st:Stmt) (t:TS):Prop:=PS X st t
@[irreducible] def PEd (X:Cx) (e:Expr) (t:TE):Prop:=PE X e t
@[irreducible] def PAd (X:Cx) (es:List Expr) (t:TA):Prop:=PA X es t
section
variable {X:Cx}{L rest:List Stmt}{st:Stmt}{t u:TS}{e a b:Expr}{es:List Expr}{te ta tb:TE}{tl:TA}{pos:Pos}
end
end L2
namespace L2.VS
open PySem PySem.Spec PyProof.Rows
section
variable {P0:Addr→Hp→Prop}{S:Type}
section
variable {G G' H H':Hp}{v:V}{fp fp':List Addr}
end
end
section
variable {P0:Addr→Hp→Prop}
end
section
variable {P0:Addr→Hp→Prop}
section
variable {C:Addr}{x:Str}{i:Nat}
variable {E:XK}
end
end
section
variable {P0:Addr→Hp→Prop}
end
section
variable {P0:Addr→Hp→Prop}{A:Nat→Bool}
theorem hu1 {a:Nat}(h:a+64<cLine):a+1<cLine:=Nat.lt_of_le_of_lt (Nat.add_le_add_left (by decide) _) h
end
end L2.VS
namespace L2
open PySem PySem.Spec PyProof.Rows
theorem isinst2_ok {X:Cx}{pins:List (Addr×Obj)}{σ:St}{H:Hp}{s:Shared}{A:Around}{E:Value→Shared→Prop}{Q:Value→Shared→Prop}{b:Bool}{x:V}{u:Value}{n:String}{tp:Addr}{dd:Option Addr}{its:List Value}{m:Nat}{sl:Array (Option Value)}
  (I:Inv X pins σ H s) (rx:RelV x u) (ty:TyOf X.K H x (.type n)) (ht:s.heap.get? tp=some ⟨.type "tuple", dd,.seq its.toArray m,sl⟩) (e:PySem.W.kitAny X.K (.type n) its=some b) (h:∀ tk,Q (.bool b) { s with toks:=tk }) :
  wpAny (model X.prog X.w) A (call (.builtin "isinstance") [u,.ref tp]) Q E s:=by
 generalize hT:Value.type n=t at *
 cases ty with
 | non=>cases(show u=Value.none from rx); exact PySem.W.kia_tup PySem.W.kitx_none I.kIn True.intro ht e (fun z=>nomatch z) h
 | bl y=>cases(show u=Value.bool y from rx); exact PySem.W.kia_tup PySem.W.kitx_bool I.kIn True.intro ht e (fun z=>nomatch z) h
 | int i=>obtain⟨t,q⟩:=(show ∃ t,u=Value.int i t from rx); cases q; exact PySem.W.kia_tup PySem.W.kitx_int I.kIn True.intro ht e (fun z=>nomatch z) h
 | str y=>obtain⟨t,q⟩:=(show ∃ t,u=Value.str y t from rx); cases q; exact PySem.W.kia_tup PySem.W.kitx_str I.kIn True.intro ht e (fun z=>nomatch z) h
 | flt y=>obtain⟨t,q⟩:=(show ∃ t,u=Value.float y t from rx); cases q; exact PySem.W.kia_tup PySem.W.kitx_float I.kIn True.intro ht e (fun z=>nomatch z) h
 | @lst a xs ea=>
  cases(show u=Value.ref a from rx)
  obtain⟨_,_,n,_,h1⟩:=(show ObjOk X.prog X.w H s.heap a (.lst xs) from I.hok a _ ea);exact PySem.W.kia_tup PySem.W.kitx_list I.kIn ⟨_,h1,rfl⟩ ht e (fun z=>nomatch z) h
 | @frz a ob xs ea=>
  cases(show u=Value.ref a from rx)
  obtain⟨_,_,_,n,_,h1⟩:=(show ObjOk X.prog X.w H s.heap a (.frz ob (.lst xs)) from I.hok a _ ea);exact PySem.W.kia_tup PySem.W.kitx_list I.kIn ⟨_,h1,rfl⟩ ht e (fun z=>nomatch z) h
 | @tup a xs ea=>
  cases(show u=Value.ref a from rx)
  obtain⟨_,_,_,p⟩:=(show ObjOk X.prog X.w H s.heap a (.tup xs) from I.hok a _ ea);obtain⟨o,h1,h2,_⟩:=p;exact PySem.W.kia_tup PySem.W.kitx_tuple I.kIn ⟨o,h1,h2⟩ ht e (fun z=>nomatch z) h
 | @dK a kvs ea=>
  cases(show u=Value.ref a from rx)
  obtain⟨_,_,vs,_,p⟩:=(show ObjOk X.prog X.w H s.heap a (.dK kvs) from I.hok a _ ea);obtain⟨o,es,ep,h1,h2,_⟩:=p;exact PySem.W.kia_tup PySem.W.kitx_dict I.kIn ⟨o,h1,h2.1⟩ ht e (fun z=>nomatch z) h
 | @fdK a ob kvs ea=>
  cases(show u=Value.ref a from rx)
  obtain⟨_,_,_,vs,_,p⟩:=(show ObjOk X.prog X.w H s.heap a (.frz ob (.dK kvs)) from I.hok a _ ea);obtain⟨o,es,ep,h1,h2,_⟩:=p;exact PySem.W.kia_tup PySem.W.kitx_dict I.kIn ⟨o,h1,h2.1⟩ ht e (fun z=>nomatch z) h
 | @dT a kvs ea=>
  cases(show u=Value.ref a from rx)
  obtain⟨_,_,xs,_,o,es,ep,h1,h2,_⟩:=(show ObjOk X.prog X.w H s.heap a (.dT kvs) from I.hok a _ ea);exact PySem.W.kia_tup PySem.W.kitx_dict I.kIn ⟨o,h1,h2.1⟩ ht e (fun z=>nomatch z) h
 | ins=>cases hT
theorem kitAny2 {K:Fg}{t c d:Value}{a b:Bool}(h1:PySem.W.kitOne K t c=some a)(h2:PySem.W.kitOne K t d=some b):PySem.W.kitAny K t [c,d]=some (a||b):=by
 unfold PySem.W.kitAny;rw[h1]
 cases a with
 | true=>rfl
 | false=>
  unfold PySem.W.kitAny;rw[h2]
  cases b<;>rfl
def rIsi2 (K:Fg)(a b:String):List V→Hp→VK→Prop:=fun xs H Q=>∃(x:V) (tp:Addr) (n:String) (i j:Bool),xs=[x,.ref tp]∧TyOf K H x (.type n)∧H tp=some (.tup [.ty a,.ty b])∧PySem.W.kitOne K (.type n) (.type a)=some i∧PySem.W.kitOne K (.type n) (.type b)=some j∧Q (.bl (i||j)) H
theorem call_isi2 {X:Cx}{a b:String}:CallR X (.builtin "isinstance") (rIsi2 X.K a b):=by
 intro pins s σ H xs us Q I r h;obtain⟨x,tp,n,i,j,rfl,ty,ht,h1,h2,q⟩:=h
 cases r with
 | cons r1 r=>
  cases r with
  | cons r2 r=>
   cases r
   have e2:=(show _=Value.ref tp from r2);subst e2;obtain⟨_,its,rv,o,g1,g2,m,g3⟩:=(show ObjOk X.prog X.w H s.heap tp (.tup [.ty a,.ty b]) from I.hok tp _ ht);have ei:its=[Value.type a,Value.type b]:=by
    cases rv with
    | cons a0 r0=>
     cases r0 with
     | cons a1 r1=>
      cases r1
      cases(show _=Value.type a from a0)
      cases(show _=Value.type b from a1)
      rfl
   subst ei;obtain⟨oc,od,dt,sl⟩:=o;dsimp only at g2 g3;subst g2 g3;exact isinst2_ok I r1 ty g1 (kitAny2 h1 h2) fun tk=>⟨.bl (i||j),H,I.tok _,rfl,q⟩
end L2
namespace L2.VS
open PySem PySem.Spec PyProof.Rows
section
variable {P0:Addr→Hp→Prop}
def mIsi2 (a b:String)(ma:ME):ME:=fun Γ Q=>ma Γ fun x Γ1=>Q (.bool (subT (cO x) a||subT (cO x) b)) Γ1
theorem vt_isi2 {K:Fg}{a b:String}{ta:TE}{ma:ME}(hk:Kit K)(ha:a∈tyL)(hb:b∈tyL)(h:VT P0 ta ma):VT P0 (tCB (rIsi2 K a b) (cZ ta (cZ (tTup (cZ (tC (.ty a)) (cZ (tC (.ty b)) tNil))) tNil))) (mIsi2 a b ma):=by
 intro F Γ σ G H Q Qm r m k;refine h F Γ σ G H _ _ r m fun d Γ1 x G1 H1 m1 s1 r1 d1=>?_;obtain⟨h1,h2⟩:=tyOf_of (K:=K) (Dt.same r1.fr.sub _ _ d1);refine⟨small_b rfl,fun tp htp=>?_⟩;have g:=same_new htp (.tup [.ty a,.ty b]);obtain⟨h3,_⟩:=tyOf_of (K:=K) (Dt.same g _ _ (Dt.same r1.fr.sub _ _ d1));exact⟨x,tp,_,_,_,rfl,h3,b8,hk _ h2 _ ha,hk _ h2 _ hb,k _ _ _ _ _ m1 s1 (r1.newP htp) (.bl _)⟩
theorem i_isi2 {a b:String}{ma:ME}{Γ:En}{Q:D→En→Prop}(h:ma Γ fun x Γ1=>Q (.bool (subT (cO x) a||subT (cO x) b)) Γ1):mIsi2 a b ma Γ Q:=h
def mNo:Fm:=fun _ _=>False
theorem cal_no {P:Program}{w:World}{K:Fg}{mg:Mg}{base:Heap}{k n:Nat}{x:Str}{ps:List Str}{f:Addr}{fd:FuncData}(hm:mg x=some (.ref f))(kp:PySem.W.keepIn K (.ref f)=true)(b:Binds K fd ps []):Cal P w K mg base k x ps (spM P0 n mNo):=
 ⟨f,fd,⟨fun vs H Q E h=>by obtain⟨_,_,_,_,_,_,_,hm,_⟩:=h; exact hm.elim,fun _ _ _ _ _ _ _ _ _ _ _ _ _ h=>by obtain⟨_,_,_,_,_,_,_,hm,_⟩:=h; exact hm.elim⟩,hm,kp,b⟩
end
section
variable {P0:Addr→Hp→Prop}{A:Nat→Bool}{S:Type}
def Fra.hold (F:Fra P0){G H:Hp}(rf:Rf F G H)(fp:List Addr)(hF:∀ b∈fp,F.H0 b=none):Fra P0 where
 H0:=fun b=>if b∈fp then H b else F.H0 b
 G0:=fun b=>if b∈fp then none else F.G0 b
 pen:=F.pen
 stab:=fun p e H1 H2 h=>F.stab p e H1 H2 fun b o z=>h b o (by rw[if_neg (fun hb=>by rw[hF b hb] at z; cases z)]; exact z)
 pin:=F.pin
 pin0:=fun p e=>by
  obtain⟨o,z⟩:=F.pin0 p e;exact⟨o,by rw[if_neg (fun hb=>by rw[hF p hb] at z; cases z)]; exact z⟩
 pg:=fun p e=>by
  split
  ·rfl
  ·exact F.pg p e
section
variable {F:Fra P0}{Γ:En}{σ:St}{G H:Hp}{fp:List Addr}
theorem SlF.frame {F F':Fra P0}{G H:Hp}{x:Option (Option V)}{fp:List Addr}(hp:F'.pen=F.pen)(k:∀ b∈fp,F.H0 b=none→F'.H0 b=none):∀{s:Sl},SlF F G H x fp s→SlF F' G H x fp s
 | .no,h=>h
 | .val _,h=>h
 | .own _,h=>by
  obtain⟨p,vs,e,e1,e2,r⟩:=h;exact⟨p,vs,e,e1,k p (by rw[e]; exact List.mem_singleton.mpr rfl) e2,r⟩
 | .pen,h=>by
  obtain⟨e,p,e1,e2⟩:=h;exact⟨e,p,e1,hp.trans e2⟩
 | .con _,h=>h
 | .pub _,h=>h
 | .box B,h=>by
  obtain⟨v,h1,h2,h3⟩:=h;exact⟨v,h1,h2,fun b hb=>⟨k b hb (h3 b hb).1,(h3 b hb).2⟩⟩
theorem R.hold (r:R F Γ σ G H)(hF:∀ b∈fp,F.H0 b=none∧G b=none)(ap:∀(i:Nat) s f,Γ[i]?=some s→SlF F G H σ[i]? f s→∀ b∈fp,b∉f):R (F.hold r.fr fp fun b hb=>(hF b hb).1) Γ σ G H:=by
 obtain⟨fps,h1,h2⟩:=r.fps;refine⟨⟨r.fr.sub,fun b o z=>?_,fun b o z hb=>?_,r.fr.pn⟩,r.len,fps,fun i s e=>SlF.frame (F:=F) (F':=F.hold r.fr fp fun b hb=>(hF b hb).1) rfl (fun b hb z=>?_) (h1 i s e),h2⟩
 ·have z:(if b∈fp then H b else F.H0 b)=some o:=z;show G b=if b∈fp then none else F.G0 b
  split at z
  ·rename_i h; rw[if_pos h]; exact(hF b h).2
  ·rename_i h; rw[if_neg h]; exact r.fr.g0 b o z
 ·have z:(if b∈fp then H b else F.H0 b)=some o:=z
  split at z
  ·exact z
  ·exact r.fr.h0 b o z hb
 ·show(if b∈fp then H b else F.H0 b)=none
  rw[if_neg (fun h=>ap i s _ e (h1 i s e) b h hb)];exact z
theorem R.unhold {rf:Rf F G H}{hF:∀ b∈fp,F.H0 b=none}{Γ':En}{σ':St}{G' H':Hp}(hH:∀ b∈fp,∃ o,H b=some o)(r:R (F.hold rf fp hF) Γ' σ' G' H') :
  R F Γ' σ' G' H'∧(∀ b∈fp,H' b=H b∧G' b=none)∧∀(i:Nat) s f,Γ'[i]?=some s→SlF F G' H' σ'[i]? f s→∀ b∈fp,b∉f:=by
 obtain⟨fps,h1,h2⟩:=r.fps;have in_:∀ b∈fp,∃ o,(F.hold rf fp hF).H0 b=some o∧H b=some o:=fun b hb=>by
  obtain⟨o,ho⟩:=hH b hb;exact⟨o,by show(if b∈fp then H b else F.H0 b)=_; rw[if_pos hb]; exact ho,ho⟩
 have out:∀ b o,F.H0 b=some o→b∉fp∧(F.hold rf fp hF).H0 b=some o:=fun b o z=>by
  have hb:b∉fp:=fun h=>by rw[hF b h] at z; cases z
  exact⟨hb,by show(if b∈fp then H b else F.H0 b)=_; rw[if_neg hb]; exact z⟩
 have nF:∀ b,(F.hold rf fp hF).H0 b=none→F.H0 b=none:=fun b z=>by
  cases y:F.H0 b with
  | none=>rfl
  | some o=>rw[(out b o y).2] at z; cases z
 have sl:∀(i:Nat) s,Γ'[i]?=some s→SlF F G' H' σ'[i]? (fps i) s:=fun i s e=>SlF.frame (F:=F.hold rf fp hF) (F':=F) rfl (fun b _ z=>nF b z) (h1 i s e);refine⟨⟨⟨r.fr.sub,fun b o z=>?_,fun b o z hb=>r.fr.h0 b o (out b o z).2 hb,r.fr.pn⟩,r.len,fps,sl,h2⟩,fun b hb=>?_,fun i s f e hf b hb hc=>?_⟩
 ·have y:=r.fr.g0 b o (out b o z).2;rw[y]
  show(if b∈fp then none else F.G0 b)=_
  rw[if_neg (out b o z).1]
 ·obtain⟨o,ho,hH'⟩:=in_ b hb;refine⟨?_,?_⟩
  ·rw[hH'];refine r.fr.h0 b o ho fun z=>?_;obtain⟨o',z'⟩:=F.pin0 b z;rw[hF b hb] at z'; cases z'
  ·rw[r.fr.g0 b o ho]
   show(if b∈fp then none else F.G0 b)=none
   rw[if_pos hb]
 ·rw[SlF.det hf (sl i s e)] at hc;obtain⟨z,_⟩:=(h1 i s e).mine hc;obtain⟨o,ho,_⟩:=in_ b hb;rw[ho] at z; cases z
end
end
end L2.VS
namespace L2
open PySem PySem.Spec PyProof.Rows
section
variable {X:Cx}
theorem str_ext {a b:PySem.Str}(h:a.cps.toList=b.cps.toList):a=b:=by
 obtain⟨a⟩:=a;obtain⟨b⟩:=b;have:a=b:=Array.toList_inj.mp h;rw[this]
theorem cps_app (a b:PySem.Str):(a++b).cps.toList=a.cps.toList++b.cps.toList:=Array.toList_append
theorem str_len0 {a:PySem.Str}(h:(a.length==0)=true):a.cps.toList=[]:=by
 have h:a.cps.size=0:=beq_iff_eq.mp h;exact List.eq_nil_of_length_eq_zero (by rw[Array.length_toList]; exact h)
def rSAdd:R2:=fun x y H Q=>∃ a b:PySem.Str,x=.str a∧y=.str b∧(a++b).length≤sizeLine∧Q (.str (a++b)) H
theorem op_sadd:OpR X (binaryOp .Add) rSAdd:=by
 intro pins s σ H x y v u Q I rx ry h;obtain⟨a,b,rfl,rfl,hz,q⟩:=h;obtain⟨t,rfl⟩:=rx;obtain⟨t',rfl⟩:=ry;refine P.add_str ?_
 by_cases c:(a.length==0)=true
 ·rw[if_pos c];have e:a++b=b:=str_ext (by rw[cps_app,str_len0 c,List.nil_append]);rw[e] at q;exact⟨.str b,H,I,⟨_,rfl⟩,q⟩
 ·rw[if_neg c]
  by_cases d:(b.length==0)=true
  ·rw[if_pos d];have e:a++b=a:=str_ext (by rw[cps_app,str_len0 d,List.append_nil]);rw[e] at q;exact⟨.str a,H,I,⟨_,rfl⟩,q⟩
  ·rw[if_neg d];exact⟨hz,.str (a++b),H,I.tok _,⟨_,rfl⟩,q⟩
def txI (i:Int):PySem.Str:=PySem.Str.ofString (toString i)
def rStrI:List V→Hp→VK→Prop:=fun xs H Q=>(∃ i:Int,xs=[.int i]∧i.natAbs.log2<1920∧Q (.str (txI i)) H)∨∃ a,xs=[.str a]∧Q (.str a) H
theorem call_strI:CallR X (.type "str") rStrI:=by
 intro pins s σ H xs us Q I r h;rcases h with⟨i,rfl,hi,q⟩|⟨a,rfl,q⟩
 ·obtain⟨u,rfl,t,rfl⟩:=vals1 r;exact P.str_of_int hi ⟨.str (txI i),H,I.tok _,⟨_,rfl⟩,q⟩
 ·obtain⟨u,rfl,t,rfl⟩:=vals1 r;exact P.str_of_str ⟨.str a,H,I,⟨_,rfl⟩,q⟩
def rLenS:List V→Hp→VK→Prop:=fun xs H Q=>∃ a:PySem.Str,xs=[.str a]∧a.length≤sizeLine∧Q (.int (a.length:Int)) H
theorem call_lenS:CallR X (.builtin "len") rLenS:=by
 intro pins s σ H xs us Q I r h;obtain⟨a,rfl,hl,q⟩:=h;obtain⟨u,rfl,t,rfl⟩:=vals1 r;have h63:=line63;exact P.len_str (by omega) ⟨.int (a.length:Int),H,I.tok _,⟨_,rfl⟩,q⟩
def inS (a b:PySem.Str):Bool := !(Builtin.Str.occurrences b a 0 b.length 1).isEmpty
def rInS:R2:=fun x y H Q=>∃ a b:PySem.Str,x=.str a∧y=.str b∧Q (.bl (inS a b)) H
theorem op_inS:OpR X (compareOp .In) rInS:=by
 intro pins s σ H x y v u Q I rx ry h;obtain⟨a,b,rfl,rfl,q⟩:=h;obtain⟨t,rfl⟩:=rx;obtain⟨t',rfl⟩:=ry;exact P.in_str ⟨.bl (inS a b),H,I,rfl,q⟩
def rStarts:V→List V→Hp→VK→Prop:=fun x vs H Q=>∃ a b:PySem.Str,x=.str a∧vs=[.str b]∧Q (.bl (Txt.startswith a b)) H
theorem mt_starts:MtR X "str.startswith" rStarts:=by
 intro pins s σ H x vs v us Q I rx rv h;obtain⟨a,b,rfl,rfl,q⟩:=h;obtain⟨t,rfl⟩:=rx;obtain⟨u,rfl,t',rfl⟩:=rv.one;exact SC.startswith ⟨.bl (Txt.startswith a b),H,I,rfl,q⟩
def rIntS:List V→Hp→VK→Prop:=fun xs H Q=>∃(a:PySem.Str) (n:Int),xs=[.str a]∧PySem.intText? a=some n∧a.length≤640∧Q (.int n) H
theorem call_intS:CallR X (.type "int") rIntS:=by
 intro pins s σ H xs us Q I r h;obtain⟨a,n,rfl,hn,hl,q⟩:=h;obtain⟨u,rfl,t,rfl⟩:=vals1 r;exact PySem.W.KIN.call_text hn hl ⟨.int n,H,I.tok _,⟨_,rfl⟩,q⟩
theorem vals_strs:∀{ts:List PySem.Str} {its:List Value},Vals (ts.map V.str) its→∃ l:List (PySem.Str×Tok),its=strValues l∧l.map (·.1)=ts
 | [],its,h=>by cases h; exact⟨[],rfl,rfl⟩
 | a::ts,its,h=>by
  cases h with
  | cons r t=>
   obtain⟨tk,rfl⟩:=r;obtain⟨l,rfl,e⟩:=vals_strs t;exact⟨(a,tk)::l,rfl,by rw[List.map_cons,e]⟩
theorem vals_of_strs:∀(l:List (PySem.Str×Tok)),Vals ((l.map (·.1)).map V.str) (strValues l)
 | []=>.nil
 | p::l=>.cons ⟨p.2,rfl⟩ (vals_of_strs l)
def rJoin (K:Fg):V→List V→Hp→VK→Prop:=fun x vs H Q=>∃(a:PySem.Str) (p:Addr) (ts:List PySem.Str),x=.str a∧vs=[.ref p]∧SqL K H p (ts.map V.str)∧JoinOk a ts=true∧Q (.str (Txt.join a ts)) H
theorem mt_join:MtR X "str.join" (rJoin X.K):=by
 intro pins s σ H x vs v us Q I rx rv h;obtain⟨a,p,ts,rfl,rfl,hq,hok,q⟩:=h;obtain⟨t,rfl⟩:=rx;obtain⟨u,rfl,ru⟩:=rv.one
 cases ru
 obtain⟨its,r',pl,hz⟩:=I.list hq;obtain⟨l,rfl,e⟩:=vals_strs r';exact SC.join pl.isList e hok fun t' k=>⟨.str (Txt.join a ts),H,I.tok k,⟨_,rfl⟩,q⟩
def rSplit:V→List V→Hp→VK→Prop:=fun x vs H Q=>∃ a b:PySem.Str,x=.str a∧vs=[.str b]∧(b.length==0)=false∧a.length≤sizeLine∧(Txt.split a b).length≤sizeLine∧∀ q,H q=none→Q (.ref q) (upd H q (.lst ((Txt.split a b).map V.str)))
theorem mt_split:MtR X "str.split" rSplit:=by
 intro pins s σ H x vs v us Q I rx rv h;obtain⟨a,b,rfl,rfl,hy,hz,hz2,q⟩:=h;obtain⟨t,rfl⟩:=rx;obtain⟨u,rfl,t',rfl⟩:=rv.one;have fin:∀(l:List (PySem.Str×Tok)) (k:Nat),l.map (·.1)=Txt.split a b→EP X pins σ Q (.ref s.heap.objs.size) { s with heap:=s.heap.push { cls:=.type "list", data:=.seq (strValues l).toArray },toks:=k }:=fun l k e=>by
  have vs:=vals_of_strs l;rw[e] at vs;exact⟨.ref _,_,I.lnew (t':=k) vs (by rw[List.length_map]; exact hz2),rfl,q _ I.fresh⟩
 cases h1:(decide (a.length<b.length)||decide (Builtin.Str.strKind a<Builtin.Str.strKind b)) with
 | false=>
  cases hf:(Builtin.Str.occurrences a b 0 a.length (a.length+1)).isEmpty with
  | false=>
   have es:Txt.split a b=Builtin.Str.partsBetween a (Builtin.Str.occurrences a b 0 a.length (a.length+1)) b.length:=(if_neg (ne_true_of_eq_false h1)).trans (if_neg (ne_true_of_eq_false hf));rw[es] at hz2;refine call_meets F.slot_str_split (typeIs_str _ _ _) F.entry_str_split (F.args_str_split_2 _ _) (meets_str_split_sep a b _ _ h1 hy hf hz hz2) ?_;show wants _ X.xe _ { s with toks:=_,heap:=s.heap.push { cls:=.type "list", data:=.seq (strsFrom s.toks (Builtin.Str.partsBetween a (Builtin.Str.occurrences a b 0 a.length (a.length+1)) b.length)).toArray } };rw[strsFrom_eq];exact fin _ _ ((numbered_texts _ _).trans es.symm)
  | true=>exact call_meets F.slot_str_split (typeIs_str _ _ _) F.entry_str_split (F.args_str_split_2 _ _) (meets_str_split_not_found a b _ _ h1 hy hf) (fin [(a,t)] s.toks ((if_neg (ne_true_of_eq_false h1)).trans (if_pos hf)).symm)
 | true=>exact call_meets F.slot_str_split (typeIs_str _ _ _) F.entry_str_split (F.args_str_split_2 _ _) (meets_str_split_cannot_occur a b _ _ h1) (fin [(a,t)] s.toks (if_pos h1).symm)
def ItS (x:PySem.Str):It:=⟨fun i _=>i<x.cps.size,fun i H v H'=>H'=H∧∃ c,x.cps[i]?=some c∧v=.str ⟨#[c]⟩,fun i _=>i=x.cps.size⟩
theorem turn_str {P:Program}{w:World}{K:Fg}{tg:Expr}{x:PySem.Str}{t:Tok}{it:Addr}{ty:String}(W:∀ A':Around,A'.handled=none→Walks P w A' it [it] [it] x.cps.size (SignAt x) (fun i h=>h.IsStrIter it ty x t i))
  (hs:∀(A:Around) (i:Nat) (s:Shared) (Q:Value→Shared→Prop) (E:Value→Shared→Prop),s.heap.IsStrIter it ty x t i→Q (.ref it) s→wpAny (model P w) A (pyIter (.ref it)) Q E s)
  (hn:["enumerate", "zip", "dict_itemiterator", "dict_reverseitemiterator", "odict_iterator", "itertools.zip_longest", "itertools.pairwise"].contains ty=false) :
  Turn P w K tg (ItS x) [it] it (fun i h=>h.IsStrIter it ty x t i) where
 mem:=by simp
 obj:=fun i h st b hb=>by
  have e:b=it:=by simpa using hb
  subst e;obtain⟨o,e,c,d⟩:=st;exact⟨o,e,fun v z=>by rw[d] at z; cases z⟩
 keep:=fun i h h' st k=>let ⟨o,ho,r⟩:=st; ⟨o,k it (by simp) o ho,r⟩
 item:=by
  intro X hP hw hK hc i pins s σ H E I hf st hg;subst hP hw hK;obtain⟨f0,f1,f2,f3,f4,f5⟩:=hf it (by simp);refine(W X.A (I.ok.hd hc)).item i s _ _ hg st fun v h' tk hv st' kk=>?_;obtain⟨c,u,hc',rfl⟩:=hv;have I1:Inv X pins σ H { s with heap:=h',toks:=tk }:=I.turned (fun b o hb e=>kk b o (by simpa using hb) e) f0 f1 f3 f4 f5;obtain⟨o,e,cl,d⟩:=id st';exact⟨_,rfl,go_of (s:={ s with heap:=h',toks:=tk }) e cl d hn ⟨.str ⟨#[c]⟩,H,I1,⟨u,rfl⟩,⟨rfl,c,hc',rfl⟩,st',fun b hb=>(hf b hb).1⟩⟩
 done:=by
  intro X hP hw hK hc i pins s σ H E I hf st hg;subst hP hw hK;obtain⟨f0,f1,f2,f3,f4,f5⟩:=hf it (by simp);have hg:i=x.cps.size:=hg;subst hg;exact(W X.A (I.ok.hd hc)).done s _ _ st fun h' tk kk=>⟨rfl,I.turned (fun b o hb e=>kk b o (by simpa using hb) e) f0 f1 f3 f4 f5⟩
 self:=hs
def iStr (tl:TE):TI:=fun σ H R=>tl σ H fun v H1=>∃ x,v=.str x∧R (ItS x) H1
theorem pi_str {tg:Expr}{l:Expr}{tl:TE}(hl:PE X l tl):PI X tg l (iStr tl):=by
 intro pins s σ H R I h;refine thn (hl pins s σ H _ I h) fun v s1 ⟨y,H1,I1,r1,x,e,q⟩=>?_;subst e;obtain⟨t,rfl⟩:=r1;have fp:∀ b∈[s1.heap.objs.size],FpOk X pins H1 b:=fun b hb=>by
  have e:b=s1.heap.objs.size:=by simpa using hb
  subst e;exact I1.fpOk (Nat.le_refl _) (I1.hok.fresh (Nat.le_refl _))
 cases ha:x.cps.all (·<128) with
 | false=>exact wpAny_pyIter_wide ha ⟨s1.heap.objs.size,[s1.heap.objs.size],_,_,H1,rfl,I1.kept (t':=s1.toks) fun b o e=>Heap.get?_push_of_some _ e,turn_str (fun A' hA=>Walks.strWide hA _ x t) (fun A i s Q E st h=>wpAny_pyIter_striter_wide st h) (by decide),⟨_,Heap.get?_push_size _ rfl,rfl,rfl⟩,fp,q⟩
 | true=>exact wpAny_pyIter_ascii ha ⟨s1.heap.objs.size,[s1.heap.objs.size],_,_,H1,rfl,I1.kept (t':=s1.toks) fun b o e=>Heap.get?_push_of_some _ e,turn_str (fun A' hA=>Walks.strAscii hA _ x t) (fun A i s Q E st h=>wpAny_pyIter_striter_ascii st h) (by decide),⟨_,Heap.get?_push_size _ rfl,rfl,rfl⟩,fp,q⟩
def cutS (x:PySem.Str)(lo hi:Option Int):PySem.Str:=if ((Builtin.Str.strSliceIndices lo hi 1 x.length).length==x.length)=true then x else⟨((Builtin.Str.strSliceIndices lo hi 1 x.length).filterMap (x.cps[·]?)).toArray⟩
def rSlS:V→Option Int→Option Int→Hp→VK→Prop:=fun v lo hi H Q=>∃ x:PySem.Str,v=.str x∧x.length≤sizeLine∧Q (.str (cutS x lo hi)) H
theorem sl_str:SlR X rSlS:=by
 intro pins s σ H y v vl vu lo hi sl Q I rx hs pl pu h;obtain⟨x,rfl,hz,q⟩:=h;obtain⟨t,rfl⟩:=rx;have part:∀{v:Value} {o:Option Int},IsPart v o→∃ p:Option (Int×Tok),v=partValue p∧p.map (·.1)=o:=fun{v o} h=>by
  cases h with
  | none=>exact⟨none,rfl,rfl⟩
  | int i t=>exact⟨some (i,t),rfl,rfl⟩
 obtain⟨l,rfl,el⟩:=part pl;obtain⟨u,rfl,eu⟩:=part pu;refine⟨"str", _,F.slot_str_getitem.lookup,typeIs_str _ _ _,?_⟩;refine wpAny_getItem_str_slice (l:=l) (u:=u) (st:=none) hs rfl ?_;have hle:(Builtin.Str.strSliceIndices lo hi 1 x.length).length≤x.length:=sliceIndices_le lo hi x.length;unfold sliceMade slicePicked;rw[el,eu];unfold cutS at q
 show(if (true&&((Builtin.Str.strSliceIndices lo hi 1 x.length).length==x.length))=true then _ else _:Made).post _ s
 rw[Bool.true_and]
 by_cases c:((Builtin.Str.strSliceIndices lo hi 1 x.length).length==x.length)=true
 ·rw[if_pos c];rw[if_pos c] at q;exact⟨.str x,H,I,⟨_,rfl⟩,q⟩
 ·rw[if_neg c];rw[if_neg c] at q;refine⟨?_,.str _,H,I.tok _,⟨_,rfl⟩,q⟩
  show(List.toArray _).size≤sizeLine
  rw[List.size_toArray];exact Nat.le_trans (List.length_filterMap_le _ _) (Nat.le_trans hle hz)
end
end L2
namespace L2.VS
open PySem PySem.Spec PyProof.Rows
section
variable {P0:Addr→Hp→Prop}
def saK (x:D)(Q:D→En→Prop)(y:D)(Γ:En):Prop:=∃ a b:PySem.Str,x=.str a∧y=.str b∧(a++b).length≤1000000∧Q (.str (a++b)) Γ
def saJ (mb:ME)(Q:D→En→Prop)(x:D)(Γ:En):Prop:=mb Γ (saK x Q)
def mSAdd (ma mb:ME):ME:=fun Γ Q=>ma Γ (saJ mb Q)
theorem sz1m {n:Nat}(h:n≤1000000):n≤sizeLine:=Nat.le_trans h (by rw[sizeLine_eq]; decide)
theorem vt_sadd {ta tb:TE}{ma mb:ME}(ha:VT P0 ta ma)(hb:VT P0 tb mb):VT P0 (tOp rSAdd ta tb) (mSAdd ma mb):=by
 intro F Γ σ G H Q Qm r m k;refine ha F Γ σ G H _ _ r m fun d Γ1 x G1 H1 m1 s1 r1 d1=>?_;refine hb F Γ1 σ G1 H1 _ _ r1 m1 fun e Γ2 y G2 H2 m2 s2 r2 d2=>?_;obtain⟨a,b,rfl,rfl,hz,q⟩:=m2
 cases d1
 cases d2
 exact⟨a,b,rfl,rfl,sz1m hz,k _ _ _ _ _ q (s1.trans s2) r2 (.str _)⟩
def txK (Q:D→En→Prop)(x:D)(Γ:En):Prop:=(∃ i:Int,x=.int i∧i.natAbs.log2<1920∧Q (.str (txI i)) Γ)∨∃ a,x=.str a∧Q (.str a) Γ
def mStr (ma:ME):ME:=fun Γ Q=>ma Γ (txK Q)
theorem vt_str1 {ta:TE}{ma:ME}(ha:VT P0 ta ma):VT P0 (tCB rStrI (cZ ta tNil)) (mStr ma):=by
 intro F Γ σ G H Q Qm r m k;refine ha F Γ σ G H _ _ r m fun d Γ1 x G1 H1 m1 s1 r1 d1=>?_;rcases m1 with⟨i,rfl,hi,q⟩|⟨a,rfl,q⟩
 ·cases d1
  exact .inl ⟨i,rfl,hi,k _ _ _ _ _ q s1 r1 (.str _)⟩
 ·cases d1
  exact .inr ⟨a,rfl,k _ _ _ _ _ q s1 r1 (.str _)⟩
def lsK (Q:D→En→Prop)(x:D)(Γ:En):Prop:=∃ a:PySem.Str,x=.str a∧a.length≤1000000∧Q (.int (a.length:Int)) Γ
def mLenS (ma:ME):ME:=fun Γ Q=>ma Γ (lsK Q)
theorem vt_lenS {ta:TE}{ma:ME}(ha:VT P0 ta ma):VT P0 (tCB rLenS (cZ ta tNil)) (mLenS ma):=by
 intro F Γ σ G H Q Qm r m k;refine ha F Γ σ G H _ _ r m fun d Γ1 x G1 H1 m1 s1 r1 d1=>?_;obtain⟨a,rfl,hl,q⟩:=m1
 cases d1
 exact⟨a,rfl,sz1m hl,k _ _ _ _ _ q s1 r1 (.int _)⟩
def siK (x:D)(Q:D→En→Prop)(y:D)(Γ:En):Prop:=∃ a b:PySem.Str,x=.str a∧y=.str b∧Q (.bool (inS a b)) Γ
def siJ (mb:ME)(Q:D→En→Prop)(x:D)(Γ:En):Prop:=mb Γ (siK x Q)
def mInS (ma mb:ME):ME:=fun Γ Q=>ma Γ (siJ mb Q)
theorem vt_inS {ta tb:TE}{ma mb:ME}(ha:VT P0 ta ma)(hb:VT P0 tb mb):VT P0 (tOp rInS ta tb) (mInS ma mb):=by
 intro F Γ σ G H Q Qm r m k;refine ha F Γ σ G H _ _ r m fun d Γ1 x G1 H1 m1 s1 r1 d1=>?_;refine hb F Γ1 σ G1 H1 _ _ r1 m1 fun e Γ2 y G2 H2 m2 s2 r2 d2=>?_;obtain⟨a,b,rfl,rfl,q⟩:=m2
 cases d1
 cases d2
 exact⟨a,b,rfl,rfl,k _ _ _ _ _ q (s1.trans s2) r2 (.bl _)⟩
def swK (x:D)(Q:D→En→Prop)(y:D)(Γ:En):Prop:=∃ a b:PySem.Str,x=.str a∧y=.str b∧Q (.bool (Txt.startswith a b)) Γ
def swJ (mb:ME)(Q:D→En→Prop)(x:D)(Γ:En):Prop:=(∃ a,x=.str a)∧mb Γ (swK x Q)
def mStarts (ma mb:ME):ME:=fun Γ Q=>ma Γ (swJ mb Q)
theorem vt_starts {K:Fg}{ta tb:TE}{ma mb:ME}(ha:VT P0 ta ma)(hb:VT P0 tb mb):VT P0 (tBM K "str" rStarts ta (cZ tb tNil)) (mStarts ma mb):=by
 intro F Γ σ G H Q Qm r m k;refine ha F Γ σ G H _ _ r m fun d Γ1 x G1 H1 m1 s1 r1 d1=>?_;obtain⟨⟨a,rfl⟩,m1⟩:=m1
 cases d1
 refine⟨rfl,hb F Γ1 σ G1 H1 _ _ r1 m1 fun e Γ2 y G2 H2 m2 s2 r2 d2=>?_⟩;obtain⟨a',b,e1,rfl,q⟩:=m2
 cases e1
 cases d2
 exact⟨a,b,rfl,rfl,k _ _ _ _ _ q (s1.trans s2) r2 (.bl _)⟩
def inK (Q:D→En→Prop)(x:D)(Γ:En):Prop:=∃(a:PySem.Str) (n:Int),x=.str a∧PySem.intText? a=some n∧a.length≤640∧Q (.int n) Γ
def mIntS (ma:ME):ME:=fun Γ Q=>ma Γ (inK Q)
theorem vt_intS {ta:TE}{ma:ME}(ha:VT P0 ta ma):VT P0 (tCB rIntS (cZ ta tNil)) (mIntS ma):=by
 intro F Γ σ G H Q Qm r m k;refine ha F Γ σ G H _ _ r m fun d Γ1 x G1 H1 m1 s1 r1 d1=>?_;obtain⟨a,n,rfl,hn,hl,q⟩:=m1
 cases d1
 exact⟨a,n,rfl,hn,hl,k _ _ _ _ _ q s1 r1 (.int _)⟩
theorem dts_strs {G:Hp}:∀{ts:List PySem.Str} {xs:List V},Dts G xs (ts.map PyData.str)→xs=ts.map V.str
 | [],_,h=>by cases h; rfl
 | a::ts,_,h=>by
  cases h with
  | cons h1 h2=>
   cases h1
   rw[dts_strs h2];rfl
theorem strs_dts {G:Hp}:∀ ts:List PySem.Str,Dts G (ts.map V.str) (ts.map PyData.str)
 | []=>.nil
 | a::ts=>.cons (.str a) (strs_dts ts)
def jnK (x:D)(Q:D→En→Prop)(y:D)(Γ:En):Prop:=∃(a:PySem.Str) (ts:List PySem.Str),x=.str a∧y=.list (ts.map PyData.str)∧JoinOk a ts=true∧Q (.str (Txt.join a ts)) Γ
def jnJ (mb:ME)(Q:D→En→Prop)(x:D)(Γ:En):Prop:=(∃ a,x=.str a)∧mb Γ (jnK x Q)
def mJoin (ma mb:ME):ME:=fun Γ Q=>ma Γ (jnJ mb Q)
theorem vt_join {K:Fg}{ta tb:TE}{ma mb:ME}(ha:VT P0 ta ma)(hb:VT P0 tb mb):VT P0 (tBM K "str" (rJoin K) ta (cZ tb tNil)) (mJoin ma mb):=by
 intro F Γ σ G H Q Qm r m k;refine ha F Γ σ G H _ _ r m fun d Γ1 x G1 H1 m1 s1 r1 d1=>?_;obtain⟨⟨a,rfl⟩,m1⟩:=m1
 cases d1
 refine⟨rfl,hb F Γ1 σ G1 H1 _ _ r1 m1 fun e Γ2 y G2 H2 m2 s2 r2 d2=>?_⟩;obtain⟨a',ts,e1,rfl,hok,q⟩:=m2
 cases e1
 cases d2 with
 | @lst p xs _ hp rs=>
  rw[dts_strs rs] at hp;exact⟨a,p,ts,rfl,rfl,SqL.of (r2.fr.sub _ _ hp),hok,k _ _ _ _ _ q (s1.trans s2) r2 (.str _)⟩
def spK (x:D)(Q:Rv→En→Prop)(y:D)(Γ:En):Prop:=∃ a b:PySem.Str,x=.str a∧y=.str b∧(b.length==0)=false∧a.length≤1000000∧(Txt.split a b).length≤1000000∧Q (.own ((Txt.split a b).map PyData.str)) Γ
def spJ (mb:ME)(Q:Rv→En→Prop)(x:D)(Γ:En):Prop:=(∃ a,x=.str a)∧mb Γ (spK x Q)
def mSplit (ma mb:ME):MO:=fun Γ Q=>ma Γ (spJ mb Q)
theorem vo_split {K:Fg}{ta tb:TE}{ma mb:ME}(ha:VT P0 ta ma)(hb:VT P0 tb mb):VO P0 (tBM K "str" rSplit ta (cZ tb tNil)) (mSplit ma mb):=by
 intro F Γ σ G H Q Qm r m k;refine ha F Γ σ G H _ _ r m fun d Γ1 x G1 H1 m1 s1 r1 d1=>?_;obtain⟨⟨a,rfl⟩,m1⟩:=m1
 cases d1
 refine⟨rfl,hb F Γ1 σ G1 H1 _ _ r1 m1 fun e Γ2 y G2 H2 m2 s2 r2 d2=>?_⟩;obtain⟨a',b,e1,rfl,h1,h2,h3,q⟩:=m2
 cases e1
 cases d2
 refine⟨a,b,rfl,rfl,h1,sz1m h2,sz1m h3,fun l hl=>?_⟩;obtain⟨x1,x2,x3⟩:=own_new r2 hl (strs_dts (Txt.split a b));exact k _ _ _ _ _ q (s1.trans s2) x1 x2 x3
def xsK (x:D)(Q:D→En→Prop)(y:D)(Γ:En):Prop:=∃(a:PySem.Str) (i:Int) (c:Nat),x=.str a∧y=.int i∧a.length≤1000000∧atI a.cps.toList i=some c∧Q (.str ⟨#[c]⟩) Γ
def xsJ (mb:ME)(Q:D→En→Prop)(x:D)(Γ:En):Prop:=mb Γ (xsK x Q)
def mIxS (ma mb:ME):ME:=fun Γ Q=>ma Γ (xsJ mb Q)
theorem vt_ixS {K:Fg}{ta tb:TE}{ma mb:ME}(ha:VT P0 ta ma)(hb:VT P0 tb mb):VT P0 (tOp (rIx K) ta tb) (mIxS ma mb):=by
 intro F Γ σ G H Q Qm r m k;refine ha F Γ σ G H _ _ r m fun d Γ1 x G1 H1 m1 s1 r1 d1=>?_;refine hb F Γ1 σ G1 H1 _ _ r1 m1 fun e Γ2 y G2 H2 m2 s2 r2 d2=>?_;obtain⟨a,i,c,rfl,rfl,hl,hc,q⟩:=m2
 cases d1
 cases d2
 exact .inr (.inr ⟨a,i,c,rfl,rfl,sz1m hl,hc,k _ _ _ _ _ q (s1.trans s2) r2 (.str _)⟩)
def signs (a:PySem.Str):List D:=a.cps.toList.map fun c=>.str ⟨#[c]⟩
def isK (Q:List D→En→Prop)(x:D)(Γ:En):Prop:=∃ a:PySem.Str,x=.str a∧Q (signs a) Γ
def mItS (ma:ME):MD:=fun Γ Q=>ma Γ (isK Q)
theorem vi_str {ta:TE}{ma:ME}(ha:VT P0 ta ma):VI P0 (iStr ta) (mItS ma):=by
 intro F Γ σ G H Q Qm r m k;refine ha F Γ σ G H _ _ r m fun d Γ1 x G1 H1 m1 s1 r1 d1=>?_;obtain⟨a,rfl,m1⟩:=m1
 cases d1
 have hl:(signs a).length=a.cps.size:=by unfold signs; rw[List.length_map,Array.length_toList]
 refine⟨a,rfl,k _ _ _ _ _ m1 s1 r1 fun F2 Γ2 σ2 G2 H2 s2 r2=>⟨fun i d e=>?_,hl⟩⟩;have hi:i<a.cps.size:=by rw[← hl]; exact(List.getElem?_eq_some_iff.mp e).1
 refine⟨hi,fun x H' hy=>⟨G2,Same.refl _,?_⟩⟩;obtain⟨rfl,c,hc,rfl⟩:=hy;unfold signs at e;rw[List.getElem?_map,Array.getElem?_toList,hc] at e
 cases e
 exact⟨r2,.str _⟩
def sliK (x:D)(lo:Option Int)(Q:D→En→Prop)(hi:Option Int)(Γ:En):Prop:=∃ a:PySem.Str,x=.str a∧a.length≤1000000∧Q (.str (cutS a lo hi)) Γ
def mSlS (ma:ME)(ml mh:MP):ME:=fun Γ Q=>ma Γ fun x Γ1=>ml Γ1 fun lo Γ2=>mh Γ2 (sliK x lo Q)
theorem vt_slS {te:TE}{tl th:TO}{ma:ME}{ml mh:MP}(ha:VT P0 te ma)(hl:VP P0 tl ml)(hh:VP P0 th mh):VT P0 (tSl rSlS te tl th) (mSlS ma ml mh):=by
 intro F Γ σ G H Q Qm r m k;refine ha F Γ σ G H _ _ r m fun d Γ1 x G1 H1 m1 s1 r1 d1=>?_;refine hl F Γ1 σ G1 H1 _ _ r1 m1 fun lo Γ2 G2 H2 m2 s2 r2=>?_;refine hh F Γ2 σ G2 H2 _ _ r2 m2 fun hi Γ3 G3 H3 m3 s3 r3=>?_;obtain⟨a,rfl,hz,q⟩:=m3
 cases d1
 exact⟨a,rfl,sz1m hz,k _ _ _ _ _ q ((s1.trans s2).trans s3) r3 (.str _)⟩
section
variable {ma mb:ME}{ml mh:MP}{Γ:En}{Q:D→En→Prop}{Qo:Rv→En→Prop}{Qd:List D→En→Prop}{a b:PySem.Str}
theorem i_sadd (h:ma Γ (saJ mb Q)):mSAdd ma mb Γ Q:=h
theorem i_saJ {x:D}(h:mb Γ (saK x Q)):saJ mb Q x Γ:=h
theorem i_saK (hz:(a++b).length≤1000000)(h:Q (.str (a++b)) Γ):saK (.str a) Q (.str b) Γ:=⟨a,b,rfl,rfl,hz,h⟩
theorem i_str1 (h:ma Γ (txK Q)):mStr ma Γ Q:=h
theorem i_stI {i:Int}(hi:i.natAbs.log2<1920)(h:Q (.str (txI i)) Γ):txK Q (.int i) Γ:=.inl ⟨i,rfl,hi,h⟩
theorem i_stS (h:Q (.str a) Γ):txK Q (.str a) Γ:=.inr ⟨a,rfl,h⟩
theorem i_lenS (h:ma Γ (lsK Q)):mLenS ma Γ Q:=h
theorem i_lsK (hl:a.length≤1000000)(h:Q (.int (a.length:Int)) Γ):lsK Q (.str a) Γ:=⟨a,rfl,hl,h⟩
theorem i_inS (h:ma Γ (siJ mb Q)):mInS ma mb Γ Q:=h
theorem i_siJ {x:D}(h:mb Γ (siK x Q)):siJ mb Q x Γ:=h
theorem i_siK (h:Q (.bool (inS a b)) Γ):siK (.str a) Q (.str b) Γ:=⟨a,b,rfl,rfl,h⟩
theorem i_starts (h:ma Γ (swJ mb Q)):mStarts ma mb Γ Q:=h
theorem i_swJ (h:mb Γ (swK (.str a) Q)):swJ mb Q (.str a) Γ:=⟨⟨a,rfl⟩,h⟩
theorem i_swK (h:Q (.bool (Txt.startswith a b)) Γ):swK (.str a) Q (.str b) Γ:=⟨a,b,rfl,rfl,h⟩
theorem i_intS (h:ma Γ (inK Q)):mIntS ma Γ Q:=h
theorem i_inK {n:Int}(hn:PySem.intText? a=some n)(hl:a.length≤640)(h:Q (.int n) Γ):inK Q (.str a) Γ:=⟨a,n,rfl,hn,hl,h⟩
theorem i_join (h:ma Γ (jnJ mb Q)):mJoin ma mb Γ Q:=h
theorem i_jnJ (h:mb Γ (jnK (.str a) Q)):jnJ mb Q (.str a) Γ:=⟨⟨a,rfl⟩,h⟩
theorem i_jnK {ts:List PySem.Str}(hok:JoinOk a ts=true)(h:Q (.str (Txt.join a ts)) Γ):jnK (.str a) Q (.list (ts.map PyData.str)) Γ:=⟨a,ts,rfl,rfl,hok,h⟩
theorem i_split (h:ma Γ (spJ mb Qo)):mSplit ma mb Γ Qo:=h
theorem i_spJ (h:mb Γ (spK (.str a) Qo)):spJ mb Qo (.str a) Γ:=⟨⟨a,rfl⟩,h⟩
theorem i_spK (h1:(b.length==0)=false)(h2:a.length≤1000000)(h3:(Txt.split a b).length≤1000000)(h:Qo (.own ((Txt.split a b).map PyData.str)) Γ):spK (.str a) Qo (.str b) Γ:=⟨a,b,rfl,rfl,h1,h2,h3,h⟩
theorem i_ixS (h:ma Γ (xsJ mb Q)):mIxS ma mb Γ Q:=h
theorem i_xsJ {x:D}(h:mb Γ (xsK x Q)):xsJ mb Q x Γ:=h
theorem i_xsK {i:Int}{c:Nat}(hl:a.length≤1000000)(hc:atI a.cps.toList i=some c)(h:Q (.str ⟨#[c]⟩) Γ):xsK (.str a) Q (.int i) Γ:=⟨a,i,c,rfl,rfl,hl,hc,h⟩
theorem i_itS (h:ma Γ (isK Qd)):mItS ma Γ Qd:=h
theorem i_isK (h:Qd (signs a) Γ):isK Qd (.str a) Γ:=⟨a,rfl,h⟩
theorem i_slS (h:ma Γ fun x Γ1=>ml Γ1 fun lo Γ2=>mh Γ2 (sliK x lo Q)):mSlS ma ml mh Γ Q:=h
theorem i_sliK {lo hi:Option Int}(hl:a.length≤1000000)(h:Q (.str (cutS a lo hi)) Γ):sliK (.str a) lo Q hi Γ:=⟨a,rfl,hl,h⟩
end
end
end L2.VS
namespace L2
open PySem PySem.Spec PyProof.Rows
section
variable {X:Cx}
def tFs (m:PySem.Str)(ta tb:TE):TE:=fun σ H Q=>ta σ H fun x H1=>∃ i:Int,x=.int i∧i.natAbs.log2<1920∧(txI i++m).length≤sizeLine∧tb σ H1 fun y H2=>∃ j:Int,y=.int j∧j.natAbs.log2<1920∧((txI i++m)++txI j).length≤sizeLine∧Q (.str ((txI i++m)++txI j)) H2
theorem len_app (a b:PySem.Str):(a++b).length=a.length+b.length:=by
 show(a++b).cps.size=a.cps.size+b.cps.size
 rw[← Array.length_toList,cps_app,List.length_append,Array.length_toList,Array.length_toList]
theorem empty_app (a:PySem.Str):PySem.Str.empty++a=a:=str_ext (by rw[cps_app]; rfl)
theorem pe_fstr3 {a b:Expr}{ta tb:TE}{m:PySem.Str}{k:Nat}{p1 p2 p3 pos:Pos}(ha:PE X a ta)(hb:PE X b tb):PE X (.JoinedStr [.FormattedValue a (-1) none p1,.Constant (.str m) k p2,.FormattedValue b (-1) none p3] pos) (tFs m ta tb):=by
 intro pins s σ H Q I h;refine wpAny_JoinedStr ?_;show wpAny _ _ (eval (.FormattedValue a (-1) none p1) X.env) _ _ _;refine wpAny_FormattedValue_plain (thn (ha pins s σ H _ I h) fun v s1 ⟨x,H1,I1,r1,i,e,hi,hm,q1⟩=>?_);subst e;obtain⟨t,rfl⟩:=r1;refine wpAny_formatField_int hi ⟨txI i,_,rfl,?_,?_⟩
 ·rw[empty_app];rw[len_app] at hm;omega
 show wpAny _ _ (eval (.Constant (.str m) k p2) X.env) _ _ _;refine Calls.Constant_str ⟨m,_,rfl,?_,?_⟩
 ·rw[empty_app];exact hm
 show wpAny _ _ (eval (.FormattedValue b (-1) none p3) X.env) _ _ _;refine wpAny_FormattedValue_plain (thn (hb pins _ σ H1 _ (I1.tok _) q1) fun v s2 ⟨y,H2,I2,r2,j,e,hj,hz,q2⟩=>?_);subst e;obtain⟨t2,rfl⟩:=r2;refine wpAny_formatField_int hj ⟨txI j,_,rfl,?_,?_⟩
 ·rw[empty_app]; exact hz
 ·rw[empty_app];exact⟨hz,.str _,H2,I2.tok _,⟨_,rfl⟩,q2⟩
def rTupL (K:Fg):List V→Hp→VK→Prop:=fun xs H Q=>∃(p:Addr) (ys:List V),xs=[.ref p]∧SqL K H p ys∧∀ q,H q=none→Q (.ref q) (upd H q (.tup ys))
theorem call_tupL:CallR X (.type "tuple") (rTupL X.K):=by
 intro pins s σ H xs us Q I r h;obtain⟨p,ys,rfl,hq,q⟩:=h;obtain⟨u,rfl,rx⟩:=vals1 r
 cases rx
 obtain⟨its,r',pl,hz⟩:=I.list hq;refine call_tuple_list pl.isList (fun h' hk=>?_) (by rw[List.size_toArray,←r'.length]; exact hz);have I1:Inv X pins σ H { s with heap:=h' }:=I.kept (t':=s.toks) hk;refine⟨.ref h'.objs.size,_,I1.laid (t':=s.toks) (o:=.tup ys) (fun b ob q=>Heap.get?_push_of_some _ q) (Nat.le_refl _) ?_,rfl,q _ (I1.hok.fresh (Nat.le_refl _))⟩;exact⟨hz,its,r',IsTup.new _ _⟩
end
end L2
namespace L2.VS
open PySem PySem.Spec PyProof.Rows
section
variable {P0:Addr→Hp→Prop}
def f3J (m:PySem.Str)(i:Int)(Q:D→En→Prop)(y:D)(Γ:En):Prop:=∃ j:Int,y=.int j∧j.natAbs.log2<1920∧((txI i++m)++txI j).length≤1000000∧Q (.str ((txI i++m)++txI j)) Γ
def f3K (m:PySem.Str)(mb:ME)(Q:D→En→Prop)(x:D)(Γ:En):Prop:=∃ i:Int,x=.int i∧i.natAbs.log2<1920∧(txI i++m).length≤1000000∧mb Γ (f3J m i Q)
def mFs (m:PySem.Str)(ma mb:ME):ME:=fun Γ Q=>ma Γ (f3K m mb Q)
theorem vt_fs {m:PySem.Str}{ta tb:TE}{ma mb:ME}(ha:VT P0 ta ma)(hb:VT P0 tb mb):VT P0 (tFs m ta tb) (mFs m ma mb):=by
 intro F Γ σ G H Q Qm r hm k;refine ha F Γ σ G H _ _ r hm fun d Γ1 x G1 H1 m1 s1 r1 d1=>?_;obtain⟨i,rfl,hi,hz,m1⟩:=m1
 cases d1
 refine⟨i,rfl,hi,sz1m hz,hb F Γ1 σ G1 H1 _ _ r1 m1 fun e Γ2 y G2 H2 m2 s2 r2 d2=>?_⟩;obtain⟨j,rfl,hj,hz2,q⟩:=m2
 cases d2
 exact⟨j,rfl,hj,sz1m hz2,k _ _ _ _ _ q (s1.trans s2) r2 (.str _)⟩
def tlK (Q:D→En→Prop)(x:D)(Γ:En):Prop:=∃ ds,x=.list ds∧Q (.tuple ds) Γ
def mTupL (ma:ME):ME:=fun Γ Q=>ma Γ (tlK Q)
theorem vt_tupL {K:Fg}{ta:TE}{ma:ME}(ha:VT P0 ta ma):VT P0 (tCB (rTupL K) (cZ ta tNil)) (mTupL ma):=by
 intro F Γ σ G H Q Qm r m k;refine ha F Γ σ G H _ _ r m fun d Γ1 x G1 H1 m1 s1 r1 d1=>?_;obtain⟨ds,rfl,q⟩:=m1
 cases d1 with
 | @lst p xs _ hp rs=>
  refine⟨p,xs,rfl,SqL.of (r1.fr.sub _ _ hp),fun l hl=>?_⟩;have g:=same_new (r1.fr.gfresh hl) (.tup xs);exact k _ _ _ _ _ q (s1.trans g) (r1.new hl) (.tup b8 (Dts.same g _ _ rs))
inductive FmRel (G:Hp):List (Key×V)→List (PySem.Str×D)→Prop
 | nil:FmRel G [] []
 | cons {a:PySem.Str} {v:V} {d:D} {kvs:List (Key×V)} {fs:List (PySem.Str×D)} (h:Dt G v d) (r:FmRel G kvs fs):FmRel G ((Sum.inr a,v)::kvs) ((a,d)::fs)
theorem FmRel.same {G G':Hp}(g:Same G G'){kvs:List (Key×V)}{fs:List (PySem.Str×D)}(h:FmRel G kvs fs):FmRel G' kvs fs:=by
 induction h with
 | nil=>exact .nil
 | cons h _ ih=>exact .cons (Dt.same g _ _ h) ih
def pFm (fs:List (PySem.Str×D)):Pb where
 P v G:=∃ p kvs,v=.ref p∧G p=some (.dK kvs)∧FmRel G kvs fs
 mono g h:=by
  obtain⟨p,kvs,h1,h2,h3⟩:=h;exact⟨p,kvs,h1,g _ _ h2,h3.same g⟩
abbrev MPs:=En→(List (PySem.Str×D)→En→Prop)→Prop
def VPs (P0:Addr→Hp→Prop)(trs:List (TE×TE))(m:MPs):Prop:=∀(F:Fra P0) (Γ:En) (σ:St) (G H:Hp) (Q:List (V×V)→Hp→Prop) (Qm:List (PySem.Str×D)→En→Prop),R F Γ σ G H→m Γ Qm →
 (∀ fs Γ' kvs G' H',Qm fs Γ'→Same G G'→R F Γ' σ G' H'→FmRel G' kvs fs→Q (kvs.map fun kv=>(kV kv.1,kv.2)) H')→tPairs trs σ H Q
def mPsN:MPs:=fun Γ Q=>Q [] Γ
def mPsC (a:PySem.Str)(m:ME)(r:MPs):MPs:=fun Γ Q=>m Γ fun d Γ1=>r Γ1 fun fs Γ2=>Q ((a,d)::fs) Γ2
theorem vps_nil:VPs P0 [] mPsN:=fun _ _ _ _ _ _ _ r m k=>k [] _ [] _ _ m (Same.refl _) r .nil
theorem vps_cons {a:PySem.Str}{te:TE}{m:ME}{trs:List (TE×TE)}{mr:MPs}(h:VT P0 te m)(hr:VPs P0 trs mr):VPs P0 ((tC (.str a),te)::trs) (mPsC a m mr):=by
 intro F Γ σ G H Q Qm r hm k;refine h F Γ σ G H _ _ r hm fun d Γ1 v G1 H1 m1 s1 r1 d1=>?_;refine hr F Γ1 σ G1 H1 _ _ r1 m1 fun fs Γ2 kvs G2 H2 m2 s2 r2 rel=>?_;exact k _ _ ((Sum.inr a,v)::kvs) _ _ m2 (s1.trans s2) r2 (.cons (Dt.same s2 _ _ d1) rel)
theorem mergeK_nd:∀(more acc:List (Key×V)),((acc++more).map (·.1)).Nodup→mergeK acc more=acc++more
 | [],acc,_=>(List.append_nil acc).symm
 | p::more,acc,h=>by
  have hn:valV acc p.1=none:=by
   cases e:valV acc p.1 with
   | none=>rfl
   | some v=>
    have h1:=valV_in e;rw[List.map_append,List.map_cons] at h;exact absurd rfl ((List.nodup_append.mp h).2.2 _ h1 _ List.mem_cons_self)
  show mergeK (putK acc p.1 p.2) more=_;rw[putK_new p.2 hn,mergeK_nd more _ (by rw[List.append_assoc]; exact h),List.append_assoc];rfl
theorem FmRel.keys {G:Hp}{kvs:List (Key×V)}{fs:List (PySem.Str×D)}(h:FmRel G kvs fs):kvs.map (·.1)=fs.map fun f=>Sum.inr f.1:=by
 induction h with
 | nil=>rfl
 | cons _ _ ih=>rw[List.map_cons,List.map_cons,ih]
theorem FmRel.len {G:Hp}{kvs:List (Key×V)}{fs:List (PySem.Str×D)}(h:FmRel G kvs fs):kvs.length=fs.length:=by
 induction h with
 | nil=>rfl
 | cons _ _ ih=>rw[List.length_cons,List.length_cons,ih]
def aDisp (mp:MPs)(mr:MA):MA:=fun Γ Q=>mp Γ fun fs Γ1=>fs.length≤15∧(fs.map fun f=>f.1).Nodup∧mr Γ1 fun xs Γ2=>Q (.pub (pFm fs)::xs) Γ2
theorem va_disp {trs:List (TE×TE)}{mp:MPs}{tr:TA}{mr:MA}(hp:VPs P0 trs mp)(hr:VA P0 tr mr):VA P0 (cZ (tDisp trs) tr) (aDisp mp mr):=by
 intro F Γ σ G H Q Qm r m k p hn;have r0:R F Γ σ G (upd H p (.dK [])):=r.newP hn;have hF:∀ b∈[p],F.H0 b=none∧G b=none:=fun b hb=>by
  rw[List.mem_singleton.mp hb];exact⟨r.fr.fresh hn,r.fr.gfresh hn⟩
 have ap:∀(i:Nat) s f,Γ[i]?=some s→SlF F G (upd H p (.dK [])) σ[i]? f s→∀ b∈[p],b∉f:=fun i s f e hf b hb hc=>by
  rw[List.mem_singleton.mp hb] at hc;obtain⟨fps,h1,_⟩:=r.fps;obtain⟨fps0,g1,_⟩:=r0.fps;have e1:f=fps i:=by
   have h3:SlF F G (upd H p (.dK [])) σ[i]? (fps i) s:=(h1 i s e).go (Same.refl _) fun b hb=>by
    obtain⟨_,m2,o,m3⟩:=(h1 i s e).mine hb;exact⟨m2,bB (bA m3 hn)⟩
   exact hf.det h3
  rw[e1] at hc;obtain⟨_,_,o,m3⟩:=(h1 i s e).mine hc;rw[hn] at m3
  cases m3
 have rh:=r0.hold hF ap;refine hp _ Γ σ G _ _ _ rh m fun fs Γ1 kvs G1 H1 m1 s1 r1 rel=>?_;obtain⟨h15,nd,m1⟩:=m1;obtain⟨ru,cells,apu⟩:=R.unhold (fun b hb=>by rw[List.mem_singleton.mp hb]; exact⟨_,b8⟩) r1;obtain⟨c1,c2⟩:=cells p (List.mem_singleton.mpr rfl);rw[b8] at c1;have hm:mergeK [] kvs=kvs:=mergeK_nd kvs [] (by
  rw[List.nil_append,rel.keys];have:(fs.map fun f=>(Sum.inr f.1:Key))=(fs.map fun f=>f.1).map Sum.inr:=by rw[List.map_map]; rfl
  rw[this];exact nd.map Sum.inr fun a b hab z=>hab (Sum.inr.inj z))
 refine⟨c1,kvs,rfl,by rw[rel.len]; exact h15,?_⟩;rw[hm];have p1:=(hF p (List.mem_singleton.mpr rfl)).1;have g:=same_new c2 (.dK kvs);have fr:Rf F (upd G1 p (.dK kvs)) (upd H1 p (.dK kvs)):=(ru.fr.priv (o:=.dK kvs) p1 c2).give p1 b8;have r2:R F Γ1 σ (upd G1 p (.dK kvs)) (upd H1 p (.dK kvs)):=ru.keep fr g fun b o hb _ gb hb2=>by
  have hbp:b≠p:=fun z=>by
   obtain⟨i,s,f,a1,a2,a3⟩:=hb;exact apu i s f a1 a2 p (List.mem_singleton.mpr rfl) (z▸a3)
  rw[bB hbp,bB hbp];exact⟨gb,hb2⟩
 refine hr F Γ1 σ _ _ _ _ r2 m1 fun as Γ2 rs G3 H3 m3 s3 r3 d3=>k _ _ _ _ _ m3 ((s1.trans g).trans s3) r3 (.cons ?_ d3);exact(pFm fs).mono s3 ⟨p,kvs,rfl,b8,rel.same g⟩
def fmAt:List (PySem.Str×D)→PySem.Str→Option D
 | [],_=>none
 | (a,d)::r,k=>if a=k then some d else fmAt r k
theorem FmRel.val {G:Hp}{kvs:List (Key×V)}{fs:List (PySem.Str×D)}(h:FmRel G kvs fs)(k:PySem.Str):(valV kvs (Sum.inr k:Key)=none∧fmAt fs k=none)∨∃ v d,valV kvs (Sum.inr k:Key)=some v∧fmAt fs k=some d∧Dt G v d:=by
 induction h with
 | nil=>exact .inl ⟨rfl,rfl⟩
 | @cons a v d kvs fs h r ih=>
  by_cases e:a=k
  ·refine .inr ⟨v,d,valV_pos (by rw[e]),?_,h⟩;unfold fmAt; rw[if_pos e]
  ·rw[valV_neg (fun z=>e (Sum.inr.inj z))];unfold fmAt; rw[if_neg e]; exact ih
def mFmGet (i:Nat)(mj:ME):ME:=fun Γ Q=>(∃ fs,Γ[i]?=some (.pub (pFm fs)))∧mj Γ fun x Γ1=>∃ fs a,Γ1[i]?=some (.pub (pFm fs))∧x=.str a∧Q ((fmAt fs a).getD .none) Γ1
theorem vt_fmGet {i:Nat}{tj:TE}{mj:ME}(hj:VT P0 tj mj):VT P0 (tDGet1 (tVar i) tj) (mFmGet i mj):=by
 intro F Γ σ G H Q Qm r hm k;obtain⟨⟨fs0,e0⟩,hm⟩:=hm;obtain⟨v,ev,p,kvs,rfl,h2,h3⟩:=r.sl i _ e0;refine⟨.ref p,ev,p,rfl,.inl ⟨kvs,.inl (r.fr.sub _ _ h2)⟩,hj F Γ σ G H _ _ r hm fun x Γ1 y G1 H1 m1 g1 r1 d1=>?_⟩;obtain⟨fs,a,e1,rfl,q⟩:=m1;obtain⟨v',ev',p',kvs',e2,h2',h3'⟩:=r1.sl i _ e1;rw[ev] at ev'
 cases ev'
 cases e2
 cases d1
 refine⟨_,DGet.k (k:=Sum.inr a) (r1.fr.sub _ _ h2'),?_⟩;rcases h3'.val a with⟨x1,x2⟩|⟨w,d,x1,x2,x3⟩
 ·rw[x2] at q;rw[x1];exact k _ _ _ _ _ q g1 r1 .non
 ·rw[x2] at q;rw[x1];exact k _ _ _ _ _ q g1 r1 x3
end
end L2.VS
namespace L2
open PySem PySem.Spec PyProof.Rows
def blkC0 (N:List Str)(scope:Scope)(nt:Nat):Bool:=
 scope.kind==.function&&scope.names.all (fun y=>y.2 != .cell)&&scope.names.all (fun y=>y.2 != .local||scope.names.lookup y.1==some .local)&&scope.names.all (fun y=>y.2 != .free)&&N.length==nt
theorem blk_of0 {X:Cx}{N:List Str}{scope:Scope}{nt:Nat}(h:blkC0 N scope nt=true):BlkOk X N scope nt []:=by
 unfold blkC0 at h;simp only[Bool.and_eq_true,List.all_eq_true,Bool.or_eq_true,bne_iff_ne,ne_eq,beq_iff_eq] at h;obtain⟨⟨⟨⟨h1,h2⟩,h3⟩,h4⟩,h5⟩:=h;refine⟨h1,h2,fun y hy e=>?_,fun y hy e=>absurd e (h4 y hy),h5,fun i x e=>?_⟩
 ·rcases h3 y hy with z|z
  ·exact absurd e z
  ·exact z
 ·have:=(List.getElem?_eq_some_iff.mp e).1;omega
end L2
namespace L2
open PySem PySem.Spec PyProof.Rows
section
variable {prog:Program}{w:World}{A:Around}{E:Value→Shared→Prop}{s:Shared}
theorem nxT_item {it t:Addr}{i:Nat}{items:Array Value}{x:Value}{Q:Value→Shared→Prop}(hit:s.heap.IsTupleIter it t i)(ht:s.heap.IsTuple t items)(hx:items[i]?=some x)
  (hQ:∀ h',h'.IsTupleIter it t (i+1)→Heap.SameBut it s.heap h'→Q x { s with heap:=h' }):wpAny (model prog w) A (Builtin.SmallTypes.nextOf (.ref it)) Q E s:=by
 obtain⟨o,ho,hc,hd⟩:=id hit;obtain⟨ol,hol,_,nl,hdl⟩:=ht;unfold Builtin.SmallTypes.nextOf;refine wpAny_bind (wpAny_callSpecial?_slot (name:=Str.ofString "__next__") hit.typeIs F.slot_tuple_iterator_next (wpAny_call_entry F.slot_tuple_iterator_next hit.typeIs entry_tupleiter_next ?_ (args_tupleiter_next _)));refine wpAny_bind (m:=field (.ref it) 0) (wpAny_field ho hd (x:=.ref t) rfl ?_);show wpAny _ _ (if (Value.ref t==Value.none)=true then _ else _) _ _ s;rw[if_neg (show ¬((Value.ref t==Value.none)=true) from Bool.false_ne_true)];refine wpAny_bind (m:=field (.ref it) 1) (wpAny_field ho hd (x:=.int i 0) rfl ?_);refine wpAny_bind (m:=seqItems? (.ref t)) (wpAny_seqItems hol hdl ?_);simp only[Int.toNat_natCast,hx];refine wpAny_bind (wpAny_setField ho hd (by simp) (wpAny_pure ⟨x,rfl,wpAny_pure (hQ _ ⟨_,Heap.get?_update_self _ ho (Obj.isFreed_of_fields (Obj.data_mapFields hd _)),(Obj.cls_mapFields ..).trans hc,?_⟩ (Heap.SameBut.update ..))⟩));rw[Obj.data_mapFields hd]; simp[rawInt]
theorem nxT_end {it t:Addr}{i:Nat}{items:Array Value}{Q:Value→Shared→Prop}(hh:A.handled=none)(hit:s.heap.IsTupleIter it t i)(ht:s.heap.IsTuple t items)(hx:items[i]?=none)
  (hE:∀ h' e,Heap.ExtBut it s.heap h'→(∃ o,h'.get? e=some o∧o.cls=.type "StopIteration")→E (.ref e) { s with heap:=h' }):wpAny (model prog w) A (Builtin.SmallTypes.nextOf (.ref it)) Q E s:=by
 obtain⟨o,ho,hc,hd⟩:=id hit;obtain⟨ol,hol,_,nl,hdl⟩:=ht;unfold Builtin.SmallTypes.nextOf;refine wpAny_bind (wpAny_callSpecial?_slot (name:=Str.ofString "__next__") hit.typeIs F.slot_tuple_iterator_next (wpAny_call_entry F.slot_tuple_iterator_next hit.typeIs entry_tupleiter_next ?_ (args_tupleiter_next _)));refine wpAny_bind (m:=field (.ref it) 0) (wpAny_field ho hd (x:=.ref t) rfl ?_);show wpAny _ _ (if (Value.ref t==Value.none)=true then _ else _) _ _ s;rw[if_neg (show ¬((Value.ref t==Value.none)=true) from Bool.false_ne_true)];refine wpAny_bind (m:=field (.ref it) 1) (wpAny_field ho hd (x:=.int i 0) rfl ?_);refine wpAny_bind (m:=seqItems? (.ref t)) (wpAny_seqItems hol hdl ?_);simp only[Int.toNat_natCast,hx];refine wpAny_bind (wpAny_rule (wpAny_bind (wpAny_setField ho hd (by simp) (wpAny_bind (m:=newExc (.type "StopIteration") []) ?_))));simp only[newExc,newTuple];refine wpAny_bind (wpAny_newObj_type ?_ (by size_fits));refine wpAny_bind (m:=firstArgMember _ _) (wpAny_of_eq (a:=Value.none) (by first|rfl|(simp only[firstArgMember]; rfl)) ?_);refine wpAny_newObj_type ?_ (by size_fits);simp only[raiseNew];refine wpAny_bind (wpAny_handled ?_)
 first|rw[show A.in1.handled=none from hh]|rw[hh]
 exact wpAny_bind (wpAny_pure (wpAny_throw (hE _ _ (((Heap.SameBut.update ..).extBut.push _).push _) ⟨_,Heap.get?_push_size _ rfl,rfl⟩)))
def On2 (S:Heap→Prop)(a b:Addr):Prop:=∀ h h':Heap,S h→(∀ c o,c=a∨c=b→h.get? c=some o→h'.get? c=some o)→S h'
theorem On2.but {S:Heap→Prop}{a b z:Addr}(k:On2 S a b){h h':Heap}(st:S h)(hs:Heap.ExtBut z h h')(ha:a≠z)(hb:b≠z):S h':=
 k h h' st fun c o hc e=>hs c o (by rcases hc with rfl|rfl<;>assumption) e
theorem zG_item {z TI TO i1 i2 l1 l2:Addr}{x y a b:Value}{S1 S1' S2 S2':Heap→Prop}{Q:Value→Shared→Prop}(D:ZipApart z TI TO i1 i2 l1 l2)
  (hz:IsZip s.heap z TI TO .none) (hTI:IsPair s.heap TI (.ref i1) (.ref i2)) (hTO:IsPair s.heap TO a b) (o1':On2 S1' i1 l1) (o2:On2 S2 i2 l2) (o2':On2 S2' i2 l2) (o1:On2 S1 i1 l1)
  (n1:∀(A:Around) (E:Value→Shared→Prop) (s:Shared) (Q:Value→Shared→Prop),S1 s.heap→(∀ h',S1' h'→Heap.SameBut i1 s.heap h'→Q x { s with heap:=h' })→wpAny (model prog w) A (Builtin.SmallTypes.nextOf (.ref i1)) Q E s)
  (n2:∀(A:Around) (E:Value→Shared→Prop) (s:Shared) (Q:Value→Shared→Prop),S2 s.heap→(∀ h',S2' h'→Heap.SameBut i2 s.heap h'→Q y { s with heap:=h' })→wpAny (model prog w) A (Builtin.SmallTypes.nextOf (.ref i2)) Q E s)
  (h1:S1 s.heap) (h2:S2 s.heap) (li1:i1<s.heap.objs.size) (li2:i2<s.heap.objs.size)
  (hQ:∀ h',IsZip h' z TI TO (rawInt s.heap.objs.size)→IsPair h' TO x y→S1' h'→S2' h'→IsPair h' s.heap.objs.size x y →
   (∀ c o,c≠z→c≠TO→c≠i1→c≠i2→s.heap.get? c=some o→h'.get? c=some o)→Q (.ref s.heap.objs.size) { s with heap:=h' }) :
  wpAny (model prog w) A (Builtin.«zip.__next__» ⟨[.ref z],[]⟩) (fun fin s'=>∃ v,fin=.done (.ret v)∧Q v s') E s:=by
 refine wpAny_bind (m:=field (.ref z) 2) (wpAny_field hz rfl (x:=.bool false) rfl ?_);refine wpAny_bind (m:=field (.ref z) 3) (wpAny_field hz rfl (x:=.ref TI) rfl ?_);refine wpAny_bind (wpAny_seqItems hTI rfl (wpAny_bind (m:=Builtin.SmallTypes.ownedTupleIsFree (.ref z)) ?_));unfold Builtin.SmallTypes.ownedTupleIsFree;refine wpAny_bind (wpAny_field hz rfl (x:=.none) rfl (wpAny_pure ?_));simp only[if_true];refine wpAny_bind (wpAny_rule (wpAny_bind (wpAny_field hz rfl (x:=.ref TO) rfl (wpAny_bind (wpAny_setField_rec hz (by simp) fun g1 (z1:IsZip g1 z TI TO .ellipsis) k1=>wpAny_bind ?_)))));simp only[List.zipIdx_cons,List.zipIdx_nil,List.forIn_cons,List.forIn_nil];refine wpAny_bind (wpAny_bind (wpAny_onRaise (wpAny_bind (m:=Builtin.SmallTypes.nextOf (.ref i1)) (n1 _ _ _ _ (o1.but h1 k1.extBut D.i1z D.l1z) fun g2 s2 k2=>wpAny_pure ?_))));have t2:IsPair g2 TO a b:=k2.extBut _ _ D.TOi1 (k1.extBut _ _ D.TOz hTO);refine wpAny_bind (wpAny_seqItems t2 rfl (wpAny_bind (wpAny_updateSeq_pair t2 fun g3 (t3:IsPair g3 TO x b) k3=>wpAny_bind (wpAny_letGo (wpAny_pure ?_)))));refine wpAny_bind (wpAny_bind (wpAny_onRaise (wpAny_bind (m:=Builtin.SmallTypes.nextOf (.ref i2)) (n2 _ _ _ _ (o2.but (o2.but (o2.but h2 k1.extBut D.i2z D.l2z) k2.extBut D.i12.symm D.l2i1) k3.extBut D.TOi2.symm D.l2TO) fun g4 s4 k4=>wpAny_pure ?_))));have t4:IsPair g4 TO x b:=k4.extBut _ _ D.TOi2 t3;refine wpAny_bind (wpAny_seqItems t4 rfl (wpAny_bind (wpAny_updateSeq_pair t4 fun g5 (t5:IsPair g5 TO x y) k5=>wpAny_bind (wpAny_letGo (wpAny_pure (wpAny_pure ?_))))));refine wpAny_bind (wpAny_seqItems t5 rfl (wpAny_bind (wpAny_newTuple ?_)));have sz:g5.objs.size=s.heap.objs.size:=by rw[k5.1,k4.1,k3.1,k2.1,k1.1]
 have z5:IsZip g5 z TI TO .ellipsis:=k5.extBut _ _ D.TOz.symm (k4.extBut _ _ D.i2z.symm (k3.extBut _ _ D.TOz.symm (k2.extBut _ _ D.i1z.symm z1)));have kk:∀ c o,c≠z→c≠TO→c≠i1→c≠i2→s.heap.get? c=some o→g5.get? c=some o:=fun c o c1 c2 c3 c4 e=>k5.extBut _ _ c2 (k4.extBut _ _ c4 (k3.extBut _ _ c2 (k2.extBut _ _ c3 (k1.extBut _ _ c1 e))));have s5:S1' g5:=o1'.but (o1'.but (o1'.but s2 k3.extBut D.TOi1.symm D.l1TO) k4.extBut D.i12 D.l1i2) k5.extBut D.TOi1.symm D.l1TO;have r5:S2' g5:=o2'.but s4 k5.extBut D.TOi2.symm D.l2TO;have lz:z<g5.objs.size:=Heap.lt_size z5;show wpAny _ _ (Builtin.SmallTypes.ownedTupleHandOut (.ref z) (.ref g5.objs.size) >>= _) _ _ _;refine wpAny_bind ?_;unfold Builtin.SmallTypes.ownedTupleHandOut;refine wpAny_bind (wpAny_setField_rec (show IsZip (g5.push { cls:=.type "tuple", data:=.seq #[x,y] }) z TI TO .ellipsis from Heap.get?_push_of_some _ z5) (by simp) fun g7 (z7:IsZip g7 z TI TO (rawInt g5.objs.size)) k7=>?_);refine wpAny_setField_rec z7 (by simp) fun g8 (z8:IsZip g8 z TI TO (rawInt g5.objs.size)) k8=>?_;have up:∀ c o,c≠z→g5.get? c=some o→g8.get? c=some o:=fun c o c1 e=>k8.extBut _ _ c1 (k7.extBut _ _ c1 (Heap.get?_push_of_some _ e));have t8:IsPair g8 g5.objs.size x y:=k8.extBut _ _ (Nat.ne_of_gt lz) (k7.extBut _ _ (Nat.ne_of_gt lz) (Heap.get?_push_size _ rfl));refine wpAny_pure ⟨_,rfl,?_⟩;show Q (.ref g5.objs.size) _;rw[sz] at z8 t8 ⊢;exact hQ g8 z8 (up _ _ D.TOz t5) (o1' g5 g8 s5 fun c o hc e=>up c o (by rcases hc with rfl|rfl; exact D.i1z; exact D.l1z) e) (o2' g5 g8 r5 fun c o hc e=>up c o (by rcases hc with rfl|rfl; exact D.i2z; exact D.l2z) e) t8 fun c o c1 c2 c3 c4 e=>up c o c1 (kk c o c1 c2 c3 c4 e)
def Ended (S:Heap→Prop)(i:Addr)(prog:Program)(w:World):Prop:=∀(A:Around) (E:Value→Shared→Prop) (s:Shared) (Q:Value→Shared→Prop),A.handled=none→S s.heap →
 (∀ h' e,Heap.ExtBut i s.heap h'→(∃ o,h'.get? e=some o∧o.cls=.type "StopIteration")→E (.ref e) { s with heap:=h' })→wpAny (model prog w) A (Builtin.SmallTypes.nextOf (.ref i)) Q E s
theorem zG_end {z TI TO i1 i2 l1 l2:Addr}{a b:Value}{S1 S2:Heap→Prop}{Q:Fin→Shared→Prop}(hh:A.handled=none)(D:ZipApart z TI TO i1 i2 l1 l2)
  (hz:IsZip s.heap z TI TO .none) (hTI:IsPair s.heap TI (.ref i1) (.ref i2)) (hTO:IsPair s.heap TO a b) (o1:On2 S1 i1 l1) (o2:On2 S2 i2 l2) (h1:S1 s.heap) (h2:S2 s.heap)
  (n:Ended S1 i1 prog w∨(∃ x,∀(A:Around) (E:Value→Shared→Prop) (s:Shared) (Q:Value→Shared→Prop),S1 s.heap→(∀ h',Heap.SameBut i1 s.heap h'→Q x { s with heap:=h' })→wpAny (model prog w) A (Builtin.SmallTypes.nextOf (.ref i1)) Q E s)∧Ended S2 i2 prog w)
  (hE:∀ h' e,(∀ c o,c≠z→c≠TO→c≠i1→c≠i2→s.heap.get? c=some o→h'.get? c=some o)→(∃ o,h'.get? e=some o∧o.cls=.type "StopIteration")→E (.ref e) { s with heap:=h' }) :
  wpAny (model prog w) A (Builtin.«zip.__next__» ⟨[.ref z],[]⟩) Q E s:=by
 refine wpAny_bind (m:=field (.ref z) 2) (wpAny_field hz rfl (x:=.bool false) rfl ?_);refine wpAny_bind (m:=field (.ref z) 3) (wpAny_field hz rfl (x:=.ref TI) rfl ?_);refine wpAny_bind (wpAny_seqItems hTI rfl (wpAny_bind (m:=Builtin.SmallTypes.ownedTupleIsFree (.ref z)) ?_));unfold Builtin.SmallTypes.ownedTupleIsFree;refine wpAny_bind (wpAny_field hz rfl (x:=.none) rfl (wpAny_pure ?_));simp only[if_true];refine wpAny_bind (wpAny_rule (wpAny_bind (wpAny_field hz rfl (x:=.ref TO) rfl (wpAny_bind (wpAny_setField_rec hz (by simp) fun g1 (z1:IsZip g1 z TI TO .ellipsis) k1=>wpAny_bind ?_)))));simp only[List.zipIdx_cons,List.zipIdx_nil,List.forIn_cons,List.forIn_nil];rcases n with n|⟨⟨x,nx⟩,n⟩
 ·refine wpAny_bind (wpAny_bind (wpAny_onRaise (wpAny_bind (m:=Builtin.SmallTypes.nextOf (.ref i1)) (n _ _ _ _ hh (o1.but h1 k1.extBut D.i1z D.l1z) fun g2 e k2 ⟨oe,he,ce⟩=>?_))));have z2:IsZip g2 z TI TO .ellipsis:=k2 _ _ D.i1z.symm z1;have ez:e≠z:=fun q=>by subst q; rw[z2] at he; cases he; simp at ce
  exact wpAny_setField_rec z2 (by simp) fun g3 _ k3=>hE g3 e (fun c o c1 _ c3 _ q=>k3.extBut _ _ c1 (k2 _ _ c3 (k1.extBut _ _ c1 q))) ⟨oe,k3.extBut _ _ ez he,ce⟩
 ·refine wpAny_bind (wpAny_bind (wpAny_onRaise (wpAny_bind (m:=Builtin.SmallTypes.nextOf (.ref i1)) (nx _ _ _ _ (o1.but h1 k1.extBut D.i1z D.l1z) fun g2 k2=>wpAny_pure ?_))));have t2:IsPair g2 TO a b:=k2.extBut _ _ D.TOi1 (k1.extBut _ _ D.TOz hTO);refine wpAny_bind (wpAny_seqItems t2 rfl (wpAny_bind (wpAny_updateSeq_pair t2 fun g3 t3 k3=>wpAny_bind (wpAny_letGo (wpAny_pure ?_)))));refine wpAny_bind (wpAny_bind (wpAny_onRaise (wpAny_bind (m:=Builtin.SmallTypes.nextOf (.ref i2)) (n _ _ _ _ hh (o2.but (o2.but (o2.but h2 k1.extBut D.i2z D.l2z) k2.extBut D.i12.symm D.l2i1) k3.extBut D.TOi2.symm D.l2TO) fun g4 e k4 ⟨oe,he,ce⟩=>?_))));have z4:IsZip g4 z TI TO .ellipsis:=k4 _ _ D.i2z.symm (k3.extBut _ _ D.TOz.symm (k2.extBut _ _ D.i1z.symm z1));have ez:e≠z:=fun q=>by subst q; rw[z4] at he; cases he; simp at ce
  exact wpAny_setField_rec z4 (by simp) fun g5 _ k5=>hE g5 e (fun c o c1 c2 c3 c4 q=>k5.extBut _ _ c1 (k4 _ _ c4 (k3.extBut _ _ c2 (k2.extBut _ _ c3 (k1.extBut _ _ c1 q))))) ⟨oe,k5.extBut _ _ ez he,ce⟩
theorem nx_zG {z TI TO:Addr}{f0:Value}{Q:Option Value→Shared→Prop}(hz:IsZip s.heap z TI TO f0)
  (h:wpAny (model prog w) A.in1 (Builtin.«zip.__next__» ⟨[.ref z],[]⟩) (fun fin s'=>∃ v,fin=.done (.ret v)∧Q (some v) s') (fun e s'=>(∃ a o,e=.ref a∧s'.heap.get? a=some o∧o.cls=.type "StopIteration")∧Q none s') s) :
  wpAny (model prog w) A (pyNext (.ref z)) Q E s:=by
 have hT:s.TypeIs (.ref z) "zip" := ⟨_,hz,rfl⟩;unfold pyNext;refine wpAny_bind (wpAny_attempt (wpAny_callSpecial?_slot (name:=Str.ofString "__next__") hT F.slot_zip_next (wpAny_call_entry F.slot_zip_next hT F.entry_zip_next ?_ (F.args_zip_next_1 _))));refine wpAny_mono h (fun fin s' ⟨v,e,q⟩=>⟨v,e,wpAny_pure q⟩) fun e s' ⟨⟨a,o,ea,ho,hc⟩,q⟩=>?_;subst ea;exact wpAny_bind (wpAny_isInstance (T := "StopIteration") (b:=true) ⟨o,ho,hc⟩ isSubtype_stop (wpAny_pure q))
abbrev zT1 (h:Heap)(l1:Addr):Heap:=h.push { cls:=.type "tuple_iterator", data:=.fields #[.ref l1,.int 0 0] }
abbrev zT2 (h:Heap)(l1 l2:Addr):Heap:=(zT1 h l1).push { cls:=.type "list_iterator", data:=.fields #[.ref l2,.int 0 0] }
abbrev zT3 (h:Heap)(l1 l2:Addr):Heap:=(zT2 h l1 l2).push { cls:=.type "tuple", data:=.seq #[.ref h.objs.size,.ref (zT1 h l1).objs.size] }
abbrev zT4 (h:Heap)(l1 l2:Addr):Heap:=(zT3 h l1 l2).push { cls:=.type "tuple", data:=.seq #[.none,.none] }
abbrev zT5 (h:Heap)(l1 l2:Addr):Heap:=(zT4 h l1 l2).push { cls:=.type "zip", data:=.fields #[.none,.bool false,.bool false,.ref (zT2 h l1 l2).objs.size,.ref (zT3 h l1 l2).objs.size] }
theorem meets_zT (l1 l2:Addr)(xs ys:Array Value):Meets (Builtin.«zip.__new__» ⟨[.type "zip", .ref l1,.ref l2],[]⟩) (fun _ R s=>s.heap.IsTuple l1 xs∧s.heap.IsList l2 ys∧R (.ok (.ret (.ref (zT4 s.heap l1 l2).objs.size))) { s with heap:=zT5 s.heap l1 l2 }):=
 .of_wp fun prog w A R s h=>by
  obtain⟨hp,g,d,tk,os⟩:=s;obtain⟨q1,q2,h⟩:=h;have hsub:=sub_zip;have hL1:Heap.IsTuple (Shared.heap ⟨hp,g,d,tk,os⟩) l1 xs:=q1;have hL2:Heap.IsList (Shared.heap ⟨hp.push { cls:=.type "tuple_iterator", data:=.fields #[.ref l1,.int 0 0] },g,d,tk,os⟩) l2 ys:=Heap.IsList.push q2 _
  wp_walk using wpAny_pyIter_tuple hL1,wpAny_pyIter_list hL2
  exact⟨_,rfl,h⟩
theorem call_zT {l1 l2:Addr}{xs ys:Array Value}{Q:Value→Shared→Prop}(q1:s.heap.IsTuple l1 xs)(q2:s.heap.IsList l2 ys)
  (h:∀ h',IsZip h' (s.heap.objs.size+4) (s.heap.objs.size+2) (s.heap.objs.size+3) .none→IsPair h' (s.heap.objs.size+2) (.ref (s.heap.objs.size+0)) (.ref (s.heap.objs.size+1)) →
   IsPair h' (s.heap.objs.size+3) .none .none→h'.IsTupleIter (s.heap.objs.size+0) l1 0→h'.IsListIter (s.heap.objs.size+1) l2 0 →
   (∀ c o,s.heap.get? c=some o→h'.get? c=some o)→Q (.ref (s.heap.objs.size+4)) { s with heap:=h' }):wpAny (model prog w) A (call (.type "zip") [.ref l1,.ref l2]) Q E s:=by
 refine callType_new F.called_zip (by decide) (F.typeCall_zip_2 _ _) (F.newCall_zip_2 _ _) (fun obj=>F.args_object_init_3 obj _ _) F.entry_zip_new (meets_zT l1 l2 xs ys) ⟨q1,q2,?_⟩;have e1:(zT1 s.heap l1).objs.size=s.heap.objs.size+1:=Heap.size_push ..;have e2:(zT2 s.heap l1 l2).objs.size=s.heap.objs.size+2:=by rw[Heap.size_push,e1]
 have e3:(zT3 s.heap l1 l2).objs.size=s.heap.objs.size+3:=by rw[Heap.size_push,e2]
 have e4:(zT4 s.heap l1 l2).objs.size=s.heap.objs.size+4:=by rw[Heap.size_push,e3]
 have g5:(zT5 s.heap l1 l2).get? (zT4 s.heap l1 l2).objs.size=some _:=Heap.get?_push_size _ rfl;have g4:(zT5 s.heap l1 l2).get? (zT3 s.heap l1 l2).objs.size=some _:=Heap.get?_push_of_some _ (Heap.get?_push_size _ rfl);have g3:(zT5 s.heap l1 l2).get? (zT2 s.heap l1 l2).objs.size=some _:=Heap.get?_push_of_some _ (Heap.get?_push_of_some _ (Heap.get?_push_size _ rfl));have g2:(zT5 s.heap l1 l2).get? (zT1 s.heap l1).objs.size=some _:=Heap.get?_push_of_some _ (Heap.get?_push_of_some _ (Heap.get?_push_of_some _ (Heap.get?_push_size _ rfl)));have g1:(zT5 s.heap l1 l2).get? s.heap.objs.size=some _:=Heap.get?_push_of_some _ (Heap.get?_push_of_some _ (Heap.get?_push_of_some _ (Heap.get?_push_of_some _ (Heap.get?_push_size _ rfl))));show _∧_;rw[e2,e3,e4] at g5;rw[e1,e2] at g3;rw[e3] at g4;rw[e1] at g2;rw[e4];exact⟨⟨_,g5,rfl⟩,h _ g5 g3 g4 ⟨_,g1,rfl,rfl⟩ ⟨_,g2,rfl,rfl⟩ fun c o x=>Heap.get?_push_of_some _ (Heap.get?_push_of_some _ (Heap.get?_push_of_some _ (Heap.get?_push_of_some _ (Heap.get?_push_of_some _ x))))⟩
end
def ItzT (K:Fg)(a b:Addr):It:=
  ⟨fun i H=>∃ xs ys x y,SqT K H a xs∧SqL K H b ys∧xs[i]?=some x∧ys[i]?=some y,
   fun i H v H'=>∃ T x y,v=.ref T∧H T=none∧H'=upd H T (.tup [x,y])∧∀ xs ys,SqT K H a xs→SqL K H b ys→xs[i]?=some x∧ys[i]?=some y,
   fun i H=>∃ xs ys,SqT K H a xs∧SqL K H b ys∧(xs.length≤i∨ys.length≤i)⟩
theorem on_tup {i a:Addr}{k:Nat}{xs:Array Value}:On2 (fun h=>h.IsTupleIter i a k∧h.IsTuple a xs) i a:=fun h h' st k=>⟨st.1.at fun o e=>k i o (.inl rfl) e,st.2.at fun o e=>k a o (.inr rfl) e⟩
theorem on_lst {i a:Addr}{k:Nat}{xs:Array Value}:On2 (fun h=>h.IsListIter i a k∧h.IsList a xs) i a:=fun h h' st k=>⟨st.1.at fun o e=>k i o (.inl rfl) e,st.2.at fun o e=>k a o (.inr rfl) e⟩
theorem turn_zipT {P:Program}{w:World}{K:Fg}{elts:List Expr}{cx}{tp:Pos}{z TI TO i1 i2 a b:Addr}(D:ZipApart z TI TO i1 i2 a b):Turn P w K (.Tuple elts cx tp) (ItzT K a b) [z,TI,TO,i1,i2] z
  (fun i h=>IsZip h z TI TO .none∧IsPair h TI (.ref i1) (.ref i2)∧(∃ u v,IsPair h TO u v)∧h.IsTupleIter i1 a i∧h.IsListIter i2 b i) where
 mem:=by simp
 obj:=fun i h st c hc=>by
  obtain⟨hz,hTI,⟨u,v,hTO⟩,⟨o1,e1,c1,d1⟩,⟨o2,e2,c2,d2⟩⟩:=st;simp only[List.mem_cons,List.not_mem_nil,or_false] at hc;rcases hc with rfl|rfl|rfl|rfl|rfl
  ·exact⟨_,hz,fun v z=>by cases z⟩
  ·exact⟨_,hTI,fun v z=>by cases z⟩
  ·exact⟨_,hTO,fun v z=>by cases z⟩
  ·exact⟨o1,e1,fun v z=>by rw[d1] at z; cases z⟩
  ·exact⟨o2,e2,fun v z=>by rw[d2] at z; cases z⟩
 keep:=fun i h h' st k=>by
  obtain⟨hz,hTI,⟨u,v,hTO⟩,h1,h2⟩:=st;exact⟨k z (by simp) _ hz,k TI (by simp) _ hTI,⟨u,v,k TO (by simp) _ hTO⟩,h1.at fun o e=>k i1 (by simp) o e,h2.at fun o e=>k i2 (by simp) o e⟩
 item:=by
  intro X hP hw hK hc i pins s σ H E I hf st hg;subst hP hw hK;obtain⟨xs,ys,x,y,qx,qy,ex,ey⟩:=hg;obtain⟨ix,rx,px,zx⟩:=I.tuple qx;obtain⟨iy,ry,py,zy⟩:=I.list qy;obtain⟨ux,gx,rux⟩:=rx.get ex;obtain⟨uy,gy,ruy⟩:=ry.get ey;obtain⟨hz,hTI,⟨u,v,hTO⟩,h1,h2⟩:=st;have l1:i1<s.heap.objs.size:=by obtain⟨_,e,_⟩:=h1; exact Heap.lt_size e
  have l2:i2<s.heap.objs.size:=by obtain⟨_,e,_⟩:=h2; exact Heap.lt_size e
  refine nx_zG hz (zG_item (x:=ux) (y:=uy) (S1:=fun h=>h.IsTupleIter i1 a i∧h.IsTuple a ix.toArray) (S1':=fun h=>h.IsTupleIter i1 a (i+1)∧h.IsTuple a ix.toArray)
   (S2:=fun h=>h.IsListIter i2 b i∧h.IsList b iy.toArray) (S2':=fun h=>h.IsListIter i2 b (i+1)∧h.IsList b iy.toArray) D hz hTI hTO on_tup on_lst on_lst on_tup
   (fun A E s Q st hQ=>nxT_item st.1 st.2 (by simpa using gx) fun h' q k=>hQ h' ⟨q,st.2.extBut k.extBut D.l1i1⟩ k)
   (fun A E s Q st hQ=>wpAny_nextOf_list_item st.1 st.2 (by simpa using gy) fun h' q k=>hQ h' ⟨q,st.2.extBut k.extBut D.l2i2⟩ k)
   ⟨h1,px⟩ ⟨h2,py.isList⟩ l1 l2 fun h' a1 a2 a3 a4 a5 kp=>?_)
  refine⟨_,rfl,wpAny_letOwnedTupleGo_zip a1 fun h'' hz' hs'=>?_⟩;have hs':Heap.SameBut z h' h'':=hs';have nT:s.heap.objs.size≠z:=Nat.ne_of_gt (Heap.lt_size hz);have hT:IsPair h'' s.heap.objs.size ux uy:=hs'.extBut _ _ nT a5;have I2:Inv X pins σ (upd H s.heap.objs.size (.tup [x,y])) { s with heap:=h'' }:=I.turnedL (t':=s.toks) (ch:=[z,TI,TO,i1,i2])
   (fun c o hc e=>hs'.extBut _ _ (fun q=>hc (by simp[q])) (kp c o (fun q=>hc (by simp[q])) (fun q=>hc (by simp[q])) (fun q=>hc (by simp[q])) (fun q=>hc (by simp[q])) e))
   hf (Nat.le_refl _) ⟨small_le (by show 2≤1000; decide),[ux,uy],.cons rux (.cons ruy .nil),⟨_,hT,rfl,_,rfl⟩⟩
  have fr:=I.hok.fresh (Nat.le_refl s.heap.objs.size);refine⟨.ref s.heap.objs.size,_,I2,rfl,⟨_,x,y,rfl,fr,rfl,fun xs' ys' q1 q2=>⟨by rw[I.tuple_inj q1 qx]; exact ex,by rw[I.list_inj q2 qy]; exact ey⟩⟩,⟨hz',hs'.extBut _ _ D.TIz (kp _ _ D.TIz D.TITO D.TIi1 D.TIi2 hTI),⟨_,_,hs'.extBut _ _ D.TOz a2⟩,a3.1.extBut hs'.extBut D.i1z,a4.1.extBut hs'.extBut D.i2z⟩,fun c hc=>?_⟩;have lt:c<s.heap.objs.size:=by
   simp only[List.mem_cons,List.not_mem_nil,or_false] at hc;rcases hc with rfl|rfl|rfl|rfl|rfl
   ·exact Heap.lt_size hz
   ·exact Heap.lt_size hTI
   ·exact Heap.lt_size hTO
   ·exact l1
   ·exact l2
  rw[bB (Nat.ne_of_lt lt)];exact(hf c hc).1
 done:=by
  intro X hP hw hK hc i pins s σ H E I hf st hg;subst hP hw hK;obtain⟨xs,ys,qx,qy,hle⟩:=hg;obtain⟨ix,rx,px,zx⟩:=I.tuple qx;obtain⟨iy,ry,py,zy⟩:=I.list qy;obtain⟨hz,hTI,⟨u,v,hTO⟩,h1,h2⟩:=st;have lx:=rx.length;have ly:=ry.length;refine nx_zG hz (zG_end (S1:=fun h=>h.IsTupleIter i1 a i∧h.IsTuple a ix.toArray) (S2:=fun h=>h.IsListIter i2 b i∧h.IsList b iy.toArray) (I.ok.hd hc) D hz hTI hTO on_tup on_lst ⟨h1,px⟩ ⟨h2,py.isList⟩ ?_ fun h' e kp ⟨o,he,ce⟩=>⟨⟨e,o,rfl,he,ce⟩,rfl,I.turnedC (t':=s.toks) (ch:=[z,TI,TO,i1,i2]) (fun c o hc e=>?_) hf⟩)
  ·by_cases q:xs.length≤i
   ·exact .inl fun A E s Q hh st hE=>nxT_end hh st.1 st.2 (by simp; omega) hE
   ·obtain⟨ux,gx⟩:∃ u,ix[i]?=some u:=⟨ix[i]'(by omega),List.getElem?_eq_getElem _⟩;exact .inr ⟨⟨ux,fun A E s Q st hQ=>nxT_item st.1 st.2 (by simpa using gx) fun h' q k=>hQ h' k⟩,fun A E s Q hh st hE=>wpAny_nextOf_list_end hh st.1 st.2 (by simp; omega) hE⟩
  ·exact kp c o (fun q=>hc (by simp[q])) (fun q=>hc (by simp[q])) (fun q=>hc (by simp[q])) (fun q=>hc (by simp[q])) e
 self:=fun _ _ _ _ _ st h=>wpAny_pyIter_zip st.1 h
section
variable {X:Cx}
def iZipT (K:Fg)(ta:TA):TI:=fun σ H R=>ta σ H fun vs H1=>∃ p q xs ys,vs=[.ref p,.ref q]∧SqT K H1 p xs∧SqL K H1 q ys∧R (ItzT K p q) H1
theorem pi_zipT {a b:Expr}{ta:TA}{p pos tp:Pos}{elts:List Expr}{cx}(hg:Gl X "zip")(hm:X.mg "zip" = none)(ha:PA X [a,b] ta)
  (he2:starEach [a,b] X.env=(false,eval a X.env)::starEach [b] X.env:=by rfl) (hpl2:(backTo pos (starEach [b] X.env)).any (·.1)=false:=by rfl) :
  PI X (.Tuple elts cx tp) (.Call (.Name "zip" p) [a,b] [] pos) (iZipT X.K ta):=by
 intro pins s σ H R I h;refine wpAny_Call_Name_kw (ld_blt I hg hm boot_zip ?_ (by decide) (by decide));refine PyProof.Rows.callWith_type1 (thn (ha pos pins s σ H _ I h) fun us s1 ⟨vs,H1,I1,r1,p,q,xs,ys,e,hp,hq,k⟩=>?_) he2 hpl2;subst e
 cases r1 with
 | cons ra rb=>
  cases rb with
  | cons rb rc=>
   cases rc
   cases ra
   cases rb
   obtain⟨ix,rx,px,zx⟩:=I1.tuple hp;obtain⟨iy,ry,py,zy⟩:=I1.list hq;refine call_zT (show s1.heap.IsTuple p ix.toArray from px) py.isList fun h' hz hTI hTO i1 i2 kp=>?_;have lp:p<s1.heap.objs.size:=px.lt;have lq:q<s1.heap.objs.size:=by obtain⟨o,e,_⟩:=py.isList; exact Heap.lt_size e
   have ap:∀{b:Addr} (n:Nat),b<s1.heap.objs.size→b≠s1.heap.objs.size+n:=fun n hb=>Nat.ne_of_lt (Nat.lt_of_lt_of_le hb (Nat.le_add_right _ _));have ne:∀(m n:Nat),m≠n→s1.heap.objs.size+m≠s1.heap.objs.size+n:=fun m n h e=>h (Nat.add_left_cancel e);have D:ZipApart (s1.heap.objs.size+4) (s1.heap.objs.size+2) (s1.heap.objs.size+3) (s1.heap.objs.size+0) (s1.heap.objs.size+1) p q:=
    ⟨ne _ _ (by decide),ne _ _ (by decide),ne _ _ (by decide),ne _ _ (by decide),ne _ _ (by decide),ne _ _ (by decide),ne _ _ (by decide),ne _ _ (by decide),ne _ _ (by decide),ne _ _ (by decide),ap _ lp,ap _ lp,ap _ lp,ap _ lp,ap _ lq,ap _ lq,ap _ lq,ap _ lq⟩
   refine wpAny_pyIter_zip hz ?_;have I2:Inv X pins σ H1 { s1 with heap:=h' }:=I1.kept (t':=s1.toks) kp;refine⟨_,[s1.heap.objs.size+4,s1.heap.objs.size+2,s1.heap.objs.size+3,s1.heap.objs.size+0,s1.heap.objs.size+1],_,_,H1,rfl,I2,turn_zipT D,⟨hz,hTI,⟨_,_,hTO⟩,i1,i2⟩,fun c hc=>?_,k⟩;have hle:s1.heap.objs.size≤c:=by
    simp only[List.mem_cons,List.not_mem_nil,or_false] at hc;rcases hc with rfl|rfl|rfl|rfl|rfl<;>exact Nat.le_add_right _ _
   exact I1.fpOk hle (I1.hok.fresh hle)
end
end L2
namespace L2.VS
open PySem PySem.Spec PyProof.Rows
section
variable {P0:Addr→Hp→Prop}{K:Fg}
def mItZT (ma mb:ME):MD:=fun Γ Q=>ma Γ fun x Γ1=>mb Γ1 fun y Γ2=>match x,y with
 | .tuple ds,.list es=>Q (zipD ds es) Γ2
 | _,_=>False
theorem vi_zipT {ta tb:TE}{ma mb:ME}(ha:VT P0 ta ma)(hb:VT P0 tb mb):VI P0 (iZipT K (cZ ta (cZ tb tNil))) (mItZT ma mb):=by
 intro F Γ σ G H Q Qm r m k;refine ha F Γ σ G H _ _ r m fun d Γ1 x G1 H1 m1 s1 r1 d1=>?_;refine hb F Γ1 σ G1 H1 _ _ r1 m1 fun e Γ2 y G2 H2 m2 s2 r2 d2=>?_;have d1:=Dt.same s2 _ _ d1
 split at m2
 ·rename_i ds es _
  cases d1 with
  | @tup p xs _ hp rs=>
   cases d2 with
   | @lst q ys _ hq ss=>
    refine⟨p,q,xs,ys,rfl,SqT.of (r2.fr.sub _ _ hp),SqL.of (r2.fr.sub _ _ hq),k _ _ _ _ _ m2 (s1.trans s2) r2 fun F3 Γ3 σ3 G3 H3 s3 r3=>⟨fun i d e=>?_,?_⟩⟩
    ·have hp3:=SqT.of (K:=K) (r3.fr.sub _ _ (s3 _ _ hp));have hq3:=SqL.of (K:=K) (r3.fr.sub _ _ (s3 _ _ hq));unfold zipD at e;rw[List.getElem?_map] at e
     cases ez:(ds.zip es)[i]? with
     | none=>rw[ez] at e; cases e
     | some z=>
      rw[ez] at e
      cases e
      obtain⟨f1,f2⟩:=List.getElem?_zip_eq_some.mp ez;obtain⟨v1,g1,dv1⟩:=Dts.get rs f1;obtain⟨v2,g2,dv2⟩:=Dts.get ss f2;refine⟨⟨xs,ys,v1,v2,hp3,hq3,g1,g2⟩,fun v H4 hy=>?_⟩;obtain⟨T,x',y',rfl,hT,rfl,hxy⟩:=hy;obtain⟨h1,h2⟩:=hxy xs ys hp3 hq3;rw[g1] at h1; cases h1;rw[g2] at h2; cases h2;have g:=same_new (r3.fr.gfresh hT) (.tup [v1,v2]);exact⟨_,g,r3.new hT,.tup b8 (.cons (Dt.same (s3.trans g) _ _ dv1) (.cons (Dt.same (s3.trans g) _ _ dv2) .nil))⟩
    ·refine⟨xs,ys,SqT.of (r3.fr.sub _ _ (s3 _ _ hp)),SqL.of (r3.fr.sub _ _ (s3 _ _ hq)),?_⟩;have l1:=rs.len;have l2:=ss.len;have l3:(zipD ds es).length=min ds.length es.length:=by unfold zipD; rw[List.length_map,List.length_zip]
     rw[l3,l1,l2];omega
 ·exact m2.elim
theorem i_itZT {ma mb:ME}{Γ:En}{Q:List D→En→Prop}(h:ma Γ fun x Γ1=>mb Γ1 fun y Γ2=>match x,y with|.tuple ds,.list es=>Q (zipD ds es) Γ2|_,_=>False):mItZT ma mb Γ Q:=h
end
end L2.VS
namespace My
open PySem PySem.Spec PyProof.Rows L2 L2.VS LT
def top (i:Nat):Stmt:=PySem.Challenge.pw_leadtimes_k43_books_written.main.body.getD i (.Pass ⟨0,0,0,0⟩)
set_option hygiene false in
local macro_rules|`(tactic| walk_at "vn")=>`(tactic| dsimp only[List.set_cons_zero,List.set_cons_succ,List.set_nil,Rv.sl,Rv.d,nbQ,List.replicate,List.cons_append,List.nil_append,pubA,List.map_cons,List.map_nil])
set_option hygiene false in
local macro_rules|`(tactic| walk_at "v1")=>`(tactic| first
 | (with_reducible first
  | apply i_seq|apply i_set|apply i_val|apply i_ret|apply i_if|apply i_tst
  | refine i_var (by with_unfolding_all rfl) ?_
  | apply i_c|apply i_pub|apply i_call|apply i_aval
  | refine i_apen (by with_unfolding_all rfl) ?_
  | apply i_anil|apply i_nil|apply i_cons|apply i_tup|apply i_lst|apply i_ix|apply i_I0|apply i_I|apply i_U|apply i_eq|apply i_ne
  | apply i_and|apply i_or|apply i_not|apply i_andV|apply i_notV|apply i_isN|apply i_isi|apply i_len|apply i_abs|apply i_ifO
  | apply i_for|apply i_itL|apply i_itT|apply i_rng1|apply i_gN
  | refine i_gT (by with_unfolding_all rfl) ?_
  | apply i_gsCons|apply i_gsNil|apply i_par|apply i_nx|apply i_drop|apply i_peekT|apply i_listOf|apply i_slL|apply i_pNo|apply i_pSo|apply i_in
  | refine i_append (by with_unfolding_all rfl) ?_
  | refine i_clear (by with_unfolding_all rfl) ?_
  | refine i_pubS (by with_unfolding_all rfl) ?_
  | refine i_pubS0 (by with_unfolding_all rfl) ?_
  | refine i_move (by with_unfolding_all rfl) ?_
  | refine i_moveV (by with_unfolding_all rfl) ?_
  | apply i_oQ (ix_num0 _)|apply i_oQ (ix_num1 _)|apply i_oQ (ix_line0 _)|apply i_oQ (ix_line1 _)
  | apply iteT|apply iteF
  | refine isT (by with_unfolding_all rfl) ?_
  | refine isF (by with_unfolding_all rfl) ?_
  | refine isNT (by with_unfolding_all rfl) ?_
  | refine isNF (by with_unfolding_all rfl) ?_
  | apply iteNT|apply iteNF
  | refine And.intro rfl ?_
  | refine And.intro (Nat.le_of_ble_eq_true (by with_unfolding_all rfl)) ?_
  | refine And.intro (mulB (by assumption) (by assumption)) ?_
  | (refine And.intro (good_int _) (And.intro (good_int _) ?_); rw[eqv_int])
  | (refine And.intro (good_num _) (And.intro (good_num _) ?_); rw[eqv_num])
  | (refine And.intro (good_line _) (And.intro (good_line _) ?_); rw[eqv_line])
  | (refine And.intro (good_bool _) (And.intro (good_bool _) ?_); rw[eqv_bool]))
 | dsimp only[Rv.d,Rv.sl,nbQ,Bool.not_true,Bool.not_false,isN,itemsD])
set_option hygiene false in
local macro_rules|`(tactic| walk_at "vs")=>`(tactic| repeat (walk_at "v1"))
set_option hygiene false in
local macro_rules|`(tactic| walk_at "w1")=>`(tactic| first
 | walk_at "v1"
 | with_reducible apply i_comp
 | with_reducible apply i_bs
 | with_reducible apply i_peekS
 | with_reducible apply i_slT
 | with_reducible refine i_ixC (by with_unfolding_all rfl) ?_)
set_option hygiene false in
local macro_rules|`(tactic| walk_at "ws")=>`(tactic| repeat (walk_at "w1"))
set_option hygiene false in
local macro_rules|`(tactic| walk_at "t1")=>`(tactic| first
 | walk_at "w1"
 | with_reducible apply i_sadd
 | with_reducible apply i_saJ
 | with_reducible apply i_str1
 | with_reducible apply i_stS
 | with_reducible apply i_lenS
 | with_reducible apply i_inS
 | with_reducible apply i_siJ
 | with_reducible apply i_siK
 | with_reducible apply i_starts
 | with_reducible apply i_swJ
 | with_reducible apply i_swK
 | with_reducible apply i_intS
 | with_reducible apply i_join
 | with_reducible apply i_jnJ
 | with_reducible apply i_split
 | with_reducible apply i_spJ
 | with_reducible apply i_ixS
 | with_reducible apply i_xsJ
 | with_reducible apply i_itS
 | with_reducible apply i_isK
 | with_reducible apply i_slS
 | with_reducible apply i_itZT
 | with_reducible apply i_tupL)
set_option hygiene false in
local macro_rules|`(tactic| walk_at "ts")=>`(tactic| repeat (walk_at "t1"))
def bI:Fm:=mTake
def b_is_whole:MS:=
 (mRet (dB (mAndV (mIsi "int" (bF 0)) (mNotV (mIsi "bool" (bF 0))))))
def dR:Fm:=mFn 0 b_is_whole
def dZ:MS:=
 (mRet (dB (bF 2)))
def eE:MS:=
 (dU (mSet 4 (dB (mMod (bF 2) (bF 3))))
  (dU (mSet 2 (dB (bF 3)))
  (mSet 3 (dB (bF 4)))))
def dF:MS:=
 (dU (mSet 2 (dB (mAbs (bF 0))))
  (dU (mSet 3 (dB (mAbs (bF 1))))
  (dU (mWhile (mTst (mNe (bF 3) (mC (.int 0))))
  eE)
  dZ)))
def bL:Fm:=mFn 3 dF
def b_is_number_r1:MS:=
 (mRet (dB (mAndV (mGe (mIx (bF 0) (mC (.int 1))) (mC (.int 1))) (mEq (eX (bO 2 bL (aVal (mIx (bF 0) (mC (.int 0))) (aVal (mIx (bF 0) (mC (.int 1))) aNil)))) (mC (.int 1))))))
def b_is_number_r2:MS:=
 (dU (mIf (mOr (mNot (mTst (eX (bO 1 dR (aVal (mIx (bF 0) (mC (.int 0))) aNil))))) (mNot (mTst (eX (bO 1 dR (aVal (mIx (bF 0) (mC (.int 1))) aNil))))))
  (mRet (dB (mC (.bool false))))
  mNx)
  b_is_number_r1)
def b_is_number:MS:=
 (dU (mIf (mOr (mNot (mTst (mIsi "tuple" (bF 0)))) (mTst (mNe (mLen (bF 0)) (mC (.int 2)))))
  (mRet (dB (mC (.bool false))))
  mNx)
  b_is_number_r2)
def dI:Fm:=mFn 0 b_is_number
def b_whole_in_r1:MS:=
 (mRet (dB (mIntS (bF 0))))
def b_whole_in_r2:MS:=
 (dU (mIf (mAnd (mTst (mEq (mIxS (bF 0) (mC (.int 0))) (mC (.str "0")))) (mTst (mNe (bF 0) (mC (.str "0")))))
  (mRet (dB (mC .none)))
  mNx)
  b_whole_in_r1)
def b_whole_in:MS:=
 (dU (mIf (mOr (mTst (mEq (bF 0) (mC (.str "")))) (mOr (mTst (mGt (mLenS (bF 0)) (mC (.int 60)))) (mNot (mTst (mAll (eX (mComp 1 [] (mItS (bF 0)) (gN 0) mTrue (mInS (bF 0) (mC (.str "0123456789"))))))))))
  (mRet (dB (mC .none)))
  mNx)
  b_whole_in_r2)
def bW:Fm:=mFn 1 b_whole_in
def b_top_in_r1:MS:=
 (dU (mSet 1 (dB (eX (bO 1 bW (aVal (mSlS (bF 0) (pSo (mC (.int 1))) pNo) aNil)))))
  (mRet (mIfO (mOr (mTst (mIsN (bF 1))) (mTst (mEq (bF 1) (mC (.int 0))))) (dB (mC .none)) (dB (mNeg (bF 1))))))
def b_top_in:MS:=
 (dU (mIf (mNot (mTst (mStarts (bF 0) (mC (.str "-")))))
  (mRet (bO 1 bW (aVal (bF 0) aNil)))
  mNx)
  b_top_in_r1)
def m_top_in:Fm:=mFn 1 b_top_in
def b_number_in_r1:MS:=
 (dU (mSet 3 (dB (eX (bO 1 bW (aVal (mIx (bF 1) (mC (.int 1))) aNil)))))
  (mRet (mIfO (mAnd (mTst (mNe (bF 3) (mC (.int 1)))) (mTst (eX (bO 1 dI (aVal (mTup (cQ (bF 2) (cQ (bF 3) mNil))) aNil))))) (dB (mTup (cQ (bF 2) (cQ (bF 3) mNil)))) (dB (mC .none)))))
def b_number_in_r2:MS:=
 (dU (mSet 2 (dB (eX (bO 1 m_top_in (aVal (mIx (bF 1) (mC (.int 0))) aNil)))))
  (dU (mIf (mTst (mEq (mLen (bF 1)) (mC (.int 1))))
  (mRet (mIfO (mTst (mIsN (bF 2))) (dB (mC .none)) (dB (mTup (cQ (bF 2) (cQ (mC (.int 1)) mNil))))))
  mNx)
  b_number_in_r1))
def b_number_in:MS:=
 (dU (mSet 1 (dB (eX (mSplit (bF 0) (mC (.str "/"))))))
  (dU (mIf (mTst (mGt (mLen (bF 1)) (mC (.int 2))))
  (mRet (dB (mC .none)))
  mNx)
  b_number_in_r2))
def dJ:Fm:=mFn 3 b_number_in
def b_thing_in:MS:=
 (mRet (mIfO (mTst (mEq (bF 0) (mC (.str "number")))) (bO 1 dJ (aVal (bF 1) aNil)) (bO 1 bW (aVal (bF 1) aNil))))
def m_thing_in:Fm:=mFn 0 b_thing_in
def b_parts_in_r1:MS:=
 (mPubS 4 (mRet (mIfO (mTst (mIn false (mC .none) (bF 4))) (dB (mC .none)) (dB (mTupL (bF 4))))))
def b_parts_in_l1:MS:=
 (mAppend 4 (eX (bO 2 m_thing_in (aVal (bF 5) (aVal (bF 6) aNil)))))
def b_parts_in_r2:MS:=
 (dU (mSet 4 (mLst (cQ (mIx (bF 2) (mC (.int 0))) mNil)))
  (dU (mFor (mItZT (bF 3) (eX (mSlL (bF 2) (pSo (mC (.int 1))) pNo))) (gT 2 (gsCons (gN 5) (gsCons (gN 6) gsNil)))
  b_parts_in_l1)
  b_parts_in_r1))
def b_parts_in:MS:=
 (dU (mSet 2 (dB (eX (mSplit (bF 0) (mC (.str " "))))))
  (dU (mSet 3 (dB (mFmGet 1 (mIx (bF 2) (mC (.int 0))))))
  (dU (mIf (mOr (mTst (mIsN (bF 3))) (mTst (mNe (mLen (bF 2)) (mAdd (mLen (bF 3)) (mC (.int 1))))))
  (mRet (dB (mC .none)))
  mNx)
  b_parts_in_r2)))
def m_parts_in:Fm:=mFn 5 b_parts_in
def b_row_in:MS:=
 (mRet (bO 2 m_parts_in (aVal (bF 0) (aDisp (mPsC "deed" (mTup (cQ (mC (.str "whole")) mNil)) (mPsC "pass" (mTup (cQ (mC (.str "number")) (cQ (mC (.str "whole")) mNil))) mPsN)) aNil))))
def m_row_in:Fm:=mFn 0 b_row_in
def b_lines_in_r1:MS:=
 (mRet (mIfO (mTst (mNe (bF 0) (mC (.str "")))) (mSplit (bF 0) (mC (.str "\n"))) (mLst mNil)))
def b_lines_in:MS:=
 (dU (mIf (mNot (mTst (mIsi "str" (bF 0))))
  mNever
  mNx)
  b_lines_in_r1)
def m_lines_in:Fm:=mFn 0 b_lines_in
def cV:MS:=
 (mIf (mTst (mIn false (mC .none) (bF 0)))
  mNever
  mNx)
def bN:Fm:=mFn 0 cV
def b_show_number:MS:=
 (dU (mSet 1 (dB (mIx (bF 0) (mC (.int 0)))))
  (dU (mSet 2 (dB (mIx (bF 0) (mC (.int 1)))))
  (mRet (mIfO (mTst (mEq (bF 2) (mC (.int 1)))) (dB (mStr (bF 1))) (dB (mFs "/" (bF 1) (bF 2)))))))
def cJ:Fm:=mFn 2 b_show_number
def b_show_part:MS:=
 (mRet (mIfO (mTst (mIsi "tuple" (bF 0))) (bO 1 cJ (aVal (bF 0) aNil)) (dB (mStr (bF 0)))))
def dN:Fm:=mFn 0 b_show_part
def b_show_lines:MS:=
 (mRet (dB (mJoin (mC (.str "\n")) (eX (mComp 1 [] (mItL (bF 0)) (gN 0) mTrue (mJoin (mC (.str " ")) (eX (mComp 1 [] (mItT (bF 0)) (gN 0) mTrue (eX (bO 1 dN (aVal (bF 0) aNil)))))))))))
def cW:Fm:=mFn 2 b_show_lines
def b_show_book:MS:=
 (mRet (bO 1 cW (aVal (bF 0) aNil)))
def dM:Fm:=mFn 0 b_show_book
def b_read_book:MS:=
 (dU (mSet 1 (mComp 1 [] (mItL (eX (bO 1 m_lines_in (aVal (bF 0) aNil)))) (gN 0) mTrue (eX (bO 1 m_row_in (aVal (bF 0) aNil)))))
  (dU (mPeekS [] (mDrop (eX (bO 1 bN (aVal (bF 1) aNil)))))
  (mRet (mMove 1))))
def dO:Fm:=mFn 2 b_read_book
def b_law_lowest_r1:MS:=
 (mRet (dB (mTup (cQ (mDivX (bF 0) (bF 2)) (cQ (mDivX (bF 1) (bF 2)) mNil)))))
def b_law_lowest_l1:MS:=
 (mPar 2 3 (cQ (bF 3) (cQ (mMod (bF 2) (bF 3)) mNil)))
def b_law_lowest:MS:=
 (dU (mSet 2 (dB (mAbs (bF 0))))
  (dU (mSet 3 (dB (bF 1)))
  (dU (mWhile (mTst (mGt (bF 3) (mC (.int 0))))
  b_law_lowest_l1)
  b_law_lowest_r1)))
def cG:Fm:=mFn 2 b_law_lowest
def b_law_great_r1:MS:=
 (mRet (dB (mMod (bF 1) (mC (.int 1000000000000000000000000000000000000000000000000000000000000)))))
def b_law_great_l1:MS:=
 (mSet 1 (dB (mAdd (mMul (bF 1) (mC (.int 1000000000))) (eX (bO 2 bI (aPen 0 (aVal (mC (.int 1000000000)) aNil)))))))
def b_law_great:MS:=
 (dU (mSet 1 (dB (mC (.int 0))))
  (dU (mFor (mRng1 (cQ (mAdd (mC (.int 1)) (eX (bO 2 bI (aPen 0 (aVal (mC (.int 7)) aNil))))) mNil)) (gN 2)
  b_law_great_l1)
  b_law_great_r1))
def c7:Fm:=mFn 2 b_law_great
def b_law_time_r1:MS:=
 (mRet (bO 2 cG (aVal (mMul (eX (bO 1 c7 (aPen 0 aNil))) (mIx (eX (mLst (cQ (mC (.int 1)) (cQ (mNeg (mC (.int 1))) mNil)))) (eX (bO 2 bI (aPen 0 (aVal (mC (.int 2)) aNil)))))) (aVal (mAdd (mC (.int 1)) (mMod (eX (bO 1 c7 (aPen 0 aNil))) (mSub (mC (.int 1000000000000000000000000000000000000000000000000000000000000)) (mC (.int 1))))) aNil))))
def b_law_time_r2:MS:=
 (dU (mIf (mTst (mEq (bF 1) (mC (.int 2))))
  (mRet (bO 2 cG (aVal (mSub (eX (bO 2 bI (aPen 0 (aVal (mC (.int 41)) aNil)))) (mC (.int 20))) (aVal (mAdd (mC (.int 1)) (eX (bO 2 bI (aPen 0 (aVal (mC (.int 12)) aNil))))) aNil))))
  mNx)
  b_law_time_r1)
def b_law_time:MS:=
 (dU (mSet 1 (dB (eX (bO 2 bI (aPen 0 (aVal (mC (.int 4)) aNil))))))
  (dU (mIf (mTst (mLt (bF 1) (mC (.int 2))))
  (mRet (dB (mTup (cQ (mSub (eX (bO 2 bI (aPen 0 (aVal (mC (.int 41)) aNil)))) (mC (.int 20))) (cQ (mC (.int 1)) mNil)))))
  mNx)
  b_law_time_r2))
def m_law_time:Fm:=mFn 1 b_law_time
def b_law_book_r1:MS:=
 (mRet (mMove 1))
def b_law_book_r2:MS:=
 (mIf (mTst (mEq (eX (bO 2 bI (aPen 0 (aVal (mC (.int 2)) aNil)))) (mC (.int 0))))
  (mAppend 1 (mTup (cQ (mC (.str "deed")) (cQ (bF 3) mNil))))
  (mAppend 1 (mTup (cQ (mC (.str "pass")) (cQ (eX (bO 1 m_law_time (aPen 0 aNil))) (cQ (bF 3) mNil))))))
def b_law_book_l1:MS:=
 (dU (mSet 3 (dB (eX (bO 2 bI (aPen 0 (aVal (mC (.int 60)) aNil))))))
  (dU (mIf (mTst (mEq (eX (bO 2 bI (aPen 0 (aVal (mC (.int 9)) aNil)))) (mC (.int 8))))
  (mSet 3 (dB (eX (bO 1 c7 (aPen 0 aNil)))))
  mNx)
  b_law_book_r2))
def b_law_book:MS:=
 (dU (mSet 1 (mLst mNil))
  (dU (mFor (mRng1 (cQ (eX (bO 2 bI (aPen 0 (aVal (mIx (eX (mLst (cQ (mC (.int 31)) (cQ (mC (.int 6)) mNil)))) (eX (bO 2 bI (aPen 0 (aVal (mC (.int 2)) aNil))))) aNil)))) mNil)) (gN 2)
  b_law_book_l1)
  b_law_book_r1))
def m_law_book:Fm:=mFn 3 b_law_book
def b_law_told_r1:MS:=
 (mRet (dB (mSAdd (mSAdd (mStr (mIx (bF 0) (mC (.int 0)))) (mC (.str "/"))) (mStr (mIx (bF 0) (mC (.int 1)))))))
def b_law_told:MS:=
 (dU (mIf (mTst (mEq (mIx (bF 0) (mC (.int 1))) (mC (.int 1))))
  (mRet (dB (mStr (mIx (bF 0) (mC (.int 0))))))
  mNx)
  b_law_told_r1)
def m_law_told:Fm:=mFn 0 b_law_told
def b_law_lines_of_r1:MS:=
 (mPubS 1 (mRet (dB (mJoin (mC (.str "\n")) (bF 1)))))
def b_law_lines_of_r2:MS:=
 (mPubS 3 (mAppend 1 (mJoin (mC (.str " ")) (bF 3))))
def b_law_lines_of_l1:MS:=
 (mIf (mTst (mIsi "tuple" (bF 4)))
  (mAppend 3 (eX (bO 1 m_law_told (aVal (bF 4) aNil))))
  (mAppend 3 (mStr (bF 4))))
def b_law_lines_of_l2:MS:=
 (dU (mSet 3 (mLst (cQ (mIx (bF 2) (mC (.int 0))) mNil)))
  (dU (mFor (mItT (mSlT (bF 2) (pSo (mC (.int 1))) pNo)) (gN 4)
  b_law_lines_of_l1)
  b_law_lines_of_r2))
def b_law_lines_of:MS:=
 (dU (mSet 1 (mLst mNil))
  (dU (mFor (mItL (bF 0)) (gN 2)
  b_law_lines_of_l2)
  b_law_lines_of_r1))
def cT:Fm:=mFn 4 b_law_lines_of
def eO (c:Fm):MS:=
 (mRet (dB (mEq (bF 0) (bF 1))))
def eQ (c:Fm):MS:=
 (dU (mIf (mOr (mTst (mIsi "bool" (bF 0))) (mTst (mNe (mIsi "str" (bF 0)) (mIsi "str" (bF 1)))))
  (mRet (dB (mC (.bool false))))
  mNx)
  (eO c))
def eV (c:Fm):MS:=
 (mRet (dB (mAndV (mEq (mLen (bF 0)) (mLen (bF 1))) (mAll (eX (mComp 1 [0,1] (mRng1 (cQ (mLen (bF 1)) mNil)) (gN 0) mTrue (eX (bO 2 c (aVal (mIx (bF 1) (bF 0)) (aVal (mIx (bF 2) (bF 0)) aNil))))))))))
def bG (c:Fm):MS:=
 (dU (mIf (mTst (mIsi2 "list" "tuple" (bF 1)))
  (dU (mIf (mOr (mTst (mNe (mIsi "list" (bF 0)) (mIsi "list" (bF 1)))) (mTst (mNe (mIsi "tuple" (bF 0)) (mIsi "tuple" (bF 1)))))
  (mRet (dB (mC (.bool false))))
  mNx)
  (eV c))
  mNx)
  (eQ c))
def m_law_alike_0:Fm:=mNo
def cL:Fm:=mFn 1 (bG m_law_alike_0)
def cI:Fm:=mFn 1 (bG cL)
def cH:Fm:=mFn 1 (bG cI)
def m_law_alike_4:Fm:=mFn 1 (bG cH)
def m_law_alike:Fm:=m_law_alike_4
def b_law_r1:MS:=
 (mRet (dB (mAndV (mEq (eX (bO 1 dM (aVal (eX (mLst mNil)) aNil))) (mC (.str ""))) (mEq (eX (bO 1 dO (aVal (mC (.str "")) aNil))) (eX (mLst mNil))))))
def b_law_r2:MS:=
 (mAppend 7 (mTup mNil))
def b_law_l1:MS:=
 (dU (mSet 7 (bO 1 dO (aVal (bF 5) aNil)))
  (dU (mIf (mPeekT (mNot (mTst (eX (bO 2 m_law_alike (aVal (bF 7) (aVal (bF 3) aNil)))))))
  (mRet (dB (mC (.bool false))))
  mNx)
  b_law_r2))
def b_law_r3:MS:=
 (mFor (mRng1 (cQ (mC (.int 2)) mNil)) (gN 6)
  b_law_l1)
def b_law_l2:MS:=
 (dU (mSet 3 (dB (eX (bO 1 m_law_book (aPen 1 aNil)))))
  (dU (mSet 4 (dB (eX (mListOf (bF 3)))))
  (dU (mSet 5 (dB (eX (bO 1 dM (aVal (bF 4) aNil)))))
  (dU (mIf (mOr (mNot (mTst (mIsi "str" (bF 5)))) (mOr (mTst (mNe (bF 5) (eX (bO 1 cT (aVal (bF 3) aNil))))) (mTst (mNe (bF 4) (bF 3)))))
  (mRet (dB (mC (.bool false))))
  mNx)
  b_law_r3))))
def b_law:MS:=
 (dU (mFor (mRng1 (cQ (mC (.int 3)) mNil)) (gN 2)
  b_law_l2)
  b_law_r1)
local macro_rules|`(tactic| walk_at "rd1")=>`(tactic| first
 | refine⟨_,rfl,?_⟩
 | refine⟨_,_,rfl,rfl,?_⟩
 | refine And.intro rfl ?_
 | refine And.intro (small_b rfl) ?_
 | refine⟨_,_,_,_,rfl,rfl,SqT.of (by assumption),rfl,?_⟩
 | refine⟨_,_,_,_,rfl,rfl,SqL.of (by assumption),rfl,?_⟩
 | refine⟨_,_,_,_,rfl,rfl,SqL.of b8,rfl,?_⟩
 | refine⟨_,_,_,_,rfl,rfl,(by assumption),rfl,?_⟩
 | refine⟨_,_,_,_,rfl,rfl,b8,rfl,?_⟩
 | refine⟨_,_,by assumption,by assumption,good_num _,good_num _,?_⟩
 | refine⟨_,_,by assumption,by assumption,good_line _,good_line _,?_⟩
 | refine And.intro (mulB (by assumption) (by assumption)) ?_
 | refine And.intro (.inl (by decide)) ?_
 | refine And.intro (CMul_mod (by decide) (by decide)) ?_
 | refine And.intro (.inr (by decide)) ?_
 | refine⟨_,_,rfl,.inl (by assumption),?_⟩
 | refine⟨_,_,rfl,.inr (SqT.of (by assumption)),?_⟩
 | refine And.intro (by assumption) ?_
 | refine And.intro ⟨by decide,by decide⟩ ?_
 | refine And.intro ⟨by decide,by decide,by decide⟩ ?_
 | refine And.intro (show(0:Int)<_ by decide) ?_
 | refine And.intro (by decide) ?_
 | refine⟨_,_,rfl,?_⟩)
local macro_rules|`(tactic| walk_at "rd")=>`(tactic| repeat walk_at "rd1")
section
variable (P0:Addr→Hp→Prop)(P:Program)(w:World)(K:Fg)(mg:Mg)(base:Heap)
abbrev qcgreatest_divisor:Prop:=Cal P w K mg base 1 "greatest_divisor" ["one", "other"] (spM P0 2 bL)
abbrev qcis_whole:Prop:=Cal P w K mg base 1 "is_whole" ["thing"] (spM P0 1 dR)
abbrev qcwhole_in:Prop:=Cal P w K mg base 1 "whole_in" ["word"] (spM P0 1 bW)
abbrev qcis_number:Prop:=Cal P w K mg base 2 "is_number" ["thing"] (spM P0 1 dI)
abbrev qctop_in:Prop:=Cal P w K mg base 2 "top_in" ["word"] (spM P0 1 m_top_in)
abbrev qcnumber_in:Prop:=Cal P w K mg base 3 "number_in" ["word"] (spM P0 1 dJ)
abbrev qcthing_in:Prop:=Cal P w K mg base 4 "thing_in" ["kind", "word"] (spM P0 2 m_thing_in)
abbrev qcparts_in:Prop:=Cal P w K mg base 5 "parts_in" ["line", "forms"] (spM P0 2 m_parts_in)
abbrev qcshow_number:Prop:=Cal P w K mg base 1 "show_number" ["number"] (spM P0 1 cJ)
abbrev qcshow_part:Prop:=Cal P w K mg base 2 "show_part" ["part"] (spM P0 1 dN)
abbrev qcshow_lines:Prop:=Cal P w K mg base 3 "show_lines" ["things"] (spM P0 1 cW)
abbrev qcrefuse_first_none:Prop:=Cal P w K mg base 1 "refuse_first_none" ["parts"] (spM P0 1 bN)
abbrev qclines_in:Prop:=Cal P w K mg base 1 "lines_in" ["text"] (spM P0 1 m_lines_in)
abbrev qcrow_in:Prop:=Cal P w K mg base 6 "row_in" ["line"] (spM P0 1 m_row_in)
abbrev qc_law_take:Prop:=Cal P w K mg base 1 "_law_take" ["_law_pen", "_law_many"] (spM P0 2 bI)
abbrev qc_law_lowest:Prop:=Cal P w K mg base 1 "_law_lowest" ["_law_top", "_law_bottom"] (spM P0 2 cG)
abbrev qc_law_great:Prop:=Cal P w K mg base 2 "_law_great" ["_law_pen"] (spM P0 1 c7)
abbrev qc_law_time:Prop:=Cal P w K mg base 3 "_law_time" ["_law_pen"] (spM P0 1 m_law_time)
abbrev qc_law_told:Prop:=Cal P w K mg base 1 "_law_told" ["_law_number"] (spM P0 1 m_law_told)
abbrev qc_law_alike:Prop:=Cal P w K mg base 1 "_law_alike" ["_law_told_here", "_law_due"] (spM P0 2 m_law_alike_0)
abbrev qc_law_alike20:Prop:=Cal P w K mg base 2 "_law_alike" ["_law_told_here", "_law_due"] (spM P0 2 cL)
abbrev qc_law_alike21:Prop:=Cal P w K mg base 3 "_law_alike" ["_law_told_here", "_law_due"] (spM P0 2 cI)
abbrev qc_law_alike22:Prop:=Cal P w K mg base 4 "_law_alike" ["_law_told_here", "_law_due"] (spM P0 2 cH)
end
theorem scM {N ps:List Str}{sc:Scope}(a:sc.kind=.function:=by rfl)(b:sc.isCoroutine=false:=by rfl)(c:sc.isGenerator=false:=by rfl)(d:N.Nodup:=by decide +kernel)(e:N.take ps.length=ps:=by rfl)(f:∀ x∈ps,sc.names.lookup x=some .local∨sc.names.lookup x=some .cell:=by decide +kernel)(g:∀ y∈sc.names,y.2≠.free:=by decide +kernel):FnScope N ps sc:=⟨a,b,c,d,e,f,g⟩
set_option hygiene false in
local macro_rules|`(tactic| walk_at "lc")=>`(tactic| first|exact Or.inl rfl|exact Or.inr rfl)
section
variable {P0:Addr→Hp→Prop}{P:Program}{w:World}{K:Fg}{mg:Mg}{base:Heap}{f:Addr}{fd:FuncData}
abbrev s_law_take:Stmt:=top 24
theorem sc_law_take:FnScope ["_law_pen", "_law_many", "_law_cell", "_law_digit"] ["_law_pen", "_law_many"] (aK s_law_take):=scM
theorem ok_law_take  (F:Fun K "_law_take" "_law_take" s_law_take f fd)(B:Bl K mg) :
  FnOk P w K mg base CX0 1 f fd ["_law_pen", "_law_many"] (spTake2 K):=by
 refine F.ok sc_law_take (fun vs H Q E h=>?_) (fun cdv A outer s H vs Q E hr h=>?_)
 ·obtain⟨pen,a,ns,m,rfl,⟨z,k,hz,hk,hp,hS⟩,hm,hm2,q⟩:=h;rfl
 have hu:=hr.units;obtain⟨pen,a,ns,m,rfl,⟨z,k,hz,hk,hp,hS⟩,hm,hm2,q⟩:=h;refine⟨_,(aD (cN (aU op_eq (bY ix_list (pv 0) aH (fun _ _=>rfl)) aH (aY _)) (aD (ps_asg (cD op_add (bY ix_list (pv 0) aH (fun _ _=>rfl)) aH) (pg_sub (pv 0) aH set_list))
   (aD (bM (i:=2) sc_law_take.nd rfl (Or.inl rfl) aH)
   (aD (cN (aU op_gt (aF aP rfl B.len_ boot_len (aA (bY ix_list (pv 0) aH (fun _ _=>rfl)) aC)) aH (aY _)) (aG (bM (i:=2) sc_law_take.nd rfl (Or.inl rfl) (bY ix_list (bY ix_list (pv 0) aH (fun _ _=>rfl)) (cD op_mod (bY ix_list (pv 0) aH (fun _ _=>rfl)) (aF aP rfl B.len_ boot_len (aA (bY ix_list (pv 0) aH (fun _ _=>rfl)) aC))) (fun _ _=>rfl)))) bJ)
   (aG (cN (PW.pt (pw_and (aU op_lt (bY ix_list (pv 0) aH (fun _ _=>rfl)) (aF aP rfl B.len_ boot_len (aA (bY ix_list (pv 0) aH (fun _ _=>rfl)) aC)) (aY _)) (pw_and1 (aU op_ge (aF call_abs rfl B.abs_ boot_abs (aA (pv 2) aC)) (pe_powC (v:=1000000000000000000) (by decide) ⟨by decide,by decide,by decide⟩) (aY _))))) (aG (ps_asg (aF call_abs rfl B.abs_ boot_abs (aA (pv 2) aC)) (pg_sub (pv 0) aH set_list))) (aD (bM (i:=2) sc_law_take.nd rfl (Or.inl rfl) (cD op_mod (cD op_mul (cD op_add (cD op_add (cD op_mod (pv 2) aH) (cD op_mul aH (bY ix_list (pv 0) aH (fun _ _=>rfl)))) aH) aH) aH))
   (aG (aX (cD op_mod (cD op_fdiv (cD op_mod (cD op_mul (pv 2) (cD op_add (cD op_add (cD op_mod (pv 2) aH) (bY ix_list (pv 0) aH (fun _ _=>rfl))) aH)) aH) aH) (pv 1)))))))))) bJ)
   (aD (bM (i:=3) sc_law_take.nd rfl (Or.inl rfl) (cD op_mod (bY ix_list (pv 0) aH (fun _ _=>rfl)) (pv 1)))
   (aD (ps_asg (cD op_fdiv (bY ix_list (pv 0) aH (fun _ _=>rfl)) (pv 1)) (pg_sub (pv 0) aH set_list))
   (aG (aX (pv 3)))))),?_⟩
 have hl:(ns.map V.int).length=ns.length:=List.length_map _;have hS3:∀ o,SqL K (upd H pen o) a (ns.map V.int):=fun o=>penS2 hp hS (dC o);have fin:∀(z k:Int) (H2:Hp),0≤z→0≤k→H2 pen=some (.lst [.int z,.int k,.ref a])→SqL K H2 a (ns.map V.int)→SameX pen H H2→Q (.int (z%m)) (upd H2 pen (.lst [.int (z/m),.int k,.ref a])):=fun z k H2 hz hk hp2 hS2 hX=>
  q _ _ (Int.emod_nonneg _ (by omega)) (Int.emod_lt_of_pos _ hm) ⟨z/m,k,Int.ediv_nonneg hz (by omega),hk,b8,penS2 hp2 hS2 (dC _)⟩ (hX.trans (dC _))
 walk_at "rd";refine iteD2 (fun e=>?_) (fun e=>?_)
 ·have e0:z=0:=eq_of_int e;subst e0;have hS4:=hS3 (.lst [.int 0,.int (k+1),.ref a]);walk_at "rd";refine iteD2 (fun e1=>?a) (fun e1=>?b)
  case' a=>
   have e1':0<(ns.length:Int):=by
    rw[hl] at e1;exact e1
   have h1:=Int.emod_nonneg (k+1) (b:=(ns.length:Int)) (by omega);have h2:=Int.emod_lt_of_pos (k+1) e1';obtain⟨j,hj⟩:∃ j:Nat,(k+1)%(ns.length:Int)=(j:Int):=⟨((k+1)%(ns.length:Int)).toNat,by omega⟩;have hi:j<ns.length:=by omega
   have hv:atI (ns.map V.int) ((k+1)%((ns.map V.int).length:Int))=some (.int ns[j]):=by
    rw[hl,hj];refine atI_nat ?_;rw[List.getElem?_map,List.getElem?_eq_getElem hi];rfl
   have hpos:0<((ns.map V.int).length:Int):=by rw[hl]; exact e1'
   walk_at "rd";refine⟨_,_,_,_,rfl,rfl,hS4,hv,?_⟩
  case' b=>
   have e2:¬k+1<((ns.map V.int).length:Int):=fun c=>e1 (by omega);walk_at "rd";refine iteD0 e2 ?_;walk_at "rd";exact q _ _ (Int.emod_nonneg _ (by omega)) (Int.emod_lt_of_pos _ hm) ⟨0,k+1,by omega,by omega,b8,hS4⟩ (dC _)
  case' a=>
   walk_at "rd";refine iteD2 (fun e2=>?_) (fun e2=>?_)
   ·walk_at "rd";refine iteD2 (fun e3=>?_) (fun e3=>?_)
    ·have hcd:∀ z,CDiv z m:=fun z=>⟨hm,hm2⟩;walk_at "rd";refine And.intro (hcd _) ?_;walk_at "rd";exact fin _ (k+1) _ (abs_nn _) (by omega) b8 (penS2 b8 hS4 (dC _)) ((dC _).trans (dC _))
    ·walk_at "rd";exact q _ _ (Int.emod_nonneg _ (by omega)) (Int.emod_lt_of_pos _ hm) ⟨0,k+1,by omega,by omega,b8,hS4⟩ (dC _)
   ·walk_at "rd";exact q _ _ (Int.emod_nonneg _ (by omega)) (Int.emod_lt_of_pos _ hm) ⟨0,k+1,by omega,by omega,b8,hS4⟩ (dC _)
 ·have hcd:CDiv z m:=⟨hm,hm2⟩;walk_at "rd";exact fin z k H hz hk hp hS (SameX.refl _ _)
theorem ok2_law_take {a:Addr}{ns:List Int}  (F:Fun K "_law_take" "_law_take" s_law_take f fd)(B:Bl K mg) :
  FnOk P w K mg base CX0 1 f fd ["_law_pen", "_law_many"] (spM (bH K a ns) 2 bI):=(ok_law_take F B).imp take_of2
abbrev s_is_whole:Stmt:=top 4
theorem sc_is_whole:FnScope ["thing"] ["thing"] (aK s_is_whole):=scM
theorem ok_is_whole  (F:Fun K "is_whole" "is_whole" s_is_whole f fd)(B:Bl K mg)(Kt:Kit K) :
  FnOk P w K mg base CX0 1 f fd ["thing"] (spM P0 1 dR):=
 F.okV sc_is_whole rfl rfl fun cdv A outer s H E hr=>
 have hu:=hr.units
 ⟨_,(aG (aX (pe_and (aF aQ rfl B.isinstance_ boot_isinstance (aA (pv 0) (aA (aR (v:=.ty "int") rfl B.int_ boot_int rfl) aC))) (pe_one (pe_not (aF aQ rfl B.isinstance_ boot_isinstance (aA (pv 0) (aA (aR (v:=.ty "bool") rfl B.bool_ boot_bool rfl) aC)))))))),
  ((b7 (aL (vt_and (bK Kt (by decide) aB) (vt_not (bK Kt (by decide) aB))))):VS P0 _ b_is_whole)⟩
abbrev cC:Stmt:=top 5
theorem sc_greatest_divisor:FnScope ["one", "other", "divisor", "rest", "left_over"] ["one", "other"] (aK cC):=scM
theorem ok_greatest_divisor  (F:Fun K "greatest_divisor" "greatest_divisor" cC f fd)(B:Bl K mg)(Kt:Kit K) :
  FnOk P w K mg base CX0 1 f fd ["one", "other"] (spM P0 2 bL):=
 F.okV sc_greatest_divisor rfl rfl fun cdv A outer s H E hr=>
 have hu:=hr.units
 ⟨_,(aD (bM (i:=2) sc_greatest_divisor.nd rfl (by walk_at "lc") (aF call_abs rfl B.abs_ boot_abs (aA (pv 0) aC)))
   (aD (bM (i:=3) sc_greatest_divisor.nd rfl (by walk_at "lc") (aF call_abs rfl B.abs_ boot_abs (aA (pv 1) aC)))
   (aD (ps_while PassesOwn.never (aU (cX hu) (pv 3) aH (aY _)) (aD (bM (i:=4) sc_greatest_divisor.nd rfl (by walk_at "lc") (cD op_mod (pv 2) (pv 3)))
   (aD (bM (i:=2) sc_greatest_divisor.nd rfl (by walk_at "lc") (pv 3))
   (aG (bM (i:=3) sc_greatest_divisor.nd rfl (by walk_at "lc") (pv 4))))))
   (aG (aX (pv 2)))))),
  ((aO (bQ (aL (vt_abs aB)))
   (aO (bQ (aL (vt_abs aB)))
   (aO (vs_while (aW (vt_ne aB aM)) (aO (bQ (aL (vt_mod aB aB)))
   (aO (bQ (aL aB))
   (bQ (aL aB)))))
   (b7 (aL aB))))):VS P0 _ dF)⟩
abbrev s_is_number:Stmt:=top 6
theorem sc_is_number:FnScope ["thing"] ["thing"] (aK s_is_number):=scM
theorem ok_is_number  (F:Fun K "is_number" "is_number" s_is_number f fd)(B:Bl K mg)(Kt:Kit K)
  (c_greatest_divisor:qcgreatest_divisor P0 P w K mg base)
  (c_is_whole:qcis_whole P0 P w K mg base) :
  FnOk P w K mg base CX0 2 f fd ["thing"] (spM P0 1 dI):=
 F.okV sc_is_number rfl rfl fun cdv A outer s H E hr=>
 have hu:=hr.units
 ⟨_,(aD (cN (PW.pt (pw_or (pt_not (dG (aF aQ rfl B.isinstance_ boot_isinstance (aA (pv 0) (aA (aR (v:=.ty "tuple") rfl B.tuple_ boot_tuple rfl) aC))))) (pw_or1 (aU (cX hu) (aF aP rfl B.len_ boot_len (aA (pv 0) aC)) aH (aY _))))) (aG (aX pe_bl)) bJ)
   (aD (cN (PW.pt (pw_or (pt_not (dG (aJ c_is_whole hr rfl (aA (bY bV (pv 0) aH (fun _ _=>rfl)) aC)))) (pw_or1 (pt_not (dG (aJ c_is_whole hr rfl (aA (bY bV (pv 0) aH (fun _ _=>rfl)) aC))))))) (aG (aX pe_bl)) bJ)
   (aG (aX (pe_and (dW op_ge (bY bV (pv 0) aH (fun _ _=>rfl)) aH (aY _)) (pe_one (dW (cU hu) (aJ c_greatest_divisor hr rfl (aA (bY bV (pv 0) aH (fun _ _=>rfl)) (aA (bY bV (pv 0) aH (fun _ _=>rfl)) aC))) aH (aY _)))))))),
  ((aO (cY (vtt_or (vtt_not (vtt_b (bK Kt (by decide) aB))) (aW (vt_ne (eH aB) aM))) (b7 (aL vt_bl)) dH)
   (aO (cY (vtt_or (vtt_not (vtt_b (aV (aN (aZ (eG aB aM) bC))))) (vtt_not (vtt_b (aV (aN (aZ (eG aB aM) bC)))))) (b7 (aL vt_bl)) dH)
   (b7 (aL (vt_and (vt_ge (eG aB aM) aM) (vt_eq (aV (aN (aZ (eG aB aM) (aZ (eG aB aM) bC)))) aM)))))):VS P0 _ b_is_number)⟩
abbrev s_whole_in:Stmt:=top 10
theorem sc_whole_in:FnScope ["word", "sign"] ["word"] (aK s_whole_in):=scM
theorem ok_whole_in  {tk_FIGURES:Tok}(hg_FIGURES:mg "FIGURES" = some (.str "0123456789" tk_FIGURES)){tk_MOST_FIGURES:Tok}(hg_MOST_FIGURES:mg "MOST_FIGURES" = some (.int 60 tk_MOST_FIGURES))(F:Fun K "whole_in" "whole_in" s_whole_in f fd)(B:Bl K mg)(Kt:Kit K) :
  FnOk P w K mg base CX0 1 f fd ["word"] (spM P0 1 bW):=
 F.okV sc_whole_in rfl rfl fun cdv A outer s H E hr=>
 have hu:=hr.units
 ⟨_,(aD (cN (PW.pt (pw_or (aU (cU hu) (pv 0) cF (aY _)) (pw_or (aU op_gt (aF call_lenS rfl B.len_ boot_len (aA (pv 0) aC)) (pe_glob (v:=.int 60) rfl hg_MOST_FIGURES ⟨_,rfl⟩) (aY _)) (pw_or1 (pt_not (dG (aF (call_allL rfl) rfl B.all_ boot_all (aA (pe_lcomp (N:=["sign"]) (nt:=1) (fv:=[]) rfl (blk_of (osc:=aK s_whole_in) (ON:=["word", "sign"]) (by decide +kernel)) (pi_str (pv 0)) (fun _ _ _ _=>(cP (i:=0) (show(["sign"]:List Str).Nodup by decide +kernel) rfl (by walk_at "lc"))) (fun _ _ _ _=>pts_nil) (fun _ _ _ _=>(dW op_inS (pv 0) (pe_glob (v:=.str "0123456789") rfl hg_FIGURES ⟨_,rfl⟩) (by with_unfolding_all rfl)))) aC)))))))) (aG (aX pe_non)) bJ)
   (aD (cN (PW.pt (pw_and (aU (cU hu) (bY bV (pv 0) aH (fun _ _=>rfl)) cF (aY _)) (pw_and1 (aU (cX hu) (pv 0) cF (aY _))))) (aG (aX pe_non)) bJ)
   (aG (aX (dD call_intS rfl B.int_ boot_int (aA (pv 0) aC)))))),
  ((aO (cY (vtt_or (aW (vt_eq aB cM)) (vtt_or (aW (vt_gt (vt_lenS aB) aM)) (vtt_not (vtt_b (vt_all (aV (vo_comp (vi_str aB) cR vtt_true (vt_inS aB cM)))))))) (b7 (aL vt_non)) dH)
   (aO (cY (vtt_and (aW (vt_eq (vt_ixS aB aM) cM)) (aW (vt_ne aB cM))) (b7 (aL vt_non)) dH)
   (b7 (aL (vt_intS aB))))):VS P0 _ b_whole_in)⟩
abbrev s_top_in:Stmt:=top 11
theorem sc_top_in:FnScope ["word", "top"] ["word"] (aK s_top_in):=scM
theorem ok_top_in  (F:Fun K "top_in" "top_in" s_top_in f fd)(B:Bl K mg)(Kt:Kit K)
  (c_whole_in:qcwhole_in P0 P w K mg base) :
  FnOk P w K mg base CX0 2 f fd ["word"] (spM P0 1 m_top_in):=
 F.okV sc_top_in rfl rfl fun cdv A outer s H E hr=>
 have hu:=hr.units
 ⟨_,(aD (cN (pt_not (dG (pe_bm PySem.F.plainAttrs_str PySem.F.slot_str_startswith PySem.F.type_str_startswith mt_starts (pv 0) (aA cF aC)))) (aG (aX (aJ c_whole_in hr rfl (aA (pv 0) aC)))) bJ)
   (aD (bM (i:=1) sc_top_in.nd rfl (by walk_at "lc") (aJ c_whole_in hr rfl (aA (pe_slice sl_str (pv 0) (po_some aH) po_none) aC)))
   (aG (aX (pe_ifExp (PW.pt (pw_or (aU op_isN (pv 1) pe_non (aY _)) (pw_or1 (aU (cU hu) (pv 1) aH (aY _))))) pe_non (pe_un un_neg (pv 1))))))),
  ((aO (cY (vtt_not (vtt_b (vt_starts aB cM))) (b7 (aN (aZ aB bC))) dH)
   (aO (bQ (aL (aV (aN (aZ (vt_slS aB (vp_so aM) vp_no) bC)))))
   (b7 (vo_ifE (vtt_or (aW (vt_isN aB)) (aW (vt_eq aB aM))) (aL vt_non) (aL (vt_neg aB)))))):VS P0 _ b_top_in)⟩
abbrev s_number_in:Stmt:=top 12
theorem sc_number_in:FnScope ["word", "parts", "top", "bottom"] ["word"] (aK s_number_in):=scM
theorem ok_number_in  (F:Fun K "number_in" "number_in" s_number_in f fd)(B:Bl K mg)(Kt:Kit K)
  (c_is_number:qcis_number P0 P w K mg base)
  (c_whole_in:qcwhole_in P0 P w K mg base)
  (c_top_in:qctop_in P0 P w K mg base) :
  FnOk P w K mg base CX0 3 f fd ["word"] (spM P0 1 dJ):=
 F.okV sc_number_in rfl rfl fun cdv A outer s H E hr=>
 have hu:=hr.units
 ⟨_,(aD (bM (i:=1) sc_number_in.nd rfl (by walk_at "lc") (pe_bm PySem.F.plainAttrs_str PySem.F.slot_str_split PySem.F.type_str_split mt_split (pv 0) (aA cF aC)))
   (aD (cN (aU op_gt (aF aP rfl B.len_ boot_len (aA (pv 1) aC)) aH (aY _)) (aG (aX pe_non)) bJ)
   (aD (bM (i:=2) sc_number_in.nd rfl (by walk_at "lc") (aJ c_top_in hr rfl (aA (bY bV (pv 1) aH (fun _ _=>rfl)) aC)))
   (aD (cN (aU (cU hu) (aF aP rfl B.len_ boot_len (aA (pv 1) aC)) aH (aY _)) (aG (aX (pe_ifExp (aU op_isN (pv 2) pe_non (aY _)) pe_non (pe_tup (aA (pv 2) (aA aH aC)))))) bJ)
   (aD (bM (i:=3) sc_number_in.nd rfl (by walk_at "lc") (aJ c_whole_in hr rfl (aA (bY bV (pv 1) aH (fun _ _=>rfl)) aC)))
   (aG (aX (pe_ifExp (PW.pt (pw_and (aU (cX hu) (pv 3) aH (aY _)) (pw_and1 (dG (aJ c_is_number hr rfl (aA (pe_tup (aA (pv 2) (aA (pv 3) aC))) aC)))))) (pe_tup (aA (pv 2) (aA (pv 3) aC))) pe_non)))))))),
  ((aO (bQ (aL (aV (vo_split aB cM))))
   (aO (cY (aW (vt_gt (eH aB) aM)) (b7 (aL vt_non)) dH)
   (aO (bQ (aL (aV (aN (aZ (eG aB aM) bC)))))
   (aO (cY (aW (vt_eq (eH aB) aM)) (b7 (vo_ifE (aW (vt_isN aB)) (aL vt_non) (aL (vt_tup (bD aB (bD aM bU)))))) dH)
   (aO (bQ (aL (aV (aN (aZ (eG aB aM) bC)))))
   (b7 (vo_ifE (vtt_and (aW (vt_ne aB aM)) (vtt_b (aV (aN (aZ (vt_tup (bD aB (bD aB bU))) bC))))) (aL (vt_tup (bD aB (bD aB bU)))) (aL vt_non)))))))):VS P0 _ b_number_in)⟩
abbrev s_thing_in:Stmt:=top 13
theorem sc_thing_in:FnScope ["kind", "word"] ["kind", "word"] (aK s_thing_in):=scM
theorem ok_thing_in  (F:Fun K "thing_in" "thing_in" s_thing_in f fd)(B:Bl K mg)(Kt:Kit K)
  (c_number_in:qcnumber_in P0 P w K mg base)
  (c_whole_in:qcwhole_in P0 P w K mg base) :
  FnOk P w K mg base CX0 4 f fd ["kind", "word"] (spM P0 2 m_thing_in):=
 F.okV sc_thing_in rfl rfl fun cdv A outer s H E hr=>
 have hu:=hr.units
 ⟨_,(aG (aX (pe_ifExp (aU (cU hu) (pv 0) cF (aY _)) (aJ c_number_in hr rfl (aA (pv 1) aC)) (aJ c_whole_in hr rfl (aA (pv 1) aC))))),
  ((b7 (vo_ifE (aW (vt_eq aB cM)) (aN (aZ aB bC)) (aN (aZ aB bC)))):VS P0 _ b_thing_in)⟩
abbrev s_parts_in:Stmt:=top 14
theorem sc_parts_in:FnScope ["line", "forms", "words", "form", "parts", "kind", "word"] ["line", "forms"] (aK s_parts_in):=scM
theorem ok_parts_in  (F:Fun K "parts_in" "parts_in" s_parts_in f fd)(B:Bl K mg)(Kt:Kit K)
  (c_thing_in:qcthing_in P0 P w K mg base) :
  FnOk P w K mg base CX0 5 f fd ["line", "forms"] (spM P0 2 m_parts_in):=
 F.okV sc_parts_in rfl rfl fun cdv A outer s H E hr=>
 have hu:=hr.units
 ⟨_,(aD (bM (i:=2) sc_parts_in.nd rfl (by walk_at "lc") (pe_bm PySem.F.plainAttrs_str PySem.F.slot_str_split PySem.F.type_str_split mt_split (pv 0) (aA cF aC)))
   (aD (bM (i:=3) sc_parts_in.nd rfl (by walk_at "lc") (pe_dget1 (hu1 hu) (pv 1) (bY bV (pv 2) aH (fun _ _=>rfl)) ⟨rfl,rfl,rfl,rfl⟩))
   (aD (cN (PW.pt (pw_or (aU op_isN (pv 3) pe_non (aY _)) (pw_or1 (aU (cX hu) (aF aP rfl B.len_ boot_len (aA (pv 2) aC)) (cD op_add (aF aP rfl B.len_ boot_len (aA (pv 3) aC)) aH) (aY _))))) (aG (aX pe_non)) bJ)
   (aD (bM (i:=4) sc_parts_in.nd rfl (by walk_at "lc") (pe_lst (aA (bY bV (pv 2) aH (fun _ _=>rfl)) aC)))
   (aD (ps_for PassesOwn.never rfl (pi_zipT rfl B.zip_ (aA (pv 3) (aA (pe_slice sl_list (pv 2) (po_some aH) po_none) aC))) (pg_tup rfl (pgs_cons (cP (i:=5) sc_parts_in.nd rfl (by walk_at "lc")) (pgs_cons (cP (i:=6) sc_parts_in.nd rfl (by walk_at "lc")) pgs_nil))) (aG (ps_expr (pe_bm PySem.F.plainAttrs_list PySem.F.slot_list_append PySem.F.type_list_append mt_append (pv 4) (aA (aJ c_thing_in hr rfl (aA (pv 5) (aA (pv 6) aC))) aC)))))
   (aG (aX (pe_ifExp (aU (op_inD hu) pe_non (pv 4) (by with_unfolding_all rfl)) pe_non (dD call_tupL rfl B.tuple_ boot_tuple (aA (pv 4) aC)))))))))),
  ((aO (bQ (aL (aV (vo_split aB cM))))
   (aO (bQ (aL (vt_fmGet (eG aB aM))))
   (aO (cY (vtt_or (aW (vt_isN aB)) (aW (vt_ne (eH aB) (vt_add (eH aB) aM)))) (b7 (aL vt_non)) dH)
   (aO (bQ (vo_lst (bD (eG aB aM) bU)))
   (aO (vs_for (vi_zipT aB (aV (vo_slL aB (vp_so aM) vp_no))) (vg_tup (vgs_cons cR (vgs_cons cR vgs_nil))) (vs_append (aV (aN (aZ aB (aZ aB bC))))))
   (vs_pub (b7 (vo_ifE (aW (vt_in vt_non aB)) (aL vt_non) (aL (vt_tupL aB)))))))))):VS P0 _ b_parts_in)⟩
abbrev s_row_in:Stmt:=top 15
theorem sc_row_in:FnScope ["line"] ["line"] (aK s_row_in):=scM
theorem ok_row_in  (F:Fun K "row_in" "row_in" s_row_in f fd)(B:Bl K mg)(Kt:Kit K)
  (c_parts_in:qcparts_in P0 P w K mg base) :
  FnOk P w K mg base CX0 6 f fd ["line"] (spM P0 1 m_row_in):=
 F.okV sc_row_in rfl rfl fun cdv A outer s H E hr=>
 have hu:=hr.units
 ⟨_,(aG (aX (aJ c_parts_in hr rfl (aA (pv 0) (aA (pe_disp (pps_cons cF (pe_tup (aA cF aC)) (pps_cons cF (pe_tup (aA cF (aA cF aC))) pps_nil)) rfl rfl (by simp) (by decide)) aC))))),
  ((b7 (aN (aZ aB (va_disp (vps_cons (vt_tup (bD cM bU)) (vps_cons (vt_tup (bD cM (bD cM bU))) vps_nil)) bC)))):VS P0 _ b_row_in)⟩
abbrev s_lines_in:Stmt:=top 16
theorem sc_lines_in:FnScope ["text"] ["text"] (aK s_lines_in):=scM
theorem ok_lines_in  (F:Fun K "lines_in" "lines_in" s_lines_in f fd)(B:Bl K mg)(Kt:Kit K) :
  FnOk P w K mg base CX0 1 f fd ["text"] (spM P0 1 m_lines_in):=
 F.okV sc_lines_in rfl rfl fun cdv A outer s H E hr=>
 have hu:=hr.units
 ⟨_,(aD (cN (pt_not (dG (aF aQ rfl B.isinstance_ boot_isinstance (aA (pv 0) (aA (aR (v:=.ty "str") rfl B.str_ boot_str rfl) aC))))) (aG ps_never) bJ)
   (aG (aX (pe_ifExp (aU (cX hu) (pv 0) cF (aY _)) (pe_bm PySem.F.plainAttrs_str PySem.F.slot_str_split PySem.F.type_str_split mt_split (pv 0) (aA cF aC)) (pe_lst aC))))),
  ((aO (cY (vtt_not (vtt_b (bK Kt (by decide) aB))) vs_never dH)
   (b7 (vo_ifE (aW (vt_ne aB cM)) (vo_split aB cM) (vo_lst bU)))):VS P0 _ b_lines_in)⟩
abbrev bZ:Stmt:=top 17
theorem sc_refuse_first_none:FnScope ["parts"] ["parts"] (aK bZ):=scM
theorem ok_refuse_first_none  (F:Fun K "refuse_first_none" "refuse_first_none" bZ f fd)(B:Bl K mg)(Kt:Kit K) :
  FnOk P w K mg base CX0 1 f fd ["parts"] (spM P0 1 bN):=
 F.okV sc_refuse_first_none rfl rfl fun cdv A outer s H E hr=>
 have hu:=hr.units
 ⟨_,(aG (cN (aU (op_inD hu) pe_non (pv 0) (by with_unfolding_all rfl)) (aG ps_never) bJ)),
  ((cY (aW (vt_in vt_non aB)) vs_never dH):VS P0 _ cV)⟩
abbrev s_show_number:Stmt:=top 19
theorem sc_show_number:FnScope ["number", "top", "bottom"] ["number"] (aK s_show_number):=scM
theorem ok_show_number  (F:Fun K "show_number" "show_number" s_show_number f fd)(B:Bl K mg)(Kt:Kit K) :
  FnOk P w K mg base CX0 1 f fd ["number"] (spM P0 1 cJ):=
 F.okV sc_show_number rfl rfl fun cdv A outer s H E hr=>
 have hu:=hr.units
 ⟨_,(aD (bM (i:=1) sc_show_number.nd rfl (by walk_at "lc") (bY bV (pv 0) aH (fun _ _=>rfl)))
   (aD (bM (i:=2) sc_show_number.nd rfl (by walk_at "lc") (bY bV (pv 0) aH (fun _ _=>rfl)))
   (aG (aX (pe_ifExp (aU (cU hu) (pv 2) aH (aY _)) (dD call_strI rfl B.str_ boot_str (aA (pv 1) aC)) (pe_fstr3 (pv 1) (pv 2))))))),
  ((aO (bQ (aL (eG aB aM)))
   (aO (bQ (aL (eG aB aM)))
   (b7 (vo_ifE (aW (vt_eq aB aM)) (aL (vt_str1 aB)) (aL (vt_fs aB aB)))))):VS P0 _ b_show_number)⟩
abbrev s_show_part:Stmt:=top 20
theorem sc_show_part:FnScope ["part"] ["part"] (aK s_show_part):=scM
theorem ok_show_part  (F:Fun K "show_part" "show_part" s_show_part f fd)(B:Bl K mg)(Kt:Kit K)
  (c_show_number:qcshow_number P0 P w K mg base) :
  FnOk P w K mg base CX0 2 f fd ["part"] (spM P0 1 dN):=
 F.okV sc_show_part rfl rfl fun cdv A outer s H E hr=>
 have hu:=hr.units
 ⟨_,(aG (aX (pe_ifExp (dG (aF aQ rfl B.isinstance_ boot_isinstance (aA (pv 0) (aA (aR (v:=.ty "tuple") rfl B.tuple_ boot_tuple rfl) aC)))) (aJ c_show_number hr rfl (aA (pv 0) aC)) (dD call_strI rfl B.str_ boot_str (aA (pv 0) aC))))),
  ((b7 (vo_ifE (vtt_b (bK Kt (by decide) aB)) (aN (aZ aB bC)) (aL (vt_str1 aB)))):VS P0 _ b_show_part)⟩
abbrev eF:Stmt:=top 21
theorem sc_show_lines:FnScope ["things", "part", "thing"] ["things"] (aK eF):=scM
theorem ok_show_lines  (F:Fun K "show_lines" "show_lines" eF f fd)(B:Bl K mg)(Kt:Kit K)
  (c_show_part:qcshow_part P0 P w K mg base) :
  FnOk P w K mg base CX0 3 f fd ["things"] (spM P0 1 cW):=
 F.okV sc_show_lines rfl rfl fun cdv A outer s H E hr=>
 have hu:=hr.units
 ⟨_,(aG (aX (pe_bm (hbase:=rfl) (hfew:=rfl) (hline:=rfl) (hs:=rfl) (hplain:=rfl) PySem.F.plainAttrs_str PySem.F.slot_str_join PySem.F.type_str_join mt_join cF (aA (pe_lcomp (N:=["thing"]) (nt:=1) (fv:=[]) (hs:=fun _=>rfl) rfl (blk_of (osc:=aK eF) (ON:=["things", "part", "thing"]) (by decide +kernel)) (pi_list (pv 0)) (fun _ _ _ _=>(cP (i:=0) (show(["thing"]:List Str).Nodup by decide +kernel) rfl (by walk_at "lc"))) (fun _ _ _ _=>pts_nil) (fun _ _ _ _=>(by exact(pe_bm (hbase:=rfl) (hfew:=rfl) (hline:=rfl) (hs:=rfl) (hplain:=rfl) PySem.F.plainAttrs_str PySem.F.slot_str_join PySem.F.type_str_join mt_join cF (aA (pe_lcomp (N:=["part"]) (nt:=1) (fv:=[]) (hs:=fun _=>rfl) rfl (blk_of0 (by decide +kernel)) (pi_tup (pv 0)) (fun _ _ _ _=>(cP (i:=0) (show(["part"]:List Str).Nodup by decide +kernel) rfl (by walk_at "lc"))) (fun _ _ _ _=>pts_nil) (fun _ _ _ _=>(aJ c_show_part hr rfl (aA (pv 0) aC)))) aC))))) aC)))),
  ((b7 (aL (vt_join cM (aV (vo_comp (vi_list aB) cR vtt_true (vt_join cM (aV (vo_comp (vi_tup aB) cR vtt_true (aV (aN (aZ aB bC))))))))))):VS P0 _ b_show_lines)⟩
abbrev s_show_book:Stmt:=top 22
theorem sc_show_book:FnScope ["book"] ["book"] (aK s_show_book):=scM
theorem ok_show_book  (F:Fun K "show_book" "show_book" s_show_book f fd)(B:Bl K mg)(Kt:Kit K)
  (c_show_lines:qcshow_lines P0 P w K mg base) :
  FnOk P w K mg base CX0 4 f fd ["book"] (spM P0 1 dM):=
 F.okV sc_show_book rfl rfl fun cdv A outer s H E hr=>
 have hu:=hr.units
 ⟨_,(aG (aX (aJ c_show_lines hr rfl (aA (pv 0) aC)))),
  ((b7 (aN (aZ aB bC))):VS P0 _ b_show_book)⟩
abbrev s_read_book:Stmt:=top 18
theorem sc_read_book:FnScope ["text", "rows", "line"] ["text"] (aK s_read_book):=scM
theorem ok_read_book  (F:Fun K "read_book" "read_book" s_read_book f fd)(B:Bl K mg)(Kt:Kit K)
  (c_refuse_first_none:qcrefuse_first_none P0 P w K mg base)
  (c_lines_in:qclines_in P0 P w K mg base)
  (c_row_in:qcrow_in P0 P w K mg base) :
  FnOk P w K mg base CX0 7 f fd ["text"] (spM P0 1 dO):=
 F.okV sc_read_book rfl rfl fun cdv A outer s H E hr=>
 have hu:=hr.units
 ⟨_,(aD (ps_setC (N:=["line"]) (nt:=1) (fv:=[]) (i:=1) sc_read_book.nd rfl rfl rfl (blk_of (osc:=aK s_read_book) (ON:=["text", "rows", "line"]) (by decide +kernel)) (pi_list (aJ c_lines_in hr rfl (aA (pv 0) aC))) (fun _ _ _ _=>(cP (i:=0) (show(["line"]:List Str).Nodup by decide +kernel) rfl (by walk_at "lc"))) (fun _ _ _ _=>pts_nil) (fun _ _ _ _=>(aJ c_row_in hr rfl (aA (pv 0) aC))))
   (aD (ps_expr (aJ c_refuse_first_none hr rfl (aA (pv 1) aC)))
   (aG (aX (pv 1))))),
  ((aO (bQ (vo_comp (vi_list (aV (aN (aZ aB bC)))) cR vtt_true (aV (aN (aZ aB bC)))))
   (aO (vs_peek (as:=[]) (vs_drop (aV (aN (aZ aB bC)))) (by first|exact fun _ _=>rfl|(intro j h; simp at h ⊢; omega)))
   (b7 vo_move))):VS P0 _ b_read_book)⟩
abbrev s_law_lowest:Stmt:=top 25
theorem sc_law_lowest:FnScope ["_law_top", "_law_bottom", "_law_one", "_law_other"] ["_law_top", "_law_bottom"] (aK s_law_lowest):=scM
theorem ok_law_lowest  (F:Fun K "_law_lowest" "_law_lowest" s_law_lowest f fd)(B:Bl K mg)(Kt:Kit K) :
  FnOk P w K mg base CX0 1 f fd ["_law_top", "_law_bottom"] (spM P0 2 cG):=
 F.okV sc_law_lowest rfl rfl fun cdv A outer s H E hr=>
 have hu:=hr.units
 ⟨_,(aD (bM (i:=2) sc_law_lowest.nd rfl (by walk_at "lc") (aF call_abs rfl B.abs_ boot_abs (aA (pv 0) aC)))
   (aD (bM (i:=3) sc_law_lowest.nd rfl (by walk_at "lc") (pv 1))
   (aD (ps_while PassesOwn.never (aU op_gt (pv 3) aH (aY _)) (aG (ps_par (i:=2) (j:=3) rfl sc_law_lowest.nd rfl rfl (by decide) rfl rfl (aA (pv 3) (aA (cD op_mod (pv 2) (pv 3)) aC)) rfl)))
   (aG (aX (pe_tup (aA (cD op_fdivX (pv 0) (pv 2)) (aA (cD op_fdivX (pv 1) (pv 2)) aC)))))))),
  ((aO (bQ (aL (vt_abs aB)))
   (aO (bQ (aL aB))
   (aO (vs_while (aW (vt_gt aB aM)) (vs_par (bD aB (bD (vt_mod aB aB) bU))))
   (b7 (aL (vt_tup (bD (vt_divX aB aB) (bD (vt_divX aB aB) bU)))))))):VS P0 _ b_law_lowest)⟩
abbrev s_law_great:Stmt:=top 29
theorem sc_law_great:FnScope ["_law_pen", "_law_found", "_law_k"] ["_law_pen"] (aK s_law_great):=scM
theorem ok_law_great  (F:Fun K "_law_great" "_law_great" s_law_great f fd)(B:Bl K mg)(Kt:Kit K)
  (c_law_take:qc_law_take P0 P w K mg base) :
  FnOk P w K mg base CX0 2 f fd ["_law_pen"] (spM P0 1 c7):=
 F.okV sc_law_great rfl rfl fun cdv A outer s H E hr=>
 have hu:=hr.units
 ⟨_,(aD (bM (i:=1) sc_law_great.nd rfl (by walk_at "lc") aH)
   (aD (ps_for PassesOwn.never rfl (dY rfl B.range_ (aA (cD op_add aH (aJ c_law_take hr rfl (aA (pv 0) (aA aH aC)))) aC)) (cP (i:=2) sc_law_great.nd rfl (by walk_at "lc")) (aG (bM (i:=1) sc_law_great.nd rfl (by walk_at "lc") (cD op_add (cD op_mulX (pv 1) (pe_powC (v:=1000000000) (by decide) ⟨by decide,by decide,by decide⟩)) (aJ c_law_take hr rfl (aA (pv 0) (aA (pe_powC (v:=1000000000) (by decide) ⟨by decide,by decide,by decide⟩) aC)))))))
   (aG (aX (cD op_mod (pv 1) (pe_powC (v:=1000000000000000000000000000000000000000000000000000000000000) (by decide) ⟨by decide,by decide,by decide⟩)))))),
  ((aO (bQ (aL aM))
   (aO (vs_for (vi_rng1 (bD (vt_add aM (aV (aN (eN (aZ aM bC))))) bU)) cR (bQ (aL (vt_add (vt_mul aB aM) (aV (aN (eN (aZ aM bC))))))))
   (b7 (aL (vt_mod aB aM))))):VS P0 _ b_law_great)⟩
abbrev s_law_time:Stmt:=top 30
theorem sc_law_time:FnScope ["_law_pen", "_law_way"] ["_law_pen"] (aK s_law_time):=scM
theorem ok_law_time  (F:Fun K "_law_time" "_law_time" s_law_time f fd)(B:Bl K mg)(Kt:Kit K)
  (c_law_lowest:qc_law_lowest P0 P w K mg base)
  (c_law_great:qc_law_great P0 P w K mg base)
  (c_law_take:qc_law_take P0 P w K mg base) :
  FnOk P w K mg base CX0 3 f fd ["_law_pen"] (spM P0 1 m_law_time):=
 F.okV sc_law_time rfl rfl fun cdv A outer s H E hr=>
 have hu:=hr.units
 ⟨_,(aD (bM (i:=1) sc_law_time.nd rfl (by walk_at "lc") (aJ c_law_take hr rfl (aA (pv 0) (aA aH aC))))
   (aD (cN (aU op_lt (pv 1) aH (aY _)) (aG (aX (pe_tup (aA (cD op_sub (aJ c_law_take hr rfl (aA (pv 0) (aA aH aC))) aH) (aA aH aC))))) bJ)
   (aD (cN (aU (cU hu) (pv 1) aH (aY _)) (aG (aX (aJ c_law_lowest hr rfl (aA (cD op_sub (aJ c_law_take hr rfl (aA (pv 0) (aA aH aC))) aH) (aA (cD op_add aH (aJ c_law_take hr rfl (aA (pv 0) (aA aH aC)))) aC))))) bJ)
   (aG (aX (aJ c_law_lowest hr rfl (aA (cD op_mulX (aJ c_law_great hr rfl (aA (pv 0) aC)) (bY bV (pe_lst (aA aH (aA (pe_un un_neg aH) aC))) (aJ c_law_take hr rfl (aA (pv 0) (aA aH aC))) (fun _ _=>rfl))) (aA (cD op_add aH (cD op_mod (aJ c_law_great hr rfl (aA (pv 0) aC)) (cD op_sub (pe_powC (v:=1000000000000000000000000000000000000000000000000000000000000) (by decide) ⟨by decide,by decide,by decide⟩) aH))) aC)))))))),
  ((aO (bQ (aL (aV (aN (eN (aZ aM bC))))))
   (aO (cY (aW (vt_lt aB aM)) (b7 (aL (vt_tup (bD (vt_sub (aV (aN (eN (aZ aM bC)))) aM) (bD aM bU))))) dH)
   (aO (cY (aW (vt_eq aB aM)) (b7 (aN (aZ (vt_sub (aV (aN (eN (aZ aM bC)))) aM) (aZ (vt_add aM (aV (aN (eN (aZ aM bC))))) bC)))) dH)
   (b7 (aN (aZ (vt_mul (aV (aN (eN bC))) (eG (aV (vo_lst (bD aM (bD (vt_neg aM) bU)))) (aV (aN (eN (aZ aM bC)))))) (aZ (vt_add aM (vt_mod (aV (aN (eN bC))) (vt_sub aM aM))) bC))))))):VS P0 _ b_law_time)⟩
abbrev s_law_book:Stmt:=top 31
theorem sc_law_book:FnScope ["_law_pen", "_law_found", "_law_k", "_law_at"] ["_law_pen"] (aK s_law_book):=scM
theorem ok_law_book  (F:Fun K "_law_book" "_law_book" s_law_book f fd)(B:Bl K mg)(Kt:Kit K)
  (c_law_take:qc_law_take P0 P w K mg base)
  (c_law_time:qc_law_time P0 P w K mg base)
  (c_law_great:qc_law_great P0 P w K mg base) :
  FnOk P w K mg base CX0 4 f fd ["_law_pen"] (spM P0 1 m_law_book):=
 F.okV sc_law_book rfl rfl fun cdv A outer s H E hr=>
 have hu:=hr.units
 ⟨_,(aD (bM (i:=1) sc_law_book.nd rfl (by walk_at "lc") (pe_lst aC))
   (aD (ps_for PassesOwn.never rfl (dY rfl B.range_ (aA (aJ c_law_take hr rfl (aA (pv 0) (aA (bY bV (pe_lst (aA aH (aA aH aC))) (aJ c_law_take hr rfl (aA (pv 0) (aA aH aC))) (fun _ _=>rfl)) aC))) aC)) (cP (i:=2) sc_law_book.nd rfl (by walk_at "lc")) (aD (bM (i:=3) sc_law_book.nd rfl (by walk_at "lc") (aJ c_law_take hr rfl (aA (pv 0) (aA aH aC))))
   (aD (cN (aU (cU hu) (aJ c_law_take hr rfl (aA (pv 0) (aA aH aC))) aH (aY _)) (aG (bM (i:=3) sc_law_book.nd rfl (by walk_at "lc") (aJ c_law_great hr rfl (aA (pv 0) aC)))) bJ)
   (aG (cN (aU (cU hu) (aJ c_law_take hr rfl (aA (pv 0) (aA aH aC))) aH (aY _)) (aG (ps_expr (pe_bm PySem.F.plainAttrs_list PySem.F.slot_list_append PySem.F.type_list_append mt_append (pv 1) (aA (pe_tup (aA cF (aA (pv 3) aC))) aC)))) (aG (ps_expr (pe_bm PySem.F.plainAttrs_list PySem.F.slot_list_append PySem.F.type_list_append mt_append (pv 1) (aA (pe_tup (aA cF (aA (aJ c_law_time hr rfl (aA (pv 0) aC)) (aA (pv 3) aC)))) aC)))))))))
   (aG (aX (pv 1))))),
  ((aO (bQ (vo_lst bU))
   (aO (vs_for (vi_rng1 (bD (aV (aN (eN (aZ (eG (aV (vo_lst (bD aM (bD aM bU)))) (aV (aN (eN (aZ aM bC))))) bC)))) bU)) cR (aO (bQ (aL (aV (aN (eN (aZ aM bC))))))
   (aO (cY (aW (vt_eq (aV (aN (eN (aZ aM bC)))) aM)) (bQ (aL (aV (aN (eN bC))))) dH)
   (cY (aW (vt_eq (aV (aN (eN (aZ aM bC)))) aM)) (vs_append (vt_tup (bD cM (bD aB bU)))) (vs_append (vt_tup (bD cM (bD (aV (aN (eN bC))) (bD aB bU)))))))))
   (b7 vo_move))):VS P0 _ b_law_book)⟩
abbrev s_law_told:Stmt:=top 26
theorem sc_law_told:FnScope ["_law_number"] ["_law_number"] (aK s_law_told):=scM
theorem ok_law_told  (F:Fun K "_law_told" "_law_told" s_law_told f fd)(B:Bl K mg)(Kt:Kit K) :
  FnOk P w K mg base CX0 1 f fd ["_law_number"] (spM P0 1 m_law_told):=
 F.okV sc_law_told rfl rfl fun cdv A outer s H E hr=>
 have hu:=hr.units
 ⟨_,(aD (cN (aU (cU hu) (bY bV (pv 0) aH (fun _ _=>rfl)) aH (aY _)) (aG (aX (dD call_strI rfl B.str_ boot_str (aA (bY bV (pv 0) aH (fun _ _=>rfl)) aC)))) bJ)
   (aG (aX (cD op_sadd (cD op_sadd (dD call_strI rfl B.str_ boot_str (aA (bY bV (pv 0) aH (fun _ _=>rfl)) aC)) cF) (dD call_strI rfl B.str_ boot_str (aA (bY bV (pv 0) aH (fun _ _=>rfl)) aC)))))),
  ((aO (cY (aW (vt_eq (eG aB aM) aM)) (b7 (aL (vt_str1 (eG aB aM)))) dH)
   (b7 (aL (vt_sadd (vt_sadd (vt_str1 (eG aB aM)) cM) (vt_str1 (eG aB aM)))))):VS P0 _ b_law_told)⟩
abbrev dX:Stmt:=top 27
theorem sc_law_lines_of:FnScope ["_law_rows", "_law_lines", "_law_row", "_law_words", "_law_part"] ["_law_rows"] (aK dX):=scM
theorem ok_law_lines_of  (F:Fun K "_law_lines_of" "_law_lines_of" dX f fd)(B:Bl K mg)(Kt:Kit K)
  (c_law_told:qc_law_told P0 P w K mg base) :
  FnOk P w K mg base CX0 2 f fd ["_law_rows"] (spM P0 1 cT):=
 F.okV sc_law_lines_of rfl rfl fun cdv A outer s H E hr=>
 have hu:=hr.units
 ⟨_,(aD (bM (i:=1) sc_law_lines_of.nd rfl (by walk_at "lc") (pe_lst aC))
   (aD (ps_for PassesOwn.never rfl (pi_list (pv 0)) (cP (i:=2) sc_law_lines_of.nd rfl (by walk_at "lc")) (aD (bM (i:=3) sc_law_lines_of.nd rfl (by walk_at "lc") (pe_lst (aA (bY bV (pv 2) aH (fun _ _=>rfl)) aC)))
   (aD (ps_for PassesOwn.never rfl (pi_tup (pe_slice sl_tup (pv 2) (po_some aH) po_none)) (cP (i:=4) sc_law_lines_of.nd rfl (by walk_at "lc")) (aG (cN (dG (aF aQ rfl B.isinstance_ boot_isinstance (aA (pv 4) (aA (aR (v:=.ty "tuple") rfl B.tuple_ boot_tuple rfl) aC)))) (aG (ps_expr (pe_bm PySem.F.plainAttrs_list PySem.F.slot_list_append PySem.F.type_list_append mt_append (pv 3) (aA (aJ c_law_told hr rfl (aA (pv 4) aC)) aC)))) (aG (ps_expr (pe_bm PySem.F.plainAttrs_list PySem.F.slot_list_append PySem.F.type_list_append mt_append (pv 3) (aA (dD call_strI rfl B.str_ boot_str (aA (pv 4) aC)) aC)))))))
   (aG (ps_expr (pe_bm PySem.F.plainAttrs_list PySem.F.slot_list_append PySem.F.type_list_append mt_append (pv 1) (aA (pe_bm PySem.F.plainAttrs_str PySem.F.slot_str_join PySem.F.type_str_join mt_join cF (aA (pv 3) aC)) aC)))))))
   (aG (aX (pe_bm PySem.F.plainAttrs_str PySem.F.slot_str_join PySem.F.type_str_join mt_join cF (aA (pv 1) aC)))))),
  ((aO (bQ (vo_lst bU))
   (aO (vs_for (vi_list aB) cR (aO (bQ (vo_lst (bD (eG aB aM) bU)))
   (aO (vs_for (vi_tup (vt_slT aB (vp_so aM) vp_no)) cR (cY (vtt_b (bK Kt (by decide) aB)) (vs_append (aV (aN (aZ aB bC)))) (vs_append (vt_str1 aB))))
   (vs_pub (vs_append (vt_join cM aB))))))
   (vs_pub (b7 (aL (vt_join cM aB)))))):VS P0 _ b_law_lines_of)⟩
abbrev bR:Stmt:=top 28
theorem sc_law_alike:FnScope ["_law_told_here", "_law_due", "_law_k"] ["_law_told_here", "_law_due"] (aK bR):=scM
theorem ok_law_alike_1  (F:Fun K "_law_alike" "_law_alike" bR f fd)(B:Bl K mg)(Kt:Kit K)
  (c_law_alike:qc_law_alike P0 P w K mg base) :
  FnOk P w K mg base CX0 2 f fd ["_law_told_here", "_law_due"] (spM P0 2 cL):=
 F.okV sc_law_alike rfl rfl fun cdv A outer s H E hr=>
 have hu:=hr.units
 ⟨_,(aD (cN (dG (aF call_isi2 rfl B.isinstance_ boot_isinstance (aA (pv 1) (aA (pe_tup (aA (aR (v:=.ty "list") rfl B.list_ boot_list rfl) (aA (aR (v:=.ty "tuple") rfl B.tuple_ boot_tuple rfl) aC))) aC)))) (aD (cN (PW.pt (pw_or (aU (cX hu) (aF aQ rfl B.isinstance_ boot_isinstance (aA (pv 0) (aA (aR (v:=.ty "list") rfl B.list_ boot_list rfl) aC))) (aF aQ rfl B.isinstance_ boot_isinstance (aA (pv 1) (aA (aR (v:=.ty "list") rfl B.list_ boot_list rfl) aC))) (aY _)) (pw_or1 (aU (cX hu) (aF aQ rfl B.isinstance_ boot_isinstance (aA (pv 0) (aA (aR (v:=.ty "tuple") rfl B.tuple_ boot_tuple rfl) aC))) (aF aQ rfl B.isinstance_ boot_isinstance (aA (pv 1) (aA (aR (v:=.ty "tuple") rfl B.tuple_ boot_tuple rfl) aC))) (aY _))))) (aG (aX pe_bl)) bJ)
   (aG (aX (pe_and (dW (cU hu) (aF aP rfl B.len_ boot_len (aA (pv 0) aC)) (aF aP rfl B.len_ boot_len (aA (pv 1) aC)) (aY _)) (pe_one (aF (call_allL rfl) rfl B.all_ boot_all (aA (pe_lcomp (N:=["_law_k", "_law_told_here", "_law_due"]) (nt:=1) (fv:=[0,1]) rfl (blk_of (osc:=aK bR) (ON:=["_law_told_here", "_law_due", "_law_k"]) (by decide +kernel)) (dY rfl B.range_ (aA (aF aP rfl B.len_ boot_len (aA (pv 1) aC)) aC)) (fun _ _ _ _=>(cP (i:=0) (show(["_law_k", "_law_told_here", "_law_due"]:List Str).Nodup by decide +kernel) rfl (by walk_at "lc"))) (fun _ _ _ _=>pts_nil) (fun _ _ _ _=>(aJ c_law_alike hr rfl (aA (bY bV (pv 1) (pv 0) (fun _ _=>rfl)) (aA (bY bV (pv 2) (pv 0) (fun _ _=>rfl)) aC))))) aC))))))) bJ)
   (aD (cN (PW.pt (pw_or (dG (aF aQ rfl B.isinstance_ boot_isinstance (aA (pv 0) (aA (aR (v:=.ty "bool") rfl B.bool_ boot_bool rfl) aC)))) (pw_or1 (aU (cX hu) (aF aQ rfl B.isinstance_ boot_isinstance (aA (pv 0) (aA (aR (v:=.ty "str") rfl B.str_ boot_str rfl) aC))) (aF aQ rfl B.isinstance_ boot_isinstance (aA (pv 1) (aA (aR (v:=.ty "str") rfl B.str_ boot_str rfl) aC))) (aY _))))) (aG (aX pe_bl)) bJ)
   (aG (aX (dW (cU hu) (pv 0) (pv 1) (aY _)))))),
  ((aO (cY (vtt_b (vt_isi2 Kt (by decide) (by decide) aB)) (aO (cY (vtt_or (aW (vt_ne (bK Kt (by decide) aB) (bK Kt (by decide) aB))) (aW (vt_ne (bK Kt (by decide) aB) (bK Kt (by decide) aB)))) (b7 (aL vt_bl)) dH)
   (b7 (aL (vt_and (vt_eq (eH aB) (eH aB)) (vt_all (aV (vo_comp (vi_rng1 (bD (eH aB) bU)) cR vtt_true (aV (aN (aZ (eG aB aB) (aZ (eG aB aB) bC))))))))))) dH)
   (aO (cY (vtt_or (vtt_b (bK Kt (by decide) aB)) (aW (vt_ne (bK Kt (by decide) aB) (bK Kt (by decide) aB)))) (b7 (aL vt_bl)) dH)
   (b7 (aL (vt_eq aB aB))))):VS P0 _ (bG m_law_alike_0))⟩
theorem ok_law_alike_2  (F:Fun K "_law_alike" "_law_alike" bR f fd)(B:Bl K mg)(Kt:Kit K)
  (c_law_alike:qc_law_alike20 P0 P w K mg base) :
  FnOk P w K mg base CX0 3 f fd ["_law_told_here", "_law_due"] (spM P0 2 cI):=
 F.okV sc_law_alike rfl rfl fun cdv A outer s H E hr=>
 have hu:=hr.units
 ⟨_,(aD (cN (dG (aF call_isi2 rfl B.isinstance_ boot_isinstance (aA (pv 1) (aA (pe_tup (aA (aR (v:=.ty "list") rfl B.list_ boot_list rfl) (aA (aR (v:=.ty "tuple") rfl B.tuple_ boot_tuple rfl) aC))) aC)))) (aD (cN (PW.pt (pw_or (aU (cX hu) (aF aQ rfl B.isinstance_ boot_isinstance (aA (pv 0) (aA (aR (v:=.ty "list") rfl B.list_ boot_list rfl) aC))) (aF aQ rfl B.isinstance_ boot_isinstance (aA (pv 1) (aA (aR (v:=.ty "list") rfl B.list_ boot_list rfl) aC))) (aY _)) (pw_or1 (aU (cX hu) (aF aQ rfl B.isinstance_ boot_isinstance (aA (pv 0) (aA (aR (v:=.ty "tuple") rfl B.tuple_ boot_tuple rfl) aC))) (aF aQ rfl B.isinstance_ boot_isinstance (aA (pv 1) (aA (aR (v:=.ty "tuple") rfl B.tuple_ boot_tuple rfl) aC))) (aY _))))) (aG (aX pe_bl)) bJ)
   (aG (aX (pe_and (dW (cU hu) (aF aP rfl B.len_ boot_len (aA (pv 0) aC)) (aF aP rfl B.len_ boot_len (aA (pv 1) aC)) (aY _)) (pe_one (aF (call_allL rfl) rfl B.all_ boot_all (aA (pe_lcomp (N:=["_law_k", "_law_told_here", "_law_due"]) (nt:=1) (fv:=[0,1]) rfl (blk_of (osc:=aK bR) (ON:=["_law_told_here", "_law_due", "_law_k"]) (by decide +kernel)) (dY rfl B.range_ (aA (aF aP rfl B.len_ boot_len (aA (pv 1) aC)) aC)) (fun _ _ _ _=>(cP (i:=0) (show(["_law_k", "_law_told_here", "_law_due"]:List Str).Nodup by decide +kernel) rfl (by walk_at "lc"))) (fun _ _ _ _=>pts_nil) (fun _ _ _ _=>(aJ c_law_alike hr rfl (aA (bY bV (pv 1) (pv 0) (fun _ _=>rfl)) (aA (bY bV (pv 2) (pv 0) (fun _ _=>rfl)) aC))))) aC))))))) bJ)
   (aD (cN (PW.pt (pw_or (dG (aF aQ rfl B.isinstance_ boot_isinstance (aA (pv 0) (aA (aR (v:=.ty "bool") rfl B.bool_ boot_bool rfl) aC)))) (pw_or1 (aU (cX hu) (aF aQ rfl B.isinstance_ boot_isinstance (aA (pv 0) (aA (aR (v:=.ty "str") rfl B.str_ boot_str rfl) aC))) (aF aQ rfl B.isinstance_ boot_isinstance (aA (pv 1) (aA (aR (v:=.ty "str") rfl B.str_ boot_str rfl) aC))) (aY _))))) (aG (aX pe_bl)) bJ)
   (aG (aX (dW (cU hu) (pv 0) (pv 1) (aY _)))))),
  ((aO (cY (vtt_b (vt_isi2 Kt (by decide) (by decide) aB)) (aO (cY (vtt_or (aW (vt_ne (bK Kt (by decide) aB) (bK Kt (by decide) aB))) (aW (vt_ne (bK Kt (by decide) aB) (bK Kt (by decide) aB)))) (b7 (aL vt_bl)) dH)
   (b7 (aL (vt_and (vt_eq (eH aB) (eH aB)) (vt_all (aV (vo_comp (vi_rng1 (bD (eH aB) bU)) cR vtt_true (aV (aN (aZ (eG aB aB) (aZ (eG aB aB) bC))))))))))) dH)
   (aO (cY (vtt_or (vtt_b (bK Kt (by decide) aB)) (aW (vt_ne (bK Kt (by decide) aB) (bK Kt (by decide) aB)))) (b7 (aL vt_bl)) dH)
   (b7 (aL (vt_eq aB aB))))):VS P0 _ (bG cL))⟩
theorem ok_law_alike_3  (F:Fun K "_law_alike" "_law_alike" bR f fd)(B:Bl K mg)(Kt:Kit K)
  (c_law_alike:qc_law_alike21 P0 P w K mg base) :
  FnOk P w K mg base CX0 4 f fd ["_law_told_here", "_law_due"] (spM P0 2 cH):=
 F.okV sc_law_alike rfl rfl fun cdv A outer s H E hr=>
 have hu:=hr.units
 ⟨_,(aD (cN (dG (aF call_isi2 rfl B.isinstance_ boot_isinstance (aA (pv 1) (aA (pe_tup (aA (aR (v:=.ty "list") rfl B.list_ boot_list rfl) (aA (aR (v:=.ty "tuple") rfl B.tuple_ boot_tuple rfl) aC))) aC)))) (aD (cN (PW.pt (pw_or (aU (cX hu) (aF aQ rfl B.isinstance_ boot_isinstance (aA (pv 0) (aA (aR (v:=.ty "list") rfl B.list_ boot_list rfl) aC))) (aF aQ rfl B.isinstance_ boot_isinstance (aA (pv 1) (aA (aR (v:=.ty "list") rfl B.list_ boot_list rfl) aC))) (aY _)) (pw_or1 (aU (cX hu) (aF aQ rfl B.isinstance_ boot_isinstance (aA (pv 0) (aA (aR (v:=.ty "tuple") rfl B.tuple_ boot_tuple rfl) aC))) (aF aQ rfl B.isinstance_ boot_isinstance (aA (pv 1) (aA (aR (v:=.ty "tuple") rfl B.tuple_ boot_tuple rfl) aC))) (aY _))))) (aG (aX pe_bl)) bJ)
   (aG (aX (pe_and (dW (cU hu) (aF aP rfl B.len_ boot_len (aA (pv 0) aC)) (aF aP rfl B.len_ boot_len (aA (pv 1) aC)) (aY _)) (pe_one (aF (call_allL rfl) rfl B.all_ boot_all (aA (pe_lcomp (N:=["_law_k", "_law_told_here", "_law_due"]) (nt:=1) (fv:=[0,1]) rfl (blk_of (osc:=aK bR) (ON:=["_law_told_here", "_law_due", "_law_k"]) (by decide +kernel)) (dY rfl B.range_ (aA (aF aP rfl B.len_ boot_len (aA (pv 1) aC)) aC)) (fun _ _ _ _=>(cP (i:=0) (show(["_law_k", "_law_told_here", "_law_due"]:List Str).Nodup by decide +kernel) rfl (by walk_at "lc"))) (fun _ _ _ _=>pts_nil) (fun _ _ _ _=>(aJ c_law_alike hr rfl (aA (bY bV (pv 1) (pv 0) (fun _ _=>rfl)) (aA (bY bV (pv 2) (pv 0) (fun _ _=>rfl)) aC))))) aC))))))) bJ)
   (aD (cN (PW.pt (pw_or (dG (aF aQ rfl B.isinstance_ boot_isinstance (aA (pv 0) (aA (aR (v:=.ty "bool") rfl B.bool_ boot_bool rfl) aC)))) (pw_or1 (aU (cX hu) (aF aQ rfl B.isinstance_ boot_isinstance (aA (pv 0) (aA (aR (v:=.ty "str") rfl B.str_ boot_str rfl) aC))) (aF aQ rfl B.isinstance_ boot_isinstance (aA (pv 1) (aA (aR (v:=.ty "str") rfl B.str_ boot_str rfl) aC))) (aY _))))) (aG (aX pe_bl)) bJ)
   (aG (aX (dW (cU hu) (pv 0) (pv 1) (aY _)))))),
  ((aO (cY (vtt_b (vt_isi2 Kt (by decide) (by decide) aB)) (aO (cY (vtt_or (aW (vt_ne (bK Kt (by decide) aB) (bK Kt (by decide) aB))) (aW (vt_ne (bK Kt (by decide) aB) (bK Kt (by decide) aB)))) (b7 (aL vt_bl)) dH)
   (b7 (aL (vt_and (vt_eq (eH aB) (eH aB)) (vt_all (aV (vo_comp (vi_rng1 (bD (eH aB) bU)) cR vtt_true (aV (aN (aZ (eG aB aB) (aZ (eG aB aB) bC))))))))))) dH)
   (aO (cY (vtt_or (vtt_b (bK Kt (by decide) aB)) (aW (vt_ne (bK Kt (by decide) aB) (bK Kt (by decide) aB)))) (b7 (aL vt_bl)) dH)
   (b7 (aL (vt_eq aB aB))))):VS P0 _ (bG cI))⟩
theorem ok_law_alike_4  (F:Fun K "_law_alike" "_law_alike" bR f fd)(B:Bl K mg)(Kt:Kit K)
  (c_law_alike:qc_law_alike22 P0 P w K mg base) :
  FnOk P w K mg base CX0 5 f fd ["_law_told_here", "_law_due"] (spM P0 2 m_law_alike_4):=
 F.okV sc_law_alike rfl rfl fun cdv A outer s H E hr=>
 have hu:=hr.units
 ⟨_,(aD (cN (dG (aF call_isi2 rfl B.isinstance_ boot_isinstance (aA (pv 1) (aA (pe_tup (aA (aR (v:=.ty "list") rfl B.list_ boot_list rfl) (aA (aR (v:=.ty "tuple") rfl B.tuple_ boot_tuple rfl) aC))) aC)))) (aD (cN (PW.pt (pw_or (aU (cX hu) (aF aQ rfl B.isinstance_ boot_isinstance (aA (pv 0) (aA (aR (v:=.ty "list") rfl B.list_ boot_list rfl) aC))) (aF aQ rfl B.isinstance_ boot_isinstance (aA (pv 1) (aA (aR (v:=.ty "list") rfl B.list_ boot_list rfl) aC))) (aY _)) (pw_or1 (aU (cX hu) (aF aQ rfl B.isinstance_ boot_isinstance (aA (pv 0) (aA (aR (v:=.ty "tuple") rfl B.tuple_ boot_tuple rfl) aC))) (aF aQ rfl B.isinstance_ boot_isinstance (aA (pv 1) (aA (aR (v:=.ty "tuple") rfl B.tuple_ boot_tuple rfl) aC))) (aY _))))) (aG (aX pe_bl)) bJ)
   (aG (aX (pe_and (dW (cU hu) (aF aP rfl B.len_ boot_len (aA (pv 0) aC)) (aF aP rfl B.len_ boot_len (aA (pv 1) aC)) (aY _)) (pe_one (aF (call_allL rfl) rfl B.all_ boot_all (aA (pe_lcomp (N:=["_law_k", "_law_told_here", "_law_due"]) (nt:=1) (fv:=[0,1]) rfl (blk_of (osc:=aK bR) (ON:=["_law_told_here", "_law_due", "_law_k"]) (by decide +kernel)) (dY rfl B.range_ (aA (aF aP rfl B.len_ boot_len (aA (pv 1) aC)) aC)) (fun _ _ _ _=>(cP (i:=0) (show(["_law_k", "_law_told_here", "_law_due"]:List Str).Nodup by decide +kernel) rfl (by walk_at "lc"))) (fun _ _ _ _=>pts_nil) (fun _ _ _ _=>(aJ c_law_alike hr rfl (aA (bY bV (pv 1) (pv 0) (fun _ _=>rfl)) (aA (bY bV (pv 2) (pv 0) (fun _ _=>rfl)) aC))))) aC))))))) bJ)
   (aD (cN (PW.pt (pw_or (dG (aF aQ rfl B.isinstance_ boot_isinstance (aA (pv 0) (aA (aR (v:=.ty "bool") rfl B.bool_ boot_bool rfl) aC)))) (pw_or1 (aU (cX hu) (aF aQ rfl B.isinstance_ boot_isinstance (aA (pv 0) (aA (aR (v:=.ty "str") rfl B.str_ boot_str rfl) aC))) (aF aQ rfl B.isinstance_ boot_isinstance (aA (pv 1) (aA (aR (v:=.ty "str") rfl B.str_ boot_str rfl) aC))) (aY _))))) (aG (aX pe_bl)) bJ)
   (aG (aX (dW (cU hu) (pv 0) (pv 1) (aY _)))))),
  ((aO (cY (vtt_b (vt_isi2 Kt (by decide) (by decide) aB)) (aO (cY (vtt_or (aW (vt_ne (bK Kt (by decide) aB) (bK Kt (by decide) aB))) (aW (vt_ne (bK Kt (by decide) aB) (bK Kt (by decide) aB)))) (b7 (aL vt_bl)) dH)
   (b7 (aL (vt_and (vt_eq (eH aB) (eH aB)) (vt_all (aV (vo_comp (vi_rng1 (bD (eH aB) bU)) cR vtt_true (aV (aN (aZ (eG aB aB) (aZ (eG aB aB) bC))))))))))) dH)
   (aO (cY (vtt_or (vtt_b (bK Kt (by decide) aB)) (aW (vt_ne (bK Kt (by decide) aB) (bK Kt (by decide) aB)))) (b7 (aL vt_bl)) dH)
   (b7 (aL (vt_eq aB aB))))):VS P0 _ (bG cH))⟩
abbrev s_law:Stmt:=top 32
theorem sc_law:FnScope ["_law_script", "_law_pen", "_law_k", "_law_book_here", "_law_handed", "_law_text", "_law_turn", "_law_found"] ["_law_script"] (aK s_law):=scM
theorem ok_law  (F:Fun K "law" "law" s_law f fd)(B:Bl K mg)(Kt:Kit K)
  (c_read_book:∀ a ns,Cal P w K mg base 7 "read_book" ["text"] (spM (bH K a ns) 1 dO))
  (c_show_book:∀ a ns,Cal P w K mg base 4 "show_book" ["book"] (spM (bH K a ns) 1 dM))
  (c_law_alike:∀ a ns,Cal P w K mg base 5 "_law_alike" ["_law_told_here", "_law_due"] (spM (bH K a ns) 2 m_law_alike))
  (c_law_lines_of:∀ a ns,Cal P w K mg base 2 "_law_lines_of" ["_law_rows"] (spM (bH K a ns) 1 cT))
  (c_law_book:∀ a ns,Cal P w K mg base 4 "_law_book" ["_law_pen"] (spM (bH K a ns) 1 m_law_book))
  (hL:b_law (.no::.pen::List.replicate 6 .no) TrueEnd) :
  FnOk P w K mg base CX0 8 f fd ["_law_script"] (spLaw K):=by
 refine F.ok sc_law (fun vs H Q E h=>?_) (fun cdv A outer s H vs Q E hr h=>?_)
 ·obtain⟨a,ns,rfl,hS,h63,q⟩:=h;rfl
 have hu:=hr.units;obtain⟨a,ns,rfl,hS,h63,q⟩:=h;have c_read_book:=c_read_book a ns;have c_show_book:=c_show_book a ns;have c_law_alike:=c_law_alike a ns;have c_law_lines_of:=c_law_lines_of a ns;have c_law_book:=c_law_book a ns;exact law_body2 (k:=6) (bM (i:=1) sc_law.nd rfl (by walk_at "lc") (pe_lst (aA aH (aA aH (aA (pv 0) aC))))) ⟨_,(aD (ps_for PassesOwn.never rfl (dY rfl B.range_ (aA aH aC)) (cP (i:=2) sc_law.nd rfl (by walk_at "lc")) (aD (bM (i:=3) sc_law.nd rfl (by walk_at "lc") (aJ c_law_book hr rfl (aA (pv 1) aC)))
   (aD (bM (i:=4) sc_law.nd rfl (by walk_at "lc") (dD call_list_of rfl B.list_ boot_list (aA (pv 3) aC)))
   (aD (bM (i:=5) sc_law.nd rfl (by walk_at "lc") (aJ c_show_book hr rfl (aA (pv 4) aC)))
   (aD (cN (PW.pt (pw_or (pt_not (dG (aF aQ rfl B.isinstance_ boot_isinstance (aA (pv 5) (aA (aR (v:=.ty "str") rfl B.str_ boot_str rfl) aC))))) (pw_or (aU (cX hu) (pv 5) (aJ c_law_lines_of hr rfl (aA (pv 3) aC)) (aY _)) (pw_or1 (aU (cX hu) (pv 4) (pv 3) (aY _)))))) (aG (aX pe_bl)) bJ)
   (aG (ps_for PassesOwn.never rfl (dY rfl B.range_ (aA aH aC)) (cP (i:=6) sc_law.nd rfl (by walk_at "lc")) (aD (bM (i:=7) sc_law.nd rfl (by walk_at "lc") (aJ c_read_book hr rfl (aA (pv 5) aC)))
   (aD (cN (pt_not (dG (aJ c_law_alike hr rfl (aA (pv 7) (aA (pv 3) aC))))) (aG (aX pe_bl)) bJ)
   (aG (ps_expr (pe_bm PySem.F.plainAttrs_list PySem.F.slot_list_append PySem.F.type_list_append mt_append (pv 7) (aA (pe_tup aC) aC)))))))))))))
   (aG (aX (pe_and (dW (cU hu) (aJ c_show_book hr rfl (aA (pe_lst aC) aC)) cF (aY _)) (pe_one (dW (cU hu) (aJ c_read_book hr rfl (aA cF aC)) (pe_lst aC) (aY _))))))),
  ((aO (vs_for (vi_rng1 (bD aM bU)) cR (aO (bQ (aL (aV (aN (eN bC)))))
   (aO (bQ (aL (aV (vo_listOf aB))))
   (aO (bQ (aL (aV (aN (aZ aB bC)))))
   (aO (cY (vtt_or (vtt_not (vtt_b (bK Kt (by decide) aB))) (vtt_or (aW (vt_ne aB (aV (aN (aZ aB bC))))) (aW (vt_ne aB aB)))) (b7 (aL vt_bl)) dH)
   (vs_for (vi_rng1 (bD aM bU)) cR (aO (bQ (aN (aZ aB bC)))
   (aO (cY (vtt_peek (vtt_not (vtt_b (aV (aN (aZ aB (aZ aB bC))))))) (b7 (aL vt_bl)) dH)
   (vs_append (vt_tup bU))))))))))
   (b7 (aL (vt_and (vt_eq (aV (aN (aZ (aV (vo_lst bU)) bC))) cM) (vt_eq (aV (aN (aZ cM bC))) (aV (vo_lst bU))))))):VS (bH K a ns) _ b_law)⟩ rfl hS hL q
end
section
variable {Q:Rv→Prop}
theorem t_whole {i:Int}(q:Q (.val (.bool true))):dR [.val (.int i)] Q:=by
 refine i_fn ?_;unfold b_is_whole;walk_at "vs";exact q
theorem t_gcd {a b:Int}(q:Q (.val (.int (Int.gcd a b:Nat)))):bL [.val (.int a),.val (.int b)] Q:=by
 refine i_fn ?_;unfold dF dZ eE;walk_at "vs";refine while_inv (fun n Γ=>∃ d r x,Γ=[.val (.int a),.val (.int b),.val (.int d),.val (.int r),x]∧0≤d∧0≤r∧Int.gcd d r=Int.gcd a b∧n=r.toNat) _ ⟨_,_,.no,rfl,abs_nn a,abs_nn b,abs_gcd a b,rfl⟩ ?_;rintro m Γ ⟨d,r,x,rfl,hd,hr,hg,rfl⟩;walk_at "vs";refine iteN2 (fun c=>?_) (fun c=>?_)
 ·have hp:0<r:=by omega
  walk_at "vs";refine⟨hp,?_⟩;walk_at "vs";have h1:=Int.emod_nonneg d (b:=r) (by omega);have h2:=Int.emod_lt_of_pos d hp;exact⟨_,by omega,_,_,_,rfl,hr,h1,(gcd_step hd hp).trans hg,rfl⟩
 ·subst c;have e:=gcd_end hd;rw[hg] at e;walk_at "vs";rw[e] at q;exact q
end
section
variable {p:Addr}{n:Nat}{Q:Rv→Nat→Prop}
theorem t_lowestC {Q:Rv→Prop}{t b:Int}(h0:0<b)(hb:Bt 9000 b)(q:Q (.val (dNum (Rat.divInt t b)))):cG [.val (.int t),.val (.int b)] Q:=by
 have g0:=gcd_ne (t:=t) (b:=b) (by omega);have g1:=gcd_bt (t:=t) hb (by omega);refine i_fn ?_;unfold b_law_lowest b_law_lowest_l1 b_law_lowest_r1;walk_at "vs";refine while_inv (fun n Γ=>∃ d r,Γ=[.val (.int t),.val (.int b),.val (.int d),.val (.int r)]∧0≤d∧0≤r∧Int.gcd d r=Int.gcd t b∧n=r.toNat) _ ⟨_,_,rfl,abs_nn t,by omega,by
  have:=abs_gcd t b;rwa[if_neg (c:=b<0) (by omega)] at this,rfl⟩ ?_
 rintro m Γ ⟨d,r,rfl,hd,hr,hg,rfl⟩;walk_at "vs";refine iteD2 (fun c=>?_) (fun c=>?_)
 ·walk_at "vs";refine⟨c,?_⟩;walk_at "vs";have h1:=Int.emod_nonneg d (b:=r) (by omega);have h2:=Int.emod_lt_of_pos d c;exact⟨_,by omega,_,_,rfl,hr,h1,(gcd_step hd c).trans hg,rfl⟩
 ·have c':r=0:=by omega
  subst c';have e:=gcd_end hd;rw[hg] at e;subst e;have n:=norm_pos (t:=t) (b:=b) h0;walk_at "vs";refine⟨⟨g0,g1⟩,?_⟩;walk_at "vs";refine⟨⟨g0,g1⟩,?_⟩;walk_at "vs";rw[n.1,n.2];exact q
end
section
open PySem.NumText
def dg (m:Nat):List Nat:=(Nat.toDigits 10 m).map Char.toNat
theorem dg_small {m:Nat}(h:m<10):dg m=[(Nat.digitChar m).toNat]:=by unfold dg; rw[Nat.toDigits_of_lt_base h]; rfl
theorem dg_snoc {m:Nat}(h:10≤m):dg m=dg (m/10)++[(Nat.digitChar (m%10)).toNat]:=by
 have hm:m%10<10:=Nat.mod_lt m (by decide);have t:Nat.toDigits 10 (m/10)++Nat.toDigits 10 (m%10)=Nat.toDigits 10 (10*(m/10)+m%10):=Nat.toDigits_append_toDigits (by decide) (by omega) hm;rw[Nat.div_add_mod] at t;unfold dg;rw[← t,List.map_append,Nat.toDigits_of_lt_base hm];rfl
theorem dg1:∀ d:Nat,d<10→48≤(Nat.digitChar d).toNat∧(Nat.digitChar d).toNat≤57:=by decide
theorem dg1':∀ d:Nat,d<10→(Nat.digitChar d).toNat=48→d=0:=by decide
theorem dg_all (m:Nat):AllDigits (dg m):=by
 induction m using Nat.strongRecOn with
 | _ m ih=>
  intro c hc
  by_cases h:m<10
  ·rw[dg_small h] at hc;rw[List.mem_singleton.mp hc];exact dg1 m h
  ·rw[dg_snoc (by omega)] at hc;rcases List.mem_append.mp hc with q|q
   ·exact ih (m/10) (by omega) c q
   ·rw[List.mem_singleton.mp q];exact dg1 _ (Nat.mod_lt m (by decide))
theorem dg_val (m:Nat):digitsVal (dg m)=m:=PySem.W.KIN.val_back m
theorem dg_len:∀{k m:Nat},1≤k→m<10^k→(dg m).length≤k
 | k,m,hk,h=>by
  by_cases q:m<10
  ·rw[dg_small q]; exact hk
  ·rw[dg_snoc (by omega),List.length_append]
   match k,hk,h with
   | 1,_,h=>exact absurd h (by omega)
   | k+2,_,h=>
    have:=dg_len (k:=k+1) (m:=m/10) (by omega) (by rw[Nat.pow_succ] at h; omega)
    show(dg (m/10)).length+1≤k+2
    omega
theorem dg_ne (m:Nat):dg m≠[]:=by
 by_cases h:m<10
 ·rw[dg_small h]; exact List.cons_ne_nil _ _
 ·rw[dg_snoc (by omega)]; exact List.append_ne_nil_of_right_ne_nil _ (List.cons_ne_nil _ _)
theorem dg_head (m:Nat):(dg m)[0]?=some 48→m=0:=by
 induction m using Nat.strongRecOn with
 | _ m ih=>
  intro e
  by_cases h:m<10
  ·rw[dg_small h] at e;exact dg1' m h (by simpa using e)
  ·rw[dg_snoc (by omega)] at e;have l:0<(dg (m/10)).length:=List.length_pos_iff.mpr (dg_ne _);rw[List.getElem?_append_left l] at e;have:=ih (m/10) (by omega) e;omega
theorem tx_nat (m:Nat):(txI (m:Int)).cps.toList=dg m:=PySem.W.KIN.signs_num m
theorem tx_neg {m:Nat}(h:0<m):(txI (-(m:Int))).cps.toList=45::dg m:=by
 obtain⟨k,rfl⟩:∃ k,m=k+1:=⟨m-1,by omega⟩
 show(PySem.Str.ofString (toString (Int.negSucc k))).cps.toList=_
 rw[Str.ofString_eq_toList]
 show("-" ++ Nat.repr (k+1)).toList.map Char.toNat=_
 rw[String.toList_append,List.map_append,Nat.toList_repr];rfl
theorem str_ext {a b:PySem.Str}(h:a.cps.toList=b.cps.toList):a=b:=PySem.Str.ext' (Array.toList_inj.mp h)
theorem tx_neg' {m:Nat}(h:0<m):txI (-(m:Int))=("-" : PySem.Str)++txI (m:Int):=str_ext (by rw[tx_neg h,PySem.Str.cps_append,Array.toList_append,tx_nat]; rfl)
theorem tx_len (m:Nat)(h:m<10^60):(txI (m:Int)).length≤60:=by
 have:=dg_len (k:=60) (by decide) h;rw[← tx_nat] at this;simpa [PySem.Str.length] using this
theorem tx_reads (m:Nat)(h:m<10^60):PySem.intText? (txI (m:Int))=some (m:Int):=by
 have e:=intText_digits (x:=txI (m:Int)) (by rw[tx_nat]; exact dg_all m) (by rw[tx_nat]; exact dg_ne m) (Nat.le_trans (tx_len m h) (by decide));rw[tx_nat,dg_val] at e;exact e
theorem tx_signs (i:Int):∀ c∈(txI i).cps.toList,c=45∨(48≤c∧c≤57):=by
 intro c hc;rcases Int.eq_nat_or_neg i with⟨m,rfl|rfl⟩
 ·rw[tx_nat] at hc;exact .inr (dg_all m c hc)
 ·by_cases z:0<m
  ·rw[tx_neg z] at hc;rcases List.mem_cons.mp hc with q|q
   ·exact .inl q
   ·exact .inr (dg_all m c q)
  ·have:m=0:=by omega
   subst this;exact .inr (dg_all 0 c (by rw[← tx_nat]; exact hc))
theorem figs {c:Nat}(h:48≤c∧c≤57):inS ⟨#[c]⟩ ("0123456789" : PySem.Str)=true:=by
 unfold inS;rw[StrLaws.found_one];obtain⟨h1,h2⟩:=h;have:c=48∨c=49∨c=50∨c=51∨c=52∨c=53∨c=54∨c=55∨c=56∨c=57:=by omega
 rcases this with rfl|rfl|rfl|rfl|rfl|rfl|rfl|rfl|rfl|rfl<;>decide +kernel
theorem jn_cons (c:Nat)(x y:PySem.Str)(r:List PySem.Str):(PySem.Str.join ⟨#[c]⟩ (x::y::r)).cps.toList=x.cps.toList++c::(PySem.Str.join ⟨#[c]⟩ (y::r)).cps.toList:=by
 show(x++(⟨#[c]⟩:PySem.Str)++PySem.Str.join ⟨#[c]⟩ (y::r)).cps.toList=_
 rw[PySem.Str.cps_append,PySem.Str.cps_append,Array.toList_append,Array.toList_append,List.append_assoc];rfl
theorem cut_at {c:Nat}:∀{a a' b b':List Nat},c∉a→c∉a'→a++c::b=a'++c::b'→a=a'∧b=b'
 | [],[],_,_,_,_,e=>⟨rfl,by simpa using e⟩
 | [],y::a',_,_,_,h',e=>by simp at e; exact absurd (List.mem_cons.mpr (.inl e.1)) h'
 | x::a,[],_,_,h,_,e=>by simp at e; exact absurd (List.mem_cons.mpr (.inl e.1.symm)) h
 | x::a,y::a',b,b',h,h',e=>by
  simp only[List.cons_append,List.cons.injEq] at e;obtain⟨q1,q2⟩:=cut_at (fun z=>h (List.mem_cons_of_mem _ z)) (fun z=>h' (List.mem_cons_of_mem _ z)) e.2;exact⟨by rw[e.1,q1],q2⟩
theorem join_inj {c:Nat}:∀{ps qs:List PySem.Str},ps≠[]→qs≠[]→(∀ p∈ps,c∉p.cps.toList)→(∀ p∈qs,c∉p.cps.toList)→PySem.Str.join ⟨#[c]⟩ ps=PySem.Str.join ⟨#[c]⟩ qs→ps=qs
 | [],_,h,_,_,_,_=>absurd rfl h
 | _,[],_,h,_,_,_=>absurd rfl h
 | [x],[y],_,_,_,_,e=>by rw[show x=y from e]
 | [x],y::z::r,_,_,hp,_,e=>by
  have e:=congrArg (fun s:PySem.Str=>s.cps.toList) e;simp only[jn_cons] at e;exact absurd (show c∈x.cps.toList from by rw[show x.cps.toList=_ from e]; simp) (hp x (List.mem_cons_self ..))
 | x::w::r,[y],_,_,_,hq,e=>by
  have e:=congrArg (fun s:PySem.Str=>s.cps.toList) e;simp only[jn_cons] at e;exact absurd (show c∈y.cps.toList from by rw[show y.cps.toList=_ from e.symm]; simp) (hq y (List.mem_cons_self ..))
 | x::w::r,y::z::r',_,_,hp,hq,e=>by
  have e:=congrArg (fun s:PySem.Str=>s.cps.toList) e;simp only[jn_cons] at e;obtain⟨q1,q2⟩:=cut_at (hp x (List.mem_cons_self ..)) (hq y (List.mem_cons_self ..)) e;rw[str_ext q1,join_inj (List.cons_ne_nil _ _) (List.cons_ne_nil _ _) (fun p h=>hp p (List.mem_cons_of_mem _ h)) (fun p h=>hq p (List.mem_cons_of_mem _ h)) (str_ext q2)]
theorem split_ne (x y:PySem.Str):Txt.split x y≠[]:=by
 unfold Txt.split
 split
 ·exact List.cons_ne_nil _ _
 ·split
  ·exact List.cons_ne_nil _ _
  ·rw[StrLaws.partsBetween_eq];obtain⟨p,r,e⟩:=StrLaws.partsFrom_ne x y.length 0 (Builtin.Str.occurrences x y 0 x.length (x.length+1));rw[e];exact List.cons_ne_nil _ _
theorem split_join {c:Nat}{ps:List PySem.Str}(h:ps≠[])(hp:∀ p∈ps,c∉p.cps.toList):Txt.split (Txt.join ⟨#[c]⟩ ps) ⟨#[c]⟩=ps:=by
 refine join_inj (split_ne _ _) h (StrLaws.split_free _ c) hp ?_;rw[StrLaws.join_split];exact StrLaws.glued_eq_join _ _
theorem join_free {c d:Nat}(hcd:c≠d):∀{ps:List PySem.Str},(∀ p∈ps,c∉p.cps.toList)→c∉(PySem.Str.join ⟨#[d]⟩ ps).cps.toList
 | [],_=>by simp[PySem.Str.join,PySem.Str.empty]
 | [x],h=>h x (List.mem_cons_self ..)
 | x::y::r,h=>by
  rw[jn_cons,List.mem_append,List.mem_cons]
  rintro(q|q|q)
  ·exact h x (List.mem_cons_self ..) q
  ·exact hcd q
  ·exact join_free hcd (fun p hp=>h p (List.mem_cons_of_mem _ hp)) q
end
section
open PySem.NumText
def numT (r:Rat):PySem.Str:=if r.den=1 then txI r.num else txI r.num++("/" : PySem.Str)++txI (r.den:Int)
def Few60 (r:Rat):Prop:=r.num.natAbs<10^60∧r.den<10^60
inductive Rw
 | deed (n:Nat)
 | pas (r:Rat) (n:Nat)
def Rw.d:Rw→D
 | .deed n=>.tuple [.str "deed", .int (n:Int)]
 | .pas r n=>.tuple [.str "pass", dNum r,.int (n:Int)]
def Rw.ws:Rw→List PySem.Str
 | .deed n=>["deed", txI (n:Int)]
 | .pas r n=>["pass", numT r,txI (n:Int)]
def Rw.Ok:Rw→Prop
 | .deed n=>n<10^60
 | .pas r n=>Few60 r∧n<10^60
def Rw.tx (w:Rw):PySem.Str:=Txt.join ⟨#[32]⟩ w.ws
def bkT (ws:List Rw):PySem.Str:=Txt.join ⟨#[10]⟩ (ws.map Rw.tx)
theorem few_divInt {t b:Int}(ht:t.natAbs<10^60)(h0:0<b)(hb:b<10^60):Few60 (Rat.divInt t b):=by
 obtain⟨n1,n2⟩:=norm_pos (t:=t) (b:=b) h0;rw[fd] at n1 n2;have h1:(Rat.divInt t b).num.natAbs≤t.natAbs:=by
  rw[← n1];exact Int.natAbs_ediv_le_natAbs _ _
 have h2:((Rat.divInt t b).den:Int)≤b:=by
  rw[← n2];exact Int.ediv_le_self _ (by omega)
 exact⟨by omega,by omega⟩
end
section
variable {Q:Rv→Prop}
theorem p9 (j:Nat):(10:Int)^(9*(j+1))=10^(9*j)*1000000000:=by
 rw[show 9*(j+1)=9*j+9 by omega,Int.pow_add];rfl
theorem bt_p9 {i:Int}{j:Nat}(h0:0≤i)(h1:i<10^(9*j))(hj:j≤7):Bt 240 i:=by
 show i.natAbs<2^240;have h2:(10:Nat)^(9*j)≤10^63:=Nat.pow_le_pow_right (by decide) (by omega);have h3:(10:Nat)^63<2^240:=by decide
 have h4:((10:Int)^(9*j))=(((10:Nat)^(9*j):Nat):Int):=by simp
 rw[h4] at h1;omega
theorem bt_60 {i:Int}(h:i.natAbs<10^60):Bt 9000 i:=Nat.lt_of_lt_of_le (Nat.lt_trans h (by decide:10^60<2^240)) (Nat.pow_le_pow_right (by decide) (by decide))
theorem t_great (q:∀ n:Nat,n<10^60→Q (.val (.int (n:Int)))):c7 [.pen] Q:=by
 refine i_fn ?_;unfold b_law_great;walk_at "ws";refine i_take (by decide) (by decide) fun m m0 m1=>?_;walk_at "ws";refine⟨by omega,by omega,?_⟩;refine range_inv (fun j Γ=>∃ x r,Γ=[.pen,.val (.int r),x]∧0≤r∧r<10^(9*j)) ⟨_,_,rfl,by decide,by decide⟩ ?_ ?_
 ·rintro j Γ K hj ⟨x,r,rfl,r0,r1⟩ hK;unfold b_law_great_l1;walk_at "ws";refine⟨mulB (k:=240) (bt_p9 r0 r1 (by omega)) (m:=31) (by show Int.natAbs 1000000000<2^31; decide),?_⟩;walk_at "ws";refine i_take (by decide) (by decide) fun d d0 d1=>?_;walk_at "ws";refine hK.nx _ ⟨_,_,rfl,by omega,?_⟩;rw[p9];omega
 ·rintro Γ ⟨x,r,rfl,r0,r1⟩;unfold b_law_great_r1;walk_at "ws";have h1:=Int.emod_nonneg r (b:=1000000000000000000000000000000000000000000000000000000000000) (by decide);have h2:=Int.emod_lt_of_pos r (b:=1000000000000000000000000000000000000000000000000000000000000) (by decide);refine⟨by decide,?_⟩;walk_at "ws";obtain⟨n,hn⟩:=Int.eq_ofNat_of_zero_le h1;rw[hn] at h2 ⊢;exact q n (by omega)
theorem t_time (q:∀ r:Rat,Few60 r→Q (.val (dNum r))):m_law_time [.pen] Q:=by
 refine i_fn ?_;unfold b_law_time;walk_at "ws";refine i_take (by decide) (by decide) fun w w0 w1=>?_;walk_at "ws";refine iteD2 (fun c=>?_) (fun c=>?_)
 ·walk_at "ws";refine i_take (by decide) (by decide) fun m m0 m1=>?_;walk_at "ws";have:=q ((m-20:Int):Rat) ⟨by rw[Rat.num_intCast]; omega,by rw[Rat.den_intCast]; decide⟩;unfold dNum at this;rw[Rat.num_intCast,Rat.den_intCast] at this;exact this
 ·walk_at "ws";unfold b_law_time_r2;walk_at "ws";refine iteD2 (fun c=>?_) (fun c=>?_)
  ·walk_at "ws";refine i_take (by decide) (by decide) fun m m0 m1=>?_;walk_at "ws";refine i_take (by decide) (by decide) fun b b0 b1=>?_;walk_at "ws";exact t_lowestC (by omega) (bt_60 (by omega)) (q _ (few_divInt (by omega) (by omega) (by omega)))
  ·walk_at "ws";unfold b_law_time_r1;walk_at "ws";refine t_great fun m hm=>?_;walk_at "ws";refine i_take (by decide) (by decide) fun s s0 s1=>?_;walk_at "ws";obtain⟨e,he,he'⟩:∃ e:Int,ixD (.list [.int 1,.int (-1)]) (.int s)=some (.int e)∧(e=1∨e = -1):=by
    have hd:s=0∨s=1:=by omega
    rcases hd with rfl|rfl
    ·exact⟨1,rfl,.inl rfl⟩
    ·exact⟨-1,rfl,.inr rfl⟩
   refine i_oQ he ?_;walk_at "ws";refine⟨mulB (k:=240) (m:=31) (show Int.natAbs _<2^240 from Nat.lt_trans (show _<10^60 by omega) (by decide)) (by show Int.natAbs _<2^31; rcases he' with rfl|rfl<;>decide),?_⟩;walk_at "ws";refine t_great fun n hn=>?_;walk_at "ws";have h1:=Int.emod_nonneg (n:Int) (b:=1000000000000000000000000000000000000000000000000000000000000-1) (by decide);have h2:=Int.emod_lt_of_pos (n:Int) (b:=1000000000000000000000000000000000000000000000000000000000000-1) (by decide);refine⟨by decide,?_⟩;walk_at "ws";exact t_lowestC (by omega) (bt_60 (by omega)) (q _ (few_divInt (by rcases he' with rfl|rfl<;>omega) (by omega) (by omega)))
theorem t_book (q:∀ ws:List Rw,ws.length≤30→(∀ w∈ws,w.Ok)→Q (.own (ws.map Rw.d))):m_law_book [.pen] Q:=by
 refine i_fn ?_;unfold b_law_book;walk_at "ws";refine i_take (by decide) (by decide) fun s s0 s1=>?_;walk_at "ws";obtain⟨e,he,e0,e1⟩:∃ e:Int,ixD (.list [.int 31,.int 6]) (.int s)=some (.int e)∧0<e∧e≤31:=by
  have hd:s=0∨s=1:=by omega
  rcases hd with rfl|rfl
  ·exact⟨31,rfl,by decide,by decide⟩
  ·exact⟨6,rfl,by decide,by decide⟩
 refine i_oQ he ?_;walk_at "ws";refine i_take e0 (by omega) fun m m0 m1=>?_;walk_at "ws";refine⟨by omega,by omega,?_⟩;refine range_inv (fun j Γ=>∃ x y ws,Γ=[.pen,.own (ws.map Rw.d),x,y]∧ws.length=j∧∀ w∈ws,w.Ok) ⟨_,_,[],rfl,rfl,fun _ h=>nomatch h⟩ ?_ ?_
 ·rintro j Γ K hj ⟨x,y,ws,rfl,hl,hw⟩ hK;have fin:∀(n:Nat),n<10^60→b_law_book_r2 [.pen,.own (ws.map Rw.d),.val (.int (0+(j:Int))),.val (.int (n:Int))] K:=by
   intro n hn;have add:∀ w:Rw,w.Ok→K (.nx [.pen,.own (ws.map Rw.d++[w.d]),.val (.int (0+(j:Int))),.val (.int (n:Int))]):=fun w ok=>
    hK.nx _ ⟨_,_,ws++[w],by rw[List.map_append]; rfl,by rw[List.length_append]; simp; omega,fun v hv=>by
     rcases List.mem_append.mp hv with z|z
     ·exact hw v z
     ·rw[List.mem_singleton.mp z]; exact ok⟩
   unfold b_law_book_r2;walk_at "ws";refine i_take (by decide) (by decide) fun b b0 b1=>?_;walk_at "ws";refine iteD2 (fun c=>?_) (fun c=>?_)
   ·walk_at "ws";refine i_appK (ds:=ws.map Rw.d) rfl (by rw[List.length_map]; omega) ?_;exact add (.deed n) hn
   ·walk_at "ws";refine t_time fun r hr=>?_;walk_at "ws";refine i_appK (ds:=ws.map Rw.d) rfl (by rw[List.length_map]; omega) ?_;exact add (.pas r n) ⟨hr,hn⟩
  unfold b_law_book_l1;walk_at "ws";refine i_take (by decide) (by decide) fun a a0 a1=>?_;walk_at "ws";refine i_take (by decide) (by decide) fun b b0 b1=>?_;walk_at "ws";refine iteD2 (fun c=>?_) (fun c=>?_)
  ·walk_at "ws";refine t_great fun n hn=>?_;walk_at "ws";exact fin n hn
  ·walk_at "ws";obtain⟨n,rfl⟩:=Int.eq_ofNat_of_zero_le a0;exact fin n (by omega)
 ·rintro Γ ⟨x,y,ws,rfl,hl,hw⟩;unfold b_law_book_r1;walk_at "ws";exact q ws (by omega) hw
end
theorem i_yes {Γ:En}{Q:Bool→En→Prop}(h:Q true Γ):mTrue Γ Q:=h
section
variable {Q:Rv→Prop}
theorem l2_60 {i:Int}(h:i.natAbs<10^60):i.natAbs.log2<1920:=by
 by_cases z:i.natAbs=0
 ·rw[z]; decide
 ·exact(Nat.log2_lt z).mpr (Nat.lt_of_lt_of_le (Nat.lt_trans h (by decide:10^60<2^240)) (Nat.pow_le_pow_right (by decide) (by decide)))
theorem txi_len {i:Int}(h:i.natAbs<10^60):(txI i).length≤61:=by
 rcases Int.eq_nat_or_neg i with⟨m,rfl|rfl⟩
 ·exact Nat.le_trans (tx_len m (by omega)) (by decide)
 ·by_cases z:0<m
  ·rw[tx_neg' z,PySem.Str.length_append];have:=tx_len m (by omega);have e:PySem.Str.length ("-" : PySem.Str)=1:=rfl;omega
  ·have:m=0:=by omega
   subst this;exact Nat.le_trans (tx_len 0 (by decide)) (by decide)
theorem slash_len:PySem.Str.length ("/" : PySem.Str)=1:=rfl
theorem numT_len {r:Rat}(h:Few60 r):(numT r).length≤130:=by
 have h1:=txi_len h.1;have h2:=txi_len (i:=(r.den:Int)) (by have:=h.2; omega);unfold numT
 split
 ·omega
 ·rw[PySem.Str.length_append,PySem.Str.length_append,slash_len];omega
theorem t_show_number {r:Rat}(h:Few60 r)(q:Q (.val (.str (numT r)))):cJ [.val (dNum r)] Q:=by
 have h1:=l2_60 h.1;have h2:=l2_60 (i:=(r.den:Int)) (by have:=h.2; omega);have h3:=txi_len h.1;have h4:=txi_len (i:=(r.den:Int)) (by have:=h.2; omega);refine i_fn ?_;unfold b_show_number;walk_at "ts";refine iteD2 (fun c=>?_) (fun c=>?_)
 ·walk_at "ts";refine i_stI h1 ?_;unfold numT at q;rw[if_pos (by omega)] at q;walk_at "ts";exact q
 ·unfold numT at q;rw[if_neg (by omega)] at q;walk_at "ts";refine⟨_,rfl,h1,by rw[PySem.Str.length_append,slash_len]; omega,?_⟩;walk_at "ts";refine⟨_,rfl,h2,by rw[PySem.Str.length_append,PySem.Str.length_append,slash_len]; omega,?_⟩;walk_at "ts";exact q
theorem t_law_told {r:Rat}(h:Few60 r)(q:Q (.val (.str (numT r)))):m_law_told [.val (dNum r)] Q:=by
 have h1:=l2_60 h.1;have h2:=l2_60 (i:=(r.den:Int)) (by have:=h.2; omega);have h3:=txi_len h.1;have h4:=txi_len (i:=(r.den:Int)) (by have:=h.2; omega);refine i_fn ?_;unfold b_law_told;walk_at "ts";refine iteD2 (fun c=>?_) (fun c=>?_)
 ·unfold numT at q;rw[if_pos (by omega)] at q;walk_at "ts";refine i_stI h1 ?_;walk_at "ts";exact q
 ·unfold numT at q;rw[if_neg (by omega)] at q;walk_at "ts";unfold b_law_told_r1;walk_at "ts";refine i_stI h1 ?_;walk_at "ts";refine i_saK (by rw[PySem.Str.length_append,slash_len]; omega) ?_;walk_at "ts";refine i_stI h2 ?_;walk_at "ts";refine i_saK (by rw[PySem.Str.length_append,PySem.Str.length_append,slash_len]; omega) ?_;walk_at "ts";exact q
inductive Pt:D→PySem.Str→Prop
 | word (a:PySem.Str):a.length≤10→Pt (.str a) a
 | whole (n:Nat):n<10^60→Pt (.int (n:Int)) (txI (n:Int))
 | num (r:Rat):Few60 r→Pt (dNum r) (numT r)
theorem Pt.len {d:D}{a:PySem.Str}(h:Pt d a):a.length≤130:=by
 cases h with
 | word _ h=>omega
 | whole n h=>exact Nat.le_trans (tx_len n h) (by decide)
 | num r h=>exact numT_len h
theorem t_show_part {d:D}{a:PySem.Str}(h:Pt d a)(q:Q (.val (.str a))):dN [.val d] Q:=by
 refine i_fn ?_;unfold b_show_part
 cases h with
 | word a h=>
  walk_at "ts";exact q
 | whole n h=>
  walk_at "ts";refine i_stI (l2_60 (by omega)) ?_;walk_at "ts";exact q
 | num r h=>
  walk_at "ts";refine t_show_number h ?_;walk_at "ts";exact q
theorem Rw.pts {w:Rw}(h:w.Ok):∃ ps:List (D×PySem.Str),w.d=.tuple (ps.map fun p=>p.1)∧w.ws=ps.map (fun p=>p.2)∧(∀ p∈ps,Pt p.1 p.2)∧ps.length≤3∧∃ a r,ps=(.str a,a)::r∧a.length≤10:=by
 cases w with
 | deed n=>exact⟨[(.str "deed", "deed"),(.int (n:Int),txI (n:Int))],rfl,rfl,by
   intro p hp;simp only[List.mem_cons,List.not_mem_nil,or_false] at hp;rcases hp with rfl|rfl
   ·exact .word _ (by decide)
   ·exact .whole n h,(show 2≤3 by decide),_,_,rfl,by decide⟩
 | pas r n=>exact⟨[(.str "pass", "pass"),(dNum r,numT r),(.int (n:Int),txI (n:Int))],rfl,rfl,by
   intro p hp;simp only[List.mem_cons,List.not_mem_nil,or_false] at hp;rcases hp with rfl|rfl|rfl
   ·exact .word _ (by decide)
   ·exact .num r h.1
   ·exact .whole n h.2,(show 3≤3 by decide),_,_,rfl,by decide⟩
theorem join_ok {c k B:Nat}{ts:List PySem.Str}(hl:ts.length≤k)(hB:∀ y∈ts,y.length≤B)(h:k*B+k*1≤16777216):JoinOk ⟨#[c]⟩ ts=true:=by
 unfold JoinOk;rw[StrLaws.joinFits (sep:=⟨#[c]⟩) hB (Nat.le_trans (Nat.add_le_add (Nat.mul_le_mul_right _ hl) (Nat.mul_le_mul_right _ hl)) h)];rfl
theorem join_len {c k B:Nat}{ts:List PySem.Str}(hl:ts.length≤k)(hB:∀ y∈ts,y.length≤B):(Txt.join ⟨#[c]⟩ ts).length≤k*B+k:=by
 have h1:=StrLaws.join_length_le ⟨#[c]⟩ ts;have h2:=StrLaws.sumLen_le ts hB;have h3:ts.length*B≤k*B:=Nat.mul_le_mul_right _ hl;rw[show Txt.join ⟨#[c]⟩ ts=PySem.Str.join ⟨#[c]⟩ ts from StrLaws.glued_eq_join _ _];have e:PySem.Str.length ⟨#[c]⟩=1:=rfl;rw[e] at h1;omega
theorem Rw.tx_len {w:Rw}(h:w.Ok):w.tx.length≤400:=by
 obtain⟨ps,_,e,hp,hl,_⟩:=w.pts h;refine Nat.le_trans (join_len (k:=3) (B:=130) (by rw[e,List.length_map]; exact hl) fun y hy=>?_) (by decide);rw[e] at hy;obtain⟨p,hm,rfl⟩:=List.mem_map.mp hy;exact(hp p hm).len
theorem bk_len {ws:List Rw}(hl:ws.length≤30)(h:∀ w∈ws,w.Ok):(bkT ws).length≤20000:=by
 refine Nat.le_trans (join_len (k:=30) (B:=400) (by rw[List.length_map]; exact hl) fun y hy=>?_) (by decide);obtain⟨w,hm,rfl⟩:=List.mem_map.mp hy;exact Rw.tx_len (h w hm)
theorem t_show_lines {ws:List Rw}(hl:ws.length≤30)(h:∀ w∈ws,w.Ok)(q:Q (.val (.str (bkT ws)))):cW [.val (.list (ws.map Rw.d))] Q:=by
 refine i_fn ?_;unfold b_show_lines;walk_at "ts";refine⟨by rw[List.length_map]; omega,?_⟩;refine comp_fm (α:=Rw) (fun _=>true) (fun w=>.str w.tx) Rw.d ws [] _ (fun w hw _ k k0 h1 h0=>?_) ?_
 ·obtain⟨ps,e1,e2,hp,hl,_⟩:=w.pts (h w hw);rw[e1];walk_at "ts";refine i_yes ?_;walk_at "ts";refine⟨by rw[List.length_map]; omega,?_⟩;refine comp_fm (α:=D×PySem.Str) (fun _=>true) (fun p=>.str p.2) (fun p=>p.1) ps [] _ (fun p hm _ k' k0' h1' h0'=>?_) ?_
  ·walk_at "ts";refine i_yes ?_;walk_at "ts";refine t_show_part (hp p hm) ?_;walk_at "ts";exact h1' rfl
  ·have ef:List.filter (fun _=>true) ps=ps:=List.filter_eq_self.mpr fun _ _=>rfl;rw[ef,List.nil_append,show(ps.map fun p=>(PyData.str p.2:D))=w.ws.map PyData.str by rw[e2,List.map_map]; rfl];walk_at "ts";refine i_jnK (join_ok (k:=3) (B:=130) (by rw[e2,List.length_map]; exact hl) (fun y hy=>?_) (by decide)) ?_
   ·rw[e2] at hy;obtain⟨p,hm,rfl⟩:=List.mem_map.mp hy;exact(hp p hm).len
   ·walk_at "ts";exact h1 rfl
 ·have ef:List.filter (fun _=>true) ws=ws:=List.filter_eq_self.mpr fun _ _=>rfl;rw[ef,List.nil_append,show(ws.map fun w=>(PyData.str w.tx:D))=(ws.map Rw.tx).map PyData.str by rw[List.map_map]; rfl];walk_at "ts";refine i_jnK (join_ok (k:=30) (B:=400) (by rw[List.length_map]; exact hl) (fun y hy=>?_) (by decide)) ?_
  ·obtain⟨w,hm,rfl⟩:=List.mem_map.mp hy;exact Rw.tx_len (h w hm)
  ·walk_at "ts";exact q
theorem t_show_book {ws:List Rw}(hl:ws.length≤30)(h:∀ w∈ws,w.Ok)(q:Q (.val (.str (bkT ws)))):dM [.val (.list (ws.map Rw.d))] Q:=by
 refine i_fn ?_;unfold b_show_book;walk_at "ts";refine t_show_lines hl h ?_;walk_at "ts";exact q
end
section
variable {Q:Rv→Prop}
theorem eqv_st (a b:PySem.Str):PyData.eqv (.str a) (.str b)=decide (a=b):=by
 show(a==b)=decide (a=b)
 by_cases h:a=b
 ·subst h; simp
 ·rw[decide_eq_false h]; exact beq_eq_false_iff_ne.mpr h
theorem starts1 (x:PySem.Str)(c:Nat):Txt.startswith x ⟨#[c]⟩=decide (x.cps.toList[0]?=some c):=by
 unfold Txt.startswith
 have h:=StrLaws.subAt_one x c 0
 by_cases q:x.cps.toList[0]?=some c
 ·obtain⟨h1,h2⟩:=h.mpr q;rw[decide_eq_true q,h2,decide_eq_true h1];rfl
 ·rw[decide_eq_false q,Bool.and_eq_false_iff]
  by_cases z:0+(⟨#[c]⟩:PySem.Str).length≤x.length
  ·right
   cases e:Builtin.Str.subAt x ⟨#[c]⟩ 0
   ·rfl
   ·exact absurd (h.mp ⟨z,e⟩) q
  ·exact .inl (decide_eq_false z)
theorem at0 (c:Nat)(r:List Nat):atI (c::r) 0=some c:=by simp[atI,ixN]
theorem minus1:(("-" : PySem.Str))=⟨#[45]⟩:=rfl
theorem cut1 {x:PySem.Str}{c:Nat}{r:List Nat}(h:x.cps.toList=c::r):cutS x (some 1) none=⟨r.toArray⟩:=by
 have e:cutS x (some 1) none=StrLaws.sliceText x (some 1) none:=rfl;rw[e,StrLaws.sliceText_from ⟨by decide,by rw[h,List.length_cons]; omega⟩,h];simp
def Asc (a:PySem.Str):Prop:=∀ c∈a.cps.toList,c<128
theorem asc_of {a:PySem.Str}(h:(a.cps.toList.all fun c=>decide (c<128))=true):Asc a:=fun c hc=>of_decide_eq_true (List.all_eq_true.mp h c hc)
theorem asc_tx (i:Int):Asc (txI i):=fun c hc=>by have:=tx_signs i c hc; omega
theorem Asc.app {a b:PySem.Str}(ha:Asc a)(hb:Asc b):Asc (a++b):=fun c hc=>by
 rw[PySem.Str.cps_append,Array.toList_append] at hc;rcases List.mem_append.mp hc with z|z
 ·exact ha c z
 ·exact hb c z
theorem asc_num (r:Rat):Asc (numT r):=by
 unfold numT
 split
 ·exact asc_tx _
 ·exact((asc_tx _).app (asc_of (by decide +kernel))).app (asc_tx _)
theorem asc_join {d:Nat}(hd:d<128){ps:List PySem.Str}(h:∀ p∈ps,Asc p):Asc (Txt.join ⟨#[d]⟩ ps):=by
 rw[show Txt.join ⟨#[d]⟩ ps=PySem.Str.join ⟨#[d]⟩ ps from StrLaws.glued_eq_join _ _];intro c hc;apply Classical.byContradiction;intro n;exact join_free (c:=c) (d:=d) (by omega) (fun p hp q=>n (h p hp c q)) hc
theorem gd_st {a:PySem.Str}(h:Asc a):Gd 0 (.str a):=gd_str a (by
 show a.cps.all (fun c=>decide (c<0x110000))=true;rw[← Array.all_toList];exact List.all_eq_true.mpr fun c hc=>decide_eq_true (by have:=h c hc; omega))
theorem cB {a:PySem.Str}(h:Asc a):Good (.str a):=(gd_st h).good
theorem t_whole_in {n:Nat}(h:n<10^60)(q:Q (.val (.int (n:Int)))):bW [.val (.str (txI (n:Int)))] Q:=by
 have hl:=tx_len n h;have hs:=tx_nat n;have hne:=dg_ne n;have ln:(txI (n:Int)).cps.toList.length=(txI (n:Int)).length:=by simp[PySem.Str.length]
 refine i_fn ?_;unfold b_whole_in;walk_at "ts";refine⟨cB (asc_tx _),cB (asc_of (by decide +kernel)),?_⟩;rw[eqv_st,decide_eq_false (fun e=>hne (by rw[← hs,e]; rfl))];walk_at "ts";refine i_lsK (by omega) ?_;walk_at "ts";rw[decide_eq_false (show ¬((60:Int)<((txI (n:Int)).length:Int)) by omega)];walk_at "ts";refine⟨by unfold L2.VS.signs; rw[List.length_map,ln]; omega,?_⟩;refine comp_fm (α:=Nat) (fun _=>true) (fun _=>.bool true) (fun c=>.str ⟨#[c]⟩) (txI (n:Int)).cps.toList [] _ (fun c hc _ k k0 h1 h0=>?_) ?_
 ·walk_at "ts";refine i_yes ?_;walk_at "ts";rw[figs (dg_all n c (by rw[← hs]; exact hc))];exact h1 rfl
 ·have e:(([]:List D)++(List.filter (fun _=>true) (txI (n:Int)).cps.toList).map fun _=>PyData.bool true)=(List.replicate (txI (n:Int)).cps.toList.length true).map PyData.bool:=by
   rw[List.filter_eq_self.mpr fun _ _=>rfl,List.nil_append,List.map_replicate];exact List.map_const'
  walk_at "ts";rw[e,boolsD_map];walk_at "ts";rw[show(List.replicate (txI (n:Int)).cps.toList.length true).all id=true by simp];walk_at "ts";unfold b_whole_in_r2;walk_at "ts";obtain⟨c,r,hcr⟩:∃ c r,dg n=c::r:=List.exists_cons_of_ne_nil hne;refine i_xsK (c:=c) (by omega) (by rw[hs,hcr]; exact at0 c r) ?_;walk_at "ts";refine⟨cB (fun x hx=>by
   have:x=c:=by simpa using hx
   rw[this];exact asc_tx (n:Int) c (by rw[hs,hcr]; simp)),cB (asc_of (by decide +kernel)),?_⟩
  have fin:b_whole_in_r1 [.val (.str (txI (n:Int))),.no] fun fl=>match fl with
   | .rt rv=>Q rv
   | _=>False:=by
   unfold b_whole_in_r1;walk_at "ts";refine i_inK (tx_reads n h) (by omega) ?_;walk_at "ts";exact q
  rw[eqv_st]
  by_cases z:(⟨#[c]⟩:PySem.Str) = "0"
  ·rw[decide_eq_true z];have c48:c=48:=by
    have:=congrArg (fun s:PySem.Str=>s.cps.toList) z;have e:(PySem.Str.ofString "0").cps.toList=[48]:=by decide +kernel
    simpa [e] using this
   have n0:n=0:=dg_head n (by rw[hcr,c48]; rfl);subst n0;walk_at "ts";refine⟨cB (asc_tx _),cB (asc_of (by decide +kernel)),?_⟩;rw[eqv_st,decide_eq_true (show txI ((0:Nat):Int) = "0" from rfl)];walk_at "ts";exact fin
  ·rw[decide_eq_false z];walk_at "ts";exact fin
end
section
variable {Q:Rv→Prop}
theorem t_top_in {i:Int}(h:i.natAbs<10^60)(q:Q (.val (.int i))):m_top_in [.val (.str (txI i))] Q:=by
 refine i_fn ?_;unfold b_top_in;rcases Int.eq_nat_or_neg i with⟨m,rfl|rfl⟩
 ·walk_at "ts";rw[minus1,starts1,decide_eq_false (by
   rw[tx_nat];intro e;have:=dg_all m 45 (List.mem_of_getElem? e);omega)]
  walk_at "ts";refine t_whole_in (by omega) ?_;walk_at "ts";exact q
 ·by_cases z:0<m
  ·walk_at "ts";rw[minus1,starts1,decide_eq_true (by rw[tx_neg z]; rfl)];walk_at "ts";unfold b_top_in_r1;walk_at "ts";refine i_sliK (by have:=txi_len h; omega) ?_;walk_at "ts";rw[cut1 (tx_neg z),show(⟨(dg m).toArray⟩:PySem.Str)=txI (m:Int) from str_ext (by rw[tx_nat])];refine t_whole_in (by omega) ?_;walk_at "ts";rw[decide_eq_false (show ¬((m:Int)=0) by omega)];walk_at "ts";exact q
  ·have:m=0:=by omega
   subst this;walk_at "ts";rw[minus1,starts1,decide_eq_false (by decide +kernel)];walk_at "ts";refine t_whole_in (n:=0) (by decide) ?_;walk_at "ts";exact q
theorem t_is_number {t:Rat}(q:Q (.val (.bool true))):dI [.val (dNum t)] Q:=by
 refine i_fn ?_;unfold b_is_number;walk_at "ws";refine i_oQ (d:=.int 2) rfl ?_;walk_at "ws";rw[decide_eq_true rfl];walk_at "ws";unfold b_is_number_r2;walk_at "ws";refine t_whole ?_;walk_at "ws";refine t_whole ?_;walk_at "ws";unfold b_is_number_r1;walk_at "ws";have hd:=t.den_pos;rw[decide_eq_true (show(1:Int)≤(t.den:Int) by omega)];walk_at "ws";refine t_gcd ?_;have e:Int.gcd t.num t.den=1:=t.reduced;rw[e];walk_at "ws";exact q
theorem free_tx {c:Nat}(hc:c<45∨45<c∧c<48∨57<c)(i:Int):c∉(txI i).cps.toList:=fun h=>by
 have:=tx_signs i c h;omega
theorem slash1:(("/" : PySem.Str))=⟨#[47]⟩:=rfl
theorem split_num (r:Rat):Txt.split (numT r) ⟨#[47]⟩=if r.den=1 then[txI r.num] else[txI r.num,txI (r.den:Int)]:=by
 have f1:∀ i,47∉(txI i).cps.toList:=free_tx (by decide);unfold numT
 split
 ·exact split_join (ps:=[txI r.num]) (List.cons_ne_nil _ _) fun p hp=>by rw[List.mem_singleton.mp hp]; exact f1 _
 ·exact split_join (ps:=[txI r.num,txI (r.den:Int)]) (List.cons_ne_nil _ _) fun p hp=>by
   simp only[List.mem_cons,List.not_mem_nil,or_false] at hp;rcases hp with rfl|rfl<;>exact f1 _
theorem t_number_in {r:Rat}(h:Few60 r)(q:Q (.val (dNum r))):dJ [.val (.str (numT r))] Q:=by
 have hl:=numT_len h;have hd:=r.den_pos;refine i_fn ?_;unfold b_number_in;walk_at "ts";have sp:=split_num r;rw[slash1]
 by_cases z:r.den=1
 ·rw[if_pos z] at sp;refine i_spK rfl (by omega) (by rw[sp]; exact Nat.le_of_ble_eq_true rfl) ?_;rw[sp];walk_at "ts";refine i_oQ (d:=.int 1) rfl ?_;walk_at "ts";rw[decide_eq_false (show ¬((2:Int)<1) by decide)];walk_at "ts";unfold b_number_in_r2;walk_at "ts";refine i_oQ (d:=.str (txI r.num)) rfl ?_;walk_at "ts";refine t_top_in h.1 ?_;walk_at "ts";refine i_oQ (d:=.int 1) rfl ?_;walk_at "ts";rw[decide_eq_true (show(1:Int)=1 from rfl)];walk_at "ts";unfold dNum at q;rw[z] at q;exact q
 ·rw[if_neg z] at sp;refine i_spK rfl (by omega) (by rw[sp]; exact Nat.le_of_ble_eq_true rfl) ?_;rw[sp];walk_at "ts";refine i_oQ (d:=.int 2) rfl ?_;walk_at "ts";rw[decide_eq_false (show ¬((2:Int)<2) by decide)];walk_at "ts";unfold b_number_in_r2;walk_at "ts";refine i_oQ (d:=.str (txI r.num)) rfl ?_;walk_at "ts";refine t_top_in h.1 ?_;walk_at "ts";refine i_oQ (d:=.int 2) rfl ?_;walk_at "ts";rw[decide_eq_false (show ¬((2:Int)=1) by decide)];walk_at "ts";unfold b_number_in_r1;walk_at "ts";refine i_oQ (d:=.str (txI (r.den:Int))) rfl ?_;walk_at "ts";refine t_whole_in h.2 ?_;walk_at "ts";rw[decide_eq_false (show ¬((r.den:Int)=1) by omega)];walk_at "ts";refine t_is_number ?_;walk_at "ts";exact q
end
section
variable {ma:ME}{Γ:En}
theorem i_tupL {Q:D→En→Prop}(h:ma Γ (tlK Q)):mTupL ma Γ Q:=h
theorem i_tlK {Q:D→En→Prop}{ds:List D}(h:Q (.tuple ds) Γ):tlK Q (.list ds) Γ:=⟨ds,rfl,h⟩
theorem i_fmGet {i:Nat}{Q:D→En→Prop}{fs:List (PySem.Str×D)}(h0:Γ[i]?=some (.pub (pFm fs)))(h:ma Γ fun x Γ1=>∃ fs a,Γ1[i]?=some (.pub (pFm fs))∧x=.str a∧Q ((fmAt fs a).getD .none) Γ1):mFmGet i ma Γ Q:=⟨⟨fs,h0⟩,h⟩
theorem i_psN {Q:List (PySem.Str×D)→En→Prop}(h:Q [] Γ):mPsN Γ Q:=h
theorem i_psC {a:PySem.Str}{r:MPs}{Q:List (PySem.Str×D)→En→Prop}(h:ma Γ fun d Γ1=>r Γ1 fun fs Γ2=>Q ((a,d)::fs) Γ2):mPsC a ma r Γ Q:=h
theorem i_aDisp {mp:MPs}{mr:MA}{Q:List Sl→En→Prop}(h:mp Γ fun fs Γ1=>fs.length≤15∧(fs.map fun f=>f.1).Nodup∧mr Γ1 fun xs Γ2=>Q (.pub (pFm fs)::xs) Γ2):aDisp mp mr Γ Q:=h
end
section
variable {Q:Rv→Prop}
theorem ad (x:PySem.Str)(h:(x.cps.toList.all fun c=>decide (c<128))=true:=by decide +kernel):Asc x:=asc_of h
inductive Kd:PySem.Str→D→PySem.Str→Prop
 | whole (n:Nat):n<10^60→Kd "whole" (.int (n:Int)) (txI (n:Int))
 | num (r:Rat):Few60 r→Kd "number" (dNum r) (numT r)
theorem t_thing_in {k a:PySem.Str}{d:D}(h:Kd k d a)(q:Q (.val d)):m_thing_in [.val (.str k),.val (.str a)] Q:=by
 refine i_fn ?_;unfold b_thing_in
 cases h with
 | whole n h=>
  walk_at "ts";refine⟨cB (ad _),cB (ad _),?_⟩;rw[eqv_st,decide_eq_false (by decide +kernel)];walk_at "ts";refine t_whole_in h ?_;walk_at "ts";exact q
 | num r h=>
  walk_at "ts";refine⟨cB (ad _),cB (ad _),?_⟩;rw[eqv_st,decide_eq_true rfl];walk_at "ts";refine t_number_in h ?_;walk_at "ts";exact q
theorem ixL0 (x:D)(xs:List D):ixD (.list (x::xs)) (.int 0)=some x:=by simp[ixD,atI,ixN]
def forms:List (PySem.Str×D):=[("deed", .tuple [.str "whole"]),("pass", .tuple [.str "number", .str "whole"])]
theorem Rw.kds {w:Rw}(h:w.Ok):∃(a:PySem.Str) (ps:List (PySem.Str×D×PySem.Str)),w.d=.tuple (.str a::ps.map fun p=>p.2.1)∧w.ws=a::ps.map (fun p=>p.2.2)∧fmAt forms a=some (.tuple (ps.map fun p=>.str p.1))∧(∀ p∈ps,Kd p.1 p.2.1 p.2.2)∧ps.length≤2∧Asc a∧32∉a.cps.toList∧10∉a.cps.toList∧a ≠ "" := by
 cases w with
 | deed n=>exact⟨"deed", [("whole", .int (n:Int),txI (n:Int))],rfl,rfl,rfl,fun p hp=>by rw[List.mem_singleton.mp hp]; exact .whole n h,(show 1≤2 by decide),ad _,by decide +kernel,by decide +kernel,by decide +kernel⟩
 | pas r n=>exact⟨"pass", [("number", dNum r,numT r),("whole", .int (n:Int),txI (n:Int))],rfl,rfl,rfl,fun p hp=>by
   simp only[List.mem_cons,List.not_mem_nil,or_false] at hp;rcases hp with rfl|rfl
   ·exact .num r h.1
   ·exact .whole n h.2,(show 2≤2 by decide),ad _,by decide +kernel,by decide +kernel,by decide +kernel⟩
theorem free_num {c:Nat}(hc:c<45∨57<c)(r:Rat):c∉(numT r).cps.toList:=by
 unfold numT
 split
 ·exact free_tx (by omega) _
 ·rw[PySem.Str.cps_append,PySem.Str.cps_append,Array.toList_append,Array.toList_append];intro h;rcases List.mem_append.mp h with z|z
  ·rcases List.mem_append.mp z with y|y
   ·exact free_tx (by omega) _ y
   ·have:(PySem.Str.ofString "/").cps.toList=[47]:=by decide +kernel
    rw[this] at y;have:=List.mem_singleton.mp y;omega
  ·exact free_tx (by omega) _ z
theorem Kd.free {k a:PySem.Str}{d:D}(h:Kd k d a){c:Nat}(hc:c<45):c∉a.cps.toList:=by
 cases h with
 | whole n _=>exact free_tx (by omega) _
 | num r _=>exact free_num (by omega) r
theorem Kd.asc {k a:PySem.Str}{d:D}(h:Kd k d a):Asc a:=by
 cases h with
 | whole n _=>exact asc_tx _
 | num r _=>exact asc_num r
theorem Kd.gd {k a:PySem.Str}{d:D}(h:Kd k d a):Gd 1 d:=by
 cases h with
 | whole n _=>exact(gd_int _).mono
 | num r _=>exact gd_num r
theorem Kd.some {k a:PySem.Str}{d:D}(h:Kd k d a):PyData.eqv d .none=false:=by
 cases h<;>rfl
theorem blank1:((" " : PySem.Str))=⟨#[32]⟩:=rfl
theorem lf1:(("\n" : PySem.Str))=⟨#[10]⟩:=rfl
theorem Rw.split {w:Rw}(h:w.Ok):Txt.split w.tx ⟨#[32]⟩=w.ws:=by
 obtain⟨a,ps,_,e,_,hk,_,_,h32,_⟩:=w.kds h;refine split_join (by rw[e]; exact List.cons_ne_nil _ _) fun p hp=>?_;rw[e] at hp;rcases List.mem_cons.mp hp with rfl|z
 ·exact h32
 ·obtain⟨y,hy,rfl⟩:=List.mem_map.mp z;exact(hk y hy).free (by decide)
theorem cut_1 (x:D)(xs:List D):VS.cutD (x::xs) (some 1) none=xs:=by simp[VS.cutD,HT.sIx]
theorem zipD_map {α:Type}(f g:α→D)(xs:List α):zipD (xs.map f) (xs.map g)=xs.map fun x=>.tuple [f x,g x]:=by
 unfold zipD;rw[List.zip_map'];rw[List.map_map];rfl
theorem t_parts_in {w:Rw}(h:w.Ok)(q:Q (.val w.d)):m_parts_in [.val (.str w.tx),.pub (pFm forms)] Q:=by
 obtain⟨a,ps,e1,e2,ef,hk,hl,ha,_,_,_⟩:=w.kds h;have hw:=Rw.tx_len h;have sp:=Rw.split h;rw[e2] at sp;rw[e1] at q;refine i_fn ?_;unfold b_parts_in;walk_at "ts";rw[blank1];refine i_spK rfl (by omega) (by rw[sp]; simp; omega) ?_;rw[sp,List.map_cons];walk_at "ts";refine i_fmGet rfl ?_;walk_at "ts";refine i_oQ (ixL0 _ _) ?_;refine⟨forms,a,rfl,rfl,?_⟩;rw[ef,Option.getD_some];walk_at "ts";refine i_oQ (d:=.int ((ps.length:Int)+1)) (by simp[lenD]) ?_;walk_at "ts";refine i_oQ (d:=.int (ps.length:Int)) (by simp[lenD]) ?_;walk_at "ts";rw[decide_eq_true rfl];walk_at "ts";unfold b_parts_in_r2;walk_at "ts";refine i_oQ (ixL0 _ _) ?_;walk_at "ts";rw[show VS.cutD (PyData.str a::List.map PyData.str (List.map (fun p=>p.2.2) ps)) (some 1) none=ps.map fun p=>PyData.str p.2.2 by
  rw[List.map_map]; exact cut_1 _ _,zipD_map]
 refine for_inv (fun i Γ=>∃ x y,Γ=[.val (.str w.tx),.pub (pFm forms),.val (.list (.str a::List.map PyData.str (List.map (fun p=>p.2.2) ps))),.val (.tuple (ps.map fun p=>.str p.1)),.own (.str a::(ps.take i).map fun p=>p.2.1),x,y]) ⟨_,_,rfl⟩ ?_ ?_
 ·rintro i d Γ K hd ⟨x,y,rfl⟩ hK;rw[List.getElem?_map] at hd;obtain⟨p,hp,rfl⟩:=Option.map_eq_some_iff.mp hd;have hpm:=List.mem_of_getElem? hp;have hi:=(List.getElem?_eq_some_iff.mp hp).1;unfold b_parts_in_l1;walk_at "ts";refine t_thing_in (hk p hpm) ?_;walk_at "ts";refine i_appK (ds:=.str a::(ps.take i).map fun p=>p.2.1) rfl (by simp; omega) ?_;refine hK.nx _ ⟨.val (.str p.1),.val (.str p.2.2),?_⟩;have et:(ps.take (i+1)).map (fun p=>p.2.1)=(ps.take i).map (fun p=>p.2.1)++[p.2.1]:=by
   rw[List.take_add_one,hp,List.map_append];rfl
  rw[et];rfl
 ·rintro Γ ⟨x,y,rfl⟩;rw[List.length_map,List.take_length];unfold b_parts_in_r1;walk_at "ts";refine⟨good_none,?_,?_⟩
  ·refine gd_goods (n:=1) fun d hd=>?_;rcases List.mem_cons.mp hd with rfl|z
   ·exact(gd_st ha).mono
   ·obtain⟨p,hp,rfl⟩:=List.mem_map.mp z;exact(hk p hp).gd
  ·have e:((PyData.str a::ps.map fun p=>p.2.1).any fun e=>PyData.eqv e .none)=false:=by
    rw[List.any_cons,show PyData.eqv (.str a) .none=false from rfl,Bool.false_or,List.any_map,List.any_eq_false];intro p hp;rw[show((fun e=>PyData.eqv e .none)∘fun p:PySem.Str×D×PySem.Str=>p.2.1) p=PyData.eqv p.2.1 .none from rfl,(hk p hp).some];exact Bool.false_ne_true
   rw[if_neg Bool.false_ne_true,e];walk_at "ts";refine i_tlK ?_;walk_at "ts";exact q
theorem t_row_in {w:Rw}(h:w.Ok)(q:Q (.val w.d)):m_row_in [.val (.str w.tx)] Q:=by
 refine i_fn ?_;unfold b_row_in;walk_at "ts";refine i_aDisp ?_;refine i_psC ?_;walk_at "ts";refine i_psC ?_;walk_at "ts";refine i_psN ?_;refine⟨(show 2≤15 by decide),(show([("deed" : PySem.Str),("pass" : PySem.Str)]:List PySem.Str).Nodup by decide +kernel),?_⟩;walk_at "ts";exact t_parts_in h q
theorem Rw.ne {w:Rw}(h:w.Ok):w.tx ≠ "" := by
 obtain⟨a,ps,_,e,_,_,_,_,_,_,hne⟩:=w.kds h;intro z;apply hne;have:=Rw.split h;rw[z,e,show Txt.split ("" : PySem.Str) ⟨#[32]⟩=[("" : PySem.Str)] from by decide +kernel] at this;injection this with q _;exact q.symm
theorem Rw.lf {w:Rw}(h:w.Ok):10∉w.tx.cps.toList:=by
 obtain⟨a,ps,_,e,_,hk,_,_,_,h10,_⟩:=w.kds h;unfold Rw.tx;rw[show Txt.join ⟨#[32]⟩ w.ws=PySem.Str.join ⟨#[32]⟩ w.ws from StrLaws.glued_eq_join _ _];refine join_free (by decide) fun p hp=>?_;rw[e] at hp;rcases List.mem_cons.mp hp with rfl|z
 ·exact h10
 ·obtain⟨y,hy,rfl⟩:=List.mem_map.mp z;exact(hk y hy).free (by decide)
theorem Rw.asc {w:Rw}(h:w.Ok):Asc w.tx:=by
 obtain⟨a,ps,_,e,_,hk,_,ha,_⟩:=w.kds h;refine asc_join (by decide) fun p hp=>?_;rw[e] at hp;rcases List.mem_cons.mp hp with rfl|z
 ·exact ha
 ·obtain⟨y,hy,rfl⟩:=List.mem_map.mp z;exact(hk y hy).asc
theorem bk_split {ws:List Rw}(hn:ws≠[])(h:∀ w∈ws,w.Ok):Txt.split (bkT ws) ⟨#[10]⟩=ws.map Rw.tx:=by
 refine split_join (fun z=>hn (List.map_eq_nil_iff.mp z)) fun p hp=>?_;obtain⟨w,hw,rfl⟩:=List.mem_map.mp hp;exact Rw.lf (h w hw)
theorem bk_asc {ws:List Rw}(h:∀ w∈ws,w.Ok):Asc (bkT ws):=asc_join (by decide) fun p hp=>by
 obtain⟨w,hw,rfl⟩:=List.mem_map.mp hp;exact Rw.asc (h w hw)
theorem bk_ne {ws:List Rw}(hn:ws≠[])(h:∀ w∈ws,w.Ok):bkT ws ≠ "" := by
 intro z;have e:=bk_split hn h;rw[z,show Txt.split ("" : PySem.Str) ⟨#[10]⟩=[("" : PySem.Str)] from by decide +kernel] at e
 match ws,hn,e with
 | w::r,_,e=>
  injection e with q _;exact Rw.ne (h w (List.mem_cons_self ..)) q.symm
theorem t_lines_in {ws:List Rw}(hl:ws.length≤30)(h:∀ w∈ws,w.Ok)(q:Q (.own ((ws.map Rw.tx).map PyData.str))):m_lines_in [.val (.str (bkT ws))] Q:=by
 have hb:=bk_len hl h;refine i_fn ?_;unfold b_lines_in;walk_at "ts";unfold b_lines_in_r1;walk_at "ts";refine⟨cB (bk_asc h),cB (ad _),?_⟩;rw[eqv_st]
 by_cases z:ws=[]
 ·subst z;rw[decide_eq_true (show bkT [] = "" from rfl)];walk_at "ts";exact q
 ·rw[decide_eq_false (bk_ne z h)];walk_at "ts";rw[lf1];refine i_spK rfl (by omega) (by rw[bk_split z h]; simp; omega) ?_;rw[bk_split z h];walk_at "ts";exact q
theorem gd_row {w:Rw}(h:w.Ok):Gd 2 w.d:=by
 obtain⟨a,ps,e,_,_,hk,_,ha,_⟩:=w.kds h;rw[e];refine gd_tup (n:=1) fun d hd=>?_;rcases List.mem_cons.mp hd with rfl|z
 ·exact(gd_st ha).mono
 ·obtain⟨p,hp,rfl⟩:=List.mem_map.mp z;exact(hk p hp).gd
theorem t_read_book {ws:List Rw}(hl:ws.length≤30)(h:∀ w∈ws,w.Ok)(q:Q (.own (ws.map Rw.d))):dO [.val (.str (bkT ws))] Q:=by
 refine i_fn ?_;unfold b_read_book;walk_at "ts";refine t_lines_in hl h ?_;walk_at "ts";refine⟨by simp; omega,?_⟩;rw[List.map_map];refine comp_fm (α:=Rw) (fun _=>true) Rw.d (PyData.str∘Rw.tx) ws [] _ (fun w hw _ k k0 h1 h0=>?_) ?_
 ·walk_at "ts";refine i_yes ?_;walk_at "ts";refine t_row_in (h w hw) ?_;walk_at "ts";exact h1 rfl
 ·rw[List.filter_eq_self.mpr fun _ _=>rfl,List.nil_append];walk_at "ts";refine i_fn ?_;unfold cV;walk_at "ts";refine⟨good_none,gd_goods (n:=2) fun d hd=>?_,?_⟩
  ·obtain⟨w,hw,rfl⟩:=List.mem_map.mp hd;exact gd_row (h w hw)
  ·have e:((ws.map Rw.d).any fun e=>PyData.eqv e .none)=false:=by
    rw[List.any_map,List.any_eq_false];intro w _
    cases w<;>exact Bool.false_ne_true
   rw[if_neg Bool.false_ne_true,e];walk_at "ts";exact q
end
section
variable {Q:Rv→Prop}
theorem cutT1 (x:D)(xs:List D):¬(HT.sIx (x::xs).length 0 (some 1)=0∧HT.sIx (x::xs).length (x::xs).length none=(x::xs).length):=by
 rintro⟨h,_⟩
 simp[HT.sIx] at h
theorem t_law_lines_of {ws:List Rw}(hl:ws.length≤30)(h:∀ w∈ws,w.Ok)(q:Q (.val (.str (bkT ws)))):cT [.val (.list (ws.map Rw.d))] Q:=by
 refine i_fn ?_;unfold b_law_lines_of;walk_at "ts";refine for_inv (fun i Γ=>∃ x y z,Γ=[.val (.list (ws.map Rw.d)),.own ((ws.take i).map fun w=>.str w.tx),x,y,z]) ⟨_,_,_,rfl⟩ ?_ ?_
 ·rintro i d Γ K hd ⟨x,y,z,rfl⟩ hK;rw[List.getElem?_map] at hd;obtain⟨w,hw,rfl⟩:=Option.map_eq_some_iff.mp hd;have hwm:=List.mem_of_getElem? hw;have hi:=(List.getElem?_eq_some_iff.mp hw).1;obtain⟨ps,e1,e2,hp,hps,a,r,rfl,ha⟩:=w.pts (h w hwm);rw[e1,List.map_cons];unfold b_law_lines_of_l2;walk_at "ts";refine i_oQ (by simp[ixD,atI,ixN]; rfl) ?_;walk_at "ts";refine⟨cutT1 _ _,?_⟩;rw[cut_1];walk_at "ts";refine for_inv (fun j Γ=>∃ z,Γ=[.val (.list (ws.map Rw.d)),.own ((ws.take i).map fun w=>.str w.tx),.val (.tuple (.str a::r.map fun p=>p.1)),.own (.str a::(r.take j).map fun p=>.str p.2),z]) ⟨_,rfl⟩ ?_ ?_
  ·rintro j d Γ K2 hd ⟨z,rfl⟩ hK2;rw[List.getElem?_map] at hd;obtain⟨p,hpj,rfl⟩:=Option.map_eq_some_iff.mp hd;have hpm:=List.mem_of_getElem? hpj;have hj:=(List.getElem?_eq_some_iff.mp hpj).1;have et:((r.take (j+1)).map fun p=>(PyData.str p.2:D))=(r.take j).map (fun p=>.str p.2)++[.str p.2]:=by
    rw[List.take_add_one,hpj,List.map_append];rfl
   have hjl:(.str a::(r.take j).map fun p=>(PyData.str p.2:D)).length≤5:=by
    simp only[List.length_cons,List.length_map,List.length_take] at hps ⊢;omega
   obtain⟨d,b⟩:=p;have hpt:Pt d b:=hp (d,b) (List.mem_cons_of_mem _ hpm);have fin:∀ v,K2 (.nx [.val (.list (ws.map Rw.d)),.own ((ws.take i).map fun w=>.str w.tx),.val (.tuple (.str a::r.map fun p=>p.1)),.own (.str a::(r.take j).map (fun p=>.str p.2)++[.str b]),v]):=fun v=>
    hK2.nx _ ⟨v,by rw[et]; rfl⟩
   unfold b_law_lines_of_l1
   cases hpt with
   | word b hb=>
    walk_at "ts";refine i_appK (ds:=.str a::(r.take j).map fun p=>.str p.2) rfl (by omega) ?_;exact fin _
   | whole n hn=>
    walk_at "ts";refine i_stI (l2_60 (by omega)) ?_;walk_at "ts";refine i_appK (ds:=.str a::(r.take j).map fun p=>.str p.2) rfl (by omega) ?_;exact fin _
   | num t ht=>
    walk_at "ts";refine t_law_told ht ?_;walk_at "ts";refine i_appK (ds:=.str a::(r.take j).map fun p=>.str p.2) rfl (by omega) ?_;exact fin _
  ·rintro Γ ⟨z,rfl⟩;rw[List.length_map,List.take_length];unfold b_law_lines_of_r2;walk_at "ts";rw[show(PyData.str a::r.map fun p=>(PyData.str p.2:D))=w.ws.map PyData.str by rw[e2,List.map_cons,List.map_cons,List.map_map]; rfl];refine i_jnK (join_ok (k:=3) (B:=130) (by rw[e2,List.length_map]; exact hps) (fun y hy=>?_) (by decide)) ?_
   ·rw[e2] at hy;obtain⟨p,hm,rfl⟩:=List.mem_map.mp hy;exact(hp p hm).len
   ·refine i_appK (ds:=(ws.take i).map fun w=>.str w.tx) rfl (by rw[List.length_map,List.length_take]; omega) ?_;refine hK.nx _ ⟨.val (.tuple (.str a::r.map fun p=>p.1)),.val (.list (w.ws.map PyData.str)),z,?_⟩
    ·have et:((ws.take (i+1)).map fun w=>(PyData.str w.tx:D))=(ws.take i).map (fun w=>.str w.tx)++[.str w.tx]:=by
      rw[List.take_add_one,hw,List.map_append];rfl
     rw[et];rfl
 ·rintro Γ ⟨x,y,z,rfl⟩;rw[List.length_map,List.take_length];unfold b_law_lines_of_r1;walk_at "ts";rw[show(ws.map fun w=>(PyData.str w.tx:D))=(ws.map Rw.tx).map PyData.str by rw[List.map_map]; rfl];refine i_jnK (join_ok (k:=30) (B:=400) (by rw[List.length_map]; exact hl) (fun y hy=>?_) (by decide)) ?_
  ·obtain⟨w,hm,rfl⟩:=List.mem_map.mp hy;exact Rw.tx_len (h w hm)
  ·walk_at "ts";exact q
end
section
variable {Q:Rv→Prop}{c:Fm}
theorem al_int {i:Int}(q:Q (.val (.bool true))):mFn 1 (bG c) [.val (.int i),.val (.int i)] Q:=by
 refine i_fn ?_;unfold bG;walk_at "ts";refine i_isi2 ?_;walk_at "ts";refine iteF ?_;walk_at "ts";unfold eQ;walk_at "ts";rw[decide_eq_true (show subT (cO (PyData.int i)) "str" = subT (cO (PyData.int i)) "str" from rfl)];walk_at "ts";unfold eO;walk_at "ts";rw[decide_eq_true rfl];exact q
theorem al_str {a:PySem.Str}(h:Asc a)(q:Q (.val (.bool true))):mFn 1 (bG c) [.val (.str a),.val (.str a)] Q:=by
 refine i_fn ?_;unfold bG;walk_at "ts";refine i_isi2 ?_;walk_at "ts";refine iteF ?_;walk_at "ts";unfold eQ;walk_at "ts";rw[decide_eq_true (show subT (cO (PyData.str a)) "str" = subT (cO (PyData.str a)) "str" from rfl)];walk_at "ts";unfold eO;walk_at "ts";refine⟨cB h,cB h,?_⟩;rw[eqv_st,decide_eq_true rfl];walk_at "ts";exact q
theorem ix_at {ds:List D}{i:Nat}{d:D}(h:ds[i]?=some d):atI ds (0+(i:Int))=some d:=by
 have hi:=(List.getElem?_eq_some_iff.mp h).1;unfold atI ixN;rw[Int.zero_add,if_pos (by omega),if_pos (by omega)];simpa using h
theorem al_all {ds:List D}{mg:MG}{mt:MT}{me:ME}{Γb:En}{K:List D→Prop}(h:∀(i:Nat) (d:D),ds[i]?=some d→∀(k:D→Prop) (k0:Prop),k (.bool true)→mg (.int (0+(i:Int))) Γb fun Γ1=>mt Γ1 fun b Γ2=>if b=true then me Γ2 fun v _=>k v else k0)
  (q:K ((List.replicate ds.length true).map PyData.bool)):compL mg mt me Γb (rangeD 0 ds.length) [] K:=by
 unfold rangeD;refine comp_fm (α:=Nat) (fun _=>true) (fun _=>.bool true) (fun i=>.int (0+(i:Int))) (List.range ds.length) [] _ (fun i hi _ k k0 h1 h0=>?_) ?_
 ·have hi:=List.mem_range.mp hi;exact h i _ (List.getElem?_eq_getElem hi) k k0 (h1 rfl)
 ·rw[List.filter_eq_self.mpr fun _ _=>rfl,List.nil_append,show(List.range ds.length).map (fun _=>(PyData.bool true:D))=(List.replicate ds.length true).map PyData.bool by
   rw[List.map_replicate,List.map_const',List.length_range]]
  exact q
theorem al_lst {ds:List D}(hl:ds.length≤1000)(hc:∀ d∈ds,∀ Q:Rv→Prop,Q (.val (.bool true))→c [.val d,.val d] Q)(q:Q (.val (.bool true))):mFn 1 (bG c) [.val (.list ds),.val (.list ds)] Q:=by
 refine i_fn ?_;unfold bG;walk_at "ts";refine i_isi2 ?_;walk_at "ts";refine iteT ?_;walk_at "ts";rw[decide_eq_true (show subT (cO (PyData.list ds)) "list" = subT (cO (PyData.list ds)) "list" from rfl)];walk_at "ts";rw[decide_eq_true (show subT (cO (PyData.list ds)) "tuple" = subT (cO (PyData.list ds)) "tuple" from rfl)];walk_at "ts";unfold eV;walk_at "ts";refine i_oQ (d:=.int (ds.length:Int)) rfl ?_;walk_at "ts";refine i_oQ (d:=.int (ds.length:Int)) rfl ?_;walk_at "ts";rw[decide_eq_true rfl];walk_at "ts";refine i_oQ (d:=.int (ds.length:Int)) rfl ?_;walk_at "ts";refine⟨by omega,by omega,?_⟩;rw[Int.toNat_natCast];refine⟨by unfold rangeD; simp; omega,?_⟩;refine al_all (fun i d hd k k0 h1=>?_) ?_
 ·walk_at "ts";refine i_yes ?_;walk_at "ts";refine i_oQ (show ixD (.list ds) (.int (0+(i:Int)))=some d from ix_at hd) ?_;walk_at "ts";refine i_oQ (show ixD (.list ds) (.int (0+(i:Int)))=some d from ix_at hd) ?_;walk_at "ts";refine hc d (List.mem_of_getElem? hd) _ ?_;walk_at "ts";exact h1
 ·walk_at "ts";rw[boolsD_map];walk_at "ts";rw[show(List.replicate ds.length true).all id=true by simp];exact q
theorem al_tup {ds:List D}(hl:ds.length≤1000)(hc:∀ d∈ds,∀ Q:Rv→Prop,Q (.val (.bool true))→c [.val d,.val d] Q)(q:Q (.val (.bool true))):mFn 1 (bG c) [.val (.tuple ds),.val (.tuple ds)] Q:=by
 refine i_fn ?_;unfold bG;walk_at "ts";refine i_isi2 ?_;walk_at "ts";refine iteT ?_;walk_at "ts";rw[decide_eq_true (show subT (cO (PyData.tuple ds)) "list" = subT (cO (PyData.tuple ds)) "list" from rfl)];walk_at "ts";rw[decide_eq_true (show subT (cO (PyData.tuple ds)) "tuple" = subT (cO (PyData.tuple ds)) "tuple" from rfl)];walk_at "ts";unfold eV;walk_at "ts";refine i_oQ (d:=.int (ds.length:Int)) rfl ?_;walk_at "ts";refine i_oQ (d:=.int (ds.length:Int)) rfl ?_;walk_at "ts";rw[decide_eq_true rfl];walk_at "ts";refine i_oQ (d:=.int (ds.length:Int)) rfl ?_;walk_at "ts";refine⟨by omega,by omega,?_⟩;rw[Int.toNat_natCast];refine⟨by unfold rangeD; simp; omega,?_⟩;refine al_all (fun i d hd k k0 h1=>?_) ?_
 ·walk_at "ts";refine i_yes ?_;walk_at "ts";refine i_oQ (show ixD (.tuple ds) (.int (0+(i:Int)))=some d from ix_at hd) ?_;walk_at "ts";refine i_oQ (show ixD (.tuple ds) (.int (0+(i:Int)))=some d from ix_at hd) ?_;walk_at "ts";refine hc d (List.mem_of_getElem? hd) _ ?_;walk_at "ts";exact h1
 ·walk_at "ts";rw[boolsD_map];walk_at "ts";rw[show(List.replicate ds.length true).all id=true by simp];exact q
theorem t_alike {ws:List Rw}(hl:ws.length≤30)(h:∀ w∈ws,w.Ok)(q:Q (.val (.bool true))):m_law_alike [.val (.list (ws.map Rw.d)),.val (.list (ws.map Rw.d))] Q:=by
 unfold m_law_alike m_law_alike_4;refine al_lst (by simp; omega) (fun d hd Q q=>?_) q;obtain⟨w,hw,rfl⟩:=List.mem_map.mp hd;obtain⟨a,ps,e,_,_,hk,hp,ha,_⟩:=w.kds (h w hw);rw[e];unfold cH;refine al_tup (by simp; omega) (fun d hd Q q=>?_) q;unfold cI;rcases List.mem_cons.mp hd with rfl|z
 ·exact al_str ha q
 ·obtain⟨p,hpm,rfl⟩:=List.mem_map.mp z;have hkp:=hk p hpm
  revert hkp
  generalize p.1=k,p.2.1=d,p.2.2=b;intro hkp
  cases hkp with
  | whole n hn=>exact al_int q
  | num r hr=>
   unfold dNum;refine al_tup (Nat.le_of_ble_eq_true rfl) (fun d hd Q q=>?_) q;unfold cL;simp only[List.mem_cons,List.not_mem_nil,or_false] at hd;rcases hd with rfl|rfl<;>exact al_int q
end
theorem gd_bk {ws:List Rw}(h:∀ w∈ws,w.Ok):Good (.list (ws.map Rw.d)):=(gd_lst (n:=2) fun d hd=>by
 obtain⟨w,hw,rfl⟩:=List.mem_map.mp hd;exact gd_row (h w hw)).good
theorem law_true:b_law (.no::.pen::List.replicate 6 .no) TrueEnd:=by
 unfold b_law;walk_at "ts";refine⟨by decide,by decide,?_⟩;refine range_inv (fun i Γ=>∃ a b c d e f,Γ=[.no,.pen,a,b,c,d,e,f]) ⟨_,_,_,_,_,_,rfl⟩ ?_ ?_
 ·rintro i Γ K hi ⟨a,b,c,d,e,f,rfl⟩ hk;unfold b_law_l2;walk_at "ts";refine t_book fun ws hl hw=>?_;walk_at "ts";refine t_show_book hl hw ?_;walk_at "ts";refine t_law_lines_of hl hw ?_;walk_at "ts";refine⟨cB (bk_asc hw),cB (bk_asc hw),?_⟩;rw[eqv_st,decide_eq_true rfl];walk_at "ts";refine⟨gd_bk hw,gd_bk hw,?_⟩;rw[eqv_self (gd_bk hw)];walk_at "ts";unfold b_law_r3;walk_at "ts";refine⟨by decide,by decide,?_⟩;refine range_inv (fun j Γ=>∃ e f,Γ=[.no,.pen,.val (.int (0+(i:Int))),.val (.list (ws.map Rw.d)),.val (.list (ws.map Rw.d)),.val (.str (bkT ws)),e,f]) ⟨_,_,rfl⟩ ?_ ?_
  ·rintro j Γ K2 hj ⟨e,f,rfl⟩ hk2;unfold b_law_l1;walk_at "ts";refine t_read_book hl hw ?_;walk_at "ts";refine t_alike hl hw ?_;walk_at "ts";unfold b_law_r2;walk_at "ts";refine i_appK (ds:=ws.map Rw.d) rfl (by simp; omega) ?_;exact hk2.nx _ ⟨_,_,rfl⟩
  ·rintro Γ ⟨e,f,rfl⟩;exact hk.nx _ ⟨_,_,_,_,_,_,rfl⟩
 ·rintro Γ ⟨a,b,c,d,e,f,rfl⟩;unfold b_law_r1;walk_at "ts";refine t_show_book (ws:=[]) (by decide) (fun _ h=>nomatch h) ?_;walk_at "ts";refine⟨cB (ad _),cB (ad _),?_⟩;rw[eqv_st,decide_eq_true (show bkT [] = "" from rfl)];walk_at "ts";refine t_read_book (ws:=[]) (by decide) (fun _ h=>nomatch h) ?_;walk_at "ts";refine⟨gd_bk (ws:=[]) (fun _ h=>nomatch h),gd_bk (ws:=[]) (fun _ h=>nomatch h),?_⟩;exact rfl
theorem ln1 {α:Type}{us:List α}(h:us.length=1):∃ x0,us=[x0]:=by
 match us,h with
 | [_],_=>exact⟨_,rfl⟩
theorem ln2 {α:Type}{us:List α}(h:us.length=2):∃ x0 x1,us=[x0,x1]:=by
 match us,h with
 | [_,_],_=>exact⟨_,_,rfl⟩
theorem bl_mk {K:Fg}{h:Heap}{mg:Mg}(X:K.In h)(G:h.Ns mainGlobals mg)
  (z_len:PySem.W.nsIn K mainGlobals "len" = some none)
  (z_abs:PySem.W.nsIn K mainGlobals "abs" = some none)
  (z_range:PySem.W.nsIn K mainGlobals "range" = some none)
  (z_isinstance:PySem.W.nsIn K mainGlobals "isinstance" = some none)
  (z_int:PySem.W.nsIn K mainGlobals "int" = some none)
  (z_bool:PySem.W.nsIn K mainGlobals "bool" = some none)
  (z_tuple:PySem.W.nsIn K mainGlobals "tuple" = some none)
  (z_max:PySem.W.nsIn K mainGlobals "max" = some none)
  (z_min:PySem.W.nsIn K mainGlobals "min" = some none)
  (z_list:PySem.W.nsIn K mainGlobals "list" = some none)
  (z_all:PySem.W.nsIn K mainGlobals "all" = some none)
  (z_any:PySem.W.nsIn K mainGlobals "any" = some none)
  (z_sorted:PySem.W.nsIn K mainGlobals "sorted" = some none)
  (z_zip:PySem.W.nsIn K mainGlobals "zip" = some none)
  (z_set:PySem.W.nsIn K mainGlobals "set" = some none)
  (z_sum:PySem.W.nsIn K mainGlobals "sum" = some none)
  (z_str:PySem.W.nsIn K mainGlobals "str" = some none)
  (z_enumerate:PySem.W.nsIn K mainGlobals "enumerate" = some none)
  (kt_int_bool:PySem.W.kitOne K (.type "int") (.type "bool")=some false)    (kt_bool_int:PySem.W.kitOne K (.type "bool") (.type "int")=some true):Bl K mg:=⟨PySem.W.mg_none_of X G z_len,PySem.W.mg_none_of X G z_abs,PySem.W.mg_none_of X G z_range,PySem.W.mg_none_of X G z_isinstance,PySem.W.mg_none_of X G z_int,PySem.W.mg_none_of X G z_bool,PySem.W.mg_none_of X G z_tuple,PySem.W.mg_none_of X G z_max,PySem.W.mg_none_of X G z_min,PySem.W.mg_none_of X G z_list,PySem.W.mg_none_of X G z_all,PySem.W.mg_none_of X G z_any,PySem.W.mg_none_of X G z_sorted,PySem.W.mg_none_of X G z_zip,PySem.W.mg_none_of X G z_set,PySem.W.mg_none_of X G z_sum,PySem.W.mg_none_of X G z_str,PySem.W.mg_none_of X G z_enumerate,kt_int_bool,kt_bool_int⟩
theorem kit_mk {K:Fg}
  (kt_NoneType_bool:PySem.W.kitOne K (.type "NoneType") (.type "bool")=some false)
  (kt_NoneType_int:PySem.W.kitOne K (.type "NoneType") (.type "int")=some false)
  (kt_NoneType_str:PySem.W.kitOne K (.type "NoneType") (.type "str")=some false)
  (kt_NoneType_list:PySem.W.kitOne K (.type "NoneType") (.type "list")=some false)
  (kt_NoneType_tuple:PySem.W.kitOne K (.type "NoneType") (.type "tuple")=some false)
  (kt_NoneType_dict:PySem.W.kitOne K (.type "NoneType") (.type "dict")=some false)
  (kt_bool_NoneType:PySem.W.kitOne K (.type "bool") (.type "NoneType")=some false)
  (kt_bool_int:PySem.W.kitOne K (.type "bool") (.type "int")=some true)
  (kt_bool_str:PySem.W.kitOne K (.type "bool") (.type "str")=some false)
  (kt_bool_list:PySem.W.kitOne K (.type "bool") (.type "list")=some false)
  (kt_bool_tuple:PySem.W.kitOne K (.type "bool") (.type "tuple")=some false)
  (kt_bool_dict:PySem.W.kitOne K (.type "bool") (.type "dict")=some false)
  (kt_int_NoneType:PySem.W.kitOne K (.type "int") (.type "NoneType")=some false)
  (kt_int_bool:PySem.W.kitOne K (.type "int") (.type "bool")=some false)
  (kt_int_str:PySem.W.kitOne K (.type "int") (.type "str")=some false)
  (kt_int_list:PySem.W.kitOne K (.type "int") (.type "list")=some false)
  (kt_int_tuple:PySem.W.kitOne K (.type "int") (.type "tuple")=some false)
  (kt_int_dict:PySem.W.kitOne K (.type "int") (.type "dict")=some false)
  (kt_str_NoneType:PySem.W.kitOne K (.type "str") (.type "NoneType")=some false)
  (kt_str_bool:PySem.W.kitOne K (.type "str") (.type "bool")=some false)
  (kt_str_int:PySem.W.kitOne K (.type "str") (.type "int")=some false)
  (kt_str_list:PySem.W.kitOne K (.type "str") (.type "list")=some false)
  (kt_str_tuple:PySem.W.kitOne K (.type "str") (.type "tuple")=some false)
  (kt_str_dict:PySem.W.kitOne K (.type "str") (.type "dict")=some false)
  (kt_list_NoneType:PySem.W.kitOne K (.type "list") (.type "NoneType")=some false)
  (kt_list_bool:PySem.W.kitOne K (.type "list") (.type "bool")=some false)
  (kt_list_int:PySem.W.kitOne K (.type "list") (.type "int")=some false)
  (kt_list_str:PySem.W.kitOne K (.type "list") (.type "str")=some false)
  (kt_list_tuple:PySem.W.kitOne K (.type "list") (.type "tuple")=some false)
  (kt_list_dict:PySem.W.kitOne K (.type "list") (.type "dict")=some false)
  (kt_tuple_NoneType:PySem.W.kitOne K (.type "tuple") (.type "NoneType")=some false)
  (kt_tuple_bool:PySem.W.kitOne K (.type "tuple") (.type "bool")=some false)
  (kt_tuple_int:PySem.W.kitOne K (.type "tuple") (.type "int")=some false)
  (kt_tuple_str:PySem.W.kitOne K (.type "tuple") (.type "str")=some false)
  (kt_tuple_list:PySem.W.kitOne K (.type "tuple") (.type "list")=some false)
  (kt_tuple_dict:PySem.W.kitOne K (.type "tuple") (.type "dict")=some false)
  (kt_dict_NoneType:PySem.W.kitOne K (.type "dict") (.type "NoneType")=some false)
  (kt_dict_bool:PySem.W.kitOne K (.type "dict") (.type "bool")=some false)
  (kt_dict_int:PySem.W.kitOne K (.type "dict") (.type "int")=some false)
  (kt_dict_str:PySem.W.kitOne K (.type "dict") (.type "str")=some false)
  (kt_dict_list:PySem.W.kitOne K (.type "dict") (.type "list")=some false)
  (kt_dict_tuple:PySem.W.kitOne K (.type "dict") (.type "tuple")=some false)
  : Kit K:=Kit.mk' (by
  intro a ha b hb;simp only[tyL,List.mem_cons,List.not_mem_nil,or_false] at ha hb;rcases ha with rfl|rfl|rfl|rfl|rfl|rfl|rfl<;>rcases hb with rfl|rfl|rfl|rfl|rfl|rfl|rfl<;>intro e<;>first|assumption|exact absurd e (by decide))
def DfP (K:Fg)(mg:Mg)(x:Str)(st:Stmt):Prop:=∃(f:Addr) (fd:FuncData),Fun K x x st f fd∧mg x=some (.ref f)
theorem eU {K:Fg}{h:Heap}{mg:Mg}(X:K.In h)(G:h.Ns mainGlobals mg){x:Str}{st:Stmt}{f:Addr}{od an:Option Addr}{sl:Array (Option Value)}{oc kV dc pm cd ct:Value}
  (a:PySem.W.nsIn K mainGlobals x=some (some (.ref f))) (l:K.lookup f=some ⟨oc,od,.func (PySem.W.fnOf x x (defArgs st) (defBody st) (aK st) .none kV dc pm an cd ct),sl⟩) (c:PySem.W.codeIn K cd x=true) (k:PySem.W.keepIn K (.ref f)=true):DfP K mg x st:=
 ⟨f,_,fun_mk l c k,PySem.W.mg_of X G a⟩
section
variable {P:Program}{w:World}{K:Fg}{mg:Mg}{base:Heap}
theorem mk_law_take  (B:Bl K mg)(Kt:Kit K)(d:DfP K mg "_law_take" s_law_take) :
  ∀ a ns,Cal P w K mg base 1 "_law_take" ["_law_pen", "_law_many"] (spM (bH K a ns) 2 bI):=by
 obtain⟨f,fd,F,hm⟩:=d;exact fun a ns=>⟨f,fd,ok2_law_take F B,hm,F.kp,F.binds fun _ _ _ _ _ _ us hl=>by
  obtain⟨_,_,rfl⟩:=ln2 hl;rfl⟩
theorem mk_is_whole  (B:Bl K mg)(Kt:Kit K)(d:DfP K mg "is_whole" s_is_whole) :
  ∀ a ns,Cal P w K mg base 1 "is_whole" ["thing"] (spM (bH K a ns) 1 dR):=by
 obtain⟨f,fd,F,hm⟩:=d;exact fun a ns=>⟨f,fd,ok_is_whole F B Kt,hm,F.kp,F.binds fun _ _ _ _ _ _ us hl=>by
  obtain⟨_,rfl⟩:=ln1 hl;rfl⟩
theorem mk_greatest_divisor  (B:Bl K mg)(Kt:Kit K)(d:DfP K mg "greatest_divisor" cC) :
  ∀ a ns,Cal P w K mg base 1 "greatest_divisor" ["one", "other"] (spM (bH K a ns) 2 bL):=by
 obtain⟨f,fd,F,hm⟩:=d;exact fun a ns=>⟨f,fd,ok_greatest_divisor F B Kt,hm,F.kp,F.binds fun _ _ _ _ _ _ us hl=>by
  obtain⟨_,_,rfl⟩:=ln2 hl;rfl⟩
theorem mk_is_number  (B:Bl K mg)(Kt:Kit K)(d:DfP K mg "is_number" s_is_number)(C_greatest_divisor:∀ a ns,Cal P w K mg base 1 "greatest_divisor" ["one", "other"] (spM (bH K a ns) 2 bL))(C_is_whole:∀ a ns,Cal P w K mg base 1 "is_whole" ["thing"] (spM (bH K a ns) 1 dR)) :
  ∀ a ns,Cal P w K mg base 2 "is_number" ["thing"] (spM (bH K a ns) 1 dI):=by
 obtain⟨f,fd,F,hm⟩:=d;exact fun a ns=>⟨f,fd,ok_is_number F B Kt (C_greatest_divisor a ns) (C_is_whole a ns),hm,F.kp,F.binds fun _ _ _ _ _ _ us hl=>by
  obtain⟨_,rfl⟩:=ln1 hl;rfl⟩
theorem mk_whole_in  {tk_FIGURES:Tok}(hg_FIGURES:mg "FIGURES" = some (.str "0123456789" tk_FIGURES)){tk_MOST_FIGURES:Tok}(hg_MOST_FIGURES:mg "MOST_FIGURES" = some (.int 60 tk_MOST_FIGURES))(B:Bl K mg)(Kt:Kit K)(d:DfP K mg "whole_in" s_whole_in) :
  ∀ a ns,Cal P w K mg base 1 "whole_in" ["word"] (spM (bH K a ns) 1 bW):=by
 obtain⟨f,fd,F,hm⟩:=d;exact fun a ns=>⟨f,fd,ok_whole_in hg_FIGURES hg_MOST_FIGURES F B Kt,hm,F.kp,F.binds fun _ _ _ _ _ _ us hl=>by
  obtain⟨_,rfl⟩:=ln1 hl;rfl⟩
theorem mk_top_in  (B:Bl K mg)(Kt:Kit K)(d:DfP K mg "top_in" s_top_in)(C_whole_in:∀ a ns,Cal P w K mg base 1 "whole_in" ["word"] (spM (bH K a ns) 1 bW)) :
  ∀ a ns,Cal P w K mg base 2 "top_in" ["word"] (spM (bH K a ns) 1 m_top_in):=by
 obtain⟨f,fd,F,hm⟩:=d;exact fun a ns=>⟨f,fd,ok_top_in F B Kt (C_whole_in a ns),hm,F.kp,F.binds fun _ _ _ _ _ _ us hl=>by
  obtain⟨_,rfl⟩:=ln1 hl;rfl⟩
theorem mk_number_in  (B:Bl K mg)(Kt:Kit K)(d:DfP K mg "number_in" s_number_in)(C_is_number:∀ a ns,Cal P w K mg base 2 "is_number" ["thing"] (spM (bH K a ns) 1 dI))(C_whole_in:∀ a ns,Cal P w K mg base 1 "whole_in" ["word"] (spM (bH K a ns) 1 bW))(C_top_in:∀ a ns,Cal P w K mg base 2 "top_in" ["word"] (spM (bH K a ns) 1 m_top_in)) :
  ∀ a ns,Cal P w K mg base 3 "number_in" ["word"] (spM (bH K a ns) 1 dJ):=by
 obtain⟨f,fd,F,hm⟩:=d;exact fun a ns=>⟨f,fd,ok_number_in F B Kt (C_is_number a ns) (C_whole_in a ns) (C_top_in a ns),hm,F.kp,F.binds fun _ _ _ _ _ _ us hl=>by
  obtain⟨_,rfl⟩:=ln1 hl;rfl⟩
theorem mk_thing_in  (B:Bl K mg)(Kt:Kit K)(d:DfP K mg "thing_in" s_thing_in)(C_number_in:∀ a ns,Cal P w K mg base 3 "number_in" ["word"] (spM (bH K a ns) 1 dJ))(C_whole_in:∀ a ns,Cal P w K mg base 1 "whole_in" ["word"] (spM (bH K a ns) 1 bW)) :
  ∀ a ns,Cal P w K mg base 4 "thing_in" ["kind", "word"] (spM (bH K a ns) 2 m_thing_in):=by
 obtain⟨f,fd,F,hm⟩:=d;exact fun a ns=>⟨f,fd,ok_thing_in F B Kt (C_number_in a ns) (C_whole_in a ns),hm,F.kp,F.binds fun _ _ _ _ _ _ us hl=>by
  obtain⟨_,_,rfl⟩:=ln2 hl;rfl⟩
theorem mk_parts_in  (B:Bl K mg)(Kt:Kit K)(d:DfP K mg "parts_in" s_parts_in)(C_thing_in:∀ a ns,Cal P w K mg base 4 "thing_in" ["kind", "word"] (spM (bH K a ns) 2 m_thing_in)) :
  ∀ a ns,Cal P w K mg base 5 "parts_in" ["line", "forms"] (spM (bH K a ns) 2 m_parts_in):=by
 obtain⟨f,fd,F,hm⟩:=d;exact fun a ns=>⟨f,fd,ok_parts_in F B Kt (C_thing_in a ns),hm,F.kp,F.binds fun _ _ _ _ _ _ us hl=>by
  obtain⟨_,_,rfl⟩:=ln2 hl;rfl⟩
theorem mk_row_in  (B:Bl K mg)(Kt:Kit K)(d:DfP K mg "row_in" s_row_in)(C_parts_in:∀ a ns,Cal P w K mg base 5 "parts_in" ["line", "forms"] (spM (bH K a ns) 2 m_parts_in)) :
  ∀ a ns,Cal P w K mg base 6 "row_in" ["line"] (spM (bH K a ns) 1 m_row_in):=by
 obtain⟨f,fd,F,hm⟩:=d;exact fun a ns=>⟨f,fd,ok_row_in F B Kt (C_parts_in a ns),hm,F.kp,F.binds fun _ _ _ _ _ _ us hl=>by
  obtain⟨_,rfl⟩:=ln1 hl;rfl⟩
theorem mk_lines_in  (B:Bl K mg)(Kt:Kit K)(d:DfP K mg "lines_in" s_lines_in) :
  ∀ a ns,Cal P w K mg base 1 "lines_in" ["text"] (spM (bH K a ns) 1 m_lines_in):=by
 obtain⟨f,fd,F,hm⟩:=d;exact fun a ns=>⟨f,fd,ok_lines_in F B Kt,hm,F.kp,F.binds fun _ _ _ _ _ _ us hl=>by
  obtain⟨_,rfl⟩:=ln1 hl;rfl⟩
theorem mk_refuse_first_none  (B:Bl K mg)(Kt:Kit K)(d:DfP K mg "refuse_first_none" bZ) :
  ∀ a ns,Cal P w K mg base 1 "refuse_first_none" ["parts"] (spM (bH K a ns) 1 bN):=by
 obtain⟨f,fd,F,hm⟩:=d;exact fun a ns=>⟨f,fd,ok_refuse_first_none F B Kt,hm,F.kp,F.binds fun _ _ _ _ _ _ us hl=>by
  obtain⟨_,rfl⟩:=ln1 hl;rfl⟩
theorem mk_show_number  (B:Bl K mg)(Kt:Kit K)(d:DfP K mg "show_number" s_show_number) :
  ∀ a ns,Cal P w K mg base 1 "show_number" ["number"] (spM (bH K a ns) 1 cJ):=by
 obtain⟨f,fd,F,hm⟩:=d;exact fun a ns=>⟨f,fd,ok_show_number F B Kt,hm,F.kp,F.binds fun _ _ _ _ _ _ us hl=>by
  obtain⟨_,rfl⟩:=ln1 hl;rfl⟩
theorem mk_show_part  (B:Bl K mg)(Kt:Kit K)(d:DfP K mg "show_part" s_show_part)(C_show_number:∀ a ns,Cal P w K mg base 1 "show_number" ["number"] (spM (bH K a ns) 1 cJ)) :
  ∀ a ns,Cal P w K mg base 2 "show_part" ["part"] (spM (bH K a ns) 1 dN):=by
 obtain⟨f,fd,F,hm⟩:=d;exact fun a ns=>⟨f,fd,ok_show_part F B Kt (C_show_number a ns),hm,F.kp,F.binds fun _ _ _ _ _ _ us hl=>by
  obtain⟨_,rfl⟩:=ln1 hl;rfl⟩
theorem mk_show_lines  (B:Bl K mg)(Kt:Kit K)(d:DfP K mg "show_lines" eF)(C_show_part:∀ a ns,Cal P w K mg base 2 "show_part" ["part"] (spM (bH K a ns) 1 dN)) :
  ∀ a ns,Cal P w K mg base 3 "show_lines" ["things"] (spM (bH K a ns) 1 cW):=by
 obtain⟨f,fd,F,hm⟩:=d;exact fun a ns=>⟨f,fd,ok_show_lines F B Kt (C_show_part a ns),hm,F.kp,F.binds fun _ _ _ _ _ _ us hl=>by
  obtain⟨_,rfl⟩:=ln1 hl;rfl⟩
theorem mk_show_book  (B:Bl K mg)(Kt:Kit K)(d:DfP K mg "show_book" s_show_book)(C_show_lines:∀ a ns,Cal P w K mg base 3 "show_lines" ["things"] (spM (bH K a ns) 1 cW)) :
  ∀ a ns,Cal P w K mg base 4 "show_book" ["book"] (spM (bH K a ns) 1 dM):=by
 obtain⟨f,fd,F,hm⟩:=d;exact fun a ns=>⟨f,fd,ok_show_book F B Kt (C_show_lines a ns),hm,F.kp,F.binds fun _ _ _ _ _ _ us hl=>by
  obtain⟨_,rfl⟩:=ln1 hl;rfl⟩
theorem mk_read_book  (B:Bl K mg)(Kt:Kit K)(d:DfP K mg "read_book" s_read_book)(C_refuse_first_none:∀ a ns,Cal P w K mg base 1 "refuse_first_none" ["parts"] (spM (bH K a ns) 1 bN))(C_lines_in:∀ a ns,Cal P w K mg base 1 "lines_in" ["text"] (spM (bH K a ns) 1 m_lines_in))(C_row_in:∀ a ns,Cal P w K mg base 6 "row_in" ["line"] (spM (bH K a ns) 1 m_row_in)) :
  ∀ a ns,Cal P w K mg base 7 "read_book" ["text"] (spM (bH K a ns) 1 dO):=by
 obtain⟨f,fd,F,hm⟩:=d;exact fun a ns=>⟨f,fd,ok_read_book F B Kt (C_refuse_first_none a ns) (C_lines_in a ns) (C_row_in a ns),hm,F.kp,F.binds fun _ _ _ _ _ _ us hl=>by
  obtain⟨_,rfl⟩:=ln1 hl;rfl⟩
theorem mk_law_lowest  (B:Bl K mg)(Kt:Kit K)(d:DfP K mg "_law_lowest" s_law_lowest) :
  ∀ a ns,Cal P w K mg base 1 "_law_lowest" ["_law_top", "_law_bottom"] (spM (bH K a ns) 2 cG):=by
 obtain⟨f,fd,F,hm⟩:=d;exact fun a ns=>⟨f,fd,ok_law_lowest F B Kt,hm,F.kp,F.binds fun _ _ _ _ _ _ us hl=>by
  obtain⟨_,_,rfl⟩:=ln2 hl;rfl⟩
theorem mk_law_great  (B:Bl K mg)(Kt:Kit K)(d:DfP K mg "_law_great" s_law_great)(C_law_take:∀ a ns,Cal P w K mg base 1 "_law_take" ["_law_pen", "_law_many"] (spM (bH K a ns) 2 bI)) :
  ∀ a ns,Cal P w K mg base 2 "_law_great" ["_law_pen"] (spM (bH K a ns) 1 c7):=by
 obtain⟨f,fd,F,hm⟩:=d;exact fun a ns=>⟨f,fd,ok_law_great F B Kt (C_law_take a ns),hm,F.kp,F.binds fun _ _ _ _ _ _ us hl=>by
  obtain⟨_,rfl⟩:=ln1 hl;rfl⟩
theorem mk_law_time  (B:Bl K mg)(Kt:Kit K)(d:DfP K mg "_law_time" s_law_time)(C_law_lowest:∀ a ns,Cal P w K mg base 1 "_law_lowest" ["_law_top", "_law_bottom"] (spM (bH K a ns) 2 cG))(C_law_great:∀ a ns,Cal P w K mg base 2 "_law_great" ["_law_pen"] (spM (bH K a ns) 1 c7))(C_law_take:∀ a ns,Cal P w K mg base 1 "_law_take" ["_law_pen", "_law_many"] (spM (bH K a ns) 2 bI)) :
  ∀ a ns,Cal P w K mg base 3 "_law_time" ["_law_pen"] (spM (bH K a ns) 1 m_law_time):=by
 obtain⟨f,fd,F,hm⟩:=d;exact fun a ns=>⟨f,fd,ok_law_time F B Kt (C_law_lowest a ns) (C_law_great a ns) (C_law_take a ns),hm,F.kp,F.binds fun _ _ _ _ _ _ us hl=>by
  obtain⟨_,rfl⟩:=ln1 hl;rfl⟩
theorem mk_law_book  (B:Bl K mg)(Kt:Kit K)(d:DfP K mg "_law_book" s_law_book)(C_law_take:∀ a ns,Cal P w K mg base 1 "_law_take" ["_law_pen", "_law_many"] (spM (bH K a ns) 2 bI))(C_law_time:∀ a ns,Cal P w K mg base 3 "_law_time" ["_law_pen"] (spM (bH K a ns) 1 m_law_time))(C_law_great:∀ a ns,Cal P w K mg base 2 "_law_great" ["_law_pen"] (spM (bH K a ns) 1 c7)) :
  ∀ a ns,Cal P w K mg base 4 "_law_book" ["_law_pen"] (spM (bH K a ns) 1 m_law_book):=by
 obtain⟨f,fd,F,hm⟩:=d;exact fun a ns=>⟨f,fd,ok_law_book F B Kt (C_law_take a ns) (C_law_time a ns) (C_law_great a ns),hm,F.kp,F.binds fun _ _ _ _ _ _ us hl=>by
  obtain⟨_,rfl⟩:=ln1 hl;rfl⟩
theorem mk_law_told  (B:Bl K mg)(Kt:Kit K)(d:DfP K mg "_law_told" s_law_told) :
  ∀ a ns,Cal P w K mg base 1 "_law_told" ["_law_number"] (spM (bH K a ns) 1 m_law_told):=by
 obtain⟨f,fd,F,hm⟩:=d;exact fun a ns=>⟨f,fd,ok_law_told F B Kt,hm,F.kp,F.binds fun _ _ _ _ _ _ us hl=>by
  obtain⟨_,rfl⟩:=ln1 hl;rfl⟩
theorem mk_law_lines_of  (B:Bl K mg)(Kt:Kit K)(d:DfP K mg "_law_lines_of" dX)(C_law_told:∀ a ns,Cal P w K mg base 1 "_law_told" ["_law_number"] (spM (bH K a ns) 1 m_law_told)) :
  ∀ a ns,Cal P w K mg base 2 "_law_lines_of" ["_law_rows"] (spM (bH K a ns) 1 cT):=by
 obtain⟨f,fd,F,hm⟩:=d;exact fun a ns=>⟨f,fd,ok_law_lines_of F B Kt (C_law_told a ns),hm,F.kp,F.binds fun _ _ _ _ _ _ us hl=>by
  obtain⟨_,rfl⟩:=ln1 hl;rfl⟩
end
theorem all_mk {l:PySem.W.OpenLaw}{w:World}{K:Fg}{mg:Mg}{fa:Addr}(hfa:mg "law" = some (.ref fa))(B:Bl K mg)(Kt:Kit K)
  (d0:DfP K mg "_law_take" s_law_take)
  (d1:DfP K mg "is_whole" s_is_whole)
  (d2:DfP K mg "greatest_divisor" cC)
  (d3:DfP K mg "is_number" s_is_number)
  (d4:DfP K mg "whole_in" s_whole_in)
  (d5:DfP K mg "top_in" s_top_in)
  (d6:DfP K mg "number_in" s_number_in)
  (d7:DfP K mg "thing_in" s_thing_in)
  (d8:DfP K mg "parts_in" s_parts_in)
  (d9:DfP K mg "row_in" s_row_in)
  (d10:DfP K mg "lines_in" s_lines_in)
  (d11:DfP K mg "refuse_first_none" bZ)
  (d12:DfP K mg "show_number" s_show_number)
  (d13:DfP K mg "show_part" s_show_part)
  (d14:DfP K mg "show_lines" eF)
  (d15:DfP K mg "show_book" s_show_book)
  (d16:DfP K mg "read_book" s_read_book)
  (d17:DfP K mg "_law_lowest" s_law_lowest)
  (d18:DfP K mg "_law_great" s_law_great)
  (d19:DfP K mg "_law_time" s_law_time)
  (d20:DfP K mg "_law_book" s_law_book)
  (d21:DfP K mg "_law_told" s_law_told)
  (d22:DfP K mg "_law_lines_of" dX)
  (d23:DfP K mg "_law_alike" bR)
  (d24:DfP K mg "law" s_law)
  {tk_FIGURES:Tok} (hg_FIGURES:mg "FIGURES" = some (.str "0123456789" tk_FIGURES)) {tk_MOST_FIGURES:Tok} (hg_MOST_FIGURES:mg "MOST_FIGURES" = some (.int 60 tk_MOST_FIGURES))
  (hL:b_law (.no::.pen::List.replicate 6 .no) TrueEnd) :
  ∃ fd:FuncData,(∀(s:Shared) (v:Value),BindsTo s fd ⟨[v],[]⟩ [("_law_script", v)])∧∀ base:Heap,K.In base→base.Ns mainGlobals mg→FnOk l.prog w K mg base CX0 8 fa fd ["_law_script"] (spLaw K):=by
 obtain⟨f,fd,F,hm⟩:=d24
 cases hfa.symm.trans hm
 refine⟨fd,?_,fun base _ _=>?_⟩
 ·obtain⟨oc,od,kV,doc,pm,an,cdv,ct,osl,rfl,lk,hcd⟩:=F.ex;exact fun s v=>.of_eq rfl
 have C_law_take:=mk_law_take (P:=l.prog) (w:=w) (base:=base) B Kt d0;have C_is_whole:=mk_is_whole (P:=l.prog) (w:=w) (base:=base) B Kt d1;have C_greatest_divisor:=mk_greatest_divisor (P:=l.prog) (w:=w) (base:=base) B Kt d2;have C_is_number:=mk_is_number (P:=l.prog) (w:=w) (base:=base) B Kt d3 C_greatest_divisor C_is_whole;have C_whole_in:=mk_whole_in (P:=l.prog) (w:=w) (base:=base) hg_FIGURES hg_MOST_FIGURES B Kt d4;have C_top_in:=mk_top_in (P:=l.prog) (w:=w) (base:=base) B Kt d5 C_whole_in;have C_number_in:=mk_number_in (P:=l.prog) (w:=w) (base:=base) B Kt d6 C_is_number C_whole_in C_top_in;have C_thing_in:=mk_thing_in (P:=l.prog) (w:=w) (base:=base) B Kt d7 C_number_in C_whole_in;have C_parts_in:=mk_parts_in (P:=l.prog) (w:=w) (base:=base) B Kt d8 C_thing_in;have C_row_in:=mk_row_in (P:=l.prog) (w:=w) (base:=base) B Kt d9 C_parts_in;have C_lines_in:=mk_lines_in (P:=l.prog) (w:=w) (base:=base) B Kt d10;have C_refuse_first_none:=mk_refuse_first_none (P:=l.prog) (w:=w) (base:=base) B Kt d11;have C_show_number:=mk_show_number (P:=l.prog) (w:=w) (base:=base) B Kt d12;have C_show_part:=mk_show_part (P:=l.prog) (w:=w) (base:=base) B Kt d13 C_show_number;have C_show_lines:=mk_show_lines (P:=l.prog) (w:=w) (base:=base) B Kt d14 C_show_part;have C_show_book:=mk_show_book (P:=l.prog) (w:=w) (base:=base) B Kt d15 C_show_lines;have C_read_book:=mk_read_book (P:=l.prog) (w:=w) (base:=base) B Kt d16 C_refuse_first_none C_lines_in C_row_in;have C_law_lowest:=mk_law_lowest (P:=l.prog) (w:=w) (base:=base) B Kt d17;have C_law_great:=mk_law_great (P:=l.prog) (w:=w) (base:=base) B Kt d18 C_law_take;have C_law_time:=mk_law_time (P:=l.prog) (w:=w) (base:=base) B Kt d19 C_law_lowest C_law_great C_law_take;have C_law_book:=mk_law_book (P:=l.prog) (w:=w) (base:=base) B Kt d20 C_law_take C_law_time C_law_great;have C_law_told:=mk_law_told (P:=l.prog) (w:=w) (base:=base) B Kt d21;have C_law_lines_of:=mk_law_lines_of (P:=l.prog) (w:=w) (base:=base) B Kt d22 C_law_told;obtain⟨f2_law_alike,fd2_law_alike,F2_law_alike,hm2_law_alike⟩:=d23;have B2_law_alike:Binds K fd2_law_alike ["_law_told_here", "_law_due"] []:=F2_law_alike.binds fun _ _ _ _ _ _ us hl=>by
  obtain⟨_,_,rfl⟩:=ln2 hl;rfl
 have C_law_alike:∀ a ns,Cal l.prog w K mg base 5 "_law_alike" ["_law_told_here", "_law_due"] (spM (bH K a ns) 2 m_law_alike):=fun a ns=>by
  have R0_law_alike:Cal l.prog w K mg base 1 "_law_alike" ["_law_told_here", "_law_due"] (spM (bH K a ns) 2 m_law_alike_0):=cal_no hm2_law_alike F2_law_alike.kp B2_law_alike;have R1_law_alike:Cal l.prog w K mg base 2 "_law_alike" ["_law_told_here", "_law_due"] (spM (bH K a ns) 2 cL):=⟨f2_law_alike,fd2_law_alike,ok_law_alike_1 F2_law_alike B Kt R0_law_alike,hm2_law_alike,F2_law_alike.kp,B2_law_alike⟩;have R2_law_alike:Cal l.prog w K mg base 3 "_law_alike" ["_law_told_here", "_law_due"] (spM (bH K a ns) 2 cI):=⟨f2_law_alike,fd2_law_alike,ok_law_alike_2 F2_law_alike B Kt R1_law_alike,hm2_law_alike,F2_law_alike.kp,B2_law_alike⟩;have R3_law_alike:Cal l.prog w K mg base 4 "_law_alike" ["_law_told_here", "_law_due"] (spM (bH K a ns) 2 cH):=⟨f2_law_alike,fd2_law_alike,ok_law_alike_3 F2_law_alike B Kt R2_law_alike,hm2_law_alike,F2_law_alike.kp,B2_law_alike⟩;have R4_law_alike:Cal l.prog w K mg base 5 "_law_alike" ["_law_told_here", "_law_due"] (spM (bH K a ns) 2 m_law_alike_4):=⟨f2_law_alike,fd2_law_alike,ok_law_alike_4 F2_law_alike B Kt R3_law_alike,hm2_law_alike,F2_law_alike.kp,B2_law_alike⟩;exact R4_law_alike
 exact ok_law F B Kt C_read_book C_show_book C_law_alike C_law_lines_of C_law_book hL
theorem walk {l:PySem.W.OpenLaw}{q:Program}{loose:List Str}{XP:Mg→Heap→Prop}{YP:World→Heap→Prop}{d:DefRec}{K:Params→Fg}(hn:l.most=some 63)(hdf:d.params.defaults=[])
  (hY:∀(w:World) (h:Heap),YP w h→(K w.params).In h)
  (F:∀(w:World) (mg:Mg) (fa:Addr) (h:Heap),(K w.params).In h→h.Ns mainGlobals mg→mg d.name=some (.ref fa) →
   ∃ fd:FuncData,(∀(s:Shared) (u:Value),BindsTo s fd ⟨[u],[]⟩ [("_law_script", u)])∧∀ base:Heap,(K w.params).In base→base.Ns mainGlobals mg→FnOk l.prog w (K w.params) mg base CX0 8 fa fd ["_law_script"] (spLaw (K w.params))) :
  PySem.W.WalkO q loose XP YP l.row.toRowW d [] (fun f vs=>PySem.call f vs):=
 L2.walk_of (n:=63) (k:=8) (x := "_law_script") (CX:=fun _=>CX0) (sp:=fun w=>spLaw (K w.params)) hn (by decide) hdf ⟨rfl,by decide,by decide⟩ hY F (fun _ _ a ns hl _ hS=>⟨a,ns,rfl,hS,hl,fun _=>rfl⟩) fun _ _ _ _ _ z=>z
end My
def PySem.W.Fast.tw1261173523442178969:Unit:=()
def PySem.W.Fast.tw13975204045436365361:Unit:=()
def PySem.W.Fast.tw15481147295627501477:Unit:=()
def PySem.W.Fast.tw1814545093632375003:Unit:=()
def PySem.W.Fast.tw3527808301391191687:Unit:=()
def PySem.W.Fast.tw14388491323404712892:Unit:=()
def PySem.W.Fast.tw9774336787731776054:Unit:=()
def PySem.W.Fast.tw2532122544720756982:Unit:=()
def PySem.W.Fast.tw16901508052101382248:Unit:=()
open PySem PySem.W PyProof.Rows
set_option maxRecDepth 100000 in
set_option maxHeartbeats 0 in
theorem PySem.Challenge.cw_leadtimes_k43_books_written_holds : PySem.Challenge.rw_leadtimes_k43_books_written.Holds := by
 w_on; o_law; k_head; (case hw => w_witness2)
 k_fill
 refine My.walk (l := PySem.Challenge.rw_leadtimes_k43_books_written) rfl rfl (fun w h Y => PySem.W.kIn_of Y) ?F
 case F =>
  intro w mg fa h KX G hmg
  refine' My.all_mk hmg (My.bl_mk KX G ?x0 ?x1 ?x2 ?x3 ?x4 ?x5 ?x6 ?x7 ?x8 ?x9 ?xa ?xb ?xc ?xd ?xe ?xf ?xg ?xh ?xi ?xj) (My.kit_mk ?xk ?xl ?xm ?xn ?xo ?xp ?xq ?xj ?xr ?xs ?xt ?xu ?xv ?xi ?xw ?xx ?xy ?xz ?x10 ?x11 ?x12 ?x13 ?x14 ?x15 ?x16 ?x17 ?x18 ?x19 ?x1a ?x1b ?x1c ?x1d ?x1e ?x1f ?x1g ?x1h ?x1i ?x1j ?x1k ?x1l ?x1m ?x1n) (My.eU KX G ?x1o ?x1p ?x1q ?x1r) (My.eU KX G ?x1s ?x1t ?x1u ?x1v) (My.eU KX G ?x1w ?x1x ?x1y ?x1z) (My.eU KX G ?x20 ?x21 ?x22 ?x23) (My.eU KX G ?x24 ?x25 ?x26 ?x27) (My.eU KX G ?x28 ?x29 ?x2a ?x2b) (My.eU KX G ?x2c ?x2d ?x2e ?x2f) (My.eU KX G ?x2g ?x2h ?x2i ?x2j) (My.eU KX G ?x2k ?x2l ?x2m ?x2n) (My.eU KX G ?x2o ?x2p ?x2q ?x2r) (My.eU KX G ?x2s ?x2t ?x2u ?x2v) (My.eU KX G ?x2w ?x2x ?x2y ?x2z) (My.eU KX G ?x30 ?x31 ?x32 ?x33) (My.eU KX G ?x34 ?x35 ?x36 ?x37) (My.eU KX G ?x38 ?x39 ?x3a ?x3b) (My.eU KX G ?x3c ?x3d ?x3e ?x3f) (My.eU KX G ?x3g ?x3h ?x3i ?x3j) (My.eU KX G ?x3k ?x3l ?x3m ?x3n) (My.eU KX G ?x3o ?x3p ?x3q ?x3r) (My.eU KX G ?x3s ?x3t ?x3u ?x3v) (My.eU KX G ?x3w ?x3x ?x3y ?x3z) (My.eU KX G ?x40 ?x41 ?x42 ?x43) (My.eU KX G ?x44 ?x45 ?x46 ?x47) (My.eU KX G ?x48 ?x49 ?x4a ?x4b) (My.eU KX G ?x4c ?x4d ?x4e ?x4f) (PySem.W.mg_of KX G ?x4g) (PySem.W.mg_of KX G ?x4h) My.law_true
  (case x1o|x1p|x1q|x1r|x1s|x1t|x1u|x1v|x1w|x1x|x1y|x1z|x20|x21|x22|x23|x24|x25|x26|x27|x28|x29|x2a|x2b|x2c|x2d|x2e|x2f|x2g|x2h|x2i|x2j|x2k|x2l|x2m|x2n|x2o|x2p|x2q|x2r|x2s|x2t|x2u|x2v|x2w|x2x|x2y|x2z|x30|x31|x32|x33|x34|x35|x36|x37|x38|x39|x3a|x3b|x3c|x3d|x3e|x3f|x3g|x3h|x3i|x3j|x3k|x3l|x3m|x3n|x3o|x3p|x3q|x3r|x3s|x3t|x3u|x3v|x3w|x3x|x3y|x3z|x40|x41|x42|x43|x44|x45|x46|x47|x48|x49|x4a|x4b|x4c|x4d|x4e|x4f|x0|x1|x2|x3|x4|x5|x6|x7|x8|x9|xa|xb|xc|xd|xe|xf|xg|xh|x4g|x4h => k_is)
  (case xk|xl|xm|xn|xo|xp|xq|xj|xr|xs|xt|xu|xv|xi|xw|xx|xy|xz|x10|x11|x12|x13|x14|x15|x16|x17|x18|x19|x1a|x1b|x1c|x1d|x1e|x1f|x1g|x1h|x1i|x1j|x1k|x1l|x1m|x1n => kit_is)
#print axioms PySem.Challenge.cw_leadtimes_k43_books_written_holds
