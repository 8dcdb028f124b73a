import PyProof.Rows.All
import Wide.All
import OpenK.AllK
import Wide.FinOn
import Lean
import PyProof.EqAt
import PyProof.EqKinds
import PyProof.TupleCall
import PyProof.P3Eq
import PyProof.P3In
import PyProof.NeData
import PyProof.FitsBits
import PyProof.StrCalls2
import PyProof.CallStr
import PyProof.SliceStr2
import PyProof.StrWalks
import PyProof.FString
import PyProof.StrBlockI
import PyProof.StrLawsTight
import PyProof.StrLawsIn
import PyProof.StrLawsIdx
import PyProof.StrLawsChain
import PyProof.TupleOfSeq
import PyProof.DictTable
import KE.KIntText
import PySem.Challenge.RW_leadtimes_k42_logs_written
noncomputable section
set_option compiler.extract_closed false
set_option Elab.async false
set_option linter.all false
set_option maxRecDepth 100000
namespace L2
open PySem PySem.Spec PyProof.Rows
abbrev Key:=Sum Int Str
noncomputable def a1L:Key→Value→Bool
 | .inl k,v=>Value.isInt k v
 | .inr x,v=>Value.isStrOf x v
noncomputable def aMY (w:World):Key→Int
 | .inl k=>hashInt k
 | .inr x=>hashStr w x
theorem cJ:∀{k:Key} {v:Value},a1L k v=true→(∃ i t,k=Sum.inl i∧v=Value.int i t)∨(∃ x t,k=Sum.inr x∧v=Value.str x t)
 | .inl i,v,h=>by
  obtain⟨t,e⟩:=Value.isInt_shape (k:=i) (v:=v) h;exact .inl ⟨i,t,rfl,e⟩
 | .inr x,v,h=>by
  obtain⟨t,e⟩:=Value.isStrOf_shape (x:=x) (v:=v) h;exact .inr ⟨x,t,rfl,e⟩
theorem a72 (i:Int)(t:Tok):a1L (.inl i) (.int i t)=true:=by simp[a1L,Value.isInt]
theorem a6U (x:Str)(t:Tok):a1L (.inr x) (.str x t)=true:=by simp[a1L,Value.isStrOf]
theorem aHU (a b:Int):decide ((Sum.inl a:Key)=Sum.inl b)=(a==b):=by
 by_cases e:a=b
 ·subst e; simp
 ·have h:¬(Sum.inl a:Key)=Sum.inl b:=fun q=>e (Sum.inl.inj q);rw[decide_eq_false h];exact(beq_eq_false_iff_ne.mpr e).symm
theorem aHV (a b:Str):decide ((Sum.inr a:Key)=Sum.inr b)=decide (a=b):=by
 by_cases e:a=b
 ·subst e; simp
 ·have h:¬(Sum.inr a:Key)=Sum.inr b:=fun q=>e (Sum.inr.inj q);rw[decide_eq_false h,decide_eq_false e]
theorem aGD (a:Int)(b:Str):decide ((Sum.inl a:Key)=Sum.inr b)=false:=decide_eq_false (fun q=>nomatch q)
theorem aHA (a:Str)(b:Int):decide ((Sum.inr a:Key)=Sum.inl b)=false:=decide_eq_false (fun q=>nomatch q)
noncomputable def cM (prog:Program)(w:World):PySem.KeyKind prog w Key where
 is:=a1L
 hash:=aMY w
 inj:=fun v a b ha hb=>by
  rcases cJ ha with⟨i,t,rfl,rfl⟩|⟨x,t,rfl,rfl⟩
  ·rcases cJ hb with⟨j,u,rfl,e⟩|⟨y,u,rfl,e⟩
   ·injection e with e1 _; rw[e1]
   ·exact nomatch e
  ·rcases cJ hb with⟨j,u,rfl,e⟩|⟨y,u,rfl,e⟩
   ·exact nomatch e
   ·injection e with e1 _; rw[e1]
 byValue:=fun k v h=>by
  rcases cJ h with⟨i,t,rfl,rfl⟩|⟨x,t,rfl,rfl⟩<;>rfl
 pyHash:=fun hv h=>by
  rcases cJ hv with⟨i,t,rfl,rfl⟩|⟨x,t,rfl,rfl⟩
  ·exact wpAny_pyHash_int h
  ·exact wpAny_pyHash_str h
 eqBool:=fun hu hv h=>by
  rcases cJ hu with⟨i,t,rfl,rfl⟩|⟨x,t,rfl,rfl⟩
  ·rcases cJ hv with⟨j,u,rfl,rfl⟩|⟨y,u,rfl,rfl⟩
   ·rw[aHU] at h; exact wpAny_eqBool_int h
   ·rw[aGD] at h; exact SeqAt.EqAt.int_str i t y u _ _ _ _ h
  ·rcases cJ hv with⟨j,u,rfl,rfl⟩|⟨y,u,rfl,rfl⟩
   ·rw[aHA] at h; exact SeqAt.EqAt.str_int x t j u _ _ _ _ h
   ·rw[aHV] at h; exact wpAny_eqBool_str h
 «strs»:=fun k x t v h=>by
  rcases cJ h with⟨i,u,rfl,e⟩|⟨y,u,rfl,e⟩
  ·exact nomatch e
  ·injection e with e1 _;subst e1
   cases v<;>rfl
theorem a4L (prog:Program)(w:World)(k:Key)(v:Value):(cM prog w).is k v=a1L k v:=rfl
theorem a1S (prog:Program)(w:World)(i:Int)(t:Tok):(cM prog w).is (.inl i) (.int i t)=true:=a72 i t
theorem a2S (prog:Program)(w:World)(x:Str)(t:Tok):(cM prog w).is (.inr x) (.str x t)=true:=a6U x t
end L2
namespace L2
open PySem PySem.Spec PyProof.Rows
inductive V where
 | non|bl (b:Bool)|int (i:Int)|str (x:Str)|byt (b:Array UInt8)|flt (b:UInt64)|ref (a:Addr)|ty (n:String)
 deriving DecidableEq
noncomputable def RelV:V→Value→Prop
 | .non,u=>u=Value.none
 | .bl b,u=>u=Value.bool b
 | .int i,u=>∃ t,u=Value.int i t
 | .str x,u=>∃ t,u=Value.str x t
 | .byt b,u=>∃ t,u=Value.bytes b t
 | .flt b,u=>∃ t,u=Value.float b t
 | .ref a,u=>u=Value.ref a
 | .ty n,u=>u=Value.type n
abbrev Vals:List V→List Value→Prop:=Paired RelV
theorem Vals.length {xs:List V}{us:List Value}(r:Vals xs us):xs.length=us.length:=Paired.length r
theorem Vals.get:∀{xs:List V} {us:List Value} {i:Nat} {x:V},Vals xs us→xs[i]?=some x→∃ u,us[i]?=some u∧RelV x u
 | _,_,_,_,.nil,e=>by simp at e
 | _,_,0,_,.cons r _,e=>by simp at e; subst e; exact⟨_,rfl,r⟩
 | _,_,i+1,x,.cons _ t,e=>by
  obtain⟨u,h1,h2⟩:=Vals.get (i:=i) (x:=x) t (by simpa using e);exact⟨u,by simpa using h1,h2⟩
theorem Vals.set {x:V}{u:Value}(r:RelV x u):∀{xs:List V} {us:List Value} (i:Nat),Vals xs us→Vals (xs.set i x) (us.set i u)
 | _,_,_,.nil=>.nil
 | _,_,0,.cons _ t=>.cons r t
 | _,_,i+1,.cons q t=>.cons q (Vals.set r i t)
theorem Vals.append:∀{xs ys:List V} {us ws:List Value},Vals xs us→Vals ys ws→Vals (xs++ys) (us++ws):=by
 intro xs ys us ws h q
 induction h with
 | nil=>exact q
 | cons r t ih=>exact .cons r ih
theorem Vals.take:∀{xs:List V} {us:List Value} (n:Nat),Vals xs us→Vals (xs.take n) (us.take n)
 | _,_,0,_=>.nil
 | _,_,_+1,.nil=>.nil
 | _,_,n+1,.cons r t=>.cons r (Vals.take n t)
theorem Vals.drop:∀{xs:List V} {us:List Value} (n:Nat),Vals xs us→Vals (xs.drop n) (us.drop n)
 | _,_,0,r=>r
 | _,_,_+1,.nil=>.nil
 | _,_,n+1,.cons _ t=>Vals.drop n t
noncomputable def RelO:Option V→Option Value→Prop
 | some v,some u=>RelV v u
 | none,none=>True
 | _,_=>False
noncomputable def KV {κ:Type}:List (κ×V)→List (κ×Value)→Prop:=Paired fun(p:κ×V) (q:κ×Value)=>p.1=q.1∧RelV p.2 q.2
noncomputable def kV:Key→V
 | .inl i=>.int i
 | .inr x=>.str x
inductive HO where
 | lst (xs:List V)
 | tup (xs:List V)
 | dK (kvs:List (Key×V))|dT (kvs:List (List Key×V))
 | set (S:Int→Bool) (n:Nat)
 | ins (C dx:Addr) (fs:List (Str×V))
 | own (x:Addr)
 | xd (fs:List (Str×V))
 | met (f x:Addr)
 | rng (lo hi:Int)
 | frz (o:Obj) (u:HO)
 | tbl (ps:Array Value)
 | ext (φ:Heap→Prop)
abbrev Hp:=Addr→Option HO
noncomputable def upd (H:Hp)(a:Addr)(o:HO):Hp:=fun b=>if b=a then some o else H b
theorem bA {H:Hp}{a:Addr}{o:HO}:upd H a o a=some o:=by unfold upd; rw[if_pos rfl]
theorem aZ {H:Hp}{a b:Addr}{o:HO}(h:b≠a):upd H a o b=H b:=by unfold upd; rw[if_neg h]
theorem a8T {H:Hp}{a b:Addr}{o u:HO}(h:H a=some o)(h':H b=some u)(d:o≠u):a≠b:=by
 intro e; subst e; rw[h] at h'; exact d (Option.some.inj h')
theorem bJ {H:Hp}{a b:Addr}{o:HO}(h:H a=some o)(h':H b=none):a≠b:=by
 intro e; subst e; rw[h] at h'; cases h'
section
variable (P:Program)(w:World)
noncomputable def ObjOk (H:Hp)(h:Heap)(a:Addr):HO→Prop
 | .lst xs=>xs.length≤sizeLine∧∃(its:List Value) (n:Nat),Vals xs its∧h.get? a=some { cls:=.type "list", data:=.seq its.toArray n }
 | .tup xs=>xs.length≤sizeLine∧∃ its:List Value,Vals xs its∧IsTup h a its.toArray
 | .dK kvs=>kvs.length≤sizeLine∧(a==sysModules)=false∧∃ vs,KV kvs vs∧h.DictOf (cM P w) a vs
 | .dT kvs=>kvs.length≤sizeLine∧(a==sysModules)=false∧∃ xs:List (List Key×Addr×Value),
   Paired (fun(p:List Key×V) (q:List Key×Addr×Value)=>p.1=q.1∧H q.2.1=some (.tup (p.1.map kV))∧RelV p.2 q.2.2) kvs xs ∧
   ∃ o es ep,h.get? a=some o∧o.ExactDict∧o.data=.dict es ep∧es.toList=xs.map (entryOfKey (tupleKind (cM P w)))∧(xs.map (·.1)).Nodup
 | .set S n=>h.SetOf (intKind P w) a S n
 | .ins C dx fs=>H dx=some (.own a)∧fs.length≤1000∧dx≠a∧h.get? a=some (PySem.W.instObj C dx) ∧
   ∃ mA,h.Ns1 dx mA∧(∀ f,RelO (fs.lookup f) (mA f))∧PySem.Within mA (fs.map (·.1))
 | .own _=>∃ o,h.get? a=some o
 | .xd fs=>∃ mA,h.Ns1 a mA∧∀ f,RelO (fs.lookup f) (mA f)
 | .rng lo hi=>∃ t u v,h.get? a=some { cls:=.type "range", data:=.fields #[.int lo t,.int hi u,.int 1 v] }
 | .frz o u=>h.get? a=some o∧ObjOk H h a u
 | .tbl ps=>h.get? a=some { cls:=.none,data:=.fields ps }
 | .met f x=>h.get? a=some (PySem.W.methodObj (.ref f) (.ref x))
 | .ext φ=>φ h∧(∃ o,h.get? a=some o)∧∀ h1 h2:Heap,φ h1→(∀ o,h1.get? a=some o→h2.get? a=some o)→φ h2
noncomputable def HOk (H:Hp)(h:Heap):Prop:=∀ a o,H a=some o→ObjOk P w H h a o
end
section
variable {P:Program}{w:World}{H H':Hp}{h h':Heap}{a:Addr}{o:HO}
theorem ObjOk.lt (x:ObjOk P w H h a o):a<h.objs.size:=by
 cases o with
 | lst xs=>obtain⟨_,_,_,_,e⟩:=x; exact Heap.lt_size e
 | tup xs=>obtain⟨_,_,_,p⟩:=x; exact p.lt
 | dK kvs=>obtain⟨_,_,_,_,o,_,_,e,_⟩:=x; exact Heap.lt_size e
 | dT kvs=>obtain⟨_,_,_,_,o,_,_,e,_⟩:=x; exact Heap.lt_size e
 | set S n=>obtain⟨o,_,_,_,e,_⟩:=x; exact Heap.lt_size e
 | ins C dx fs=>obtain⟨_,_,_,e,_⟩:=x; exact Heap.lt_size e
 | own y=>obtain⟨_,e⟩:=x; exact Heap.lt_size e
 | xd fs=>obtain⟨_,⟨_,_,_,e,_⟩,_⟩:=x; exact Heap.lt_size e
 | rng lo hi=>obtain⟨_,_,_,e⟩:=x; exact Heap.lt_size e
 | frz ob u=>obtain⟨e,_⟩:=x; exact Heap.lt_size e
 | tbl ps=>exact Heap.lt_size (show h.get? a=some _ from x)
 | met f y=>exact Heap.lt_size (show h.get? a=some _ from x)
 | ext φ=>obtain⟨_,⟨_,e⟩,_⟩:=x; exact Heap.lt_size e
theorem Paired.mapP {α β:Type}{F G:α→β→Prop}:∀{l₁:List α} {l₂:List β},Paired F l₁ l₂→(∀ a b,F a b→G a b)→Paired G l₁ l₂:=by
 intro l₁ l₂ h f
 induction h with
 | nil=>exact .nil
 | cons r t ih=>exact .cons (f _ _ r) ih
theorem Paired.imp' {α β:Type}{F G:α→β→Prop}(f:∀ a b,F a b→G a b){l₁:List α}{l₂:List β}(r:Paired F l₁ l₂):Paired G l₁ l₂:=Paired.mapP r f
theorem ObjOk.stay (x:ObjOk P w H h a o)(k:∀ b u,(b=a∨H b=some (.own a))→h.get? b=some u→h'.get? b=some u)
  (ho:∀ b,H b=some (.own a)→H' b=some (.own a)) (ht:∀ b xs,H b=some (.tup xs)→H' b=some (.tup xs)):ObjOk P w H' h' a o:=by
 induction o with
 | lst xs=>obtain⟨z,its,n,r,e⟩:=x; exact⟨z,its,n,r,k _ _ (.inl rfl) e⟩
 | tup xs=>obtain⟨z,its,r,ob,e,c⟩:=x; exact⟨z,its,r,ob,k _ _ (.inl rfl) e,c⟩
 | dK kvs=>obtain⟨z,y,vs,r,ob,es,ep,e,c⟩:=x; exact⟨z,y,vs,r,ob,es,ep,k _ _ (.inl rfl) e,c⟩
 | dT kvs=>
  obtain⟨z,y,xs,r,ob,es,ep,e,c⟩:=x;exact⟨z,y,xs,Paired.mapP r fun p q z=>⟨z.1,ht _ _ z.2.1,z.2.2⟩,ob,es,ep,k _ _ (.inl rfl) e,c⟩
 | set S n=>obtain⟨ob,es,ep,t,e,c⟩:=x; exact⟨ob,es,ep,t,k _ _ (.inl rfl) e,c⟩
 | ins C dx fs=>
  obtain⟨d,z,ne,e,mA,⟨od,es,ep,e2,c⟩,r⟩:=x;exact⟨ho _ d,z,ne,k _ _ (.inl rfl) e,mA,⟨od,es,ep,k _ _ (.inr d) e2,c⟩,r⟩
 | own y=>obtain⟨ob,e⟩:=x; exact⟨ob,k _ _ (.inl rfl) e⟩
 | xd fs=>obtain⟨mA,⟨od,es,ep,e,c⟩,r⟩:=x; exact⟨mA,⟨od,es,ep,k _ _ (.inl rfl) e,c⟩,r⟩
 | rng lo hi=>obtain⟨t,u,v,e⟩:=x; exact⟨t,u,v,k _ _ (.inl rfl) e⟩
 | frz ob u ih=>obtain⟨e,q⟩:=x; exact⟨k _ _ (.inl rfl) e,ih q⟩
 | tbl ps=>
  have e:h.get? a=some { cls:=.none,data:=.fields ps }:=x;show h'.get? a=some { cls:=.none,data:=.fields ps };exact k a _ (.inl rfl) e
 | met f y=>
  have e:h.get? a=some (PySem.W.methodObj (.ref f) (.ref y)):=x;show h'.get? a=some (PySem.W.methodObj (.ref f) (.ref y));exact k a _ (.inl rfl) e
 | ext φ=>obtain⟨p,⟨o,e⟩,st⟩:=x; exact⟨st _ _ p fun o q=>k _ _ (.inl rfl) q,⟨o,k _ _ (.inl rfl) e⟩,st⟩
theorem HOk.lt (x:HOk P w H h)(e:H a=some o):a<h.objs.size:=(x a o e).lt
theorem HOk.fresh (x:HOk P w H h)(e:h.objs.size≤a):H a=none:=by
 cases q:H a with
 | none=>rfl
 | some u=>exact absurd (Nat.lt_of_lt_of_le (x.lt q) e) (Nat.lt_irrefl _)
theorem HOk.kept (x:HOk P w H h)(k:∀ b u,h.get? b=some u→h'.get? b=some u):HOk P w H h':=fun a o e=>
 (x a o e).stay (fun b u _ q=>k b u q) (fun _ q=>q) fun _ _ q=>q
theorem HOk.laid (x:HOk P w H h)(k:∀ b u,h.get? b=some u→h'.get? b=some u)(hp:h.objs.size≤a)(new:ObjOk P w (upd H a o) h' a o):HOk P w (upd H a o) h':=fun b u e=>by
 have hn:=x.fresh hp
 by_cases hb:b=a
 ·subst hb; rw[bA] at e; cases e; exact new
 ·rw[aZ hb] at e;exact(x b u e).stay (fun c v _ q=>k c v q) (fun c q=>by rw[aZ (bJ q hn)]; exact q) fun c xs q=>by rw[aZ (bJ q hn)]; exact q
end
noncomputable def Rd (H:Hp)(a:Addr)(u:HO):Prop:=H a=some u∨∃ o,H a=some (.frz o u)
theorem Rd.ok {P:Program}{w:World}{H:Hp}{h:Heap}{a:Addr}{u:HO}(r:Rd H a u)(x:HOk P w H h):ObjOk P w H h a u:=by
 rcases r with r|⟨o,r⟩
 ·exact x a u r
 ·obtain⟨_,q⟩:=x a _ r;exact q
noncomputable def Mut:Option HO→Prop
 | some (.lst _)=>True
 | some (.dK _)=>True
 | some (.dT _)=>True
 | some (.set _ _)=>True
 | some (.ins _ _ _)=>True
 | some (.ext _)=>True
 | _=>False
section
variable {P:Program}{w:World}{H:Hp}{h h':Heap}{x e:Addr}{o':HO}
theorem HOk.write (ok:HOk P w H h)(mu:Mut (H x))(he:e=x∨H e=some (.own x))(k:∀ b u,b≠e→h.get? b=some u→h'.get? b=some u)(heo:∃ u,h'.get? e=some u)
  (new:ObjOk P w (upd H x o') h' x o'):HOk P w (upd H x o') h':=fun b u q=>by
 have nown:∀ c y,H c=some (.own y)→c≠x:=fun c y r z=>by subst z; rw[r] at mu; exact mu
 have ntup:∀ c xs,H c=some (.tup xs)→c≠x:=fun c xs r z=>by subst z; rw[r] at mu; exact mu
 by_cases hb:b=x
 ·subst hb; rw[bA] at q; cases q; exact new
 ·rw[aZ hb] at q
  by_cases hbe:b=e
  ·have q':H b=some (.own x):=by
    rcases he with z|z
    ·exact absurd (hbe.trans z) hb
    ·rw[hbe]; exact z
   rw[q] at q'; cases q';obtain⟨v,hv⟩:=heo;exact⟨v,by rw[hbe]; exact hv⟩
  ·refine(ok b u q).stay (fun c v hc r=>k c v ?_ r) (fun c r=>by rw[aZ (nown c b r)]; exact r) fun c xs r=>by rw[aZ (ntup c xs r)]; exact r
   rcases hc with rfl|hc
   ·exact hbe
   ·rintro rfl;rcases he with z|z
    ·exact nown c b hc z
    ·rw[hc] at z; cases z; exact hb rfl
end
structure Un (fs ex:List Addr)(H H':Hp)(h h':Heap):Prop where
 keep:∀ b o,h.get? b=some o→H b=none→b∉fs→b∉ex→h'.get? b=some o
 slot:∀ b o,h.get? b=some o→H b=none→b∈fs→b∉ex→∃ sl,h'.get? b=some { o with slots:=sl }
 free:∀ b o,h.get? b=some o→H b=none→b∉ex→H' b=none
 there:∀ b o,h.get? b=some o→b∉ex→∃ o',h'.get? b=some o'
 tups:∀ b xs,H b=some (.tup xs)→H' b=some (.tup xs)
 frzs:∀ b o u,H b=some (.frz o u)→H' b=some (.frz o u)
 tbls:∀ b ps,H b=some (.tbl ps)→∃ more,H' b=some (.tbl (ps++more))
section
variable {fs fs' ex ex':List Addr}{H H1 H2:Hp}{h h1 h2 h':Heap}{a x e:Addr}{o:HO}
theorem Un.any (u:Un fs ex H H1 h h1){b:Addr}{ob:Obj}(q:h.get? b=some ob)(n:H b=none)(hx:b∉ex):∃ sl,h1.get? b=some { ob with slots:=sl }:=by
 by_cases hb:b∈fs
 ·exact u.slot b ob q n hb hx
 ·exact⟨ob.slots,u.keep b ob q n hb hx⟩
theorem Un.kept (k:∀ b u,h.get? b=some u→h'.get? b=some u):Un fs ex H H h h':=
 ⟨fun b ob q _ _ _=>k b ob q,fun b ob q _ _ _=>⟨ob.slots,k b ob q⟩,fun _ _ _ n _=>n,fun b ob q _=>⟨ob,k b ob q⟩,fun _ _ q=>q,fun _ _ _ q=>q,fun _ ps q=>⟨#[],by rw[q]; simp⟩⟩
theorem Un.refl:Un fs ex H H h h:=Un.kept fun _ _ q=>q
theorem Un.laid (k:∀ b u,h.get? b=some u→h'.get? b=some u)(hp:h.objs.size≤a)(hn:H a=none):Un fs ex H (upd H a o) h h' where
 keep:=fun b u q _ _ _=>k b u q
 slot:=fun b u q _ _ _=>⟨u.slots,k b u q⟩
 free:=fun b u q n _=>by rw[aZ (Nat.ne_of_lt (Nat.lt_of_lt_of_le (Heap.lt_size q) hp))]; exact n
 there:=fun b u q _=>⟨u,k b u q⟩
 tups:=fun b xs q=>by rw[aZ (bJ q hn)]; exact q
 frzs:=fun b u xs q=>by rw[aZ (bJ q hn)]; exact q
 tbls:=fun b ps q=>⟨#[],by rw[aZ (bJ q hn),q]; simp⟩
theorem Un.write (mu:Mut (H x))(he:e=x∨H e=some (.own x))(k:∀ b u,b≠e→h.get? b=some u→h'.get? b=some u)(heo:∃ u,h'.get? e=some u):Un fs ex H (upd H x o) h h':=by
 have hx:∀ b,H b=none→b≠x:=fun b n z=>by subst z; rw[n] at mu; exact mu
 have hb:∀ b,H b=none→b≠e:=fun b n z=>by
  subst z;rcases he with r|r
  ·exact hx b n r
  ·rw[n] at r; cases r
 have hm:∀ b u,H b=some u→¬Mut (some u)→b≠x:=fun b u q nm z=>by subst z; rw[q] at mu; exact nm mu
 refine⟨fun b u q n _ _=>k b u (hb b n) q,fun b u q n _ _=>⟨u.slots,k b u (hb b n) q⟩,fun b u q n _=>by rw[aZ (hx b n)]; exact n,fun b u q _=>?_,
  fun b xs q=>by rw[aZ (hm b _ q fun z=>z)]; exact q,fun b u xs q=>by rw[aZ (hm b _ q fun z=>z)]; exact q,fun b ps q=>⟨#[],by rw[aZ (hm b _ q fun z=>z),q]; simp⟩⟩
 by_cases hbe:b=e
 ·subst hbe; exact heo
 ·exact⟨u,k b u hbe q⟩
end
noncomputable def trk (h:Heap)(H:Hp):List Addr:=(List.range h.objs.size).filter fun a=>(H a).isSome
noncomputable def a9L (h:Heap)(H:Hp):Heap:=PySem.W.hideAll h (trk h H)
theorem a85 (h:Heap)(H:Hp):(a9L h H).objs.size=h.objs.size:=PySem.W.hideAll_size _ _
theorem a9Z {h:Heap}{H:Hp}{b:Addr}{o:Obj}(e:h.get? b=some o)(n:H b=none):(a9L h H).get? b=some o:=
 PySem.W.hideAll_get _ e fun hm=>by
  have q:(H b).isSome=true:=(List.mem_filter.mp hm).2;rw[n] at q; simp at q
theorem aCN {h:Heap}{H:Hp}{b:Addr}{o:Obj}(e:(a9L h H).get? b=some o):h.get? b=some o∧H b=none:=by
 have e':h.get? b=some o:=PySem.W.of_hideAll (trk h H) e;refine⟨e',?_⟩
 cases q:H b with
 | none=>rfl
 | some x=>
  have hm:b∈trk h H:=List.mem_filter.mpr ⟨List.mem_range.mpr (Heap.lt_size e'),by simp[q]⟩;have z:(a9L h H).get? b=none:=PySem.W.hideAll_none (trk h H) hm;rw[z] at e; cases e
end L2
namespace L2
open PySem PySem.Spec PyProof.Rows
structure Mod (K:PySem.W.Frag)(mg:Str→Option Value)(base:Heap):Prop where
 kin:K.In base
 glob:base.Ns mainGlobals mg
 blt:∃ mb,base.Ns builtinsNs mb∧∀ x:Str,x ≠ "__name__" → mb x=bootBuiltins x
 nolimit:base.NoLimit
structure Cx where
 prog:Program
 w:World
 K:PySem.W.Frag
 mg:Str→Option Value
 base:Heap
 A:Around
 N:List Str
 s₀:Shared
 H₀:Hp
 env:Env
 outer:List Env
 stack:List Env
 ex:List Addr
 fn:Str→Bool
 calm:Bool
 pn:List (Addr×Obj)
 xe:Value→Shared→Prop
noncomputable def frs (l:List Env):List Addr:=l.filterMap (·.frame)
abbrev Cx.fs (X:Cx):List Addr:=frs X.outer
noncomputable def Vis (sc:Scope)(x:Str):Prop:=sc.names.lookup x=some .local∨sc.names.lookup x=some .cell∨sc.names.lookup x=some .free
noncomputable def Loc (sc:Scope)(x:Str):Prop:=sc.names.lookup x=some .local∨sc.names.lookup x=some .cell
noncomputable def Look (env:Env)(h:Heap)(m:Str→Option Value)(x:Str)(u:Value):Prop:=
 (env.kindOf x=some .local∧m x=some u)∨((env.kindOf x=some .cell∨env.kindOf x=some .free)∧∃ c,env.cells.lookup x=some c∧h.IsCell c (some u))
structure Cx.Ok (X:Cx):Prop where
 mod:Mod X.K X.mg X.base
 kind:X.env.scope.kind=.function
 glob:X.env.globals=mainGlobals
 blt:X.env.builtins=builtinsNs
 above:X.s₀.heap.objs.size≤X.env.locals
 inj:∀ x y c,X.env.cells.lookup x=some c→X.env.cells.lookup y=some c→x=y
 has:∀ x,(X.env.kindOf x=some .cell∨X.env.kindOf x=some .free)→∃ c,X.env.cells.lookup x=some c
 cab:∀ x c,X.fn x=true→X.env.cells.lookup x=some c→X.s₀.heap.objs.size≤c
 hd:X.calm=true→X.A.handled=none
 frames:X.A.frames=some X.stack
 stk:X.stack=X.outer∨(X.stack=X.env::X.outer∧X.env.frame=some X.env.locals)
 exf:∀ b∈X.ex,b≠X.env.locals∧∀ x c,X.env.cells.lookup x=some c→c≠b
 bs:∀ b o,X.base.get? b=some o→X.s₀.heap.get? b=some o∧X.H₀ b=none
 bsz:X.base.objs.size≤X.s₀.heap.objs.size
 noex:∀ b o,X.base.get? b=some o→b∉X.ex
 exfs:∀ b∈X.ex,b∉X.fs
 funs:X.s₀.heap.FunFrames X.base X.outer
 frf:∀ b∈X.fs,X.H₀ b=none
structure Inv (X:Cx)(pins:List (Addr×Obj))(σ:List (Option V))(H:Hp)(s:Shared):Prop where
 ok:X.Ok
 os:s.os=X.s₀.os
 bare:AllBare s.gens
 base:Un X.fs X.ex X.H₀ H X.s₀.heap s.heap
 loc:∃ m,s.heap.Ns X.env.locals m∧∀(i:Nat) (x:Str) (v:V),X.N[i]?=some x→σ[i]?=some (some v)→Vis X.env.scope x→∃ u,RelV v u∧Look X.env s.heap m x u
 cell:∀ x c,X.env.cells.lookup x=some c→∃ v,s.heap.IsCell c v
 free:H X.env.locals=none
 freeC:∀ x c,X.env.cells.lookup x=some c→H c=none
 pin:∀ p∈X.pn++pins,s.heap.get? p.1=some p.2∧H p.1=none∧p.1≠X.env.locals∧p.1∉X.fs∧∀ v,p.2.data≠.cell v
 hok:HOk X.prog X.w H s.heap
 len:σ.length=X.N.length
section
variable {X:Cx}{pins:List (Addr×Obj)}{σ:List (Option V)}{H H':Hp}{s:Shared}{h':Heap}
theorem Cx.Ok.nofr (ok:X.Ok){b:Addr}{o:Obj}(e:X.base.get? b=some o):b∉X.fs:=fun hb=>by
 have:=(ok.funs.mem hb).1;rw[e] at this; cases this
theorem Inv.bs (I:Inv X pins σ H s):∀ b o,X.base.get? b=some o→s.heap.get? b=some o∧H b=none:=fun b o e=>
 ⟨I.base.keep b o (I.ok.bs b o e).1 (I.ok.bs b o e).2 (I.ok.nofr e) (I.ok.noex b o e),I.base.free b o (I.ok.bs b o e).1 (I.ok.bs b o e).2 (I.ok.noex b o e)⟩
theorem Inv.bk (I:Inv X pins σ H s):∀ b o,X.base.get? b=some o→s.heap.get? b=some o:=fun b o e=>(I.bs b o e).1
theorem Inv.mod (I:Inv X pins σ H s):Mod X.K X.mg X.base:=I.ok.mod
theorem Inv.kIn (I:Inv X pins σ H s):X.K.In s.heap:=I.ok.mod.kin.keeps I.bk
theorem Inv.fr (I:Inv X pins σ H s):∃ m,Fr X.base X.env.locals s.heap m:=
 let ⟨m,hn,_⟩:=I.loc
 ⟨m,hn,I.bk,Nat.le_trans I.ok.bsz I.ok.above⟩
theorem Inv.lt (I:Inv X pins σ H s):X.env.locals<s.heap.objs.size:=let ⟨_,hn,_⟩:=I.loc; hn.lt
theorem Inv.sz (I:Inv X pins σ H s):X.s₀.heap.objs.size≤s.heap.objs.size:=Nat.le_trans I.ok.above (Nat.le_of_lt I.lt)
theorem Inv.nofs (I:Inv X pins σ H s){a:Addr}(h:s.heap.objs.size≤a):a∉X.fs:=fun hb=>by
 obtain⟨_,o,ho,_⟩:=I.ok.funs.mem hb;exact absurd (Nat.lt_of_lt_of_le (Heap.lt_size ho) (Nat.le_trans I.sz h)) (Nat.lt_irrefl _)
theorem Inv.cne (I:Inv X pins σ H s):∀ x c,X.env.cells.lookup x=some c→c≠X.env.locals:=fun x c e z=>by
 obtain⟨v,o,ho,hd⟩:=I.cell x c e;obtain⟨m,⟨o',es,ep,ho',hd',_⟩,_⟩:=I.loc;rw[z,ho'] at ho; cases ho; rw[hd'] at hd; cases hd
theorem Inv.funs (I:Inv X pins σ H s):s.heap.FunFrames X.base X.outer:=by
 have all:∀(l:List Env),(∀ b∈frs l,b∈X.fs)→X.s₀.heap.FunFrames X.base l→s.heap.FunFrames X.base l:=by
  intro l
  induction l with
  | nil=>intro _ _; trivial
  | cons env r ih=>
   intro hs hl;obtain⟨hk,⟨L,o,hf,hn,ho,hd⟩,hr⟩:=hl;have hL:L∈X.fs:=hs L (by unfold frs; rw[List.filterMap_cons,hf]; exact List.mem_cons_self);obtain⟨sl,e⟩:=I.base.slot L o ho (I.ok.frf L hL) hL fun z=>I.ok.exfs L z hL;exact⟨hk,⟨L,_,hf,hn,e,hd⟩,ih (fun b hb=>hs b (by unfold frs; rw[List.filterMap_cons,hf]; exact List.mem_cons_of_mem _ hb)) hr⟩
 exact all X.outer (fun _ hb=>hb) I.ok.funs
theorem Inv.stack (I:Inv X pins σ H s):s.heap.FunFrames X.base X.stack:=by
 rcases I.ok.stk with e|⟨e,hf⟩
 ·rw[e]; exact I.funs
 ·rw[e];obtain⟨m,hn,_⟩:=I.loc;refine .cons (by rw[I.ok.kind]; decide) hf hn ?_ I.funs;exact Heap.get?_none_of_le (Nat.le_trans I.ok.bsz I.ok.above)
theorem Inv.stkSub (I:Inv X pins σ H s):∀ b∈frs X.stack,b∈X.env.locals::X.fs:=fun b hb=>by
 rcases I.ok.stk with e|⟨e,hf⟩
 ·rw[e] at hb; exact List.mem_cons_of_mem _ hb
 ·rw[e] at hb;unfold frs at hb;rw[List.filterMap_cons,hf] at hb;exact hb
theorem Inv.stkFree (I:Inv X pins σ H s):∀ b∈frs X.stack,H b=none:=fun b hb=>by
 rcases List.mem_cons.mp (I.stkSub b hb) with e|hb
 ·rw[e]; exact I.free
 ·obtain⟨_,o,ho,_⟩:=I.ok.funs.mem hb;exact I.base.free b o ho (I.ok.frf b hb) fun z=>I.ok.exfs b z hb
theorem Inv.step {g':Array GenState}{t':Nat}{d':Drawn}{ch:List Addr}(I:Inv X pins σ H s)
  (hch:∀ b∈ch,(b∈X.ex∨X.s₀.heap.objs.size≤b)∧b≠X.env.locals∧(∀ x c,X.env.cells.lookup x=some c→c≠b)∧∀ p∈X.pn++pins,p.1≠b)
  (keep:∀ b o,b≠X.env.locals→b∉X.fs→b∉ch→s.heap.get? b=some o→H b=none→h'.get? b=some o)
  (slot:∀ b o,b≠X.env.locals→b∈X.fs→b∉ch→s.heap.get? b=some o→H b=none→∃ sl,h'.get? b=some { o with slots:=sl }) (free:∀ b o,b∉ch→s.heap.get? b=some o→H b=none→H' b=none)
  (there:∀ b o,b∉ch→s.heap.get? b=some o→∃ o',h'.get? b=some o')
  (tups:∀ b xs,H b=some (.tup xs)→H' b=some (.tup xs)) (frzs:∀ b o u,H b=some (.frz o u)→H' b=some (.frz o u)) (tbls:∀ b ps,H b=some (.tbl ps)→∃ more,H' b=some (.tbl (ps++more)))
  (ns:∀ m,s.heap.Ns X.env.locals m→h'.Ns X.env.locals m) (hok:HOk X.prog X.w H' h') (hg:AllBare g') :
  Inv X pins σ H' { s with heap:=h',gens:=g',drawn:=d',toks:=t' }:=by
 have neL:∀ b o,X.s₀.heap.get? b=some o→b≠X.env.locals:=fun b o e=>Nat.ne_of_lt (Nat.lt_of_lt_of_le (Heap.lt_size e) I.ok.above);have neC:∀ b o,X.s₀.heap.get? b=some o→b∉X.ex→b∉ch:=fun b o e hx hb=>by
  rcases(hch b hb).1 with z|z
  ·exact hx z
  ·exact absurd (Nat.lt_of_lt_of_le (Heap.lt_size e) z) (Nat.lt_irrefl _)
 have cellK:∀ x c,X.env.cells.lookup x=some c→∀ v,s.heap.IsCell c v→h'.IsCell c v:=fun x c e v ⟨o,ho,hd⟩=>by
  have nch:c∉ch:=fun z=>(hch c z).2.2.1 x c e rfl
  by_cases hc:c∈X.fs
  ·obtain⟨sl,q⟩:=slot c o (I.cne x c e) hc nch ho (I.freeC x c e);exact⟨_,q,hd⟩
  ·exact⟨o,keep c o (I.cne x c e) hc nch ho (I.freeC x c e),hd⟩
 refine⟨I.ok,I.os,hg,⟨fun b o e n hb hx=>?_,fun b o e n hb hx=>?_,fun b o e n hx=>?_,fun b o e hx=>?_,fun b xs e=>tups b xs (I.base.tups b xs e),fun b o xs e=>frzs b o xs (I.base.frzs b o xs e),fun b ps e=>?_⟩,?_,fun x c e=>?_,?_,fun x c e=>?_,fun p hp=>?_,hok,I.len⟩
 ·exact keep b o (neL b o e) hb (neC b o e hx) (I.base.keep b o e n hb hx) (I.base.free b o e n hx)
 ·obtain⟨sl,e1⟩:=I.base.slot b o e n hb hx;obtain⟨sl',e2⟩:=slot b _ (neL b o e) hb (neC b o e hx) e1 (I.base.free b o e n hx);exact⟨sl',e2⟩
 ·obtain⟨o',e1⟩:=I.base.there b o e hx;exact free b o' (neC b o e hx) e1 (I.base.free b o e n hx)
 ·obtain⟨o',e1⟩:=I.base.there b o e hx;exact there b o' (neC b o e hx) e1
 ·obtain⟨m1,e1⟩:=I.base.tbls b ps e;obtain⟨m2,e2⟩:=tbls b _ e1;exact⟨m1++m2,by rw[e2,Array.append_assoc]⟩
 ·obtain⟨m,hn,hl⟩:=I.loc;refine⟨m,ns m hn,fun i x v e1 e2 e3=>?_⟩;obtain⟨u,r,l⟩:=hl i x v e1 e2 e3;refine⟨u,r,?_⟩;rcases l with l|⟨k,c,e,z⟩
  ·exact .inl l
  ·exact .inr ⟨k,c,e,cellK x c e _ z⟩
 ·obtain⟨v,z⟩:=I.cell x c e;exact⟨v,cellK x c e v z⟩
 ·obtain⟨m,⟨o,_,_,ho,_⟩,_⟩:=I.loc;exact free _ o (fun z=>(hch _ z).2.1 rfl) ho I.free
 ·obtain⟨v,o,ho,hd⟩:=I.cell x c e;exact free c o (fun z=>(hch c z).2.2.1 x c e rfl) ho (I.freeC x c e)
 ·obtain⟨e,n,ne,nf,d⟩:=I.pin p hp;have nch:p.1∉ch:=fun z=>(hch p.1 z).2.2.2 p hp rfl;exact⟨keep p.1 p.2 ne nf nch e n,free p.1 p.2 nch e n,ne,nf,d⟩
theorem Inv.un {t':Nat}(I:Inv X pins σ H s)(u:Un X.fs [] H H' s.heap h')(hok:HOk X.prog X.w H' h'):Inv X pins σ H' { s with heap:=h',toks:=t' }:=by
 obtain⟨m,⟨o,es,ep,ho,r⟩,_⟩:=id I.loc;obtain⟨sl,hL⟩:=u.any ho I.free (by simp);exact I.step (g':=s.gens) (d':=s.drawn) (ch:=[]) (fun _ z=>nomatch z) (fun b o _ hb _ e n=>u.keep b o e n hb (by simp)) (fun b o _ hb _ e n=>u.slot b o e n hb (by simp)) (fun b o _ e n=>u.free b o e n (by simp)) (fun b o _ e=>u.there b o e (by simp)) u.tups u.frzs u.tbls (fun m' hm=>by
  obtain⟨o',es',ep',ho',r'⟩:=hm;rw[ho] at ho'; cases ho';exact⟨_,es',ep',hL,r'⟩) hok I.bare
theorem Inv.call {g':Array GenState}{t':Nat}{d':Drawn}{ch:List Addr}(I:Inv X pins σ H s)(u:Un (frs X.stack) ch H H' s.heap h')(hok:HOk X.prog X.w H' h')(hg:AllBare g')
  (hch:∀ b∈ch,(b∈X.ex∨X.s₀.heap.objs.size≤b)∧b≠X.env.locals∧(∀ x c,X.env.cells.lookup x=some c→c≠b)∧∀ p∈X.pn++pins,p.1≠b) :
  Inv X pins σ H' { s with heap:=h',gens:=g',drawn:=d',toks:=t' }:=by
 obtain⟨m,⟨o,es,ep,ho,r⟩,_⟩:=id I.loc;obtain⟨sl,hL⟩:=u.any ho I.free fun z=>(hch _ z).2.1 rfl;exact I.step (ch:=ch) hch (fun b o hL hb hc e n=>u.keep b o e n (fun z=>(List.mem_cons.mp (I.stkSub b z)).elim hL hb) hc) (fun b o _ _ hc e n=>u.any e n hc) (fun b o hc e n=>u.free b o e n hc) (fun b o hc e=>u.there b o e hc) u.tups u.frzs u.tbls (fun m' hm=>by
  obtain⟨o',es',ep',ho',r'⟩:=hm;rw[ho] at ho'; cases ho';exact⟨_,es',ep',hL,r'⟩) hok hg
theorem Inv.turned {t':Nat}{it:Addr}(I:Inv X pins σ H s)(k:∀ b o,b≠it→s.heap.get? b=some o→h'.get? b=some o)(hn:H it=none)(hL:it≠X.env.locals)
  (h1:it∈X.ex∨X.s₀.heap.objs.size≤it) (h2:∀ x c,X.env.cells.lookup x=some c→c≠it) (h3:∀ p∈X.pn++pins,p.1≠it):Inv X pins σ H { s with heap:=h',toks:=t' }:=by
 have nit:∀ b u,H b=some u→b≠it:=fun b u e z=>by rw[z,hn] at e; cases e
 refine I.step (g':=s.gens) (d':=s.drawn) (ch:=[it]) (fun b hb=>?_) (fun b o _ _ hc e _=>k b o (fun z=>hc (by simp[z])) e) (fun b o _ _ hc e _=>⟨o.slots,k b o (fun z=>hc (by simp[z])) e⟩) (fun _ _ _ _ n=>n)
  (fun b o hc e=>⟨o,k b o (fun z=>hc (by simp[z])) e⟩) (fun _ _ e=>e) (fun _ _ _ e=>e) (fun b ps e=>⟨#[],by rw[e]; simp⟩) (fun m hm=>?_) (fun b u e=>?_) I.bare
 ·have e:b=it:=by simpa using hb
  subst e;exact⟨h1,hL,h2,h3⟩
 ·obtain⟨o,es,ep,ho,r⟩:=hm;exact⟨o,es,ep,k _ o (Ne.symm hL) ho,r⟩
 ·refine(I.hok b u e).stay (fun c v hc q=>k c v ?_ q) (fun _ q=>q) fun _ _ q=>q;rcases hc with z|z
  ·rw[z]; exact nit b u e
  ·exact nit c _ z
theorem Inv.tok (I:Inv X pins σ H s)(t:Nat):Inv X pins σ H { s with toks:=t }:=I.un (h':=s.heap) (t':=t) Un.refl I.hok
theorem Inv.kept {t':Nat}(I:Inv X pins σ H s)(k:∀ b u,s.heap.get? b=some u→h'.get? b=some u):Inv X pins σ H { s with heap:=h',toks:=t' }:=I.un (Un.kept k) (I.hok.kept k)
theorem Inv.laid {a:Addr}{o:HO}{t':Nat}(I:Inv X pins σ H s)(k:∀ b u,s.heap.get? b=some u→h'.get? b=some u)(hp:s.heap.objs.size≤a)(new:ObjOk X.prog X.w (upd H a o) h' a o) :
  Inv X pins σ (upd H a o) { s with heap:=h',toks:=t' }:=I.un (Un.laid k hp (I.hok.fresh hp)) (I.hok.laid k hp new)
theorem Inv.write {x e:Addr}{o:HO}{t':Nat}(I:Inv X pins σ H s)(mu:Mut (H x))(he:e=x∨H e=some (.own x))(k:∀ b u,b≠e→s.heap.get? b=some u→h'.get? b=some u)(heo:∃ u,h'.get? e=some u)
  (new:ObjOk X.prog X.w (upd H x o) h' x o):Inv X pins σ (upd H x o) { s with heap:=h',toks:=t' }:=I.un (Un.write mu he k heo) (I.hok.write mu he k heo new)
theorem Inv.weak {σ':List (Option V)}(I:Inv X pins σ H s)(hl:σ'.length=σ.length)(w:∀(i:Nat) v,σ'[i]?=some (some v)→σ[i]?=some (some v)):Inv X pins σ' H s:=
 ⟨I.ok,I.os,I.bare,I.base,let ⟨m,hn,hl'⟩:=I.loc; ⟨m,hn,fun i x v e1 e2 e3=>hl' i x v e1 (w i v e2) e3⟩,I.cell,I.free,I.freeC,I.pin,I.hok,hl.trans I.len⟩
theorem Inv.pins_of {pins':List (Addr×Obj)}(I:Inv X pins σ H s)(h:∀ p∈pins',s.heap.get? p.1=some p.2∧H p.1=none∧p.1≠X.env.locals∧p.1∉X.fs∧∀ v,p.2.data≠.cell v):Inv X pins' σ H s:=
 ⟨I.ok,I.os,I.bare,I.base,I.loc,I.cell,I.free,I.freeC,fun p hp=>(List.mem_append.mp hp).elim (fun z=>I.pin p (List.mem_append_left _ z)) (h p),I.hok,I.len⟩
theorem a3J {N:List Str}(hN:N.Nodup){i j:Nat}{x:Str}(a:N[i]?=some x)(b:N[j]?=some x):i=j:=by
 obtain⟨h1,e1⟩:=List.getElem?_eq_some_iff.mp a;obtain⟨h2,e2⟩:=List.getElem?_eq_some_iff.mp b;exact(List.getElem_inj hN).mp (e1.trans e2.symm)
theorem zB {M:Model}{A:Around}{E:Value→Shared→Prop}{i:Nat}{x:Str}{v:V}{u:Value}{Q:Unit→Shared→Prop}(I:Inv X pins σ H s)(hN:X.N.Nodup)(hi:X.N[i]?=some x)(hx:Loc X.env.scope x)(r:RelV v u)
  (h:∀ s',Inv X pins (σ.set i (some v)) H s'→(∃ a,Heap.SameBut a s.heap s'.heap∧(a=X.env.locals∨X.env.cells.lookup x=some a))→Q () s') (hf:X.fn x=true∨X.env.scope.names.lookup x=some .local:=by first|exact .inl rfl|exact .inr rfl|assumption):wpAny M A (storeName X.env x u) Q E s:=by
 obtain⟨m,hn,hl⟩:=id I.loc;have hcls:(X.env.scope.kind==.class||(X.env.scope.kind==.module&&X.env.locals != X.env.globals))=false:=by rw[I.ok.kind]; rfl
 have hiσ:i<σ.length:=by rw[I.len]; exact(List.getElem?_eq_some_iff.mp hi).1
 have cne:=I.cne;have tracked:∀{a:Addr} {h':Heap},(∃ o,s.heap.get? a=some o∧H a=none)→Heap.SameBut a s.heap h'→HOk X.prog X.w H h':=fun{a h'} ha hs b ob e=>by
  obtain⟨_,_,hfree⟩:=ha;refine(I.hok b ob e).stay (fun c w' hc q=>(hs.2 c ?_).trans q) (fun _ q=>q) fun _ _ q=>q;rintro rfl;rcases hc with rfl|hc
  ·rw[hfree] at e; cases e
  ·rw[hfree] at hc; cases hc
 rcases hx with hk|hk
 ·refine wpAny_storeName_local hk hn (fun h' hn' hs=>?_) hcls;obtain⟨oL,_,_,hoL,_⟩:=id hn;refine h _ ⟨I.ok,I.os,I.bare,⟨fun b o e n hb hx=>?_,fun b o e n hb hx=>?_,I.base.free,fun b o e hx=>?_,I.base.tups,I.base.frzs,I.base.tbls⟩,⟨_,hn',fun j y v' e1 e2 e3=>?_⟩,fun y c e=>?_,I.free,I.freeC,fun p hp=>?_,tracked ⟨oL,hoL,I.free⟩ hs,by simpa using I.len⟩ ⟨_,hs,.inl rfl⟩
  ·exact(hs.2 b (Nat.ne_of_lt (Nat.lt_of_lt_of_le (Heap.lt_size e) I.ok.above))).trans (I.base.keep b o e n hb hx)
  ·obtain⟨sl,e1⟩:=I.base.slot b o e n hb hx;exact⟨sl,(hs.2 b (Nat.ne_of_lt (Nat.lt_of_lt_of_le (Heap.lt_size e) I.ok.above))).trans e1⟩
  ·obtain⟨o',e1⟩:=I.base.there b o e hx;exact⟨o',(hs.2 b (Nat.ne_of_lt (Nat.lt_of_lt_of_le (Heap.lt_size e) I.ok.above))).trans e1⟩
  ·by_cases hj:j=i
   ·subst hj;rw[hi] at e1; cases e1;rw[List.getElem?_set_self hiσ] at e2
    cases e2
    exact⟨u,r,.inl ⟨hk,by simp⟩⟩
   ·rw[List.getElem?_set_ne (Ne.symm hj)] at e2;obtain⟨u',r',q⟩:=hl j y v' e1 e2 e3;refine⟨u',r',?_⟩;rcases q with⟨k,e⟩|⟨k,c,e,z⟩
    ·refine .inl ⟨k,?_⟩;have:y≠x:=fun e=>hj (a3J hN e1 (e▸hi));simp[this,e]
    ·exact .inr ⟨k,c,e,z.sameBut hs (cne y c e)⟩
  ·obtain⟨w',z⟩:=I.cell y c e;exact⟨w',z.sameBut hs (cne y c e)⟩
  ·obtain⟨e,n,ne,nf,d⟩:=I.pin p hp;exact⟨(hs.2 p.1 ne).trans e,n,ne,nf,d⟩
 ·have hfn:X.fn x=true:=by
   rcases hf with z|z
   ·exact z
   ·rw[z] at hk; cases hk
  obtain⟨c,hc⟩:=I.ok.has x (.inl hk);obtain⟨w',z⟩:=I.cell x c hc;refine wpAny_storeName_cell I.ok.kind hk hc z (fun h' hc' hs=>?_);obtain⟨oc,hoc,hocd⟩:=id z;refine h { s with heap:=h' } ⟨I.ok,I.os,I.bare,⟨fun b o e n hb hx=>?_,fun b o e n hb hx=>?_,I.base.free,fun b o e hx=>?_,I.base.tups,I.base.frzs,I.base.tbls⟩,⟨m,hn.sameBut hs (Ne.symm (cne x c hc)),fun j y v' e1 e2 e3=>?_⟩,fun y c' e=>?_,I.free,I.freeC,fun p hp=>?_,tracked ⟨oc,hoc,I.freeC x c hc⟩ hs,by simpa using I.len⟩ ⟨c,hs,.inr hc⟩
  ·exact(hs.2 b (Nat.ne_of_lt (Nat.lt_of_lt_of_le (Heap.lt_size e) (I.ok.cab x c hfn hc)))).trans (I.base.keep b o e n hb hx)
  ·obtain⟨sl,e1⟩:=I.base.slot b o e n hb hx;exact⟨sl,(hs.2 b (Nat.ne_of_lt (Nat.lt_of_lt_of_le (Heap.lt_size e) (I.ok.cab x c hfn hc)))).trans e1⟩
  ·obtain⟨o',e1⟩:=I.base.there b o e hx;exact⟨o',(hs.2 b (Nat.ne_of_lt (Nat.lt_of_lt_of_le (Heap.lt_size e) (I.ok.cab x c hfn hc)))).trans e1⟩
  ·by_cases hj:j=i
   ·subst hj;rw[hi] at e1; cases e1;rw[List.getElem?_set_self hiσ] at e2
    cases e2
    exact⟨u,r,.inr ⟨.inl hk,c,hc,hc'⟩⟩
   ·rw[List.getElem?_set_ne (Ne.symm hj)] at e2;obtain⟨u',r',q⟩:=hl j y v' e1 e2 e3;refine⟨u',r',?_⟩;rcases q with q|⟨k,c',e,z'⟩
    ·exact .inl q
    ·refine .inr ⟨k,c',e,z'.sameBut hs ?_⟩;rintro rfl;exact hj (a3J hN e1 (I.ok.inj _ _ _ e hc▸hi))
  ·by_cases hcc:c'=c
   ·subst hcc; exact⟨_,hc'⟩
   ·obtain⟨w2,z2⟩:=I.cell y c' e;exact⟨w2,z2.sameBut hs hcc⟩
  ·obtain⟨e,n,ne,nf,d⟩:=I.pin p hp;refine⟨(hs.2 p.1 ?_).trans e,n,ne,nf,d⟩;intro q;rw[q,hoc] at e;have q':oc=p.2:=Option.some.inj e;exact d w' (by rw[← q']; exact hocd)
theorem tD {M:Model}{A:Around}{E:Value→Shared→Prop}{i:Nat}{x:Str}{v:V}{u:Value}{Q:Unit→Shared→Prop}(I:Inv X pins σ H s)(hN:X.N.Nodup)(hi:X.N[i]?=some x)(hx:Loc X.env.scope x)(r:RelV v u)
  (h:∀ s',Inv X pins (σ.set i (some v)) H s'→Q () s') (hf:X.fn x=true∨X.env.scope.names.lookup x=some .local:=by first|exact .inl rfl|exact .inr rfl|assumption):wpAny M A (storeName X.env x u) Q E s:=
 zB I hN hi hx r (fun s' I' _=>h s' I') hf
theorem Inv.call' {s':Shared}{ch:List Addr}(I:Inv X pins σ H s)(ho:s'.os=s.os)(u:Un (frs X.stack) ch H H' s.heap s'.heap)(hok:HOk X.prog X.w H' s'.heap)(hg:AllBare s'.gens)
  (hch:∀ b∈ch,(b∈X.ex∨X.s₀.heap.objs.size≤b)∧b≠X.env.locals∧(∀ x c,X.env.cells.lookup x=some c→c≠b)∧∀ p∈X.pn++pins,p.1≠b):Inv X pins σ H' s':=by
 obtain⟨h',g',d',t',o'⟩:=s';have e:o'=s.os:=ho;subst e;exact I.call (g':=g') (t':=t') (d':=d') u hok hg hch
end
abbrev XK:=Value→Option Addr→Hp→Prop
abbrev St:=List (Option V)
abbrev VK:=V→Hp→Prop
abbrev TE:=St→Hp→VK→Prop
abbrev TT:=St→Hp→(Bool→Hp→Prop)→Prop
abbrev TA:=St→Hp→(List V→Hp→Prop)→Prop
structure Ends where
 nx:St→Hp→Prop
 rt:VK
 bk:St→Hp→Prop:=fun _ _=>False
 ct:St→Hp→Prop:=fun _ _=>False
abbrev TS:=Ends→St→Hp→Prop
noncomputable def EP (X:Cx)(pins:List (Addr×Obj))(σ:St)(Q:VK)(u:Value)(s':Shared):Prop:=∃ v H',Inv X pins σ H' s'∧RelV v u∧Q v H'
noncomputable def TP (X:Cx)(pins:List (Addr×Obj))(σ:St)(Q:Bool→Hp→Prop)(b:Bool)(s':Shared):Prop:=∃ H',Inv X pins σ H' s'∧Q b H'
noncomputable def AP (X:Cx)(pins:List (Addr×Obj))(σ:St)(Q:List V→Hp→Prop)(us:List Value)(s':Shared):Prop:=∃ vs H',Inv X pins σ H' s'∧Vals vs us∧Q vs H'
noncomputable def SP (X:Cx)(pins:List (Addr×Obj))(D:Ends)(f:Flow)(s':Shared):Prop:=
 match f with
 | .next=>∃ σ' H',Inv X pins σ' H' s'∧D.nx σ' H'
 | .brk=>∃ σ' H',Inv X pins σ' H' s'∧D.bk σ' H'
 | .cont=>∃ σ' H',Inv X pins σ' H' s'∧D.ct σ' H'
 | .ret u=>∃ v σ' H',Inv X pins σ' H' s'∧RelV v u∧D.rt v H'
noncomputable def PE (X:Cx)(e:Expr)(t:TE):Prop:=
 ∀(pins:List (Addr×Obj)) (s:Shared) (σ:St) (H:Hp) (Q:VK),Inv X pins σ H s→t σ H Q→wpAny (model X.prog X.w) X.A (eval e X.env) (EP X pins σ Q) X.xe s
noncomputable def PT (X:Cx)(e:Expr)(t:TT):Prop:=
 ∀(pins:List (Addr×Obj)) (s:Shared) (σ:St) (H:Hp) (Q:Bool→Hp→Prop),Inv X pins σ H s→t σ H Q→wpAny (model X.prog X.w) X.A (isTrue e X.env (eval e X.env)) (TP X pins σ Q) X.xe s
noncomputable def PW (X:Cx)(e:Expr)(t:TT):Prop:=
 ∀(whole:Sem Value) (pins:List (Addr×Obj)) (s:Shared) (σ:St) (H:Hp) (Q:Bool→Hp→Prop),Inv X pins σ H s→t σ H Q→wpAny (model X.prog X.w) X.A (isTrue e X.env whole) (TP X pins σ Q) X.xe s
theorem PW.pt {X:Cx}{e:Expr}{t:TT}(h:PW X e t):PT X e t:=h _
noncomputable def PA (X:Cx)(es:List Expr)(t:TA):Prop:=
 ∀(pos:Pos) (pins:List (Addr×Obj)) (s:Shared) (σ:St) (H:Hp) (Q:List V→Hp→Prop),Inv X pins σ H s→t σ H Q→wpAny (model X.prog X.w) X.A (spliced (backTo pos (starEach es X.env))) (AP X pins σ Q) X.xe s
noncomputable def PS (X:Cx)(st:Stmt)(t:TS):Prop:=
 ∀(pins:List (Addr×Obj)) (s:Shared) (σ:St) (H:Hp) (D:Ends),Inv X pins σ H s→t D σ H→wpAny (model X.prog X.w) X.A (exec st X.env) (SP X pins D) X.xe s
noncomputable def PSs (X:Cx)(st:List Stmt)(t:TS):Prop:=
 ∀(pins:List (Addr×Obj)) (s:Shared) (σ:St) (H:Hp) (D:Ends),Inv X pins σ H s→t D σ H→wpAny (model X.prog X.w) X.A (execs st X.env) (SP X pins D) X.xe s
theorem thn {α:Type}{t:Sem α}{Q Q':α→Shared→Prop}{M:Model}{A:Around}{E:Value→Shared→Prop}{s:Shared}(h:wpAny M A t Q E s)(hQ:∀ a s,Q a s→Q' a s):wpAny M A t Q' E s:=wpAny_mono h hQ fun _ _ x=>x
end L2
namespace L2
open PySem PySem.Spec PyProof.Rows
section
variable {X:Cx}
theorem bin {a b:Expr}{ta tb:TE}(ha:PE X a ta)(hb:PE X b tb){pins:List (Addr×Obj)}{s:Shared}{σ:St}{H:Hp}{R:V→V→Hp→Prop}(I:Inv X pins σ H s)(h:ta σ H fun x H1=>tb σ H1 fun y H2=>R x y H2)
  {α:Type} {Q:α→Shared→Prop} {f:Value→Value→Sem α}
  (hf:∀ v u s2 x y H2,Inv X pins σ H2 s2→RelV x v→RelV y u→R x y H2→wpAny (model X.prog X.w) X.A (f v u) Q X.xe s2) :
  wpAny (model X.prog X.w) X.A (eval a X.env) (fun v s₁=>wpAny (model X.prog X.w) X.A (eval b X.env) (fun u s₂=>wpAny (model X.prog X.w) X.A (f v u) Q X.xe s₂) X.xe s₁) X.xe s:=by
 refine thn (ha pins s σ H _ I h) fun v s1 ⟨x,H1,I1,r1,q1⟩=>?_;refine thn (hb pins s1 σ H1 _ I1 q1) fun u s2 ⟨y,H2,I2,r2,q2⟩=>?_;exact hf v u s2 x y H2 I2 r1 r2 q2
noncomputable def v5 (i:Nat):TE:=fun σ H Q=>∃ v,σ[i]?=some (some v)∧Q v H
noncomputable def tC (v:V):TE:=fun _ H Q=>Q v H
theorem aGZ {i:Nat}{x:Str}{pos:Pos}(hN:X.N[i]?=some x)(hv:Vis X.env.scope x)(hd:(x==("__debug__" : Str))=false:=by decide)(hcd:(x==("__classdict__" : Str))=false:=by decide):PE X (.Name x pos) (v5 i):=by
 intro pins s σ H Q I h;obtain⟨v,e,h⟩:=h;obtain⟨m,hn,hl⟩:=I.loc;obtain⟨u,r,l⟩:=hl i x v hN e hv;have fin:EP X pins σ Q u s:=⟨v,H,I,r,h⟩;rcases l with⟨hk,hm⟩|⟨hk,c,hc,hcell⟩
 ·exact wpAny_Name (wpAny_loadName_local I.ok.kind hk hn hm fin) hd
 ·rcases hk with hk|hk
  ·exact wpAny_Name (wpAny_loadName_cell I.ok.kind hk hc hcell fin) hd
  ·exact wpAny_Name (wpAny_loadName_free I.ok.kind hk hc hcell fin hcd) hd
theorem aD {i j pos}:PE X (.Constant (.int i) j pos) (tC (.int i)):=fun _ _ _ H _ I h=>wpAny_Constant_int ⟨.int i,H,I.tok _,⟨_,rfl⟩,h⟩
theorem nW {b j pos}:PE X (.Constant (.bool b) j pos) (tC (.bl b)):=fun _ _ _ H _ I h=>Constant_bool ⟨.bl b,H,I,rfl,h⟩
theorem gY {j pos}:PE X (.Constant .none j pos) (tC .non):=fun _ _ _ H _ I h=>Constant_none ⟨.non,H,I,rfl,h⟩
theorem cB {x j pos}:PE X (.Constant (.str x) j pos) (tC (.str x)):=fun _ _ _ H _ I h=>Calls.Constant_str ⟨.str x,H,I.tok _,⟨_,rfl⟩,h⟩
noncomputable def Gl (X:Cx)(x:Str):Prop:=X.env.kindOf x=some .globalImplicit
theorem a0V {E:Value→Shared→Prop}{pins:List (Addr×Obj)}{s:Shared}{σ:St}{H:Hp}{x:Str}{u:Value}{pos:Pos}{Q:Value→Shared→Prop}(I:Inv X pins σ H s)(hg:Gl X x)(hm:X.mg x=some u)(h:Q u s)
  (hd:(x==("__debug__" : Str))=false:=by decide):wpAny (model X.prog X.w) X.A (eval (.Name x pos) X.env) Q E s:=
 Calls.Name_function_global I.ok.kind hg (Calls.loadGlobal_global (by rw[I.ok.glob]; exact I.mod.glob.keeps I.bk) hm h) hd
theorem wA {E:Value→Shared→Prop}{pins:List (Addr×Obj)}{s:Shared}{σ:St}{H:Hp}{x:Str}{u:Value}{pos:Pos}{Q:Value→Shared→Prop}(I:Inv X pins σ H s)(hg:Gl X x)(hm:X.mg x=none)(hv:bootBuiltins x=some u)(h:Q u s)
  (hn:x ≠ "__name__" := by decide) (hd:(x==("__debug__" : Str))=false:=by decide):wpAny (model X.prog X.w) X.A (eval (.Name x pos) X.env) Q E s:=by
 obtain⟨mb,h1,h2⟩:=I.mod.blt;exact Calls.Name_function_global I.ok.kind hg (Calls.loadGlobal_builtin (by rw[I.ok.glob]; exact I.mod.glob.keeps I.bk) hm (by rw[I.ok.blt]; exact h1.keeps I.bk) ((h2 x hn).trans hv) h) hd
theorem qL {x:Str}{v:V}{u:Value}{pos:Pos}(hg:Gl X x)(hm:X.mg x=some u)(r:RelV v u)(hd:(x==("__debug__" : Str))=false:=by decide):PE X (.Name x pos) (tC v):=
 fun _ _ _ H _ I h=>a0V I hg hm ⟨v,H,I,r,h⟩ hd
theorem bH {x:Str}{v:V}{u:Value}{pos:Pos}(hg:Gl X x)(hm:X.mg x=none)(hv:bootBuiltins x=some u)(r:RelV v u)(hn:x ≠ "__name__" := by decide)(hd:(x==("__debug__" : Str))=false:=by decide):PE X (.Name x pos) (tC v):=
 fun _ _ _ H _ I h=>wA I hg hm hv ⟨v,H,I,r,h⟩ hn hd
variable {a b:Expr}{ta tb:TE}{pos:Pos}
noncomputable def PC (X:Cx)(op:CmpOp)(a b:Expr)(t:TE):Prop:=
 ∀(pins:List (Addr×Obj)) (s:Shared) (σ:St) (H:Hp) (Q:VK),Inv X pins σ H s→t σ H Q →
  wpAny (model X.prog X.w) X.A (eval a X.env) (fun v s₁=>wpAny (model X.prog X.w) X.A (eval b X.env) (fun u s₂=>wpAny (model X.prog X.w) X.A (compareOp op v u) (EP X pins σ Q) X.xe s₂) X.xe s₁) X.xe s
noncomputable def tB (t:TE):TT:=fun σ H Q=>t σ H fun x H1=>∃ c,x=.bl c∧Q c H1
theorem aH6 {op:CmpOp}{t:TE}(h:PC X op a b t)(h1:behindInMarks op b=false:=by first|exact nobehind _ (by decide) (by decide)|rfl):PE X (.Compare a [op] [b] pos) t:=fun pins s σ H Q I hw=>wpAny_Compare1 (h pins s σ H Q I hw) h1
theorem aM3 {op:CmpOp}{t:TE}(h:PC X op a b t)(h1:behindInMarks op b=false:=by first|exact nobehind _ (by decide) (by decide)|rfl):PT X (.Compare a [op] [b] pos) (tB t):=by
 intro pins s σ H Q I hw;refine wpAny_isTrue_Compare1 (thn (h pins s σ H _ I hw) fun v s1 h1=>thn h1 fun u s2 h2=>thn h2 fun c s3 ⟨x,H1,I1,r1,q1⟩=>?_) h1;obtain⟨d,rfl,q⟩:=q1
 cases r1
 exact wpAny_truthy_bool ⟨H1,I1,q⟩
theorem cO {e:Expr}{t:TE}(h:PE X e t)(he:∀ whole,isTrue e X.env whole=(do let v←whole; standAt e.pos; holding [v] (truthy v)):=by intro _; rfl):PT X e (tB t):=by
 intro pins s σ H Q I hw;refine isTrue_plain (thn (h pins s σ H _ I hw) fun v s1 ⟨x,H1,I1,r1,q1⟩=>?_) (he _);obtain⟨d,rfl,q⟩:=q1
 cases r1
 exact wpAny_truthy_bool ⟨H1,I1,q⟩
variable {tA tB':TT}{rest:List Expr}
noncomputable def aMC (t u:TT):TT:=fun σ H Q=>t σ H fun c H1=>if c=true then u σ H1 Q else Q false H1
noncomputable def tOr (t u:TT):TT:=fun σ H Q=>t σ H fun c H1=>if c=true then Q true H1 else u σ H1 Q
noncomputable def aLZ (t:TT):TT:=fun σ H Q=>t σ H fun c H1=>Q (!c) H1
theorem u9 (ha:PT X a tA):PW X (.BoolOp .And [a] pos) tA:=by
 intro wh pins s σ H Q I h;refine isTrue_and (thn (ha pins s σ H Q I h) fun c s1 e=>?_)
 cases c with
 | true=>exact isTrue_and_nil e
 | false=>exact e
theorem fU (ha:PT X a tA):PW X (.BoolOp .Or [a] pos) tA:=by
 intro wh pins s σ H Q I h;refine isTrue_or (thn (ha pins s σ H Q I h) fun c s1 e=>?_)
 cases c with
 | false=>exact isTrue_or_nil e
 | true=>exact e
theorem a0B (ha:PT X a tA)(hb:PW X (.BoolOp .And (b::rest) pos) tB'):PW X (.BoolOp .And (a::b::rest) pos) (aMC tA tB'):=by
 intro wh pins s σ H Q I h;refine isTrue_and (thn (ha pins s σ H _ I h) fun c s1 ⟨H1,I1,q1⟩=>?_)
 cases c with
 | true=>exact hb wh pins s1 σ H1 Q I1 q1
 | false=>exact⟨H1,I1,q1⟩
theorem iW (ha:PT X a tA)(hb:PW X (.BoolOp .Or (b::rest) pos) tB'):PW X (.BoolOp .Or (a::b::rest) pos) (tOr tA tB'):=by
 intro wh pins s σ H Q I h;refine isTrue_or (thn (ha pins s σ H _ I h) fun c s1 ⟨H1,I1,q1⟩=>?_)
 cases c with
 | true=>exact⟨H1,I1,q1⟩
 | false=>exact hb wh pins s1 σ H1 Q I1 q1
theorem iB (ha:PT X a tA):PT X (.UnaryOp .Not a pos) (aLZ tA):=by
 intro pins s σ H Q I h;exact isTrue_not (ha pins s σ H (fun c H1=>Q (!c) H1) I h)
noncomputable def aGU (ta tb:TE):TE:=fun σ H Q=>ta σ H fun x H1=>∃ c,x=.bl c∧if c=true then tb σ H1 Q else Q (.bl false) H1
noncomputable def aFR (ta:TE):TE:=fun σ H Q=>ta σ H fun x H1=>∃ c,x=.bl c∧Q (.bl (!c)) H1
theorem lU {op}{t:TE}(h:PE X a t):PE X (.BoolOp op [a] pos) t:=fun pins s σ H Q I hw=>BoolOp_one (h pins s σ H Q I hw)
theorem j8 (ha:PE X a ta)(hb:PE X (.BoolOp .And (b::rest) pos) tb):PE X (.BoolOp .And (a::b::rest) pos) (aGU ta tb):=by
 intro pins s σ H Q I h;refine BoolOp_and (thn (ha pins s σ H _ I h) fun v s1 ⟨x,H1,I1,r1,q1⟩=>?_);obtain⟨c,rfl,q1⟩:=q1
 cases r1
 refine wpAny_truthy_bool ?_
 cases c with
 | true=>exact hb pins s1 σ H1 Q I1 q1
 | false=>exact⟨.bl false,H1,I1,rfl,q1⟩
theorem aG7 (ha:PE X a ta):PE X (.UnaryOp .Not a pos) (aFR ta):=by
 intro pins s σ H Q I h;refine UnaryOp_ (thn (ha pins s σ H _ I h) fun v s1 ⟨x,H1,I1,r1,q1⟩=>?_);obtain⟨c,rfl,q1⟩:=q1
 cases r1
 exact not_of (wpAny_truthy_bool ⟨.bl (!c),H1,I1,rfl,q1⟩)
noncomputable def tIf (t:TT)(ta tb:TE):TE:=fun σ H Q=>t σ H fun c H1=>if c=true then ta σ H1 Q else tb σ H1 Q
theorem jC {c:Expr}(hc:PT X c tA)(ha:PE X a ta)(hb:PE X b tb):PE X (.IfExp c a b pos) (tIf tA ta tb):=by
 intro pins s σ H Q I h;refine wpAny_IfExp (thn (hc pins s σ H _ I h) fun d s1 ⟨H1,I1,q1⟩=>?_)
 cases d with
 | true=>exact ha pins s1 σ H1 Q I1 q1
 | false=>exact hb pins s1 σ H1 Q I1 q1
end
end L2
namespace L2
open PySem PySem.Spec PyProof.Rows
noncomputable def SqL (K:PySem.W.Frag)(H:Hp)(a:Addr)(xs:List V):Prop:=
 Rd H a (.lst xs) ∨
  ∃(o:Obj) (its:Array Value) (n:Nat),K.lookup a=some o∧o.cls=.type "list" ∧ o.dict=none∧o.data=.seq its n∧its.size≤sizeLine∧Vals xs its.toList
noncomputable def SqT (K:PySem.W.Frag)(H:Hp)(a:Addr)(xs:List V):Prop:=
 Rd H a (.tup xs) ∨
  ∃(o:Obj) (its:Array Value) (n:Nat),K.lookup a=some o∧o.cls=.type "tuple" ∧ o.data=.seq its n∧its.size≤sizeLine∧Vals xs its.toList
noncomputable def aMW:Value→Option V
 | .none=>some .non
 | .bool b=>some (.bl b)
 | .int i _=>some (.int i)
 | .str x _=>some (.str x)
 | .bytes b _=>some (.byt b)
 | .float b _=>some (.flt b)
 | .ref a=>some (.ref a)
 | .type n=>some (.ty n)
 | _=>none
theorem RelV.abs {x:V}{u:Value}(r:RelV x u):aMW u=some x:=by
 cases x with
 | non=>cases r; rfl
 | bl _=>cases r; rfl
 | int _=>obtain⟨t,rfl⟩:=r; rfl
 | str _=>obtain⟨t,rfl⟩:=r; rfl
 | byt _=>obtain⟨t,rfl⟩:=r; rfl
 | flt _=>obtain⟨t,rfl⟩:=r; rfl
 | ref _=>cases r; rfl
 | ty _=>cases r; rfl
theorem RelV.inj {x y:V}{u:Value}(r:RelV x u)(q:RelV y u):x=y:=Option.some.inj (r.abs.symm.trans q.abs)
theorem Vals.inj:∀{xs ys:List V} {us:List Value},Vals xs us→Vals ys us→xs=ys:=by
 intro xs ys us h
 induction h generalizing ys with
 | nil=>intro q; cases q; rfl
 | cons r t ih=>intro q; cases q with|cons r' t'=>rw[r.inj r',ih t']
section
variable {X:Cx}{pins:List (Addr×Obj)}{σ:St}{H:Hp}{s:Shared}{a:Addr}{xs ys:List V}
theorem SqL.of {K:PySem.W.Frag}(h:H a=some (.lst xs)):SqL K H a xs:=.inl (.inl h)
theorem SqT.of {K:PySem.W.Frag}(h:H a=some (.tup xs)):SqT K H a xs:=.inl (.inl h)
theorem Inv.list (I:Inv X pins σ H s)(h:SqL X.K H a xs):∃ its:List Value,Vals xs its∧PlainL s.heap a its.toArray∧xs.length≤sizeLine:=by
 rcases h with h|⟨o,its,n,hk,hc,hd,hs,hz,r⟩
 ·obtain⟨z,its,n,r,e⟩:=h.ok I.hok;exact⟨its,r,⟨_,n,e,rfl,rfl,rfl⟩,z⟩
 ·refine⟨its.toList,r,⟨o,n,I.kIn a o hk,hc,hd,by simpa using hs⟩,?_⟩;have e:=r.length;simp only[Array.length_toList] at e;omega
theorem Inv.tuple (I:Inv X pins σ H s)(h:SqT X.K H a xs):∃ its:List Value,Vals xs its∧IsTup s.heap a its.toArray∧xs.length≤sizeLine:=by
 rcases h with h|⟨o,its,n,hk,hc,hs,hz,r⟩
 ·obtain⟨z,its,r,p⟩:=h.ok I.hok;exact⟨its,r,p,z⟩
 ·refine⟨its.toList,r,⟨o,I.kIn a o hk,hc,n,by simpa using hs⟩,?_⟩;have e:=r.length;simp only[Array.length_toList] at e;omega
theorem Inv.list_inj (I:Inv X pins σ H s)(h:SqL X.K H a xs)(h':SqL X.K H a ys):xs=ys:=by
 obtain⟨its,r,⟨o,n,e,_,_,d⟩,_⟩:=I.list h;obtain⟨its',r',⟨o',n',e',_,_,d'⟩,_⟩:=I.list h';rw[e] at e'; cases e';rw[d] at d';injection d' with d1 _;have:its=its':=by simpa using congrArg Array.toList d1
 subst this;exact r.inj r'
theorem Inv.tuple_inj (I:Inv X pins σ H s)(h:SqT X.K H a xs)(h':SqT X.K H a ys):xs=ys:=by
 obtain⟨its,r,⟨o,e,_,n,d⟩,_⟩:=I.tuple h;obtain⟨its',r',⟨o',e',_,n',d'⟩,_⟩:=I.tuple h';rw[e] at e'; cases e';rw[d] at d';injection d' with d1 _;have:its=its':=by simpa using congrArg Array.toList d1
 subst this;exact r.inj r'
end
abbrev Cx.wish (X:Cx)(E:Value→Shared→Prop):Cx:={ X with xe:=E }
abbrev Cx.nox (X:Cx):Cx:=X.wish fun _ _=>False
theorem Cx.Ok.wish {X:Cx}(ok:X.Ok)(E:Value→Shared→Prop):(X.wish E).Ok:=
 ⟨ok.mod,ok.kind,ok.glob,ok.blt,ok.above,ok.inj,ok.has,ok.cab,ok.hd,ok.frames,ok.stk,ok.exf,ok.bs,ok.bsz,ok.noex,ok.exfs,ok.funs,ok.frf⟩
theorem Cx.Ok.unwish {X:Cx}{E:Value→Shared→Prop}(ok:(X.wish E).Ok):X.Ok:=
 ⟨ok.mod,ok.kind,ok.glob,ok.blt,ok.above,ok.inj,ok.has,ok.cab,ok.hd,ok.frames,ok.stk,ok.exf,ok.bs,ok.bsz,ok.noex,ok.exfs,ok.funs,ok.frf⟩
section
variable {X:Cx}{pins:List (Addr×Obj)}{σ:St}{H:Hp}{s:Shared}{E:Value→Shared→Prop}
theorem Inv.wish (I:Inv X pins σ H s)(E:Value→Shared→Prop):Inv (X.wish E) pins σ H s:=⟨I.ok.wish E,I.os,I.bare,I.base,I.loc,I.cell,I.free,I.freeC,I.pin,I.hok,I.len⟩
theorem Inv.unwish (I:Inv (X.wish E) pins σ H s):Inv X pins σ H s:=⟨I.ok.unwish,I.os,I.bare,I.base,I.loc,I.cell,I.free,I.freeC,I.pin,I.hok,I.len⟩
theorem SP.unwish {D:Ends}{f:Flow}{s':Shared}(h:SP (X.wish E) pins D f s'):SP X pins D f s':=by
 cases f with
 | next=>obtain⟨σ',H',I,q⟩:=h; exact⟨σ',H',I.unwish,q⟩
 | brk=>obtain⟨σ',H',I,q⟩:=h; exact⟨σ',H',I.unwish,q⟩
 | cont=>obtain⟨σ',H',I,q⟩:=h; exact⟨σ',H',I.unwish,q⟩
 | ret u=>obtain⟨v,σ',H',I,r,q⟩:=h; exact⟨v,σ',H',I.unwish,r,q⟩
theorem PSs.nox {st:List Stmt}{t:TS}(h:PSs X.nox st t):PSs X st t:=fun pins s σ H D I hw=>
 wpAny_mono (h pins s σ H D (I.wish _) hw) (fun _ _ q=>q.unwish) fun _ _ z=>False.elim z
end
section
variable {X:Cx}{st:Stmt}{rest:List Stmt}{t u:TS}{e:Expr}{te:TE}{pos:Pos}
noncomputable def aFA:TS:=fun D σ H=>D.nx σ H
noncomputable def aLS (t u:TS):TS:=fun D σ H=>t { D with nx:=u D } σ H
theorem bM:PSs X [] aFA:=fun _ _ σ H _ I h=>wpAny_execs_nil ⟨σ,H,I,h⟩
theorem aF (h1:PS X st t)(h2:PSs X rest u):PSs X (st::rest) (aLS t u):=by
 intro pins s σ H D I h;refine wpAny_execs_cons (thn (h1 pins s σ H { D with nx:=u D } I h) fun f s1 q=>?_)
 cases f with
 | next=>
  obtain⟨σ',H',I',q⟩:=q;exact h2 pins s1 σ' H' D I' q
 | ret v=>exact q
 | brk=>exact q
 | cont=>exact q
theorem aJ (h1:PS X st t):PSs X [st] t:=by
 intro pins s σ H D I h;refine wpAny_execs_cons (thn (h1 pins s σ H D I h) fun f s1 q=>?_)
 cases f with
 | next=>exact wpAny_execs_nil q
 | ret v=>exact q
 | brk=>exact q
 | cont=>exact q
theorem Inv.quiet {pins:List (Addr×Obj)}{σ:St}{H:Hp}{s:Shared}(I:Inv X pins σ H s):interactive X.env=false:=by simp[interactive,I.ok.kind]
noncomputable def aED (te:TE):TS:=fun D σ H=>te σ H fun _ H1=>D.nx σ H1
theorem gR (he:PE X e te)(hs:swapsWith e none pos.line X.env=pure false:=by rfl):PS X (.Expr e pos) (aED te):=by
 intro pins s σ H D I h;exact wpAny_Expr_any (thn (he pins s σ H _ I h) fun v s1 ⟨x,H1,I1,r1,q1⟩=>⟨σ,H1,I1,q1⟩) I.quiet hs
noncomputable def aJO (te:TE):TS:=fun D σ H=>te σ H D.rt
theorem b8 (he:PE X e te):PS X (.Return (some e) pos) (aJO te):=by
 intro pins s σ H D I h;exact wpAny_Return_some (thn (he pins s σ H _ I h) fun v s1 ⟨x,H1,I1,r1,q1⟩=>⟨x,σ,H1,I1,r1,q1⟩)
noncomputable def aLJ (c:TT)(t u:TS):TS:=fun D σ H=>c σ H fun b H1=>if b=true then t D σ H1 else u D σ H1
theorem cH {c:Expr}{a b:List Stmt}{tc:TT}(hc:PT X c tc)(ha:PSs X a t)(hb:PSs X b u):PS X (.If c a b pos) (aLJ tc t u):=by
 intro pins s σ H D I h;refine wpAny_If (thn (hc pins s σ H _ I h) fun d s1 ⟨H1,I1,q1⟩=>?_)
 cases d with
 | true=>exact ha pins s1 σ H1 D I1 q1
 | false=>exact hb pins s1 σ H1 D I1 q1
noncomputable def aBI:TS:=fun _ _ _=>False
theorem q8:PS X st aBI:=fun _ _ _ _ _ _ h=>h.elim
end
abbrev TG:=V→St→Hp→(St→Hp→Prop)→Prop
abbrev TGs:=List V→St→Hp→(St→Hp→Prop)→Prop
noncomputable def PG (X:Cx)(target:Expr)(t:TG):Prop:=
 ∀(pins:List (Addr×Obj)) (s:Shared) (σ:St) (H:Hp) (v:V) (u:Value) (Q:St→Hp→Prop),Inv X pins σ H s→RelV v u→t v σ H Q →
  wpAny (model X.prog X.w) X.A (assign target X.env u) (fun _ s'=>∃ σ' H',Inv X pins σ' H' s'∧Q σ' H') X.xe s
noncomputable def PGs (X:Cx)(ts:List Expr)(t:TGs):Prop:=
 ∀(pins:List (Addr×Obj)) (s:Shared) (σ:St) (H:Hp) (vs:List V) (us:List Value) (Q:St→Hp→Prop),Inv X pins σ H s→Vals vs us→t vs σ H Q →
  wpAny (model X.prog X.w) X.A (assignInOrder ((assignEach ts X.env).map (·.2)) us) (fun _ s'=>∃ σ' H',Inv X pins σ' H' s'∧Q σ' H') X.xe s
abbrev aJ3:=V→V→V→Hp→(Hp→Prop)→Prop
noncomputable def aLY (X:Cx)(t:aJ3):Prop:=
 ∀(pins:List (Addr×Obj)) (s:Shared) (σ:St) (H:Hp) (o i v:V) (ov iv u:Value) (Q:Hp→Prop),Inv X pins σ H s→RelV o ov→RelV i iv→RelV v u→t o i v H Q →
  wpAny (model X.prog X.w) X.A (setItem ov iv u) (fun _ s'=>∃ H',Inv X pins σ H' s'∧Q H') X.xe s
section
variable {X:Cx}{pos:Pos}
noncomputable def a2C (i:Nat):TG:=fun v σ H Q=>Q (σ.set i (some v)) H
theorem dG {i:Nat}{x:Str}(hN:X.N.Nodup)(hi:X.N[i]?=some x)(hx:Loc X.env.scope x)(hf:X.fn x=true∨X.env.scope.names.lookup x=some .local:=by first|exact .inl rfl|exact .inr rfl|assumption):PG X (.Name x pos) (a2C i):=by
 intro pins s σ H v u Q I r h;exact wpAny_assign_Name (tD I hN hi hx r (fun s' I'=>⟨_,H,I',h⟩) hf)
noncomputable def aM5:TGs:=fun vs σ H Q=>vs=[]∧Q σ H
noncomputable def aHO (t:TG)(u:TGs):TGs:=fun vs σ H Q=>∃ v r,vs=v::r∧t v σ H fun σ' H'=>u r σ' H' Q
theorem a6P:PGs X [] aM5:=by
 intro pins s σ H vs us Q I r h;obtain⟨e,h⟩:=h;subst e
 cases r
 exact assignInOrder_nil ⟨σ,H,I,h⟩
theorem tG {e:Expr}{es:List Expr}{t:TG}{u:TGs}(h1:PG X e t)(h2:PGs X es u)
  (hs:(assignEach (e::es) X.env).map (·.2)=assign e X.env::(assignEach es X.env).map (·.2):=by rfl):PGs X (e::es) (aHO t u):=by
 intro pins s σ H vs us Q I r h;obtain⟨v,vr,e1,h⟩:=h;subst e1
 cases r with
 | cons r rr=>
  rw[hs];refine assignInOrder_cons (thn (h1 pins s σ H _ _ _ I r h) fun _ s1 ⟨σ1,H1,I1,q1⟩=>?_);exact h2 pins s1 σ1 H1 _ _ Q I1 rr q1
noncomputable def aLH (K:PySem.W.Frag)(n:Nat)(t:TGs):TG:=fun v σ H Q=>∃ a xs,v=.ref a∧SqT K H a xs∧xs.length=n∧t xs σ H Q
theorem aC7 {es:List Expr}{k:Nat}{t:TGs}{n:Nat}(hc:X.calm=true)(h:PGs X es t)
  (hn:(assignEach es X.env).length=n:=by rfl) (hst:(assignEach es X.env).findIdx? (·.1)=none:=by rfl):PG X (.Tuple es k pos) (aLH X.K n t):=by
 intro pins s σ H v u Q I r hw;obtain⟨a,xs,e1,hq,hl,hw⟩:=hw;subst e1
 cases r
 obtain⟨its,rv,ht,hz⟩:=I.tuple hq;refine assign_Tuple_tuple (I.ok.hd hc) ht (by simp[hn,←hl,rv.length]) hst fun h' hx=>?_;have I1:Inv X pins σ H { s with heap:=h' }:=I.kept (t':=s.toks) fun b o e=>hx b o (Nat.ne_of_lt (Heap.lt_size e)) e;exact h pins _ σ H xs _ Q I1 (by simpa using rv) hw
noncomputable def aMJ (to ti:TE)(t:aJ3):TG:=fun v σ H Q=>to σ H fun o H1=>ti σ H1 fun i H2=>t o i v H2 fun H3=>Q σ H3
theorem a90 {o i:Expr}{to ti:TE}{t:aJ3}(ho:PE X o to)(hi:PE X i ti)(hs:aLY X t)
  (ha:∀ v,assign (.Subscript o i pos) X.env v=(do
   let ov←holding [v] (eval o X.env)
   let iv←holding [v,ov] (eval i X.env)
   standAt pos
   holding [v,ov,iv] (setItem ov iv v)
   release [v,ov,iv] []):=by intro _; rfl):PG X (.Subscript o i pos) (aMJ to ti t):=by
 intro pins s σ H v u Q I r h;rw[ha];refine wpAny_bind (wpAny_holding (thn (ho pins s σ H _ I h) fun ov s1 ⟨x,H1,I1,r1,q1⟩=>?_));refine wpAny_bind (wpAny_holding (thn (hi pins s1 σ H1 _ I1 q1) fun iv s2 ⟨y,H2,I2,r2,q2⟩=>?_));refine wpAny_bind (wpAny_standAt (wpAny_bind (wpAny_holding (thn (hs pins s2 σ H2 x y v ov iv u _ I2 r1 r2 r q2) fun _ s3 ⟨H3,I3,q3⟩=>?_))));exact wpAny_release ⟨σ,H3,I3,q3⟩
noncomputable def aGT (te:TE)(g:TG):TS:=fun D σ H=>te σ H fun x H1=>g x σ H1 D.nx
theorem a7Z {tg e:Expr}{te:TE}{g:TG}(he:PE X e te)(hg:PG X tg g)(hs:swapsWithSole [tg] e pos.line X.env=pure false:=by rfl)(hw:swappedStores [tg] e X.env=pure none:=by rfl)
  (h1:(assignEach [tg] X.env).map (·.2)=[assign tg X.env]:=by rfl):PS X (.Assign [tg] e pos) (aGT te g):=by
 intro pins s σ H D I h;refine wpAny_Assign_stores (thn (he pins s σ H _ I h) fun v s1 ⟨x,H1,I1,r1,q1⟩=>?_) hs hw;rw[h1];exact thn (hg pins s1 σ H1 x v _ I1 r1 q1) fun _ s2 q=>q
theorem bT {i:Nat}{x:Str}{e:Expr}{te:TE}{pos':Pos}(hN:X.N.Nodup)(hi:X.N[i]?=some x)(hx:Loc X.env.scope x)(he:PE X e te)(hs:swapsWith e (some (.Name x pos')) pos.line X.env=pure false:=by rfl)(hf:X.fn x=true∨X.env.scope.names.lookup x=some .local:=by first|exact .inl rfl|exact .inr rfl|assumption) :
  PS X (.Assign [.Name x pos'] e pos) (aGT te (a2C i)):=by
 intro pins s σ H D I h;refine wpAny_Assign_Name (thn (he pins s σ H _ I h) fun v s1 ⟨y,H1,I1,r1,q1⟩=>?_) hs;exact tD I1 hN hi hx r1 (fun s2 I2=>⟨_,H1,I2,q1⟩) hf
noncomputable def aM1 (i j:Nat)(ta:TA):TS:=fun D σ H=>ta σ H fun vs H1=>∃ v w,vs=[v,w]∧D.nx ((σ.set i (some v)).set j (some w)) H1
theorem aFH {i j:Nat}{x y:Str}{a b:Expr}{ta:TA}{px py pt:Pos}{kt k2 pt2}(hc:X.calm=true)(hN:X.N.Nodup)(hi:X.N[i]?=some x)(hj:X.N[j]?=some y)(hij:i≠j)
  (hx:X.env.scope.names.lookup x=some .local) (hy:X.env.scope.names.lookup y=some .local) (ha:PA X [a,b] ta)
  (hw:swappedStores [.Tuple [.Name x px,.Name y py] kt pt] (.Tuple [a,b] k2 pt2) X.env=pure (some [x,y]))
  (hs:swapsWithSole [.Tuple [.Name x px,.Name y py] kt pt] (.Tuple [a,b] k2 pt2) pos.line X.env=pure false:=by rfl) :
  PS X (.Assign [.Tuple [.Name x px,.Name y py] kt pt] (.Tuple [a,b] k2 pt2) pos) (aM1 i j ta):=by
 intro pins s σ H D I h;rw[exec_Assign_arm];refine wpAny_bind (wpAny_standAt ?_);rw[hs];refine wpAny_bind (wpAny_pure ?_);rw[if_neg (by decide)];refine wpAny_bind (Tuple_ (thn (ha _ pins s σ H _ I h) fun us s1 ⟨vs,H1,I1,r1,q1⟩=>?_));obtain⟨v,w,e1,q1⟩:=q1;subst e1;obtain⟨u1,u2,rfl,rv,rw'⟩:∃ u1 u2,us=[u1,u2]∧RelV v u1∧RelV w u2:=by
  cases r1 with
  | cons p q=>
   cases q with
   | cons p' q'=>
    cases q'
    exact⟨_,_,rfl,p,p'⟩
 refine wpAny_newObj_type ?_ (by show 2≤sizeLine; decide);have I2:Inv X pins σ H1 { s1 with heap:=s1.heap.push { cls:=.type "tuple", data:=.seq [u1,u2].toArray } }:=I1.kept (t':=s1.toks) fun b o e=>Heap.get?_push_of_some _ e;rw[hw];refine wpAny_bind (wpAny_pure ?_);show wpAny (model X.prog X.w) X.A (do rule "assign.swapped-stores"; let items←unpackItems (.ref s1.heap.objs.size) 2 none; assignInOrder [fun v=>bindName X.env y v,fun v=>bindName X.env x v] items.reverse; pure Flow.next) _ _ _;refine wpAny_bind (wpAny_rule (wpAny_bind (unpackItems_tuple (items:=#[u1,u2]) (I.ok.hd hc) (IsTup.new s1.heap _) fun h' hx'=>?_)));have I3:=I2.kept (h':=h') (t':=s1.toks) fun b o e=>hx' b o (Nat.ne_of_lt (Heap.lt_size e)) e;show wpAny _ _ (assignInOrder [fun v=>bindName X.env y v,fun v=>bindName X.env x v] [u2,u1] >>= fun _=>pure Flow.next) _ _ _;refine wpAny_bind (assignInOrder_cons (wpAny_bindName (tD I3 hN hj (.inl hy) rw' (fun s2 I4=>?_) (.inr hy))));refine assignInOrder_cons (wpAny_bindName (tD I4 hN hi (.inl hx) rv (fun s3 I5=>assignInOrder_nil (wpAny_pure ?_)) (.inr hx)));rw[List.set_comm _ _ (Ne.symm hij)] at I5;exact⟨_,H1,I5,q1⟩
end
section
variable {X:Cx}{pos:Pos}
noncomputable def aBW (c:TT)(tb:TS):TS:=fun D σ H=>∃ W:Nat→St→Hp→Prop,(∃ m,W m σ H)∧∀ m σ H,W m σ H →
 c σ H fun b H1=>if b=true then ∃ N:St→Hp→Prop,(∀ σ' H',N σ' H'→∃ m',m'<m∧W m' σ' H')∧tb { D with nx:=N,ct:=N,bk:=D.nx } σ H1 else D.nx σ H1
theorem a2Y {c:Expr}{body:List Stmt}{tc:TT}{tb:TS}(hp:PassesOwn (model X.prog X.w) X.A X.env X.xe)(hc:PT X c tc)(hb:PSs X body tb):PS X (.While c body [] pos) (aBW tc tb):=by
 intro pins s σ H D I h;obtain⟨W,⟨m0,w0⟩,turn⟩:=h;refine wpAny_While (codeAny_whileLoop (fun n s'=>∃ σ' H',Inv X pins σ' H' s'∧W n σ' H') ?_ m0 ⟨σ,H,I,w0⟩);rintro n s1 ⟨σ1,H1,I1,w1⟩;refine wpAny_passesOwn hp (thn (hc pins s1 σ1 H1 _ I1 (turn n σ1 H1 w1)) fun b s2 ⟨H2,I2,q2⟩=>?_)
 cases b with
 | true=>
  obtain⟨N,hN,q2⟩:=q2;rw[if_pos rfl];refine wpAny_passesOwn hp (thn (hb pins s2 σ1 H2 _ I2 q2) fun f s3 q3=>?_)
  cases f with
  | next=>
   obtain⟨σ3,H3,I3,n3⟩:=q3;obtain⟨m',hm,w3⟩:=hN σ3 H3 n3;exact⟨m',hm,σ3,H3,I3,w3⟩
  | cont=>
   obtain⟨σ3,H3,I3,n3⟩:=q3;obtain⟨m',hm,w3⟩:=hN σ3 H3 n3;exact⟨m',hm,σ3,H3,I3,w3⟩
  | brk=>exact q3
  | ret v=>exact q3
 | false=>
  rw[if_neg Bool.false_ne_true];exact wpAny_execs_nil ⟨σ1,H2,I2,q2⟩
end
structure It where
 go:Nat→Hp→Prop
 yld:Nat→Hp→V→Hp→Prop
 stop:Nat→Hp→Prop
noncomputable def a4Q (X:Cx)(pins:List (Addr×Obj))(H:Hp)(b:Addr):Prop:=
 H b=none∧b≠X.env.locals∧b∉X.fs∧(b∈X.ex∨X.s₀.heap.objs.size≤b)∧(∀ x c,X.env.cells.lookup x=some c→c≠b)∧∀ p∈X.pn++pins,p.1≠b
theorem Inv.fpOk {X:Cx}{pins:List (Addr×Obj)}{σ:St}{H H':Hp}{s:Shared}{b:Addr}(I:Inv X pins σ H s)(hb:s.heap.objs.size≤b)(hn:H' b=none):a4Q X pins H' b:=by
 refine⟨hn,Nat.ne_of_gt (Nat.lt_of_lt_of_le I.lt hb),I.nofs hb,.inr (Nat.le_trans I.sz hb),fun x c e z=>?_,fun p hp z=>?_⟩
 ·obtain⟨v,q⟩:=I.cell x c e;exact absurd (Nat.lt_of_lt_of_le q.lt (by rw[z]; exact hb)) (Nat.lt_irrefl _)
 ·exact absurd (Nat.lt_of_lt_of_le (Heap.lt_size (I.pin p hp).1) (by rw[z]; exact hb)) (Nat.lt_irrefl _)
structure Turn (P:Program)(w:World)(K:PySem.W.Frag)(tg:Expr)(J:It)(fp:List Addr)(it:Addr)(tn:Nat→Heap→Prop):Prop where
 mem:it∈fp
 obj:∀ i h,tn i h→∀ b∈fp,∃ o,h.get? b=some o∧∀ v,o.data≠.cell v
 keep:∀ i h h',tn i h→(∀ b∈fp,∀ o,h.get? b=some o→h'.get? b=some o)→tn i h'
 item:∀(X:Cx),X.prog=P→X.w=w→X.K=K→X.calm=true→∀(i:Nat) (pins:List (Addr×Obj)) (s:Shared) (σ:St) (H:Hp) (E:Value→Shared→Prop),Inv X pins σ H s→(∀ b∈fp,a4Q X pins H b)→tn i s.heap→J.go i H →
  wpAny (model P w) X.A (pyNext (.ref it)) (fun r s1=>∃ u,r=some u ∧
   wpAny (model P w) X.A (letOwnedTupleGo tg (.ref it) u) (fun _ s2=>∃ x H',Inv X pins σ H' s2∧RelV x u∧J.yld i H x H'∧tn (i+1) s2.heap∧∀ b∈fp,H' b=none) E s1) E s
 done:∀(X:Cx),X.prog=P→X.w=w→X.K=K→X.calm=true→∀(i:Nat) (pins:List (Addr×Obj)) (s:Shared) (σ:St) (H:Hp) (E:Value→Shared→Prop),Inv X pins σ H s→(∀ b∈fp,a4Q X pins H b)→tn i s.heap→J.stop i H →
  wpAny (model P w) X.A (pyNext (.ref it)) (fun r s1=>r=none∧Inv X pins σ H s1) E s
 self:∀(A:Around) (i:Nat) (s:Shared) (Q:Value→Shared→Prop) (E:Value→Shared→Prop),tn i s.heap→Q (.ref it) s→wpAny (model P w) A (pyIter (.ref it)) Q E s
abbrev TI:=St→Hp→(It→Hp→Prop)→Prop
noncomputable def PIE (X:Cx)(pins:List (Addr×Obj))(σ:St)(tg:Expr)(R:It→Hp→Prop)(itv:Value)(s2:Shared):Prop:=
 ∃(it:Addr) (fp:List Addr) (tn:Nat→Heap→Prop) (J:It) (H':Hp),itv=.ref it∧Inv X pins σ H' s2∧Turn X.prog X.w X.K tg J fp it tn∧tn 0 s2.heap∧(∀ b∈fp,a4Q X pins H' b)∧R J H'
noncomputable def PI (X:Cx)(tg iter:Expr)(wi:TI):Prop:=
 ∀(pins:List (Addr×Obj)) (s:Shared) (σ:St) (H:Hp) (R:It→Hp→Prop),Inv X pins σ H s→wi σ H R →
  wpAny (model X.prog X.w) X.A (eval iter X.env) (fun v s1=>wpAny (model X.prog X.w) X.A (pyIter v) (PIE X pins σ tg R) X.xe s1) X.xe s
theorem a9I {M:Model}{A:Around}{E:Value→Shared→Prop}{s:Shared}{tg:Expr}{it:Addr}{u:Value}{o:Obj}{n:String}{vs:Array Value}{Q:Unit→Shared→Prop}(ho:s.heap.get? it=some o)(hc:o.cls=.type n)(hd:o.data=.fields vs)
    (hn:["enumerate", "zip", "dict_itemiterator", "dict_reverseitemiterator", "odict_iterator", "itertools.zip_longest", "itertools.pairwise"].contains n=false) (hQ:Q () s):wpAny M A (letOwnedTupleGo tg (.ref it) u) Q E s:=by
  unfold letOwnedTupleGo
  cases tg<;>first
    | exact wpAny_pure hQ
    | (cases u<;>first
        | exact wpAny_pure hQ
        | (refine wpAny_bind (wpAny_load ho ?_)
           rw[hc,hd];show wpAny M A (if (["enumerate", "zip", "dict_itemiterator", "dict_reverseitemiterator", "odict_iterator", "itertools.zip_longest", "itertools.pairwise"].contains n&&vs[0]?==some (rawInt _))=true then _ else _) Q E s;rw[if_neg (by intro h; rw[hn,Bool.false_and] at h; cases h)];exact wpAny_pure hQ))
noncomputable def Itl (K:PySem.W.Frag)(a:Addr):It:=
 ⟨fun i H=>∃ xs x,SqL K H a xs∧xs[i]?=some x,fun i H x H'=>H'=H∧∀ xs,SqL K H a xs→xs[i]?=some x,fun i H=>∃ xs,SqL K H a xs∧xs.length≤i⟩
noncomputable def Itt (K:PySem.W.Frag)(a:Addr):It:=
 ⟨fun i H=>∃ xs x,SqT K H a xs∧xs[i]?=some x,fun i H x H'=>H'=H∧∀ xs,SqT K H a xs→xs[i]?=some x,fun i H=>∃ xs,SqT K H a xs∧xs.length≤i⟩
noncomputable def Itr (lo:Int)(n:Nat):It:=⟨fun i _=>i<n,fun i H x H'=>H'=H∧x=.int (lo+i),fun i _=>n≤i⟩
theorem a8A {P:Program}{w:World}{K:PySem.W.Frag}{tg:Expr}(a it:Addr):Turn P w K tg (Itl K a) [it] it (fun i h=>h.IsListIter it a i) where
 mem:=by simp
 obj:=fun i h st b hb=>by
  have e:b=it:=by simpa using hb
  subst e;obtain⟨o,e,c,d⟩:=st;exact⟨o,e,fun v z=>by rw[d] at z; cases z⟩
 keep:=fun i h h' st k=>st.at fun o e=>k it (by simp) o e
 item:=by
  intro X hP hw hK hc i pins s σ H E I hf st hg;subst hP hw hK;obtain⟨xs,x,hq,hx⟩:=hg;obtain⟨its,rv,p,hz⟩:=I.list hq;obtain⟨u,hu,ru⟩:=rv.get hx;obtain⟨f0,f1,f2,f3,f4,f5⟩:=hf it (by simp);refine wpAny_pyNext_list_item st p.isList (x:=u) (by simpa using hu) fun h' st' sb=>?_;have I1:Inv X pins σ H { s with heap:=h' }:=I.turned (t':=s.toks) (fun b o hb e=>(sb.2 b hb).trans e) f0 f1 f3 f4 f5;obtain⟨o,e,c,d⟩:=id st';exact⟨u,rfl,a9I (s:={ s with heap:=h' }) e c d (by decide) ⟨x,H,I1,ru,⟨rfl,fun ys hy=>by rw[I.list_inj hy hq]; exact hx⟩,st',fun b hb=>(hf b hb).1⟩⟩
 done:=by
  intro X hP hw hK hc i pins s σ H E I hf st hg;subst hP hw hK;obtain⟨xs,hq,hx⟩:=hg;obtain⟨its,rv,p,hz⟩:=I.list hq;obtain⟨f0,f1,f2,f3,f4,f5⟩:=hf it (by simp);have hl:=rv.length;exact wpAny_pyNext_list_end (I.ok.hd hc) st p.isList (by simp; omega) fun h' eb=>⟨rfl,I.turned (t':=s.toks) (fun b o hb e=>eb b o hb e) f0 f1 f3 f4 f5⟩
 self:=fun _ _ _ _ _ st h=>wpAny_pyIter_listiter st h
theorem a4O {P:Program}{w:World}{K:PySem.W.Frag}{tg:Expr}(a it:Addr):Turn P w K tg (Itt K a) [it] it (fun i h=>h.IsTupleIter it a i) where
 mem:=by simp
 obj:=fun i h st b hb=>by
  have e:b=it:=by simpa using hb
  subst e;obtain⟨o,e,c,d⟩:=st;exact⟨o,e,fun v z=>by rw[d] at z; cases z⟩
 keep:=fun i h h' st k=>st.at fun o e=>k it (by simp) o e
 item:=by
  intro X hP hw hK hc i pins s σ H E I hf st hg;subst hP hw hK;obtain⟨xs,x,hq,hx⟩:=hg;obtain⟨its,rv,p,hz⟩:=I.tuple hq;obtain⟨u,hu,ru⟩:=rv.get hx;obtain⟨f0,f1,f2,f3,f4,f5⟩:=hf it (by simp);refine wpAny_pyNext_tuple_item st (show s.heap.IsTuple a its.toArray from p) (x:=u) (by simpa using hu) fun h' st' sb=>?_;have I1:Inv X pins σ H { s with heap:=h' }:=I.turned (t':=s.toks) (fun b o hb e=>(sb.2 b hb).trans e) f0 f1 f3 f4 f5;obtain⟨o,e,c,d⟩:=id st';exact⟨u,rfl,a9I (s:={ s with heap:=h' }) e c d (by decide) ⟨x,H,I1,ru,⟨rfl,fun ys hy=>by rw[I.tuple_inj hy hq]; exact hx⟩,st',fun b hb=>(hf b hb).1⟩⟩
 done:=by
  intro X hP hw hK hc i pins s σ H E I hf st hg;subst hP hw hK;obtain⟨xs,hq,hx⟩:=hg;obtain⟨its,rv,p,hz⟩:=I.tuple hq;obtain⟨f0,f1,f2,f3,f4,f5⟩:=hf it (by simp);have hl:=rv.length;exact wpAny_pyNext_tuple_end (I.ok.hd hc) st (show s.heap.IsTuple a its.toArray from p) (by simp; omega) fun h' eb=>⟨rfl,I.turned (t':=s.toks) (fun b o hb e=>eb b o hb e) f0 f1 f3 f4 f5⟩
 self:=fun _ _ _ _ _ st h=>wpAny_pyIter_tupleiter st h
theorem a5E {P:Program}{w:World}{K:PySem.W.Frag}{tg:Expr}(it:Addr)(lo:Int)(n:Nat):Turn P w K tg (Itr lo n) [it] it (fun i h=>IsRangeIter h it (lo+(i:Nat)*1) ((n:Int)-(i:Nat)) 1) where
 mem:=by simp
 obj:=fun i h st b hb=>by
  have e:b=it:=by simpa using hb
  subst e;exact⟨_,st,fun v z=>by
   have z':Data.fields _=Data.cell v:=z
   cases z'⟩
 keep:=fun i h h' st k=>k it (by simp) _ st
 item:=by
  intro X hP hw hK hc i pins s σ H E I hf st hg;subst hP hw hK;obtain⟨f0,f1,f2,f3,f4,f5⟩:=hf it (by simp);have W:=Walks.range (prog:=X.prog) (w:=X.w) (I.ok.hd hc) it lo 1 n;refine W.item i s _ _ hg st fun v h' tk hv st' kk=>?_;obtain⟨t,rfl⟩:=hv;have I1:Inv X pins σ H { s with heap:=h',toks:=tk }:=I.turned (fun b o hb e=>kk b o (by simpa using hb) e) f0 f1 f3 f4 f5;refine⟨_,rfl,a9I (s:={ s with heap:=h',toks:=tk }) (n := "range_iterator") st' rfl rfl (by decide) ⟨.int (lo+i),H,I1,⟨t,?_⟩,⟨rfl,rfl⟩,st',fun b hb=>(hf b hb).1⟩⟩;rw[Int.mul_one]
 done:=by
  intro X hP hw hK hc i pins s σ H E I hf st hg;subst hP hw hK;obtain⟨f0,f1,f2,f3,f4,f5⟩:=hf it (by simp);exact wpAny_pyNext_range_end (I.ok.hd hc) st (by have:n≤i:=hg; omega) fun h' eb=>⟨rfl,I.turned (t':=s.toks) (fun b o hb e=>eb b o hb e) f0 f1 f3 f4 f5⟩
 self:=fun _ _ _ _ _ st h=>wpAny_pyIter_rangeiter st h
end L2
namespace L2
open PySem PySem.Spec PyProof.Rows
section
variable {X:Cx}{tg:Expr}
noncomputable def aFV (K:PySem.W.Frag)(tl:TE):TI:=fun σ H R=>tl σ H fun x H1=>∃ a,x=.ref a∧(∃ xs,SqL K H1 a xs)∧R (Itl K a) H1
noncomputable def aLW (K:PySem.W.Frag)(tl:TE):TI:=fun σ H R=>tl σ H fun x H1=>∃ a,x=.ref a∧(∃ xs,SqT K H1 a xs)∧R (Itt K a) H1
theorem a1K {l:Expr}{tl:TE}(hl:PE X l tl):PI X tg l (aFV X.K tl):=by
 intro pins s σ H R I h;refine thn (hl pins s σ H _ I h) fun v s1 ⟨x,H1,I1,r1,q1⟩=>?_;obtain⟨a,e,⟨xs,hq⟩,q⟩:=q1;subst e
 cases r1
 obtain⟨its,rv,p,hz⟩:=I1.list hq;refine wpAny_pyIter_list p.isList ?_;refine⟨s1.heap.objs.size,[s1.heap.objs.size],_,_,H1,rfl,I1.kept (t':=s1.toks) fun b o e=>Heap.get?_push_of_some _ e,a8A a _,⟨_,Heap.get?_push_size _ rfl,rfl,rfl⟩,fun b hb=>?_,q⟩;have e:b=s1.heap.objs.size:=by simpa using hb
 subst e;exact I1.fpOk (Nat.le_refl _) (I1.hok.fresh (Nat.le_refl _))
theorem a76 {l:Expr}{tl:TE}(hl:PE X l tl):PI X tg l (aLW X.K tl):=by
 intro pins s σ H R I h;refine thn (hl pins s σ H _ I h) fun v s1 ⟨x,H1,I1,r1,q1⟩=>?_;obtain⟨a,e,⟨xs,hq⟩,q⟩:=q1;subst e
 cases r1
 obtain⟨its,rv,p,hz⟩:=I1.tuple hq;refine wpAny_pyIter_tuple (show s1.heap.IsTuple a its.toArray from p) ?_;refine⟨s1.heap.objs.size,[s1.heap.objs.size],_,_,H1,rfl,I1.kept (t':=s1.toks) fun b o e=>Heap.get?_push_of_some _ e,a4O a _,⟨_,Heap.get?_push_size _ rfl,rfl,rfl⟩,fun b hb=>?_,q⟩;have e:b=s1.heap.objs.size:=by simpa using hb
 subst e;exact I1.fpOk (Nat.le_refl _) (I1.hok.fresh (Nat.le_refl _))
theorem a9U {pins:List (Addr×Obj)}{σ:St}{H:Hp}{s:Shared}{R:It→Hp→Prop}{E:Value→Shared→Prop}{lo hi:Int}{t u v:Tok}{tk:Nat}(I:Inv X pins σ H s)(h1 : -(2^62)≤lo)(h2:lo<2^62)(h3 : -(2^62)≤hi)(h4:hi<2^62)
  (q:R (Itr lo (hi-lo).toNat) H):wpAny (model X.prog X.w) X.A (pyIter (.ref s.heap.objs.size)) (PIE X pins σ tg R) E { s with heap:=s.heap.push { cls:=.type "range", data:=.fields #[.int lo t,.int hi u,.int 1 v] },toks:=tk }:=by
 refine wpAny_pyIter_range (IsRange.new ..) (small_one h1 h2 h3 h4) ?_;have I1:Inv X pins σ H { s with heap:=s.heap.push { cls:=.type "range", data:=.fields #[.int lo t,.int hi u,.int 1 v] },toks:=tk }:=I.kept fun b o e=>Heap.get?_push_of_some _ e;refine⟨(s.heap.push { cls:=.type "range", data:=.fields #[.int lo t,.int hi u,.int 1 v] }).objs.size,[(s.heap.push { cls:=.type "range", data:=.fields #[.int lo t,.int hi u,.int 1 v] }).objs.size],_,_,H,rfl,
  I1.kept (t':=tk) fun b o e=>Heap.get?_push_of_some _ e,a5E _ lo (hi-lo).toNat,?_,fun b hb=>?_,q⟩
 ·have e1:lo+((0:Nat):Int)*1=lo:=by simp
  have e2:(((hi-lo).toNat:Nat):Int)-((0:Nat):Int)=Builtin.Range.rangeSize lo hi 1:=by rw[rangeSize_one]; split<;>omega
  show IsRangeIter _ _ (lo+((0:Nat):Int)*1) ((((hi-lo).toNat:Nat):Int)-((0:Nat):Int)) 1;rw[e1,e2];exact Heap.get?_push_size _ rfl
 ·have e:b=(s.heap.push { cls:=.type "range", data:=.fields #[.int lo t,.int hi u,.int 1 v] }).objs.size:=by simpa using hb
  subst e;exact I1.fpOk (Nat.le_refl _) (I1.hok.fresh (Nat.le_refl _))
noncomputable def aHS (ta:TA):TI:=fun σ H R=>ta σ H fun vs H1=>∃ j:Int,vs=[.int j] ∧ -(2^62)≤j∧j<2^62∧R (Itr 0 j.toNat) H1
theorem iV {a:Expr}{ta:TA}{p pos:Pos}(hg:Gl X "range")(hm:X.mg "range" = none)(ha:PA X [a] ta)(hs:starEach [a] X.env=[(false,eval a X.env)]:=by rfl):PI X tg (.Call (.Name "range" p) [a] [] pos) (aHS ta):=by
 intro pins s σ H R I h;refine Call_ (wA I hg hm boot_range (PyProof.Rows.callWith_type1 (thn (ha pos pins s σ H _ I h) fun us s1 ⟨vs,H1,I1,r1,q1⟩=>?_) hs rfl));obtain⟨j,e,q1,q2,q⟩:=q1;subst e
 cases r1 with
 | cons r rr=>
  cases rr
  obtain⟨t,rfl⟩:=r;exact call_range_1 (a9U I1 (by omega) (by omega) q1 q2 (by simpa using q))
noncomputable def aMB (wi:TI)(g:TG)(tb:TS):TS:=fun D σ H=>wi σ H fun J H1=>∃ W:Nat→Nat→St→Hp→Prop,(∃ m,W 0 m σ H1)∧∀ i m σ H,W i m σ H →
 (J.stop i H∧D.nx σ H)∨(J.go i H∧∃ N:St→Hp→Prop,(∀ σ' H',N σ' H'→∃ m',m'<m∧W (i+1) m' σ' H')∧∀ x H',J.yld i H x H'→g x σ H' fun σ2 H2=>tb { D with nx:=N,ct:=N,bk:=D.nx } σ2 H2)
noncomputable def a0E (fp:List Addr)(h:Heap):List (Addr×Obj):=fp.filterMap fun b=>(h.get? b).map fun o=>(b,o)
theorem mR {fp:List Addr}{h:Heap}{b:Addr}{o:Obj}(hb:b∈fp)(e:h.get? b=some o):(b,o)∈a0E fp h:=List.mem_filterMap.mpr ⟨b,hb,by rw[e]; rfl⟩
theorem a6H {fp:List Addr}{h:Heap}{p:Addr×Obj}(hp:p∈a0E fp h):p.1∈fp∧h.get? p.1=some p.2:=by
 obtain⟨b,hb,e⟩:=List.mem_filterMap.mp hp
 cases q:h.get? b with
 | none=>rw[q] at e; cases e
 | some o=>
  rw[q] at e;have e':(b,o)=p:=Option.some.inj e;subst e';exact⟨hb,q⟩
theorem Inv.pinned {pins:List (Addr×Obj)}{σ:St}{H:Hp}{s:Shared}{fp:List Addr}(I:Inv X pins σ H s)(hf:∀ b∈fp,a4Q X pins H b)(ho:∀ b∈fp,∃ o,s.heap.get? b=some o∧∀ v,o.data≠.cell v):Inv X (pins++a0E fp s.heap) σ H s:=
 I.pins_of fun p hp=>(List.mem_append.mp hp).elim (fun z=>I.pin p (List.mem_append_right _ z)) fun z=>by
  obtain⟨hb,e⟩:=a6H z;obtain⟨f0,f1,f2,_⟩:=hf p.1 hb;obtain⟨o,e',d⟩:=ho p.1 hb;rw[e] at e'; cases e';exact⟨e,f0,f1,f2,d⟩
theorem Inv.unpinned {pins pl:List (Addr×Obj)}{σ:St}{H:Hp}{s:Shared}(I:Inv X (pins++pl) σ H s):Inv X pins σ H s:=I.pins_of fun p hp=>I.pin p (List.mem_append_right _ (List.mem_append_left _ hp))
theorem tQ {iter:Expr}{body:List Stmt}{wi:TI}{g:TG}{tb:TS}{pos:Pos}(hp:PassesOwn (model X.prog X.w) X.A X.env X.xe)(hc:X.calm=true)(hi:PI X tg iter wi)(hg:PG X tg g)(hb:PSs X body tb)
  (hs:∀ x,foldedSetIterable iter X.env x=pure x:=by intro _; rfl):PS X (.For tg iter body [] pos) (aMB wi g tb):=by
 intro pins s σ H D I h;refine wpAny_For (thn (hi pins s σ H _ I h) fun v s1 h1=>thn h1 fun itv s2 h2=>?_) hs;obtain⟨it,fp,tn,J,H2,e,I2,T,st2,f2,W,⟨m0,w0⟩,turn⟩:=h2;subst e;have stat:∀{H':Hp},(∀ b∈fp,H' b=none)→∀ b∈fp,a4Q X pins H' b:=fun hn b hb=>⟨hn b hb,(f2 b hb).2⟩;refine codeAny_forLoop_any (fun n s'=>∃ i σ' H',Inv X pins σ' H' s'∧tn i s'.heap∧(∀ b∈fp,H' b=none)∧W i n σ' H') ?_ m0 ⟨0,σ,H2,I2,st2,fun b hb=>(f2 b hb).1,w0⟩;rintro n s3 ⟨i,σ3,H3,I3,st3,fr3,w3⟩;rcases turn i n σ3 H3 w3 with⟨stop,qn⟩|⟨go,N,hN,step⟩
 ·refine wpAny_passesOwn hp (thn (T.done X rfl rfl rfl hc i pins s3 σ3 H3 X.xe I3 (stat fr3) st3 stop) fun r s4 ⟨hr,I4⟩=>?_);subst hr;exact wpAny_execs_nil ⟨σ3,H3,I4,qn⟩
 ·refine wpAny_passesOwn hp (thn (T.item X rfl rfl rfl hc i pins s3 σ3 H3 X.xe I3 (stat fr3) st3 go) fun r s4 ⟨u,hr,h4⟩=>?_);subst hr;refine wpAny_passesOwn hp (thn h4 fun _ s5 ⟨x,H5,I5,r5,y5,st5,fr5⟩=>?_);have I5':=I5.pinned (stat fr5) (T.obj _ _ st5);refine wpAny_passesOwn hp (thn (hg _ s5 σ3 H5 x u _ I5' r5 (step x H5 y5)) fun _ s6 ⟨σ6,H6,I6,q6⟩=>?_);refine wpAny_passesOwn hp (thn (hb _ s6 σ6 H6 _ I6 q6) fun f s7 q7=>?_);have again:∀{σ7:St} {H7:Hp},Inv X (pins++a0E fp s5.heap) σ7 H7 s7→N σ7 H7→∃ m,m<n∧∃ i σ' H',Inv X pins σ' H' s7∧tn i s7.heap∧(∀ b∈fp,H' b=none)∧W i m σ' H':=fun{σ7 H7} I7 n7=>by
   obtain⟨m',hm,w7⟩:=hN σ7 H7 n7;refine⟨m',hm,i+1,σ7,H7,I7.unpinned,T.keep _ _ _ st5 fun b hb o e=>(I7.pin (b,o) (List.mem_append_right _ (List.mem_append_right _ (mR hb e)))).1,fun b hb=>?_,w7⟩;obtain⟨o,e,d⟩:=T.obj _ _ st5 b hb;exact(I7.pin (b,o) (List.mem_append_right _ (List.mem_append_right _ (mR hb e)))).2.1
  cases f with
  | next=>obtain⟨σ7,H7,I7,n7⟩:=q7; exact again I7 n7
  | cont=>obtain⟨σ7,H7,I7,n7⟩:=q7; exact again I7 n7
  | brk=>obtain⟨σ7,H7,I7,q7⟩:=q7; exact⟨σ7,H7,I7.unpinned,q7⟩
  | ret v=>obtain⟨x7,σ7,H7,I7,r7,q7⟩:=q7; exact⟨x7,σ7,H7,I7.unpinned,r7,q7⟩
end
end L2
namespace L2
open PySem PySem.Spec PyProof.Rows
abbrev R2:=V→V→Hp→VK→Prop
noncomputable def OpR (X:Cx)(f:Value→Value→Sem Value)(r:R2):Prop:=
 ∀(pins:List (Addr×Obj)) (s:Shared) (σ:St) (H:Hp) (x y:V) (v u:Value) (Q:VK),Inv X pins σ H s→RelV x v→RelV y u→r x y H Q →
  wpAny (model X.prog X.w) X.A (f v u) (EP X pins σ Q) X.xe s
noncomputable def UnR (X:Cx)(f:Value→Sem Value)(r:V→Hp→VK→Prop):Prop:=
 ∀(pins:List (Addr×Obj)) (s:Shared) (σ:St) (H:Hp) (x:V) (v:Value) (Q:VK),Inv X pins σ H s→RelV x v→r x H Q →
  wpAny (model X.prog X.w) X.A (f v) (EP X pins σ Q) X.xe s
noncomputable def rF (X:Cx)(f:Value)(r:List V→Hp→VK→Prop):Prop:=
 ∀(pins:List (Addr×Obj)) (s:Shared) (σ:St) (H:Hp) (xs:List V) (us:List Value) (Q:VK),Inv X pins σ H s→Vals xs us→r xs H Q →
  wpAny (model X.prog X.w) X.A (call f us) (EP X pins σ Q) X.xe s
noncomputable def tOp (r:R2)(ta tb:TE):TE:=fun σ H Q=>ta σ H fun x H1=>tb σ H1 fun y H2=>r x y H2 Q
noncomputable def tUn (r:V→Hp→VK→Prop)(ta:TE):TE:=fun σ H Q=>ta σ H fun x H1=>r x H1 Q
noncomputable def rI (C:Int→Int→Prop)(g:Int→Int→V):R2:=fun x y H Q=>∃ i j,x=.int i∧y=.int j∧C i j∧Q (g i j) H
noncomputable def rI0 (g:Int→Int→V):R2:=fun x y H Q=>∃ i j,x=.int i∧y=.int j∧Q (g i j) H
noncomputable def rU (g:Int→V):V→Hp→VK→Prop:=fun x H Q=>∃ i,x=.int i∧Q (g i) H
section
variable {X:Cx}{a b c:Expr}{ta tb tc:TE}{pos:Pos}
theorem aKY (ha:PE X a ta)(hb:PE X b tb){pins:List (Addr×Obj)}{s:Shared}{σ:St}{H:Hp}{R:V→V→Hp→Prop}(I:Inv X pins σ H s)
  (h:ta σ H fun x H1=>tb σ H1 fun y H2=>R x y H2) {Q:Value→Shared→Prop} {f:Value→Value→Sem Value}
  (hf:∀ v u s2 x y H2,Inv X pins σ H2 s2→RelV x v→RelV y u→R x y H2→wpAny (model X.prog X.w) X.A (f v u) Q X.xe s2) :
  wpAny (model X.prog X.w) X.A (eval a X.env) (fun v s₁=>wpAny (model X.prog X.w) X.A (eval b X.env) (fun u s₂=>wpAny (model X.prog X.w) X.A (f v u) Q X.xe s₂) X.xe s₁) X.xe s:=by
 refine thn (ha pins s σ H _ I h) fun v s1 ⟨x,H1,I1,r1,q1⟩=>?_;refine thn (hb pins s1 σ H1 _ I1 q1) fun u s2 ⟨y,H2,I2,r2,q2⟩=>?_;exact hf v u s2 x y H2 I2 r1 r2 q2
theorem cA {op:Operator}{r:R2}(ho:OpR X (binaryOp op) r)(ha:PE X a ta)(hb:PE X b tb):PE X (.BinOp a op b pos) (tOp r ta tb):=by
 intro pins s σ H Q I h;exact wpAny_BinOp (aKY ha hb I h fun v u s2 x y H2 I2 rx ry q=>ho pins s2 σ H2 x y v u Q I2 rx ry q)
theorem aEP {op:UnaryOp}{r:V→Hp→VK→Prop}(ho:UnR X (unaryOp op) r)(ha:PE X a ta):PE X (.UnaryOp op a pos) (tUn r ta):=by
 intro pins s σ H Q I h;exact UnaryOp_ (thn (ha pins s σ H _ I h) fun v s1 ⟨x,H1,I1,r1,q1⟩=>ho pins s1 σ H1 x v Q I1 r1 q1)
theorem opI {f:Value→Value→Sem Value}{C:Int→Int→Prop}{g:Int→Int→Int}
  (rule:∀(i j:Int) (t u:Tok) (s:Shared) (Q:Value→Shared→Prop) (E:Value→Shared→Prop),C i j→Q (.int (g i j) s.toks) { s with toks:=s.toks+1 }→wpAny (model X.prog X.w) X.A (f (.int i t) (.int j u)) Q E s) :
  OpR X f (rI C fun i j=>.int (g i j)):=by
 intro pins s σ H x y v u Q I rx ry h;obtain⟨i,j,rfl,rfl,hc,q⟩:=h;obtain⟨t,rfl⟩:=rx;obtain⟨t',rfl⟩:=ry;exact rule i j t t' s _ _ hc ⟨.int (g i j),H,I.tok _,⟨_,rfl⟩,q⟩
theorem aLF {f:Value→Value→Sem Value}{g:Int→Int→Int}
  (rule:∀(i j:Int) (t u:Tok) (s:Shared) (Q:Value→Shared→Prop) (E:Value→Shared→Prop),Q (.int (g i j) s.toks) { s with toks:=s.toks+1 }→wpAny (model X.prog X.w) X.A (f (.int i t) (.int j u)) Q E s) :
  OpR X f (rI0 fun i j=>.int (g i j)):=by
 intro pins s σ H x y v u Q I rx ry h;obtain⟨i,j,rfl,rfl,q⟩:=h;obtain⟨t,rfl⟩:=rx;obtain⟨t',rfl⟩:=ry;exact rule i j t t' s _ _ ⟨.int (g i j),H,I.tok _,⟨_,rfl⟩,q⟩
theorem aII {f:Value→Value→Sem Value}{g:Int→Int→Bool}
  (rule:∀(i j:Int) (t u:Tok) (s:Shared) (Q:Value→Shared→Prop) (E:Value→Shared→Prop),Q (.bool (g i j)) s→wpAny (model X.prog X.w) X.A (f (.int i t) (.int j u)) Q E s) :
  OpR X f (rI0 fun i j=>.bl (g i j)):=by
 intro pins s σ H x y v u Q I rx ry h;obtain⟨i,j,rfl,rfl,q⟩:=h;obtain⟨t,rfl⟩:=rx;obtain⟨t',rfl⟩:=ry;exact rule i j t t' s _ _ ⟨.bl (g i j),H,I,rfl,q⟩
noncomputable def aJ1 (i j:Int):Prop:=0<j∧j<1073741824
noncomputable def aLU (i j:Int):Prop:=0≤j∧j≤1000000∧i.natAbs<2^64
noncomputable def CMul (i j:Int):Prop:=(-(2^64)<i∧i<2^64)∨(-(2^64)<j∧j<2^64)
theorem CMul.ok {i j:Int}(h:CMul i j):IntMulOk i j:=by
 rcases h with⟨h1,h2⟩|⟨h1,h2⟩
 ·exact .of_left (intBits_le_64 h1 h2)
 ·exact .of_right (intBits_le_64 h1 h2)
theorem iY:OpR X (binaryOp .Add) (rI0 fun i j=>.int (i+j)):=aLF fun _ _ _ _ _ _ _ q=>add_int q
theorem a0C:OpR X (binaryOp .Sub) (rI0 fun i j=>.int (i-j)):=aLF fun _ _ _ _ _ _ _ q=>sub_int q
theorem a8O:OpR X (binaryOp .Mult) (rI CMul fun i j=>.int (i*j)):=opI fun _ _ _ _ _ _ _ hc q=>mul_int q hc.ok
theorem a8L:OpR X (binaryOp .FloorDiv) (rI aJ1 fun i j=>.int (i/j)):=opI fun i j _ _ _ _ _ hc q=>by
 have h1:(0:Int)<j:=hc.1;have h2:j<1073741824:=hc.2;exact floordiv_int (by omega) (by rw[Int.fdiv_eq_ediv_of_nonneg i (by omega)]; exact q) (.inl (PyProof.noPylong_small (by omega)))
theorem pD:OpR X (binaryOp .Mod) (rI (fun _ j=>0<j) fun i j=>.int (i%j)):=opI fun i j _ _ _ _ _ hc q=>by
 have h1:(0:Int)<j:=hc;exact mod_int' (by omega) (by rw[Int.fmod_eq_emod_of_nonneg i (by omega)]; exact q)
theorem aGV:OpR X (binaryOp .Pow) (rI aLU fun i j=>.int (i^j.toNat)):=opI fun _ _ _ _ _ _ _ hc q=>pow_int_small hc.1 hc.2.1 hc.2.2 q
theorem unI {f:Value→Sem Value}{g:Int→Int}
  (rule:∀(i:Int) (t:Tok) (s:Shared) (Q:Value→Shared→Prop) (E:Value→Shared→Prop),Q (.int (g i) s.toks) { s with toks:=s.toks+1 }→wpAny (model X.prog X.w) X.A (f (.int i t)) Q E s) :
  UnR X f (rU fun i=>.int (g i)):=by
 intro pins s σ H x v Q I rx h;obtain⟨i,rfl,q⟩:=h;obtain⟨t,rfl⟩:=rx;exact rule i t s _ _ ⟨.int (g i),H,I.tok _,⟨_,rfl⟩,q⟩
theorem a71:UnR X (unaryOp .USub) (rU fun i=>.int (-i)):=unI fun _ _ _ _ _ q=>neg_int q
end
noncomputable def aME:V→V→Bool
 | .non,.non=>true|.non,.int _=>true|.int _,.non=>true|.non,.bl _=>true|.bl _,.non=>true|.non,.str _=>true|.str _,.non=>true
 | .int _,.int _=>true|.bl _,.bl _=>true|.str _,.str _=>true|.byt _,.byt _=>true
 | .int _,.str _=>true|.str _,.int _=>true|.bl _,.str _=>true|.str _,.bl _=>true
 | _,_=>false
noncomputable def rEq:R2:=fun x y H Q=>aME x y=true∧Q (.bl (decide (x=y))) H
theorem aCG {i j:Int}:decide (V.int i=V.int j)=(i==j):=by
 rw[Bool.eq_iff_iff];simp
theorem aI2 {i j:Bool}:decide (V.bl i=V.bl j)=(i==j):=by
 rw[Bool.eq_iff_iff];simp
theorem aDN {i j:Str}:decide (V.str i=V.str j)=(i==j):=by
 rw[Bool.eq_iff_iff];simp
theorem aCK {i j:Array UInt8}:decide (V.byt i=V.byt j)=(i.toList==j.toList):=by
 rw[Bool.eq_iff_iff]
 cases i
 cases j
 simp
section
variable {X:Cx}{a b c:Expr}{ta tb tc:TE}{pos:Pos}
theorem gH {pins:List (Addr×Obj)}{σ:St}{H:Hp}{s:Shared}{Q:VK}{k k':Bool}(I:Inv X pins σ H s)(q:Q (.bl k) H)(e:k=k'):EP X pins σ Q (.bool k') s:=by
 subst e;exact⟨.bl k,H,I,rfl,q⟩
theorem aJ5:OpR X (compareOp .Eq) rEq:=by
 intro pins s σ H x y v u Q I rx ry h;obtain⟨hs,q⟩:=h
 cases x with
 | non=>
  cases rx
  cases y with
  | non=>cases ry; exact PySem.EqNone.eq_none_none (gH I q (by simp))
  | bl j=>cases ry; exact PySem.EqNone.eq_none_bool (gH I q (by simp))
  | int j=>obtain⟨t',rfl⟩:=ry; exact PySem.EqNone.eq_none_int (gH I q (by simp))
  | str j=>obtain⟨t',rfl⟩:=ry; exact PySem.EqNone.eq_none_str (gH I q (by simp))
  | _=>exact absurd (show false=true from hs) Bool.false_ne_true
 | bl i=>
  cases rx
  cases y with
  | non=>cases ry; exact PySem.EqNone.eq_bool_none (gH I q (by simp))
  | bl j=>cases ry; exact eq_bool (gH I q aI2)
  | str j=>obtain⟨t',rfl⟩:=ry; exact PySem.EqMixed.eq_bool_str (gH I q (by simp))
  | _=>exact absurd (show false=true from hs) Bool.false_ne_true
 | int i=>
  obtain⟨t,rfl⟩:=rx
  cases y with
  | non=>cases ry; exact PySem.EqNone.eq_int_none (gH I q (by simp))
  | int j=>obtain⟨t',rfl⟩:=ry; exact eq_int (gH I q aCG)
  | str j=>obtain⟨t',rfl⟩:=ry; exact PySem.EqMixed.eq_int_str (gH I q (by simp))
  | _=>exact absurd (show false=true from hs) Bool.false_ne_true
 | str i=>
  obtain⟨t,rfl⟩:=rx
  cases y with
  | non=>cases ry; exact PySem.EqNone.eq_str_none (gH I q (by simp))
  | bl j=>cases ry; exact PySem.EqMixed.eq_str_bool (gH I q (by simp))
  | int j=>obtain⟨t',rfl⟩:=ry; exact PySem.EqMixed.eq_str_int (gH I q (by simp))
  | str j=>obtain⟨t',rfl⟩:=ry; exact eq_str (gH I q aDN)
  | _=>exact absurd (show false=true from hs) Bool.false_ne_true
 | byt i=>
  obtain⟨t,rfl⟩:=rx
  cases y with
  | byt j=>obtain⟨t',rfl⟩:=ry; exact PySem.W.eq_bytes (gH I q aCK)
  | _=>exact absurd (show false=true from hs) Bool.false_ne_true
 | _=>cases y<;>exact absurd (show false=true from hs) Bool.false_ne_true
theorem z9:OpR X (compareOp .Lt) (rI0 fun i j=>.bl (decide (i<j))):=aII fun _ _ _ _ _ _ _ q=>lt_int q
theorem aF9:OpR X (compareOp .LtE) (rI0 fun i j=>.bl (decide (i≤j))):=aII fun _ _ _ _ _ _ _ q=>le_int q
theorem a82:OpR X (compareOp .Gt) (rI0 fun i j=>.bl (decide (j<i))):=aII fun _ _ _ _ _ _ _ q=>gt_int q
theorem aI8:OpR X (compareOp .GtE) (rI0 fun i j=>.bl (decide (j≤i))):=aII fun _ _ _ _ _ _ _ q=>ge_int q
theorem a7L:OpR X (compareOp .Is) (fun x y H Q=>y=.non∧Q (.bl (decide (x=.non))) H):=by
 intro pins s σ H x y v u Q I rx ry h;obtain⟨rfl,q⟩:=h
 cases ry
 refine is_none_gen (gH I q ?_)
 cases x<;>first
  | (cases rx; rfl)
  | (obtain⟨t,rfl⟩:=rx; rfl)
theorem aCU:OpR X (compareOp .IsNot) (fun x y H Q=>y=.non∧Q (.bl (!decide (x=.non))) H):=by
 intro pins s σ H x y v u Q I rx ry h;obtain⟨rfl,q⟩:=h
 cases ry
 refine isnot_none_gen (gH I q ?_)
 cases x<;>first
  | (cases rx; rfl)
  | (obtain⟨t,rfl⟩:=rx; rfl)
theorem b7 (b:Expr){op:CmpOp}(h:op≠.In:=by decide)(h2:op≠.NotIn:=by decide):behindInMarks op b=false:=by
 have e1:(op==CmpOp.In)=false:=by cases op<;>first|rfl|exact absurd rfl h
 have e2:(op==CmpOp.NotIn)=false:=by cases op<;>first|rfl|exact absurd rfl h2
 cases b<;>simp[behindInMarks,e1,e2]
theorem cR {op:CmpOp}{r:R2}(ho:OpR X (compareOp op) r)(ha:PE X a ta)(hb:PE X b tb)(hm:behindInMarks op b=false):PE X (.Compare a [op] [b] pos) (tOp r ta tb):=by
 intro pins s σ H Q I h;exact wpAny_Compare1 (aKY ha hb I h fun v u s2 x y H2 I2 rx ry q=>ho pins s2 σ H2 x y v u Q I2 rx ry q) hm
noncomputable def aH3 (t:TE):TT:=fun σ H Q=>t σ H fun x H'=>∃ k,x=.bl k∧Q k H'
theorem aY {op:CmpOp}{r:R2}(ho:OpR X (compareOp op) r)(ha:PE X a ta)(hb:PE X b tb)(hm:behindInMarks op b=false):PT X (.Compare a [op] [b] pos) (aH3 (tOp r ta tb)):=by
 intro pins s σ H Q I h;refine wpAny_isTrue_Compare1 (thn (ha pins s σ H _ I h) fun v s1 ⟨x,H1,I1,r1,q1⟩=>thn (hb pins s1 σ H1 _ I1 q1) fun u s2 ⟨y,H2,I2,r2,q2⟩=>
  thn (ho pins s2 σ H2 x y v u _ I2 r1 r2 q2) fun c s3 ⟨z,H3,I3,r3,k,e,q3⟩=>?_) hm
 subst e
 cases r3
 exact wpAny_truthy_bool ⟨H3,I3,q3⟩
theorem wD:(sizeLine:Nat)<2^63:=by rw[sizeLine_eq]; decide
theorem vals1 {x:V}{us:List Value}(r:Vals [x] us):∃ u,us=[u]∧RelV x u:=by
 cases r with
 | cons r1 r2=>cases r2; exact⟨_,rfl,r1⟩
theorem vals2 {x y:V}{us:List Value}(r:Vals [x,y] us):∃ u w',us=[u,w']∧RelV x u∧RelV y w':=by
 cases r with
 | cons r1 r2=>
  cases r2 with
  | cons r3 r4=>cases r4; exact⟨_,_,rfl,r1,r3⟩
theorem nP:rF X (.builtin "abs") (fun xs H Q=>∃ i,xs=[.int i]∧Q (.int (if i<0 then -i else i)) H):=by
 intro pins s σ H xs us Q I r h;obtain⟨i,rfl,q⟩:=h;obtain⟨u,rfl,t,rfl⟩:=vals1 r;exact call_abs_int fun u tk=>⟨.int (if i<0 then -i else i),H,I.tok _,⟨_,rfl⟩,q⟩
end
end L2
namespace L2
open PySem PySem.Spec PyProof.Rows
structure ObjM (h:Heap)(x dx C:Addr)(mA:Str→Option Value):Prop where
 obj:h.get? x=some (PySem.W.instObj C dx)
 ns:h.Ns1 dx mA
 ne:dx≠x
theorem a88 {h:Heap}{dx:Addr}{mA:Str→Option Value}(n:h.Ns1 dx mA):∃ od,h.get? dx=some od∧∀ name,PySem.W.lookIn name od=some (mA name):=by
 obtain⟨o,es,ep,ho,hd,hk,_,hm⟩:=n;refine⟨o,ho,fun name=>?_⟩;have e:=hm name;unfold nsFind findBy at e;rw[← Array.find?_toList] at e;unfold PySem.W.lookIn;rw[hd];dsimp only
 split
 ·rename_i y q
  rw[q] at e;exact congrArg some e
 ·rename_i q
  rw[q] at e;have a:es.toList.any (·.refKey)=false:=by
   rw[List.any_eq_false];intro y hy;obtain⟨z,t,hkey⟩:=hk y (Array.mem_toList_iff.mp hy);simp[DictEntry.refKey,hkey]
  have a':¬es.toList.any (·.refKey)=true:=by rw[a]; exact Bool.false_ne_true
  rw[if_neg a'];exact congrArg some e
theorem ObjM.look {h:Heap}{x dx C:Addr}{mA:Str→Option Value}(I:ObjM h x dx C mA):∃ od,PySem.W.InstAt h x (PySem.W.instObj C dx) C (some od)∧∀ name,PySem.W.lookIn name od=some (mA name):=
 let ⟨od,ho,hl⟩:=a88 I.ns
 ⟨od,⟨I.obj,rfl,rfl,ho⟩,hl⟩
section
variable {prog:Program}{w:World}{A:Around}{E:Value→Shared→Prop}{s:Shared}{K:PySem.W.Frag}{x dx C f:Addr}{mA:Str→Option Value}{name:Str}{v:Value}
theorem aEA {expr:Bool}{Q:Value→Shared→Prop}(X:K.In s.heap)(I:ObjM s.heap x dx C mA)(hg:PySem.W.plainGet K C name=true)(hh:PySem.W.hasDictIn K C=true)
  (ha:PySem.W.findIn K (.ref C) name=some none) (hv:mA name=some v) (hv':PySem.W.handedIn v=true) (h:Q v { s with toks:=s.toks+1 }) :
  wpAny (model prog w) A (getAttr (.ref x) name expr) Q E s:=by
 obtain⟨od,J,hl⟩:=I.look;exact PySem.W.get_value X J (PySem.W.plainGet_of hg).1 (PySem.W.findObj_own hh ha rfl (by rw[hl,hv])) hv' h
theorem a9Q {pl:Sem Bool}{Q:Value×List Value→Shared→Prop}(X:K.In s.heap)(I:ObjM s.heap x dx C mA)(hg:PySem.W.plainGet K C name=true)
  (hf:PySem.W.findIn K (.ref C) name=some (some (.ref f))) (ht:PySem.W.isFn K (.ref f)=true) (hv:mA name=none) (h:Q (.ref f,[.ref x]) s) :
  wpAny (model prog w) A (getMethod (.ref x) name pl) Q E s:=by
 obtain⟨od,J,hl⟩:=I.look;exact PySem.W.method_fn X J (PySem.W.plainGet_of hg).1 (PySem.W.plainGet_of hg).2 hf (beq_iff_eq.mp ht) (by show(PySem.W.lookIn name od).map (·.isSome)=some false; rw[hl,hv]; rfl) h
theorem aCI {ns:List Str}{Q:Unit→Shared→Prop}(X:K.In s.heap)(I:ObjM s.heap x dx C mA)
  (hs:PySem.W.findIn K (.ref C) "__setattr__" = some (some (.builtin "object.__setattr__"))) (hp:PySem.W.plainOver K C=true) (ht:PySem.W.takerIn K C name=some none) (hh:PySem.W.hasDictIn K C=true)
  (hw:PySem.Within mA ns) (hsz:ns.length≤sizeLine)
  (h:∀ h',ObjM h' x dx C (fun y=>if y=name then some v else mA y)→Heap.SameBut dx s.heap h'→Q () { s with heap:=h',toks:=s.toks+2 }) :
  wpAny (model prog w) A (setAttr (.ref x) name v) Q E s:=by
 obtain⟨od,J,hl⟩:=I.look;refine PySem.W.set_plain X J hs (PySem.W.osa_open (s:={ s with toks:=s.toks+1 }) (r:=none) X J hp ht fun b=>?_);obtain⟨cd,hc,hd'⟩:=PySem.W.any_some hh;have hx:s.heap.get? x=some ⟨.ref C,some dx,.plain,#[]⟩:=I.obj;refine wpAny_bind (wpAny_pure (wpAny_bind (wpAny_bind (wpAny_loadPart hx (wpAny_bind (PySem.W.Looks.here (s:={ s with toks:=s.toks+1 }) (PySem.W.looks_clsIn X hc) ?_))))));rw[hd'];refine wpAny_pure (a:=some dx) (wpAny_bind (wpAny_pure (wpAny_bind ?_)));refine wpAny_nsSet1 (s:={ s with toks:=s.toks+1 }) I.ns fun h' hn2 hs2=>?_;obtain⟨oD,esD,epD,hoD,hdD,hcD⟩:=hn2.count (PySem.Within.cons name v hw);refine wpAny_bind (wpAny_lookBehind hoD (by rw[hdD]; exact pastItsLine_dict (Nat.le_trans hcD (by rw[List.length_cons]; omega))) ?_);exact wpAny_pure (h _ ⟨(hs2.2 _ (Ne.symm I.ne)).trans I.obj,hn2,I.ne⟩ hs2)
theorem aBB {R:Result→Shared→Prop}{vs:List Value}{kw:List (Str×Value)}(X:K.In s.heap)(hm:PySem.W.makesIn K C=true)
  (hi:PySem.W.findIn K (.ref C) "__init__" = some (some (.ref f))) (hf:PySem.W.typeIn K (.ref f)=some (.type "function"))
  (h:codeAny (model prog w) (A.under (.builtin "type.__call__" ⟨.ref C::vs,kw⟩)) (.call (.ref f) ⟨.ref (s.heap.objs.size+1)::vs,kw⟩) (PySem.W.InitBack (s.heap.objs.size+1) R)
   { s with heap:=(s.heap.push PySem.W.emptyDict).push (PySem.W.instObj C s.heap.objs.size) }) :
  codeAny (model prog w) A (.call (.ref C) ⟨vs,kw⟩) R s:=by
 obtain⟨hh,g,d,t,os⟩:=s;exact PySem.W.make_core (PySem.W.makes_of X hm) (PySem.W.looks_findIn X hi) (fun self=>PySem.W.bind_fn X self hf) (.inl rfl) h
end
noncomputable def zG (f:Str)(v:V):List (Str×V)→List (Str×V)
 | []=>[(f,v)]
 | (g,x)::r=>if g=f then(g,v)::r else(g,x)::zG f v r
theorem uN (f g:Str)(v:V):∀ fs:List (Str×V),(zG f v fs).lookup g=if g=f then some v else fs.lookup g
 | []=>by
  show List.lookup g [(f,v)]=_
  by_cases h:g=f
  ·have hb:(g==f)=true:=beq_iff_eq.mpr h;simp only[List.lookup,hb,if_pos h]
  ·have hb:(g==f)=false:=beq_eq_false_iff_ne.mpr h;simp only[List.lookup,hb,if_neg h]
 | (k,x)::r=>by
  have ih:=uN f g v r;rw[show zG f v ((k,x)::r)=(if k=f then(k,v)::r else(k,x)::zG f v r) from rfl]
  by_cases hk:k=f
  ·rw[if_pos hk]
   by_cases h:g=k
   ·have hb:(g==k)=true:=beq_iff_eq.mpr h;simp only[List.lookup,hb,if_pos (h.trans hk)]
   ·have hb:(g==k)=false:=beq_eq_false_iff_ne.mpr h;simp only[List.lookup,hb,if_neg (fun e:g=f=>h (e.trans hk.symm))]
  ·rw[if_neg hk]
   by_cases h:g=k
   ·have hb:(g==k)=true:=beq_iff_eq.mpr h;simp only[List.lookup,hb,if_neg (fun e:g=f=>hk (h.symm.trans e))]
   ·have hb:(g==k)=false:=beq_eq_false_iff_ne.mpr h;simp only[List.lookup,hb];exact ih
theorem uR (f:Str)(v:V):∀ fs:List (Str×V),f∈(zG f v fs).map (·.1)∧∀ g,g∈fs.map (·.1)→g∈(zG f v fs).map (·.1)
 | []=>⟨by simp[zG],fun g h=>by simp at h⟩
 | (k,x)::r=>by
  obtain⟨i1,i2⟩:=uR f v r;rw[show zG f v ((k,x)::r)=(if k=f then(k,v)::r else(k,x)::zG f v r) from rfl]
  by_cases hk:k=f
  ·rw[if_pos hk];subst hk;exact⟨by simp,fun g h=>by simpa using h⟩
  ·rw[if_neg hk];refine⟨?_,fun g h=>?_⟩
   ·rw[List.map_cons];exact List.mem_cons_of_mem _ i1
   ·rw[List.map_cons] at h ⊢;rcases List.mem_cons.mp h with e|e
    ·exact List.mem_cons.mpr (.inl e)
    ·exact List.mem_cons_of_mem _ (i2 g e)
theorem tV (f:Str)(v:V):∀ fs:List (Str×V),(zG f v fs).length≤fs.length+1
 | []=>by simp[zG]
 | (k,x)::r=>by
  have ih:=tV f v r;rw[show zG f v ((k,x)::r)=(if k=f then(k,v)::r else(k,x)::zG f v r) from rfl]
  by_cases hk:k=f
  ·rw[if_pos hk,List.length_cons,List.length_cons]; omega
  ·rw[if_neg hk,List.length_cons,List.length_cons]; omega
theorem RelO.some_of {v:V}{o:Option Value}(r:RelO (some v) o):∃ u,o=some u∧RelV v u:=by
 cases o with
 | none=>exact(show False from r).elim
 | some u=>exact⟨u,rfl,r⟩
theorem RelO.none_of {o:Option Value}(r:RelO none o):o=none:=by
 cases o with
 | none=>rfl
 | some u=>exact(show False from r).elim
theorem a79 {v:V}{u:Value}(r:RelV v u):PySem.W.handedIn u=true:=by
 cases v with
 | non=>cases(show u=Value.none from r); rfl
 | bl b=>cases(show u=Value.bool b from r); rfl
 | int i=>obtain⟨t,e⟩:=(show ∃ t,u=Value.int i t from r); cases e; rfl
 | str x=>obtain⟨t,e⟩:=(show ∃ t,u=Value.str x t from r); cases e; rfl
 | byt b=>obtain⟨t,e⟩:=(show ∃ t,u=Value.bytes b t from r); cases e; rfl
 | flt b=>obtain⟨t,e⟩:=(show ∃ t,u=Value.float b t from r); cases e; rfl
 | ref a=>cases(show u=Value.ref a from r); rfl
 | ty n=>cases(show u=Value.type n from r); rfl
section
variable {P:Program}{w:World}{H H':Hp}{h h':Heap}{a C dx:Addr}{fs fs':List (Str×V)}
theorem yI (hok:HOk P w H h)(e:H a=some (.ins C dx fs)):∃ mA,ObjM h a dx C mA∧(∀ f,RelO (fs.lookup f) (mA f))∧PySem.Within mA (fs.map (·.1))∧fs.length≤1000∧H dx=some (.own a):=by
 obtain⟨d,z,ne,ob,mA,n,r,q⟩:=(show ObjOk P w H h a (.ins C dx fs) from hok a _ e);exact⟨mA,⟨ob,n,ne⟩,r,q,z,d⟩
end
structure Cls (K:PySem.W.Frag)(C:Addr):Prop where
 pg:PySem.W.plainGet K C Str.empty=true
 hd:PySem.W.hasDictIn K C=true
 po:PySem.W.plainOver K C=true
 sa:PySem.W.findIn K (.ref C) "__setattr__" = some (some (.builtin "object.__setattr__"))
theorem Cls.get {K:PySem.W.Frag}{C:Addr}(c:Cls K C)(f:Str):PySem.W.plainGet K C f=true:=c.pg
noncomputable def NoAttr (K:PySem.W.Frag)(C:Addr)(f:Str):Prop:=PySem.W.findIn K (.ref C) f=some none
theorem NoAttr.taker {K:PySem.W.Frag}{C:Addr}{f:Str}(n:NoAttr K C f):PySem.W.takerIn K C f=some none:=by
 unfold PySem.W.takerIn;rw[show PySem.W.findIn K (.ref C) f=some none from n];rfl
structure Meth (K:PySem.W.Frag)(C:Addr)(m:Str)(f:Addr):Prop where
 at_:PySem.W.findIn K (.ref C) m=some (some (.ref f))
 fn:PySem.W.isFn K (.ref f)=true
 kp:PySem.W.keepIn K (.ref f)=true
section
variable {X:Cx}{pins:List (Addr×Obj)}{σ:St}{H:Hp}{s:Shared}{a C dx:Addr}{fs:List (Str×V)}{f:Str}{v:V}{A:Around}{E:Value→Shared→Prop}
theorem wL {b:Bool}{Q:Value→Shared→Prop}(I:Inv X pins σ H s)(e:H a=some (.ins C dx fs))(c:Cls X.K C)(n:NoAttr X.K C f)(l:fs.lookup f=some v)
  (h:∀ u s',Inv X pins σ H s'→RelV v u→Q u s'):wpAny (model X.prog X.w) A (getAttr (.ref a) f b) Q E s:=by
 obtain⟨mA,O,r,_,_,_⟩:=yI I.hok e;obtain⟨u,hu,ru⟩:=RelO.some_of (v:=v) (o:=mA f) (by rw[← l]; exact r f);exact aEA I.kIn O (c.get f) c.hd n hu (a79 ru) (h u _ (I.tok _) ru)
theorem vZ {m:Str}{g:Addr}{pl:Sem Bool}{Q:Value×List Value→Shared→Prop}(I:Inv X pins σ H s)(e:H a=some (.ins C dx fs))(c:Cls X.K C)(k:Meth X.K C m g)(l:fs.lookup m=none)
  (h:Q (.ref g,[.ref a]) s):wpAny (model X.prog X.w) A (getMethod (.ref a) m pl) Q E s:=by
 obtain⟨mA,O,r,_,_,_⟩:=yI I.hok e;have hn:mA m=none:=RelO.none_of (by rw[← l]; exact r m);exact a9Q I.kIn O (c.get m) k.at_ k.fn hn h
theorem wB {y:V}{u:Value}{Q:Unit→Shared→Prop}(I:Inv X pins σ H s)(e:H a=some (.ins C dx fs))(c:Cls X.K C)(n:NoAttr X.K C f)(hl:fs.length<1000)(ry:RelV y u)
  (h:∀ s',Inv X pins σ (upd H a (.ins C dx (zG f y fs))) s'→Q () s'):wpAny (model X.prog X.w) A (setAttr (.ref a) f u) Q E s:=by
 obtain⟨mA,O,r,wi,_,ho⟩:=yI I.hok e;have hz:(fs.map (·.1)).length≤sizeLine:=by rw[List.length_map,sizeLine_eq]; omega
 refine aCI I.kIn O c.sa c.po n.taker c.hd wi hz fun h' O' sb=>h _ ?_;have hd:∃ o,h'.get? dx=some o:=let ⟨o,_,_,e',_⟩:=O'.ns; ⟨o,e'⟩;refine I.write (x:=a) (e:=dx) (by rw[e]; exact True.intro) (.inr ho) (fun b q hb z=>(sb.2 b hb).trans z) hd ?_;refine⟨by rw[aZ O.ne]; exact ho,?_,O.ne,O'.obj,_,O'.ns,fun g=>?_,fun g hg=>?_⟩
 ·have:=tV f y fs; omega
 ·show RelO ((zG f y fs).lookup g) (if g=f then some u else mA g);rw[uN]
  by_cases q:g=f
  ·rw[if_pos q,if_pos q]; exact ry
  ·rw[if_neg q,if_neg q]; exact r g
 ·by_cases q:g=f
  ·rw[q]; exact(uR f y fs).1
  ·refine(uR f y fs).2 g (wi g fun z=>hg ?_)
   show(if g=f then some u else mA g)=none
   rw[if_neg q]; exact z
theorem Inv.made (I:Inv X pins σ H s):Inv X pins σ (upd (upd H s.heap.objs.size (.own (s.heap.objs.size+1))) (s.heap.objs.size+1) (.ins C s.heap.objs.size []))
  { s with heap:=(s.heap.push PySem.W.emptyDict).push (PySem.W.instObj C s.heap.objs.size) }:=by
 have e1:(s.heap.push PySem.W.emptyDict).get? s.heap.objs.size=some PySem.W.emptyDict:=Heap.get?_push_size s.heap rfl;have e2:((s.heap.push PySem.W.emptyDict).push (PySem.W.instObj C s.heap.objs.size)).get? (s.heap.objs.size+1)=some (PySem.W.instObj C s.heap.objs.size):=by
  have:=Heap.get?_push_size (s.heap.push PySem.W.emptyDict) (o:=PySem.W.instObj C s.heap.objs.size) rfl;rwa[Heap.size_push] at this
 have e3:(s.heap.push PySem.W.emptyDict).Ns s.heap.objs.size (fun _=>none):=⟨PySem.W.emptyDict,#[],_,e1,rfl,(fun e he=>absurd he (by simp)),fun _=>rfl⟩;have I1:=I.laid (a:=s.heap.objs.size) (o:=.own (s.heap.objs.size+1)) (h':=s.heap.push PySem.W.emptyDict) (t':=s.toks) (fun b u q=>Heap.get?_push_of_some _ q) (Nat.le_refl _) ⟨_,e1⟩;refine I1.laid (a:=s.heap.objs.size+1) (o:=.ins C s.heap.objs.size []) (t':=s.toks) (fun b u q=>Heap.get?_push_of_some _ q) (Nat.le_of_eq (Heap.size_push _ _)) ?_;have ne:s.heap.objs.size≠s.heap.objs.size+1:=Nat.ne_of_lt (Nat.lt_succ_self _);refine⟨by rw[aZ ne,bA],Nat.zero_le _,ne,e2,fun _=>none,(Heap.Ns1.of_empty e3).at fun o q=>Heap.get?_push_of_some _ q,fun _=>True.intro,fun y hy=>absurd rfl hy⟩
theorem aCW {prog:Program}{w:World}{env:Env}{e:Expr}{f:Str}{pos:Pos}{s:Shared}{Q:Value→Shared→Prop}(hb:attributeBase e f env (eval e env)=eval e env)
  (h:wpAny (model prog w) A (eval e env) (fun o s₁=>wpAny (model prog w) A (getAttr o f true) Q E s₁) E s):wpAny (model prog w) A (eval (.Attribute e f pos) env) Q E s:=
 Attribute_any_ h (by rw[arm_eval_Attribute,hb])
end
noncomputable def aC2 (K:PySem.W.Frag)(ta:TE)(f:Str):TE:=fun σ H Q=>ta σ H fun x H1=>∃ a C dx fs v,x=.ref a∧H1 a=some (.ins C dx fs)∧Cls K C∧NoAttr K C f∧fs.lookup f=some v∧Q v H1
noncomputable def aLO (K:PySem.W.Frag)(ta tv:TE)(f:Str):TS:=fun D σ H=>tv σ H fun y H1=>ta σ H1 fun x H2=>∃ a C dx fs,x=.ref a∧H2 a=some (.ins C dx fs)∧Cls K C∧NoAttr K C f∧fs.length<1000 ∧
 D.nx σ (upd H2 a (.ins C dx (zG f y fs)))
noncomputable def aLQ (X:Cx)(op:Operator)(rd:V→V→Hp→VK→Prop):Prop:=
 ∀(pins:List (Addr×Obj)) (s:Shared) (σ:St) (H:Hp) (x y:V) (u v:Value) (Q:VK),Inv X pins σ H s→RelV x u→RelV y v→rd x y H Q→wpAny (model X.prog X.w) X.A (inplaceOp op u v) (EP X pins σ Q) X.xe s
noncomputable def a7H (K:PySem.W.Frag)(ta tv:TE)(rd:V→V→Hp→VK→Prop)(f:Str):TS:=fun D σ H=>ta σ H fun x H1=>∃ a C dx fs v,x=.ref a∧H1 a=some (.ins C dx fs)∧Cls K C∧NoAttr K C f∧fs.lookup f=some v ∧
 tv σ H1 fun y H2=>rd v y H2 fun z H3=>∃ dx' fs',H3 a=some (.ins C dx' fs')∧fs'.length<1000∧D.nx σ (upd H3 a (.ins C dx' (zG f z fs')))
section
variable {X:Cx}{o e value:Expr}{f:Str}{pos pos' tpos:Pos}{ta tv:TE}
theorem qG (he:PE X e ta)(hb:attributeBase e f X.env (eval e X.env)=eval e X.env):PE X (.Attribute e f pos) (aC2 X.K ta f):=by
 intro pins s σ H Q I h;refine aCW hb (thn (he pins s σ H _ I h) fun u s1 ⟨x,H1,I1,rx,a,C,dx,fs,v,ex,ea,c,n,l,q⟩=>?_);subst ex;obtain rfl:u=Value.ref a:=rx;exact wL I1 ea c n l fun u' s2 I2 ru=>⟨v,H1,I2,ru,q⟩
theorem a3H (ha:PE X o ta)(hv:PE X value tv)(hs:swapsWith value (some (.Attribute o f pos')) pos.line X.env=pure false):PS X (.Assign [.Attribute o f pos'] value pos) (aLO X.K ta tv f):=by
 intro pins s σ H D I h;refine plainObj_wpAny_Assign_Attribute (thn (hv pins s σ H _ I h) fun u s1 ⟨y,H1,I1,ry,q⟩=>thn (ha pins s1 σ H1 _ I1 q) fun ov s2 ⟨x,H2,I2,rx,a,C,dx,fs,ex,ea,c,n,l,q2⟩=>?_) hs;subst ex;obtain rfl:ov=Value.ref a:=rx;exact wB I2 ea c n l ry fun s3 I3=>⟨σ,_,I3,q2⟩
theorem a9C {op:Operator}{rd:V→V→Hp→VK→Prop}(ha:PE X o ta)(hv:PE X value tv)(hop:aLQ X op rd):PS X (.AugAssign (.Attribute o f tpos) op value pos) (a7H X.K ta tv rd f):=by
 intro pins s σ H D I h;refine wpAny_AugAssign_AttributeAny (thn (ha pins s σ H _ I h) fun ov s1 ⟨x,H1,I1,rx,a,C,dx,fs,v,ex,ea,c,n,l,q⟩=>?_);subst ex;obtain rfl:ov=Value.ref a:=rx;refine wL I1 ea c n l fun u s2 I2 ru=>thn (hv pins s2 σ H1 _ I2 q) fun w3 s3 ⟨y,H2,I3,ry,q3⟩=>thn (hop pins s3 σ H2 v y u w3 _ I3 ru ry q3) fun w4 s4 ⟨z,H3,I4,rz,dx',fs',ea',l',q4⟩=>?_;exact wB I4 ea' c n l' rz fun s5 I5=>⟨σ,_,I5,q4⟩
noncomputable def aM0:V→V→Hp→VK→Prop:=fun x y H Q=>∃ i j,x=.int i∧y=.int j∧Q (.int (i+j)) H
theorem aH8:aLQ X .Add aM0:=by
 rintro pins s σ H x y u v Q I rx ry ⟨i,j,rfl,rfl,q⟩;obtain⟨t,rfl⟩:=(show ∃ t,u=Value.int i t from rx);obtain⟨t',rfl⟩:=(show ∃ t',v=Value.int j t' from ry);exact PyProof.Rows.iadd_int ⟨.int (i+j),H,I.tok _,⟨_,rfl⟩,q⟩
theorem aD5 {pl:Sem Bool}{m:Str}{apos:Pos}{args:List Expr}{pins:List (Addr×Obj)}{s:Shared}{σ:St}{H:Hp}{Q:Value→Shared→Prop}{te:TE}(he:PE X e te)(I:Inv X pins σ H s)
  (h:te σ H fun x H1=>∃ a C dx fs g,x=.ref a∧H1 a=some (.ins C dx fs)∧Cls X.K C∧Meth X.K C m g∧fs.lookup m=none ∧
   ∀ s1,Inv X pins σ H1 s1→wpAny (model X.prog X.w) X.A (callWith pos (.ref g) [.ref a] (backTo pos (starEach args X.env)) (backToKw pos (keywordEach [] X.env))) Q X.xe s1)
  (ht:eval (.Call (.Attribute e m apos) args [] pos) X.env=(do
   let ov←eval e X.env
   standAt apos.atName
   let (f,first)←holding [ov] (getMethod ov m pl)
   callWith pos f first (backTo pos (starEach args X.env)) (backToKw pos (keywordEach [] X.env)))) :
  wpAny (model X.prog X.w) X.A (eval (.Call (.Attribute e m apos) args [] pos) X.env) Q X.xe s:=by
 refine PySem.W.methodCall_KW (pl:=pl) (thn (he pins s σ H _ I h) fun u s1 ⟨x,H1,I1,rx,a,C,dx,fs,g,ex,ea,c,k,l,q⟩=>?_) ht;subst ex;obtain rfl:u=Value.ref a:=rx;exact vZ I1 ea c k l (q s1 I1)
end
section
variable {X:Cx}{pins:List (Addr×Obj)}{σ:St}{H:Hp}{s:Shared}{A:Around}{E:Value→Shared→Prop}{Q:Value→Shared→Prop}{c:Value}{b:Bool}
inductive TyOf (K:PySem.W.Frag) (H:Hp):V→Value→Prop where
 | non:TyOf K H .non (.type "NoneType")
 | bl (x:Bool):TyOf K H (.bl x) (.type "bool")
 | int (i:Int):TyOf K H (.int i) (.type "int")
 | str (x:Str):TyOf K H (.str x) (.type "str")
 | flt (x:UInt64):TyOf K H (.flt x) (.type "float")
 | lst {a:Addr} {xs:List V} (e:H a=some (.lst xs)):TyOf K H (.ref a) (.type "list")
 | frz {a:Addr} {o:Obj} {xs:List V} (e:H a=some (.frz o (.lst xs))):TyOf K H (.ref a) (.type "list")
 | tup {a:Addr} {xs:List V} (e:H a=some (.tup xs)):TyOf K H (.ref a) (.type "tuple")
 | dK {a:Addr} {kvs:List (Key×V)} (e:H a=some (.dK kvs)):TyOf K H (.ref a) (.type "dict")
 | fdK {a:Addr} {o:Obj} {kvs:List (Key×V)} (e:H a=some (.frz o (.dK kvs))):TyOf K H (.ref a) (.type "dict")
 | dT {a:Addr} {kvs:List (List Key×V)} (e:H a=some (.dT kvs)):TyOf K H (.ref a) (.type "dict")
 | ins {a C dx:Addr} {fs:List (Str×V)} (e:H a=some (.ins C dx fs)) (cl:Cls K C) (ha:PySem.W.findIn K (.ref C) "__class__" = some (some (.builtin "object.__class__")))
   (hn:PySem.W.specialIn K (.builtin "object.__class__") "__get__" = some (some (.builtin "getset_descriptor.__get__"))) (htk:PySem.W.takesIn K (.builtin "object.__class__")=some true)
   (hm:PySem.W.mroIn K C (.type "object")=some true):TyOf K H (.ref a) (.ref C)
theorem a9E {x:V}{u t:Value}(I:Inv X pins σ H s)(rx:RelV x u)(ty:TyOf X.K H x t)(e:PySem.W.kitOne X.K t c=some b)(h:∀ tk,Q (.bool b) { s with toks:=tk }) :
  wpAny (model X.prog X.w) A (call (.builtin "isinstance") [u,c]) Q E s:=by
 cases ty with
 | non=>cases(show u=Value.none from rx); exact PySem.W.kia_one PySem.W.kitx_none I.kIn True.intro e (fun z=>nomatch z) h
 | bl y=>cases(show u=Value.bool y from rx); exact PySem.W.kia_one PySem.W.kitx_bool I.kIn True.intro e (fun z=>nomatch z) h
 | int i=>obtain⟨t,q⟩:=(show ∃ t,u=Value.int i t from rx); cases q; exact PySem.W.kia_one PySem.W.kitx_int I.kIn True.intro e (fun z=>nomatch z) h
 | str y=>obtain⟨t,q⟩:=(show ∃ t,u=Value.str y t from rx); cases q; exact PySem.W.kia_one PySem.W.kitx_str I.kIn True.intro e (fun z=>nomatch z) h
 | flt y=>obtain⟨t,q⟩:=(show ∃ t,u=Value.float y t from rx); cases q; exact PySem.W.kia_one PySem.W.kitx_float I.kIn True.intro e (fun z=>nomatch z) h
 | @lst a xs ea=>
  cases(show u=Value.ref a from rx)
  obtain⟨_,_,n,_,h1⟩:=(show ObjOk X.prog X.w H s.heap a (.lst xs) from I.hok a _ ea);exact PySem.W.kia_one PySem.W.kitx_list I.kIn ⟨_,h1,rfl⟩ e (fun z=>nomatch z) h
 | @frz a ob xs ea=>
  cases(show u=Value.ref a from rx)
  obtain⟨_,_,_,n,_,h1⟩:=(show ObjOk X.prog X.w H s.heap a (.frz ob (.lst xs)) from I.hok a _ ea);exact PySem.W.kia_one PySem.W.kitx_list I.kIn ⟨_,h1,rfl⟩ e (fun z=>nomatch z) h
 | @tup a xs ea=>
  cases(show u=Value.ref a from rx)
  obtain⟨_,_,_,p⟩:=(show ObjOk X.prog X.w H s.heap a (.tup xs) from I.hok a _ ea);obtain⟨o,h1,h2,_⟩:=p;exact PySem.W.kia_one PySem.W.kitx_tuple I.kIn ⟨o,h1,h2⟩ e (fun z=>nomatch z) h
 | @dK a kvs ea=>
  cases(show u=Value.ref a from rx)
  obtain⟨_,_,vs,_,p⟩:=(show ObjOk X.prog X.w H s.heap a (.dK kvs) from I.hok a _ ea);obtain⟨o,es,ep,h1,h2,_⟩:=p;exact PySem.W.kia_one PySem.W.kitx_dict I.kIn ⟨o,h1,h2.1⟩ e (fun z=>nomatch z) h
 | @fdK a ob kvs ea=>
  cases(show u=Value.ref a from rx)
  obtain⟨_,_,_,vs,_,p⟩:=(show ObjOk X.prog X.w H s.heap a (.frz ob (.dK kvs)) from I.hok a _ ea);obtain⟨o,es,ep,h1,h2,_⟩:=p;exact PySem.W.kia_one PySem.W.kitx_dict I.kIn ⟨o,h1,h2.1⟩ e (fun z=>nomatch z) h
 | @dT a kvs ea=>
  cases(show u=Value.ref a from rx)
  obtain⟨_,_,xs,_,o,es,ep,h1,h2,_⟩:=(show ObjOk X.prog X.w H s.heap a (.dT kvs) from I.hok a _ ea);exact PySem.W.kia_one PySem.W.kitx_dict I.kIn ⟨o,h1,h2.1⟩ e (fun z=>nomatch z) h
 | @ins a C dx fs ea cl ha hn htk hm=>
  cases(show u=Value.ref a from rx)
  obtain⟨mA,O,_⟩:=yI I.hok ea;obtain⟨od,J,_⟩:=O.look;exact PySem.W.kia_one (PySem.W.kitx_own (cl.get _) cl.hd ha hn htk hm) I.kIn J e (fun z=>nomatch z) h
end
end L2
namespace L2
open PySem PySem.Spec PyProof.Rows
structure Room (k:Nat)(A:Around):Prop where
 hd:A.handled=none
 dp:A.depth+3*k+5<recursionLimit
 un:A.units+16*k+200<cLine
theorem Room.mono {j k:Nat}{A:Around}(r:Room k A)(h:j≤k):Room j A:=⟨r.hd,by have:=r.dp; omega,by have:=r.un; omega⟩
theorem Room.deeper {k:Nat}{A:Around}(r:Room (k+1) A)(env:Env):Room k (A.deeper env):=
 ⟨r.hd,by have:=r.dp; show A.depth+1+3*k+5<_; omega,by have:=r.un; show A.units+3+16*k+200<_; omega⟩
theorem a5D {A:Around}{C:Addr}{us:List Value}{kw:List (Str×Value)}:(A.under (.builtin "type.__call__" ⟨.ref C::us,kw⟩)).depth=A.depth+1:=by
 first|rfl|simp[Around.under,Code.weight,Code.isCreation,Code.isGuard,Code.isCaller,Code.frames,Code.isFrame,guardIds]
theorem a5V {A:Around}{C:Addr}{us:List Value}{kw:List (Str×Value)}:(A.under (.builtin "type.__call__" ⟨.ref C::us,kw⟩)).units=A.units+1:=by
 first|rfl|simp[Around.under,Code.cUnits,Code.frames,Code.isFrame]
theorem Room.make {k:Nat}{A:Around}(r:Room (k+1) A)(C:Addr)(us:List Value)(kw:List (Str×Value)):Room k (A.under (.builtin "type.__call__" ⟨.ref C::us,kw⟩)):=
 ⟨r.hd,by have:=r.dp; rw[a5D]; omega,by have:=r.un; rw[a5V]; omega⟩
theorem Room.depth {k:Nat}{A:Around}(r:Room k A):A.depth<recursionLimit:=by have:=r.dp; omega
theorem Room.units {k:Nat}{A:Around}(r:Room k A):A.units+64<cLine:=by have:=r.un; omega
noncomputable def pW:TA:=fun _ H Q=>Q [] H
noncomputable def dN (ta:TE)(tr:TA):TA:=fun σ H Q=>ta σ H fun x H1=>tr σ H1 fun xs H2=>Q (x::xs) H2
section
variable {X:Cx}{e:Expr}{es:List Expr}{te:TE}{t:TA}{pos:Pos}
theorem aC:PA X [] pW:=fun _ _ _ _ H Q I h=>Calls.spliced_nil ⟨[],H,I,.nil,h⟩
theorem aA (ha:PE X e te)(hr:PA X es t)(hs:starEach (e::es) X.env=(false,eval e X.env)::starEach es X.env:=by rfl):PA X (e::es) (dN te t):=by
 intro pos pins s σ H Q I h;rw[hs];show wpAny _ _ (spliced ((false,eval e X.env)::backTo pos (starEach es X.env))) _ _ s;refine Calls.spliced_cons (thn (ha pins s σ H _ I h) fun u s1 ⟨x,H1,I1,r1,q1⟩=>?_);exact thn (hr pos pins s1 σ H1 _ I1 q1) fun us s2 ⟨xs,H2,I2,r2,q2⟩=>⟨x::xs,H2,I2,.cons r1 r2,q2⟩
noncomputable def aIH (t:TA):TE:=fun σ H Q=>t σ H fun xs H1=>xs.length≤sizeLine∧∀ p,H1 p=none→Q (.ref p) (upd H1 p (.tup xs))
noncomputable def aJE (t:TA):TE:=fun σ H Q=>t σ H fun xs H1=>xs.length≤sizeLine∧∀ p,H1 p=none→Q (.ref p) (upd H1 p (.lst xs))
theorem fV {x1}(h:PA X es t):PE X (.Tuple es x1 pos) (aIH t):=by
 intro pins s σ H Q I hq;refine wpAny_Tuple_spliced (thn (h pos pins s σ H _ I hq) fun us s1 ⟨xs,H1,I1,r,z,q⟩=>⟨by rw[← r.length]; exact z,?_⟩);have hf:H1 s1.heap.objs.size=none:=I1.hok.fresh (Nat.le_refl _);refine⟨.ref s1.heap.objs.size,upd H1 s1.heap.objs.size (.tup xs),I1.laid (t':=s1.toks) (fun b u e=>Heap.get?_push_of_some _ e) (Nat.le_refl _) ?_,rfl,q _ hf⟩;exact⟨z,us,r,⟨_,Heap.get?_push_size _ rfl,rfl,_,rfl⟩⟩
theorem j6 (h:PA X es t):PE X (.List es pos) (aJE t):=by
 intro pins s σ H Q I hq;refine wpAny_List_spliced (thn (h pos pins s σ H _ I hq) fun us s1 ⟨xs,H1,I1,r,z,q⟩=>⟨by rw[← r.length]; exact z,?_⟩);have hf:H1 s1.heap.objs.size=none:=I1.hok.fresh (Nat.le_refl _);refine⟨.ref s1.heap.objs.size,upd H1 s1.heap.objs.size (.lst xs),I1.laid (t':=s1.toks) (fun b u e=>Heap.get?_push_of_some _ e) (Nat.le_refl _) ?_,rfl,q _ hf⟩;exact⟨z,us,0,r,Heap.get?_push_size _ rfl⟩
end
abbrev Sp:=List V→Hp→VK→XK→Prop
abbrev CXT:=List Env→Hp→Shared→XK→Value→Shared→Prop
structure Env0 (P:Program)(w:World)(K:PySem.W.Frag)(mg:Str→Option Value)(base:Heap)(A:Around)(outer:List Env)(s:Shared)(H:Hp):Prop where
 frames:A.frames=some outer
 mod:Mod K mg base
 bs:∀ b o,base.get? b=some o→s.heap.get? b=some o∧H b=none
 bsz:base.objs.size≤s.heap.objs.size
 funs:s.heap.FunFrames base outer
 frf:∀ b∈frs outer,H b=none
 hok:HOk P w H s.heap
 bare:AllBare s.gens
noncomputable def CE (outer:List Env)(P:Program)(w:World)(H:Hp)(s:Shared)(Q:VK)(u:Value)(s':Shared):Prop:=
 ∃ v H',s'.os=s.os∧AllBare s'.gens∧Un (frs outer) [] H H' s.heap s'.heap∧HOk P w H' s'.heap∧RelV v u∧Q v H'
noncomputable def CR (CX:CXT)(outer:List Env)(P:Program)(w:World)(H:Hp)(s:Shared)(Q:VK)(E:XK)(r:Result)(s':Shared):Prop:=
 match r with
 | .ok (.ret u)=>CE outer P w H s Q u s'
 | .ok _=>False
 | .error e=>CX outer H s E e s'
structure FnOk (P:Program)(w:World)(K:PySem.W.Frag)(mg:Str→Option Value)(base:Heap)(CX:CXT)(k:Nat)(f:Addr)(fd:FuncData)(ps:List Str)(sp:Sp):Prop where
 len:∀ vs H Q E,sp vs H Q E→vs.length=ps.length
 run:∀(A:Around) (outer:List Env) (s:Shared) (H:Hp) (args:Args) (us:List Value) (vs:List V) (Q:VK) (E:XK),Room k A→Env0 P w K mg base A outer s H→BindsTo s fd args (ps.zip us)→Vals vs us→sp vs H Q E →
  codeAny (model P w) A (.call (.ref f) args) (CR CX outer P w H s Q E) s
theorem FnOk.imp {P:Program}{w:World}{K:PySem.W.Frag}{mg:Str→Option Value}{base:Heap}{CX:CXT}{k:Nat}{f:Addr}{fd:FuncData}{ps:List Str}{sp sp':Sp}(F:FnOk P w K mg base CX k f fd ps sp)
  (h:∀ vs H Q E,sp' vs H Q E→sp vs H Q E):FnOk P w K mg base CX k f fd ps sp':=
 ⟨fun vs H Q E q=>F.len vs H Q E (h _ _ _ _ q),fun A outer s H args us vs Q E hr he hb hv hs=>F.run A outer s H args us vs Q E hr he hb hv (h _ _ _ _ hs)⟩
theorem Env0.make {P:Program}{w:World}{K:PySem.W.Frag}{mg:Str→Option Value}{base:Heap}{A:Around}{outer:List Env}{s:Shared}{H:Hp}(e:Env0 P w K mg base A outer s H)(C:Addr)(us:List Value)(kw:List (Str×Value)) :
  Env0 P w K mg base (A.under (.builtin "type.__call__" ⟨.ref C::us,kw⟩)) outer s H:=⟨by first|exact e.frames|(simpa [Around.under,Code.envs,Code.isFrame,pushEnvs] using e.frames),e.mod,e.bs,e.bsz,e.funs,e.frf,e.hok,e.bare⟩
section
variable {X:Cx}{pins:List (Addr×Obj)}{σ:St}{H:Hp}{s s':Shared}
theorem Inv.env0 (I:Inv X pins σ H s):Env0 X.prog X.w X.K X.mg X.base X.A X.stack s H:=
 ⟨I.ok.frames,I.ok.mod,I.bs,Nat.le_trans I.ok.bsz I.sz,I.stack,I.stkFree,I.hok,I.bare⟩
theorem Inv.after {Q:VK}{u:Value}(I:Inv X pins σ H s)(h:CE X.stack X.prog X.w H s Q u s'):EP X pins σ Q u s':=by
 obtain⟨v,H',os,bare,un,hok,r,q⟩:=h;obtain⟨hh,g,d,t,os'⟩:=s';obtain rfl:os'=s.os:=os;exact⟨v,H',I.call (h':=hh) (g':=g) (d':=d) (t':=t) (ch:=[]) un hok bare (fun b z=>absurd z (by simp)),r,q⟩
end
noncomputable def aE7 (sp:Sp)(dvs:List V)(E:XK)(t:TA):TE:=fun σ H Q=>t σ H fun vs H1=>sp (vs++dvs) H1 Q E
noncomputable def aHD (C:Addr)(m:Str)(sp:Sp)(dvs:List V)(E:XK)(ta:TE)(t:TA):TE:=fun σ H Q=>ta σ H fun x H1=>∃ a dx fs,x=.ref a∧H1 a=some (.ins C dx fs)∧fs.lookup m=none ∧
 t σ H1 fun vs H2=>sp (x::(vs++dvs)) H2 Q E
noncomputable def aHB (C:Addr)(sp:Sp)(dvs:List V)(E:XK)(t:TA):TE:=fun σ H Q=>t σ H fun vs H1=>∀ x dx,H1 x=none→H1 dx=none→dx≠x →
 sp (.ref x::(vs++dvs)) (upd (upd H1 dx (.own x)) x (.ins C dx [])) (fun v H2=>v=.non∧Q (.ref x) H2) E
noncomputable def Binds (K:PySem.W.Frag)(fd:FuncData)(ps:List Str)(ds:List Value):Prop:=
 ∀(s:Shared) (us:List Value),K.In s.heap→(us++ds).length=ps.length→BindsTo s fd ⟨us,[]⟩ (ps.zip (us++ds))
theorem Binds.all {K:PySem.W.Frag}{fd:FuncData}{ps:List Str}(h:∀ us:List Value,us.length=ps.length→bindArgs fd ⟨us,[]⟩=pure (ps.zip us)):Binds K fd ps []:=fun s us _ hl=>by
 rw[List.append_nil] at hl ⊢;exact .of_eq (h us hl)
noncomputable def wN (CX:CXT)(X:Cx)(E:XK):Prop:=∀(pins:List (Addr×Obj)) (σ:St) (H:Hp) (s:Shared) (e:Value) (s':Shared),Inv X pins σ H s→CX X.stack H s E e s'→X.xe e s'
section
variable {X:Cx}{CX:CXT}{k:Nat}{f C:Addr}{fd:FuncData}{ps:List Str}{sp:Sp}{dvs:List V}{ds:List Value}{E:XK}{x m:Str}{p pos apos:Pos}{e o:Expr}{es:List Expr}{ta:TE}{t:TA}
theorem aBJ {pins:List (Addr×Obj)}{σ:St}{H:Hp}{s:Shared}{Q:VK}{us:List Value}{vs:List V}(F:FnOk X.prog X.w X.K X.mg X.base CX k f fd ps sp)(hr:Room k X.A)(hb:Binds X.K fd ps ds)(hd:Vals dvs ds)(hx:wN CX X E)
  (I:Inv X pins σ H s) (r:Vals vs us) (h:sp (vs++dvs) H Q E):wpAny (model X.prog X.w) X.A (call (.ref f) us) (EP X pins σ Q) X.xe s:=by
 have r2:Vals (vs++dvs) (us++ds):=r.append hd;have hl:(us++ds).length=ps.length:=by rw[← r2.length]; exact F.len _ _ _ _ h
 refine wpAny_call (codeAny_mono (F.run X.A X.stack s H ⟨us,[]⟩ (us++ds) (vs++dvs) Q E hr I.env0 (hb s us I.kIn hl) r2 h) fun r s' hq=>?_)
 cases r with
 | error e=>exact hx pins σ H s e s' I hq
 | ok fl=>
  cases fl with
  | ret u=>exact I.after hq
  | next=>exact False.elim hq
  | brk=>exact False.elim hq
  | cont=>exact False.elim hq
theorem aE2 (F:FnOk X.prog X.w X.K X.mg X.base CX k f fd ps sp)(hr:Room k X.A)(hg:Gl X x)(hm:X.mg x=some (.ref f))(hk:PySem.W.keepIn X.K (.ref f)=true)(hb:Binds X.K fd ps ds)(hd:Vals dvs ds)(hx:wN CX X E)
  (ha:PA X (e::es) t) (hdb:(x==("__debug__" : Str))=false:=by decide) (he:starEach (e::es) X.env=(false,eval e X.env)::starEach es X.env:=by rfl) (hpl:(backTo pos (starEach es X.env)).any (·.1)=false:=by rfl) :
  PE X (.Call (.Name x p) (e::es) [] pos) (aE7 sp dvs E t):=by
 intro pins s σ H Q I h;refine wpAny_Call_Name_kw (a0V I hg hm ?_ hdb);refine PySem.W.callWith_K (h₀:=X.base) I.ok.mod.kin hk (thn (ha pos pins s σ H _ I h) fun us s1 ⟨vs,H1,I1,r,q⟩=>⟨I1.kIn,?_⟩) he hpl;exact aBJ F hr hb hd hx I1 r q
theorem a2F {pl:Sem Bool}(he:PE X o ta)(c:Cls X.K C)(hm:Meth X.K C m f)(F:FnOk X.prog X.w X.K X.mg X.base CX k f fd ps sp)(hr:Room k X.A)(hb:Binds X.K fd ps ds)(hd:Vals dvs ds)(hx:wN CX X E)(ha:PA X (e::es) t)
  (hst:starEach (e::es) X.env=(false,eval e X.env)::starEach es X.env:=by rfl) (hpl:(backTo pos (starEach es X.env)).any (·.1)=false:=by rfl)
  (ht:eval (.Call (.Attribute o m apos) (e::es) [] pos) X.env=(do
   let ov←eval o X.env
   standAt apos.atName
   let (f,first)←holding [ov] (getMethod ov m pl)
   callWith pos f first (backTo pos (starEach (e::es) X.env)) (backToKw pos (keywordEach [] X.env))):=by rfl) :
  PE X (.Call (.Attribute o m apos) (e::es) [] pos) (aHD C m sp dvs E ta t):=by
 intro pins s σ H Q I h;refine PySem.W.methodCall_KW (pl:=pl) (thn (he pins s σ H _ I h) fun u s1 ⟨x,H1,I1,rx,a,dx,fs,ex,ea,l,q⟩=>?_) ht;subst ex;obtain rfl:u=Value.ref a:=rx;refine vZ I1 ea c hm l ?_;refine PySem.W.callWith_K (first:=[.ref a]) (h₀:=X.base) I.ok.mod.kin hm.kp (thn (ha pos pins s1 σ H1 _ I1 q) fun us s2 ⟨vs,H2,I2,r,q2⟩=>⟨I2.kIn,?_⟩) hst hpl;exact aBJ (us:=.ref a::us) (vs:=.ref a::vs) F hr hb hd hx I2 (.cons rfl r) q2
structure Mk (K:PySem.W.Frag)(C f:Addr):Prop where
 makes:PySem.W.makesIn K C=true
 init:PySem.W.findIn K (.ref C) "__init__" = some (some (.ref f))
 fn:PySem.W.isFn K (.ref f)=true
 kp:PySem.W.keepIn K (.ref C)=true
theorem aAU {pins:List (Addr×Obj)}{σ:St}{H:Hp}{s:Shared}{Q:VK}{us:List Value}{vs:List V}(M:Mk X.K C f)(F:FnOk X.prog X.w X.K X.mg X.base CX k f fd ps sp)(hr:Room (k+1) X.A)(hb:Binds X.K fd ps ds)(hd:Vals dvs ds)
  (hx:wN CX X E) (I:Inv X pins σ H s) (r:Vals vs us)
  (h:∀ x dx,H x=none→H dx=none→dx≠x→sp (.ref x::(vs++dvs)) (upd (upd H dx (.own x)) x (.ins C dx [])) (fun v H2=>v=.non∧Q (.ref x) H2) E) :
  wpAny (model X.prog X.w) X.A (call (.ref C) us) (EP X pins σ Q) X.xe s:=by
 have hq:=h (s.heap.objs.size+1) s.heap.objs.size (I.hok.fresh (Nat.le_succ _)) (I.hok.fresh (Nat.le_refl _)) (Nat.ne_of_lt (Nat.lt_succ_self _));have I2:=Inv.made (C:=C) I;have r2:Vals (V.ref (s.heap.objs.size+1)::(vs++dvs)) (Value.ref (s.heap.objs.size+1)::(us++ds)):=.cons rfl (r.append hd);have hl:(Value.ref (s.heap.objs.size+1)::us++ds).length=ps.length:=by
  have e:=r2.length;rw[F.len _ _ _ _ hq] at e;exact e.symm
 refine wpAny_call (aBB (f:=f) I.kIn M.makes M.init (beq_iff_eq.mp M.fn) (codeAny_mono (F.run _ X.stack _ _ ⟨Value.ref (s.heap.objs.size+1)::us,[]⟩ (Value.ref (s.heap.objs.size+1)::(us++ds)) _ _ E (hr.make C us [])
  (I2.env0.make C us []) (hb _ (Value.ref (s.heap.objs.size+1)::us) I2.kIn hl) r2 hq) fun r s' hq'=>?_))
 cases r with
 | error e=>exact hx pins σ _ _ e s' I2 hq'
 | ok fl=>
  cases fl with
  | ret u=>
   obtain⟨v,H',I3,rv,ev,q3⟩:=I2.after hq';subst ev;exact⟨rv,⟨V.ref (s.heap.objs.size+1),H',I3,rfl,q3⟩⟩
  | next=>exact False.elim hq'
  | brk=>exact False.elim hq'
  | cont=>exact False.elim hq'
theorem aAW (M:Mk X.K C f)(F:FnOk X.prog X.w X.K X.mg X.base CX k f fd ps sp)(hr:Room (k+1) X.A)(hg:Gl X x)(hm:X.mg x=some (.ref C))(hb:Binds X.K fd ps ds)(hd:Vals dvs ds)(hx:wN CX X E)
  (hdb:(x==("__debug__" : Str))=false:=by decide):PE X (.Call (.Name x p) [] [] pos) (aHB C sp dvs E pW):=by
 intro pins s σ H Q I h;refine wpAny_Call_Name_kw (a0V I hg hm ?_ hdb);exact PySem.W.callWith_K0 I.kIn M.kp (aAU (us:=[]) M F hr hb hd hx I .nil h)
end
section
variable {X:Cx}{CX:CXT}{k:Nat}{f C:Addr}{fd:FuncData}{ps ks:List Str}{sp:Sp}{E:XK}{x m:Str}{p pos apos kpos:Pos}{e o:Expr}{es:List Expr}{kws:List Keyword}{te ta:TE}{t tk:TA}{nm:Option Str}
variable {g:List Value→List Value→List Value}{gV:List V→List V→List V}
end
structure FnScope (N P:List Str)(sc:Scope):Prop where
 kind:sc.kind=.function
 co:sc.isCoroutine=false
 gen:sc.isGenerator=false
 nd:N.Nodup
 pre:N.take P.length=P
 par:∀ x∈P,sc.names.lookup x=some .local∨sc.names.lookup x=some .cell
 nofree:∀ y∈sc.names,y.2≠.free
theorem zQ {kindOf:Str→Option NameKind}{x:Str}:∀{binds:List (Str×Value)} {m:Str→Option Value},(∀ v,(x,v)∉binds)→bindL kindOf binds m x=m x
 | [],_,_=>rfl
 | (n,v)::r,m,h=>by
  unfold bindL;rw[zQ fun w hw=>h w (List.mem_cons_of_mem _ hw)]
  split
  ·have:x≠n:=by rintro rfl; exact h v List.mem_cons_self
   simp[this]
  ·rfl
theorem zE {kindOf:Str→Option NameKind}{x:Str}:∀{binds:List (Str×Value)} {m:Str→Option Value},(∀ v,(x,v)∉binds)→bindC kindOf binds m x=m x
 | [],_,_=>rfl
 | (n,v)::r,m,h=>by
  unfold bindC;rw[zE fun w hw=>h w (List.mem_cons_of_mem _ hw)]
  split
  ·rfl
  ·have:x≠n:=by rintro rfl; exact h v List.mem_cons_self
   simp[this]
theorem zP {kindOf:Str→Option NameKind}{x:Str}{v:Value}:∀{P:List Str} {vs:List Value} {i:Nat} {m:Str→Option Value},P.Nodup→P[i]?=some x→vs[i]?=some v→kindOf x=some .local →
  bindL kindOf (P.zip vs) m x=some v
 | [],_,_,_,_,h,_,_=>by simp at h
 | _::_,[],_,_,_,_,h,_=>by simp at h
 | p::P,w::vs,0,m,nd,h1,h2,hk=>by
  simp at h1 h2; subst h1; subst h2;show bindL kindOf ((p,w)::P.zip vs) m p=_;unfold bindL;rw[zQ fun v hv=>(List.nodup_cons.mp nd).1 (List.of_mem_zip hv).1,if_pos hk];simp
 | p::P,w::vs,i+1,m,nd,h1,h2,hk=>by
  show bindL kindOf ((p,w)::P.zip vs) m x=_;unfold bindL;exact zP (i:=i) (List.nodup_cons.mp nd).2 (by simpa using h1) (by simpa using h2) hk
theorem zL {kindOf:Str→Option NameKind}{x:Str}{v:Value}:∀{P:List Str} {vs:List Value} {i:Nat} {m:Str→Option Value},P.Nodup→P[i]?=some x→vs[i]?=some v→kindOf x≠some .local →
  bindC kindOf (P.zip vs) m x=some v
 | [],_,_,_,_,h,_,_=>by simp at h
 | _::_,[],_,_,_,_,h,_=>by simp at h
 | p::P,w::vs,0,m,nd,h1,h2,hk=>by
  simp at h1 h2; subst h1; subst h2;show bindC kindOf ((p,w)::P.zip vs) m p=_;unfold bindC;rw[zE fun v hv=>(List.nodup_cons.mp nd).1 (List.of_mem_zip hv).1,if_neg hk];simp
 | p::P,w::vs,i+1,m,nd,h1,h2,hk=>by
  show bindC kindOf ((p,w)::P.zip vs) m x=_;unfold bindC;exact zL (i:=i) (List.nodup_cons.mp nd).2 (by simpa using h1) (by simpa using h2) hk
noncomputable def start (N:List Str)(vs:List V):St:=vs.map some++List.replicate (N.length-vs.length) none
noncomputable def aBQ (CX:CXT)(P:Program)(w:World)(K:PySem.W.Frag)(mg:Str→Option Value)(base:Heap)(N:List Str)(qual:Str)(scope:Scope)(f:Addr)(cd:Value)(A:Around)(outer:List Env)(s:Shared)(H:Hp)(E:XK):Cx where
 prog:=P
 w:=w
 K:=K
 mg:=mg
 base:=base
 A:=A.deeper (envOfC qual scope s.heap.objs.size f cd)
 N:=N
 s₀:=s
 H₀:=H
 env:=envOfC qual scope s.heap.objs.size f cd
 outer:=outer
 stack:=envOfC qual scope s.heap.objs.size f cd::outer
 ex:=[]
 calm:=true
 fn:=fun _=>true
 pn:=[]
 xe:=fun e s'=>wpAny (model P w) (A.deeper (envOfC qual scope s.heap.objs.size f cd)) (leaving (envOfC qual scope s.heap.objs.size f cd) e) (fun _ s''=>CX outer H s E e s'') (fun e' s''=>CX outer H s E e' s'') s'
theorem a3A {sc:Scope}{n:Nat}{x:Str}(h:sc.names.lookup x=some .cell):∃ c,(cellsFrom n sc.names []).lookup x=some c:=by
 have q:=PySem.W.cellsFrom_some sc.names n [] (.inl h);exact Option.isSome_iff_exists.mp q
theorem a8U {CX:CXT}{P:Program}{w:World}{K:PySem.W.Frag}{mg:Str→Option Value}{base:Heap}{N ps:List Str}{qual:Str}{scope:Scope}{f:Addr}{cd:Value}{A:Around}{outer:List Env}{s s1:Shared}{H:Hp}{E:XK}{us:List Value}{vs:List V}
  (S:FnScope N ps scope) (hd:A.handled=none) (e0:Env0 P w K mg base A outer s H) (hl:vs.length=ps.length) (r:Vals vs us)
  (x:InCallC s s.heap.objs.size (bindL (envOfC qual scope s.heap.objs.size f cd).kindOf (ps.zip us) fun _=>none) (cellsFrom (s.heap.objs.size+1) scope.names []) (bindC (envOfC qual scope s.heap.objs.size f cd).kindOf (ps.zip us) fun _=>none) s1) :
  Inv (aBQ CX P w K mg base N qual scope f cd A outer s H E) [] (start N vs) H s1:=by
 have hpl:ps.length≤N.length:=by have:=congrArg List.length S.pre; rw[List.length_take] at this; omega
 obtain⟨h1,tk,rfl,hk⟩:=x.done;have noA:∀ b:Addr,b∉(aBQ CX P w K mg base N qual scope f cd A outer s H E).ex:=fun b z=>absurd (show b∈([]:List Addr) from z) (by simp);refine⟨⟨e0.mod,S.kind,rfl,rfl,Nat.le_refl _,fun y z c h1 h2=>?_,fun y hy=>?_,fun y c _ h=>?_,fun _=>hd,Around.frames_deeper e0.frames,.inr ⟨rfl,rfl⟩,fun b z=>absurd z (noA b),e0.bs,e0.bsz,fun b _ _=>noA b,fun b z=>absurd z (noA b),e0.funs,e0.frf⟩,
  rfl,e0.bare,Un.kept hk,⟨_,x.toInCall.ns,fun i y v h1 h2 h3=>?_⟩,fun y c h=>⟨_,x.cell y c h⟩,e0.hok.fresh (Nat.le_refl _),fun y c h=>?_,fun p hp=>absurd (show p∈([]:List (Addr×Obj)) from hp) (by simp),e0.hok.kept hk,?_⟩
 ·exact name_of_addr x.apart (PySem.mem_of_lookup h1) (PySem.mem_of_lookup h2)
 ·have hy:scope.names.lookup y=some .cell∨scope.names.lookup y=some .free:=hy;rcases hy with hy|hy
  ·exact a3A hy
  ·exact absurd rfl (S.nofree _ (PySem.mem_of_lookup hy))
 ·exact Nat.le_of_lt (x.above y c (PySem.mem_of_lookup h))
 ·have hi:i<vs.length:=by
   unfold start at h2
   by_cases hi:i<vs.length
   ·exact hi
   ·rw[List.getElem?_append_right (by simpa using hi)] at h2;rw[List.getElem?_replicate] at h2
    split at h2<;>cases h2
  have ha:vs[i]?=some v:=by
   unfold start at h2;rw[List.getElem?_append_left (by simpa using hi),List.getElem?_map] at h2
   cases e:vs[i]? with
   | none=>rw[e] at h2; cases h2
   | some a=>rw[e] at h2; cases h2; rfl
  obtain⟨u,hu,rv⟩:=r.get ha;have hp:ps[i]?=some y:=by
   rw[← S.pre,List.getElem?_take_of_lt (by omega)]; exact h1
  have ndP:ps.Nodup:=by rw[← S.pre]; exact S.nd.sublist (List.take_sublist _ _)
  refine⟨u,rv,?_⟩;rcases S.par y (List.mem_of_getElem? hp) with k|k
  ·exact .inl ⟨k,zP ndP hp hu k⟩
  ·obtain⟨c,e⟩:=a3A (n:=s.heap.objs.size+1) k;refine .inr ⟨.inl k,c,e,?_⟩;have q:=x.cell y c e;rw[zL ndP hp hu (by show scope.names.lookup y≠_; rw[k]; decide)] at q;exact q
 ·exact e0.hok.fresh (Nat.le_of_lt (x.above y c (PySem.mem_of_lookup h)))
 ·unfold start;show _=N.length;rw[List.length_append,List.length_map,List.length_replicate];omega
theorem aLA {CX:CXT}{P:Program}{w:World}{K:PySem.W.Frag}{mg:Str→Option Value}{base:Heap}{k:Nat}{f:Addr}{name qual:Str}{params:Arguments}{body:List Stmt}{scope:Scope}{dV kV doc pm cdv ct oc:Value}{an od:Option Addr}
  {osl:Array (Option Value)} {N ps:List Str} {sp:Sp} (lk:K.lookup f=some ⟨oc,od,.func (PySem.W.fnOf name qual params body scope dV kV doc pm an cdv ct),osl⟩) (hcd:PySem.W.codeIn K cdv qual=true) (S:FnScope N ps scope)
  (len:∀ vs H Q E,sp vs H Q E→vs.length=ps.length)
  (hbody:∀(A:Around) (outer:List Env) (s:Shared) (H:Hp) (vs:List V) (Q:VK) (E:XK),Room k (A.deeper (envOfC qual scope s.heap.objs.size f cdv))→sp vs H Q E →
   ∃ t,PSs (aBQ CX P w K mg base N qual scope f cdv A outer s H E) body t∧t { nx:=fun _ H'=>Q .non H',rt:=Q } (start N vs) H) :
  FnOk P w K mg base CX (k+1) f (PySem.W.fnOf name qual params body scope dV kV doc pm an cdv ct) ps sp:=by
 refine⟨len,fun A outer s H args us vs Q E hr e0 hb r hsp=>?_⟩;have hl:=len _ _ _ _ hsp;have KX:K.In s.heap:=e0.mod.kin.keeps fun b o e=>(e0.bs b o e).1;have lim:s.heap.NoLimit:=e0.mod.nolimit.keeps fun b o e=>(e0.bs b o e).1;have hkind:∀ y∈ps.zip us,scope.names.lookup y.1=some .local∨(scope.names.lookup y.1=some .cell∧((cellsFrom (s.heap.objs.size+1) scope.names []).lookup y.1).isSome=true):=fun⟨n,v⟩ hy=>by
  rcases S.par n (List.of_mem_zip hy).1 with q|q
  ·exact .inl q
  ·exact .inr ⟨q,PySem.W.cellsFrom_some _ _ _ (.inl q)⟩
 refine codeAny_call_function hr.depth (KX _ _ lk) rfl S.co S.gen rfl (PySem.W.codeRec_of KX hcd) (hb _ _ _ _ ?_);refine wpAny_newFunctionEnv_cells S.kind hkind fun env he s1 x=>?_;subst he;refine⟨lim.keeps x.toInCall.keep,codeAny_func ?_⟩;obtain⟨t,ht,hq⟩:=hbody A outer s H vs Q E (hr.deeper _) hsp;have I:Inv (aBQ CX P w K mg base N qual scope f cdv A outer s H E) [] (start N vs) H s1:=a8U S hr.hd e0 hl r x;refine wpAny_mono (ht [] s1 (start N vs) H _ I hq) (fun fl s' hs=>?_) fun e s' hs=>hs;have fin:∀{σ':St} {H':Hp} {v:V} {u:Value},Inv (aBQ CX P w K mg base N qual scope f cdv A outer s H E) [] σ' H' s'→RelV v u→Q v H'→CE outer P w H s Q u s':=
  fun{σ' H' v u} J rv q=>⟨v,H',J.os,J.bare,J.base,J.hok,rv,q⟩
 cases fl with
 | ret u=>
  obtain⟨v,σ',H',J,rv,q⟩:=hs;exact fin J rv q
 | next=>
  obtain⟨σ',H',J,q⟩:=hs;exact fin (v:=V.non) (u:=Value.none) J rfl q
 | brk=>
  obtain⟨_,_,_,q⟩:=hs;exact False.elim q
 | cont=>
  obtain⟨_,_,_,q⟩:=hs;exact False.elim q
end L2
namespace L2
open PySem PySem.Spec PyProof.Rows
section
variable {X:Cx}{x:Str}{p pos:Pos}{e:Expr}{es:List Expr}{t:TA}{id T:String}{r:List V→Hp→VK→Prop}
noncomputable def tCB (r:List V→Hp→VK→Prop)(t:TA):TE:=fun σ H Q=>t σ H fun vs H1=>r vs H1 Q
theorem aH (hc:rF X (.builtin id) r)(hg:Gl X x)(hm:X.mg x=none)(hv:bootBuiltins x=some (.builtin id))(ha:PA X (e::es) t)(hn:x ≠ "__name__" := by decide)(hdb:(x==("__debug__" : Str))=false:=by decide)
  (he:starEach (e::es) X.env=(false,eval e X.env)::starEach es X.env:=by rfl) (hpl:(backTo pos (starEach es X.env)).any (·.1)=false:=by rfl):PE X (.Call (.Name x p) (e::es) [] pos) (tCB r t):=by
 intro pins s σ H Q I h;refine wpAny_Call_Name_kw (wA I hg hm hv ?_ hn hdb);exact PyProof.Rows.callWith_builtin1 (thn (ha pos pins s σ H _ I h) fun us s1 ⟨vs,H1,I1,r1,q1⟩=>hc pins s1 σ H1 vs us Q I1 r1 q1) he hpl
theorem eX (hc:rF X (.type T) r)(hg:Gl X x)(hm:X.mg x=none)(hv:bootBuiltins x=some (.type T))(ha:PA X (e::es) t)(hn:x ≠ "__name__" := by decide)(hdb:(x==("__debug__" : Str))=false:=by decide)
  (he:starEach (e::es) X.env=(false,eval e X.env)::starEach es X.env:=by rfl) (hpl:(backTo pos (starEach es X.env)).any (·.1)=false:=by rfl):PE X (.Call (.Name x p) (e::es) [] pos) (tCB r t):=by
 intro pins s σ H Q I h;refine wpAny_Call_Name_kw (wA I hg hm hv ?_ hn hdb);exact PyProof.Rows.callWith_type1 (thn (ha pos pins s σ H _ I h) fun us s1 ⟨vs,H1,I1,r1,q1⟩=>hc pins s1 σ H1 vs us Q I1 r1 q1) he hpl
end
end L2
namespace HT
open PySem PyProof.Rows
section
open PySem.SeqAt
open PySem.AutoSeq1 (wpAny_loadPart')
open PySem.MeetsSeq PySem.MeetsSeq2 PySem.MeetsSeq3
end
section
variable {prog:Program}{w:World}{A:Around}{E:Value→Shared→Prop}{s:Shared}
noncomputable def sIx (n d:Nat):Option Int→Nat
 | none=>d
 | some v=>if v<0 then(v+(n:Int)).toNat else min v.toNat n
theorem aHP (n d:Nat)(hd:d≤n)(o:Option Int):sIx n d o≤n:=by
 cases o with
 | none=>exact hd
 | some v=>
  show(if v<0 then(v+(n:Int)).toNat else min v.toNat n)≤n
  by_cases hv:v<0
  ·rw[if_pos hv]; omega
  ·rw[if_neg hv]; exact Nat.min_le_right _ _
theorem a6L (v:Int)(n d:Nat):(if v<0 then max (v+(n:Int)) 0 else min v (n:Int))=((sIx n d (some v):Nat):Int):=by
 show(if v<0 then max (v+(n:Int)) 0 else min v (n:Int))=(((if v<0 then(v+(n:Int)).toNat else min v.toNat n):Nat):Int)
 by_cases hv:v<0
 ·simp only[if_pos hv]; omega
 ·simp only[if_neg hv]; omega
theorem a4P (lo hi:Option Int)(n:Nat):Builtin.Slice.sliceAdjust lo hi 1 (n:Int)=(((sIx n 0 lo:Nat):Int),((sIx n n hi:Nat):Int)):=by
 have h1:¬((1:Int)<0):=by omega
 unfold Builtin.Slice.sliceAdjust;simp only[h1,if_false];refine Prod.ext ?_ ?_
 ·cases lo with
  | none=>rfl
  | some v=>exact a6L v n 0
 ·cases hi with
  | none=>rfl
  | some v=>exact a6L v n n
theorem a5P (i j:Nat):Builtin.Slice.slicePlaces (i:Int) (j:Int) 1=j-i:=by
 unfold Builtin.Slice.slicePlaces;have h1:(1:Int)>0:=by omega
 simp only[h1,if_true,Int.ediv_one]
 split<;>omega
theorem vQ {v:Value}{o:Option Int}{Q:Option Int→Shared→Prop}(p:IsPart v o)(h:Q o s):wpAny (model prog w) A (Builtin.Slice.slicePartIndex v) Q E s:=by
 cases p with
 | none=>exact slicePart_none h
 | int i t=>exact slicePart_int h
theorem sV {sl:Addr}{vl vu:Value}{lo hi:Option Int}{n:Nat}{Q:Int×Int×Nat→Shared→Prop}(hs:s.heap.IsSliceOf sl vl vu .none)(pl:IsPart vl lo)(pu:IsPart vu hi)
  (h:Q (((sIx n 0 lo:Nat):Int),1,sIx n n hi-sIx n 0 lo) s):wpAny (model prog w) A (Builtin.Slice.sliceApplied (.ref sl) (pure (n:Int))) Q E s:=by
 obtain⟨os,hos,hcs,hds⟩:=id hs;unfold Builtin.Slice.sliceApplied Builtin.Slice.sliceFields;refine wpAny_bind (wpAny_bind (wpAny_field hos hds (x:=vl) rfl (wpAny_bind (wpAny_field hos hds (x:=vu) rfl (wpAny_bind (wpAny_field hos hds (x:=.none) rfl (wpAny_pure ?_)))))));refine wpAny_bind (slicePart_none ?_);show wpAny _ _ (if ((1:Int)==0)=true then _ else _) _ _ s;rw[if_neg (by decide)];refine wpAny_bind (vQ pl (wpAny_bind (vQ pu (wpAny_bind (wpAny_pure ?_)))));show wpAny _ _ (match Builtin.Slice.sliceAdjust lo hi 1 (n:Int) with|(lo,hi)=>pure (lo,(1:Int),Builtin.Slice.slicePlaces lo hi 1)) _ _ s;rw[a4P lo hi n];show wpAny _ _ (pure (((sIx n 0 lo:Nat):Int),(1:Int),Builtin.Slice.slicePlaces ((sIx n 0 lo:Nat):Int) ((sIx n n hi:Nat):Int) 1)) _ _ s;rw[a5P];exact wpAny_pure h
theorem aAZ (xs:Array Value)(i k:Nat):((List.range k).filterMap fun(m:Nat)=>xs[((i:Int)+(m:Int)*1).toNat]?).toArray=((xs.toList.drop i).take k).toArray:=by
 have e:(fun(m:Nat)=>xs[((i:Int)+(m:Int)*1).toNat]?)=fun m=>xs[i+m]?:=by
  funext m
  have:((i:Int)+(m:Int)*1).toNat=i+m:=by omega
  rw[this]
 rw[e];have:=pick_run xs i k;rw[List.filterMap_map] at this;have e2:((fun x=>xs[x]?)∘fun x=>i+x)=fun m=>xs[i+m]?:=rfl;rw[e2] at this;rw[this]
theorem getItem_tuple_cut {t sl:Addr}{items:Array Value}{vl vu:Value}{lo hi:Option Int}{Q:Value→Shared→Prop}(ht:IsTup s.heap t items)(hs:s.heap.IsSliceOf sl vl vu .none)(pl:IsPart vl lo)(pu:IsPart vu hi)
  (hw:¬(sIx items.size 0 lo=0∧sIx items.size items.size hi=items.size))
  (h:Q (.ref s.heap.objs.size) { s with heap:=s.heap.push { cls:=.type "tuple", data:=.seq ((items.toList.drop (sIx items.size 0 lo)).take (sIx items.size items.size hi-sIx items.size 0 lo)).toArray } })
  (hsz:items.size≤sizeLine):wpAny (model prog w) A (getItem (.ref t) (.ref sl)) Q E s:=by
 have htake:sizeOk (.seq ((items.toList.drop (sIx items.size 0 lo)).take (sIx items.size items.size hi-sIx items.size 0 lo)).toArray):=by
  show((items.toList.drop (sIx items.size 0 lo)).take (sIx items.size items.size hi-sIx items.size 0 lo)).toArray.size≤sizeLine
  rw[List.size_toArray,List.length_take,List.length_drop,Array.length_toList];omega
 have hj:sIx items.size items.size hi≤items.size:=aHP _ _ (Nat.le_refl _) hi;obtain⟨os,hos,hcs,hds⟩:=id hs;have hTs:s.TypeIs (.ref sl) "slice" := ⟨os,hos,hcs⟩;unfold getItem
 try with_reducible refine wpAny_holding ?_
 first|refine wpAny_bind (wpAny_pure ?_)|skip
 refine wpAny_bind (wpAny_sequenceKey ht.typeIs (by decide) ?_);refine wpAny_bind (wpAny_callSpecial?_slot (name:=Str.ofString "__getitem__") ht.typeIs PyProof.Rows.slot_tuple_getitem
  (wpAny_call_entry PyProof.Rows.slot_tuple_getitem ht.typeIs entry_tuple_getitem ?_ (args_tuple_getitem _ _)))
 show wpAny _ _ (Builtin.Tuple.tupleItemsOf (.ref t) >>= _) _ _ s;refine wpAny_bind (tupleItemsOf_ ht ?_);refine wpAny_bind (wpAny_typeOf hTs ?_);rw[if_pos (by decide)];refine wpAny_bind (sV hs pl pu ?_);have hno:¬((((sIx items.size 0 lo:Nat):Int)==0&&(1:Int)==1&&(sIx items.size items.size hi-sIx items.size 0 lo)==items.size)=true):=by
  intro q;rw[Bool.and_eq_true,Bool.and_eq_true] at q;have q1:((sIx items.size 0 lo:Nat):Int)=0:=eq_of_beq q.1.1;have q2:sIx items.size items.size hi-sIx items.size 0 lo=items.size:=eq_of_beq q.2;exact hw ⟨by omega,by omega⟩
 show wpAny _ _ (if (((sIx items.size 0 lo:Nat):Int)==0&&(1:Int)==1&&(sIx items.size items.size hi-sIx items.size 0 lo)==items.size)=true then _ else _) _ _ s;rw[if_neg hno,aAZ]
 first
  | exact wpAny_bind (m:=Builtin.Tuple.tupleExact _) (wpAny_newObj_type (wpAny_pure ⟨_,rfl,wpAny_pure h⟩) htake)
  | exact wpAny_bind (m:=Builtin.Tuple.tupleExact _) (wpAny_newObj_type (wpAny_bind (wpAny_pure (wpAny_pure ⟨_,rfl,wpAny_pure h⟩))) htake)
  | exact wpAny_bind (wpAny_bind (m:=Builtin.Tuple.tupleExact _) (wpAny_newObj_type (wpAny_pure (wpAny_pure ⟨_,rfl,wpAny_pure h⟩)) htake))
  | exact wpAny_bind (wpAny_bind (m:=Builtin.Tuple.tupleExact _) (wpAny_newObj_type (wpAny_pure ⟨_,rfl,wpAny_pure h⟩) htake))
end
end HT
namespace L2
open PySem PySem.Spec PyProof.Rows
abbrev TO:=St→Hp→(Option Int→Hp→Prop)→Prop
noncomputable def PO (X:Cx)(e:Option Expr)(t:TO):Prop:=
 ∀(pins:List (Addr×Obj)) (s:Shared) (σ:St) (H:Hp) (Q:Option Int→Hp→Prop),Inv X pins σ H s→t σ H Q →
  wpAny (model X.prog X.w) X.A (evalPart e X.env) (fun u s'=>∃ o H',Inv X pins σ H' s'∧IsPart u o∧Q o H') X.xe s
noncomputable def a95:TO:=fun _ H Q=>Q none H
noncomputable def aGP (t:TE):TO:=fun σ H Q=>t σ H fun x H1=>∃ i,x=.int i∧Q (some i) H1
section
variable {X:Cx}{e:Expr}{te:TE}{lo hi:Option Expr}{tl th:TO}{pos p2:Pos}
theorem xZ:PO X none a95:=by
 intro pins s σ H Q I h;rw[evalPart_none];exact wpAny_pure ⟨none,H,I,.none,h⟩
theorem yC (h:PE X e te):PO X (some e) (aGP te):=by
 intro pins s σ H Q I hw;rw[evalPart_some];refine thn (h pins s σ H _ I hw) fun u s1 ⟨x,H1,I1,r1,q1⟩=>?_;obtain⟨i,rfl,q⟩:=q1;obtain⟨t,rfl⟩:=r1;exact⟨some i,H1,I1,.int i t,q⟩
noncomputable def SlR (X:Cx)(r:V→Option Int→Option Int→Hp→VK→Prop):Prop:=
 ∀(pins:List (Addr×Obj)) (s:Shared) (σ:St) (H:Hp) (x:V) (v vl vu:Value) (lo hi:Option Int) (sl:Addr) (Q:VK),Inv X pins σ H s→RelV x v→s.heap.IsSliceOf sl vl vu .none→IsPart vl lo→IsPart vu hi→r x lo hi H Q →
  ∃ T id,typeLookup (.type T) "__getitem__" = pure (some (.builtin id))∧s.TypeIs v T∧wpAny (model X.prog X.w) X.A (getItem v (.ref sl)) (EP X pins σ Q) X.xe s
noncomputable def tSl (r:V→Option Int→Option Int→Hp→VK→Prop)(te:TE)(tl th:TO):TE:=fun σ H Q=>te σ H fun x H1=>tl σ H1 fun l H2=>th σ H2 fun u H3=>r x l u H3 Q
theorem tM {r:V→Option Int→Option Int→Hp→VK→Prop}(hr:SlR X r)(he:PE X e te)(hl:PO X lo tl)(hu:PO X hi th):PE X (.Subscript e (.Slice lo hi none p2) pos) (tSl r te tl th):=by
 intro pins s σ H Q I h;refine Subscript_ (thn (he pins s σ H _ I h) fun v s1 ⟨x,H1,I1,r1,q1⟩=>?_);refine wpAny_Slice (thn (hl pins s1 σ H1 _ I1 q1) fun vl s2 ⟨l,H2,I2,pl,q2⟩=>thn (hu pins s2 σ H2 _ I2 q2) fun vu s3 ⟨u,H3,I3,pu,q3⟩=>?_);rw[evalPart_none];refine wpAny_pure ?_;have I4:Inv X pins σ H3 { s3 with heap:=s3.heap.push { cls:=.type "slice", data:=.fields #[vl,vu,.none] } }:=I3.kept (t':=s3.toks) fun b ob q=>Heap.get?_push_of_some _ q;obtain⟨T,id,hT,ht,hg⟩:=hr pins { s3 with heap:=s3.heap.push { cls:=.type "slice", data:=.fields #[vl,vu,.none] } } σ H3 x v vl vu l u s3.heap.objs.size Q I4 r1 (Heap.IsSliceOf.new ..) pl pu q3;show wpAny (model X.prog X.w) X.A (subscriptTail e (.Slice lo hi none p2) v (.ref s3.heap.objs.size)) (EP X pins σ Q) X.xe { s3 with heap:=s3.heap.push { cls:=.type "slice", data:=.fields #[vl,vu,.none] } };exact tail_any (ops:=[.ref s3.heap.objs.size,v]) ht hT hg (by with_unfolding_all rfl)
noncomputable def aAN (xs:List V)(lo hi:Option Int):List V:=(xs.drop (HT.sIx xs.length 0 lo)).take (HT.sIx xs.length xs.length hi-HT.sIx xs.length 0 lo)
theorem u5 (xs:List V)(lo hi:Option Int):(aAN xs lo hi).length≤xs.length:=by
 unfold aAN;rw[List.length_take,List.length_drop];omega
noncomputable def aLG (K:PySem.W.Frag):V→Option Int→Option Int→Hp→VK→Prop:=fun x lo hi H Q=>∃ a xs,x=.ref a∧SqT K H a xs ∧
 ¬(HT.sIx xs.length 0 lo=0∧HT.sIx xs.length xs.length hi=xs.length)∧∀ p,H p=none→Q (.ref p) (upd H p (.tup (aAN xs lo hi)))
theorem aBG:SlR X (aLG X.K):=by
 intro pins s σ H x v vl vu lo hi sl Q I rx hs pl pu h;obtain⟨a,xs,rfl,hx,hw,q⟩:=h
 cases rx
 obtain⟨its,r,ht,hz⟩:=I.tuple hx;have hlen:its.toArray.size=xs.length:=by rw[List.size_toArray]; exact r.length.symm
 refine⟨"tuple", _,PyProof.Rows.slot_tuple_getitem.lookup,ht.typeIs,?_⟩;refine HT.getItem_tuple_cut ht hs pl pu (by rw[hlen]; exact hw) ?_ (by rw[hlen]; exact hz);rw[hlen];refine⟨.ref s.heap.objs.size,_,I.laid (t':=s.toks) (o:=.tup (aAN xs lo hi)) (fun b ob q=>Heap.get?_push_of_some _ q) (Nat.le_refl _) ?_,rfl,q _ (I.hok.fresh (Nat.le_refl _))⟩;exact⟨Nat.le_trans (u5 xs lo hi) hz,_,(r.drop (HT.sIx xs.length 0 lo)).take (HT.sIx xs.length xs.length hi-HT.sIx xs.length 0 lo),IsTup.new _ _⟩
end
end L2
namespace L2
open PySem PySem.Spec PyProof.Rows
noncomputable def ixN (n:Nat)(i:Int):Option Nat:=if 0≤i then(if i<n then some i.toNat else none) else if -(n:Int)≤i then some (i+n).toNat else none
noncomputable def atI {α:Type}(xs:List α)(i:Int):Option α:=(ixN xs.length i).bind fun j=>xs[j]?
theorem a96 {n:Nat}{i:Int}{j:Nat}(h:ixN n i=some j):seqIndex? i n=some j∧j<n ∧ -(n:Int)≤i∧i<n:=by
 unfold ixN at h
 by_cases h0:0≤i
 ·rw[if_pos h0] at h
  by_cases h1:i<n
  ·rw[if_pos h1] at h;have e:i.toNat=j:=Option.some.inj h;exact⟨by rw[seqIndex_of h0 h1,e],by omega,by omega,h1⟩
  ·rw[if_neg h1] at h; cases h
 ·rw[if_neg h0] at h
  by_cases h1 : -(n:Int)≤i
  ·rw[if_pos h1] at h;have e:(i+n).toNat=j:=Option.some.inj h;exact⟨by rw[seqIndex_neg (by omega) h1,e],by omega,h1,by omega⟩
  ·rw[if_neg h1] at h; cases h
theorem a2N {α:Type}{xs:List α}{i:Int}{v:α}(h:atI xs i=some v):∃ j,seqIndex? i xs.length=some j∧xs[j]?=some v∧j<xs.length ∧ -(xs.length:Int)≤i∧i<xs.length:=by
 unfold atI at h
 cases e:ixN xs.length i with
 | none=>rw[e] at h; cases h
 | some j=>
  rw[e] at h;obtain⟨h1,h2,h3,h4⟩:=a96 e;exact⟨j,h1,h,h2,h3,h4⟩
theorem a8R {α:Type}{xs:List α}{j:Nat}{v:α}(h:xs[j]?=some v):atI xs (j:Int)=some v:=by
 have hj:j<xs.length:=(List.getElem?_eq_some_iff.mp h).1;have e:ixN xs.length (j:Int)=some j:=by
  unfold ixN;rw[if_pos (by omega),if_pos (by omega)]; simp
 unfold atI; rw[e]; exact h
noncomputable def aDF (b:Expr):Prop:=∀ o i,subscripted b false o i=operate [o,i] (getItem o i)
noncomputable def IxR (X:Cx)(r:R2):Prop:=
 ∀(value slice:Expr) (pins:List (Addr×Obj)) (s:Shared) (σ:St) (H:Hp) (x y:V) (v u:Value) (Q:VK),Inv X pins σ H s→RelV x v→RelV y u→r x y H Q →
  subscripted slice false v u=operate [v,u] (getItem v u)→wpAny (model X.prog X.w) X.A (subscriptTail value slice v u) (EP X pins σ Q) X.xe s
noncomputable def MtR (X:Cx)(id:String)(r:V→List V→Hp→VK→Prop):Prop:=
 ∀(pins:List (Addr×Obj)) (s:Shared) (σ:St) (H:Hp) (x:V) (xs:List V) (v:Value) (us:List Value) (Q:VK),Inv X pins σ H s→RelV x v→Vals xs us→r x xs H Q →
  wpAny (model X.prog X.w) X.A (call (.builtin id) (v::us)) (EP X pins σ Q) X.xe s
section
variable {X:Cx}{a b:Expr}{ta tb:TE}{pos:Pos}
theorem IxR.or {r r':R2}(h:IxR X r)(h':IxR X r'):IxR X (fun x y H Q=>r x y H Q∨r' x y H Q):=by
 intro value slice pins s σ H x y v u Q I rx ry q hs;rcases q with q|q
 ·exact h value slice pins s σ H x y v u Q I rx ry q hs
 ·exact h' value slice pins s σ H x y v u Q I rx ry q hs
theorem bC {r:R2}(hr:IxR X r)(ha:PE X a ta)(hb:PE X b tb)(hs:aDF b):PE X (.Subscript a b pos) (tOp r ta tb):=by
 intro pins s σ H Q I h;exact Subscript_ (aKY ha hb I h fun v u s2 x y H2 I2 rx ry q=>hr a b pins s2 σ H2 x y v u Q I2 rx ry q (hs _ _))
noncomputable def aM4 (K:PySem.W.Frag):R2:=fun x y H Q=>∃ p xs i v,x=.ref p∧y=.int i∧SqL K H p xs∧atI xs i=some v∧Q v H
noncomputable def aLV (K:PySem.W.Frag):R2:=fun x y H Q=>∃ p xs i v,x=.ref p∧y=.int i∧SqT K H p xs∧atI xs i=some v∧Q v H
noncomputable def aLX:R2:=fun x y H Q=>∃ z i c,x=.str z∧y=.int i∧z.length≤sizeLine∧atI z.cps.toList i=some c∧Q (.str ⟨#[c]⟩) H
theorem ix_list:IxR X (aM4 X.K):=by
 intro value slice pins s σ H x y v u Q I rx ry h hs;obtain⟨p,xs,i,z,rfl,rfl,hq,he,q⟩:=h
 cases rx
 obtain⟨t,rfl⟩:=ry;obtain⟨its,r,pl,hz⟩:=I.list hq;obtain⟨j,h1,h2,h3,h4,h5⟩:=a2N he;obtain⟨w,ew,rw'⟩:=r.get h2;have hl:=r.length;have hn:=wD;have fin:EP X pins σ Q w s:=⟨z,H,I,rw',q⟩
 by_cases h0:0≤i
 ·have hj:i.toNat=j:=by
   rw[seqIndex_of h0 h5] at h1;exact Option.some.inj h1
  exact item_listR pl.isList h0 (by omega) (by rw[hj]; simpa using ew) fin hs
 ·have hj:(i+(its.toArray.size:Int)).toNat=j:=by
   rw[seqIndex_neg (by omega) h4] at h1;rw[List.size_toArray,←hl];exact Option.some.inj h1
  exact subscriptTail_builtinR (x:=w) pl.isList.typeIs slot_list_getitem.lookup
   (wpAny_getItem_list_neg (Q:=fun r s'=>r=w∧EP X pins σ Q r s') pl.isList (by omega) (by rw[List.size_toArray]<;>omega) (by omega) (by rw[hj]; simpa using ew) ⟨rfl,fin⟩) hs
theorem ix_tup:IxR X (aLV X.K):=by
 intro value slice pins s σ H x y v u Q I rx ry h hs;obtain⟨p,xs,i,z,rfl,rfl,hq,he,q⟩:=h
 cases rx
 obtain⟨t,rfl⟩:=ry;obtain⟨its,r,pl,hz⟩:=I.tuple hq;obtain⟨j,h1,h2,h3,h4,h5⟩:=a2N he;obtain⟨w,ew,rw'⟩:=r.get h2;have hl:=r.length;have hn:=wD;have fin:EP X pins σ Q w s:=⟨z,H,I,rw',q⟩;exact subscriptTail_builtinR (x:=w) pl.typeIs slot_tuple_getitem.lookup
  (getItem_tuple (j:=j) (Q:=fun r s'=>r=w∧EP X pins σ Q r s') pl (by omega) (by omega) (by rw[List.size_toArray,←hl]; exact h1) (by simpa using ew) ⟨rfl,fin⟩) hs
theorem aF7:IxR X aLX:=by
 intro value slice pins s σ H x y v u Q I rx ry h hs;obtain⟨z,i,c,rfl,rfl,hz,he,q⟩:=h;obtain⟨t,rfl⟩:=rx;obtain⟨t',rfl⟩:=ry;obtain⟨j,h1,h2,h3,h4,h5⟩:=a2N he;have hl:z.cps.toList.length=z.length:=by simp[Str.length]
 rw[hl] at h1 h4 h5;have hn:=wD;exact tail_any (typeIs_str s z t) slot_str_getitem.lookup (getItem_str (c:=c) (by
  have e1:decide (i < -(2^63:Int))=false:=decide_eq_false (by omega);have e2:decide (i≥2^63)=false:=decide_eq_false (by omega);rw[e1,e2,Bool.or_false]) (by rw[h1]; simpa using h2) ⟨.str ⟨#[c]⟩,H,I.tok _,⟨_,rfl⟩,q⟩) hs
noncomputable def rIx (K:PySem.W.Frag):R2:=fun x y H Q=>aM4 K x y H Q∨aLV K x y H Q∨aLX x y H Q
theorem aQ:IxR X (rIx X.K):=ix_list.or (ix_tup.or aF7)
theorem a4R (its:List Value)(n j:Nat)(u:Value):Obj.mapSeq (·.setIfInBounds j u) { cls:=.type "list", data:=.seq its.toArray n }={ cls:=.type "list", data:=.seq (its.set j u).toArray n }:=by
 simp[Obj.mapSeq]
theorem Inv.lst {pins:List (Addr×Obj)}{σ:St}{H:Hp}{s:Shared}{p:Addr}{xs:List V}(I:Inv X pins σ H s)(h:H p=some (.lst xs)) :
  ∃(its:List Value) (n:Nat),Vals xs its∧s.heap.get? p=some { cls:=.type "list", data:=.seq its.toArray n }∧xs.length≤sizeLine:=by
 obtain⟨z,its,n,r,e⟩:=I.hok p _ h;exact⟨its,n,r,e,z⟩
theorem Inv.lstUpd {pins:List (Addr×Obj)}{σ:St}{H:Hp}{s:Shared}{p:Addr}{xs ys:List V}{its its':List Value}{n n':Nat}{f:Obj→Obj}(I:Inv X pins σ H s)(h:H p=some (.lst xs))
  (ho:s.heap.get? p=some { cls:=.type "list", data:=.seq its.toArray n }) (hf:f { cls:=.type "list", data:=.seq its.toArray n }={ cls:=.type "list", data:=.seq its'.toArray n' }) (r:Vals ys its') (hz:ys.length≤sizeLine) (t:Nat) :
  Inv X pins σ (upd H p (.lst ys)) { s with heap:=s.heap.update p f,toks:=t }:=by
 have e:(s.heap.update p f).get? p=some { cls:=.type "list", data:=.seq its'.toArray n' }:=by
  rw[Heap.get?_update_self f ho (by rw[hf]<;>rfl),hf]
 refine I.write (x:=p) (e:=p) (by rw[h]; trivial) (.inl rfl) (fun b u hb q=>(Heap.get?_update_other _ _ (Ne.symm hb)).trans q) ⟨_,e⟩ ?_;exact⟨hz,its',n',r,e⟩
noncomputable def aJK:V→V→V→Hp→(Hp→Prop)→Prop:=fun o i v H Q=>∃ p xs k j,o=.ref p∧i=.int k∧H p=some (.lst xs)∧ixN xs.length k=some j∧Q (upd H p (.lst (xs.set j v)))
theorem set_list:aLY X aJK:=by
 intro pins s σ H o i v ov iv u Q I ro ri rv h;obtain⟨p,xs,k,j,rfl,rfl,hp,hj,q⟩:=h
 cases ro
 obtain⟨t,rfl⟩:=ri;obtain⟨its,n,r,ho,hz⟩:=I.lst hp;obtain⟨h1,h2,h3,h4⟩:=a96 hj;have hl:=r.length;have hn:=wD;have I':Inv X pins σ (upd H p (.lst (xs.set j v))) { s with heap:=s.heap.update p (Obj.mapSeq (·.setIfInBounds j u)) }:=
  I.lstUpd hp ho (a4R its n j u) (r.set rv j) (by rw[List.length_set]; exact hz) s.toks
 by_cases h0:0≤k
 ·have hk:k.toNat=j:=by
   rw[seqIndex_of h0 h4] at h1;exact Option.some.inj h1
  exact PySem.W.ki_setAt ho h0 (by omega) (by rw[List.size_toArray,←hl]; exact h4) (by rw[hk]; exact⟨_,I',q⟩)
 ·have hk:(k+(its.toArray.size:Int)).toNat=j:=by
   rw[seqIndex_neg (by omega) h3] at h1;rw[List.size_toArray,←hl];exact Option.some.inj h1
  exact PySem.W.ki_setBack ho (by omega) (by rw[List.size_toArray,←hl]; exact h3) (by omega) (by rw[hk]; exact⟨_,I',q⟩)
theorem yZ (lo hi:Option Int)(n:Nat):(sliceBounds lo hi none n).1=((HT.sIx n 0 lo:Nat):Int)∧(sliceBounds lo hi none n).2.1=((HT.sIx n n hi:Nat):Int)∧(sliceBounds lo hi none n).2.2=1:=by
 refine⟨?_,?_,rfl⟩
 ·cases lo with
  | none=>simp[sliceBounds,HT.sIx]
  | some i=>
   simp only[sliceBounds,HT.sIx,Option.getD_none,show(1:Int)>0 by decide,if_true]
   by_cases h:i<0
   ·simp only[h,if_true]<;>omega
   ·simp only[h,if_false]<;>omega
 ·cases hi with
  | none=>simp[sliceBounds,HT.sIx]
  | some i=>
   simp only[sliceBounds,HT.sIx,Option.getD_none,show(1:Int)>0 by decide,if_true]
   by_cases h:i<0
   ·simp only[h,if_true]<;>omega
   ·simp only[h,if_false]<;>omega
theorem wY (its:List Value)(lo hi:Option Int):slicePick its.toArray lo hi none=((its.drop (HT.sIx its.length 0 lo)).take (HT.sIx its.length its.length hi-HT.sIx its.length 0 lo)).toArray:=by
 obtain⟨h1,h2,h3⟩:=yZ lo hi its.toArray.size;unfold slicePick;rw[h1,h2,h3];simp only[sliceRange_one,pick_run,List.size_toArray]<;>rfl
noncomputable def aMD (K:PySem.W.Frag):V→Option Int→Option Int→Hp→VK→Prop:=fun x lo hi H Q=>∃ a xs,x=.ref a∧SqL K H a xs∧∀ p,H p=none→Q (.ref p) (upd H p (.lst (aAN xs lo hi)))
theorem aER:SlR X (aMD X.K):=by
 intro pins s σ H x v vl vu lo hi sl Q I rx hs pl pu h;obtain⟨a,xs,rfl,hx,q⟩:=h
 cases rx
 obtain⟨its,r,ht,hz⟩:=I.list hx;have hlen:=r.length;refine⟨"list", _,slot_list_getitem.lookup,ht.isList.typeIs,?_⟩;refine wpAny_getItem_list_slice ht.isList hs pl pu .none (by simp) ?_ (by rw[List.size_toArray]<;>omega);rw[wY,←hlen];refine⟨.ref s.heap.objs.size,_,I.laid (t':=s.toks) (o:=.lst (aAN xs lo hi)) (fun b ob q=>Heap.get?_push_of_some _ q) (Nat.le_refl _) ?_,rfl,q _ (I.hok.fresh (Nat.le_refl _))⟩;exact⟨Nat.le_trans (u5 xs lo hi) hz,_,0,(r.drop (HT.sIx xs.length 0 lo)).take (HT.sIx xs.length xs.length hi-HT.sIx xs.length 0 lo),Heap.get?_push_size _ rfl⟩
theorem aU:rF X (.builtin "len") (fun xs H Q=>∃ p ys,xs=[.ref p]∧(SqL X.K H p ys∨SqT X.K H p ys)∧Q (.int ys.length) H):=by
 intro pins s σ H xs us Q I r h;obtain⟨p,ys,rfl,hq,q⟩:=h;obtain⟨u,rfl,rx⟩:=vals1 r
 cases rx
 have hn:=wD;rcases hq with hq|hq
 ·obtain⟨its,r',pl,hz⟩:=I.list hq;have hlen:=r'.length;exact Calls.call_len_list pl.isList (by simp only[List.size_toArray]<;>omega) ⟨.int ys.length,H,I.tok _,⟨s.toks+1,by rw[List.size_toArray,hlen]⟩,q⟩
 ·obtain⟨its,r',pl,hz⟩:=I.tuple hq;have hlen:=r'.length;exact len_tuple pl (by simp only[List.size_toArray]<;>omega) ⟨.int ys.length,H,I.tok _,⟨s.toks+1,by rw[List.size_toArray,hlen]⟩,q⟩
theorem sO:rF X (.type "list") (fun xs H Q=>∃ p ys,xs=[.ref p]∧(SqL X.K H p ys∨SqT X.K H p ys)∧∀ l,H l=none→Q (.ref l) (upd H l (.lst ys))):=by
 intro pins s σ H xs us Q I r h;obtain⟨p,ys,rfl,hq,q⟩:=h;obtain⟨u,rfl,rx⟩:=vals1 r
 cases rx
 have fin:∀(its:List Value),Vals ys its→ys.length≤sizeLine→∀(h':Heap) (c':Nat),(∀ b o',s.heap.get? b=some o'→h'.get? b=some o') →
   h'.get? s.heap.objs.size=some { cls:=.type "list", dict:=none,data:=.seq its.toArray c',slots:=#[] }→EP X pins σ Q (.ref s.heap.objs.size) { s with heap:=h' }:=fun its r' hz h' c' kp e=>
  ⟨.ref s.heap.objs.size,_,I.laid (t':=s.toks) kp (Nat.le_refl _) (show ObjOk X.prog X.w _ h' _ (.lst ys) from⟨hz,its,c',r',e⟩),rfl,q _ (I.hok.fresh (Nat.le_refl _))⟩
 rcases hq with hq|hq
 ·obtain⟨its,r',pl,hz⟩:=I.list hq;have hlen:=r'.length;obtain⟨o,ho,hc,n,hd⟩:=pl.isList;exact call_list_seq p (.inl rfl) ho hc hd (fun h' c' kp e=>fin its r' hz h' c' kp e) (by simp only[List.size_toArray]<;>omega)
 ·obtain⟨its,r',pl,hz⟩:=I.tuple hq;have hlen:=r'.length;obtain⟨o,ho,hc,n,hd⟩:=pl;exact call_list_seq p (.inr rfl) ho hc hd (fun h' c' kp e=>fin its r' hz h' c' kp e) (by simp only[List.size_toArray]<;>omega)
noncomputable def tyV (K:PySem.W.Frag)(T:String)(x:V)(H:Hp):Prop:=match x with
 | .str _=>T = "str"
 | .int _=>T = "int"
 | .ref p=>(T = "list" ∧ ∃ xs,SqL K H p xs)∨(T = "tuple" ∧ ∃ o,K.lookup p=some o∧o.cls=.type "tuple" ∧ o.dict=none) ∨
   (T = "dict" ∧ ((∃ kvs,H p=some (.dK kvs))∨∃ kvs,H p=some (.dT kvs)))∨(T = "set" ∧ ∃ S n,H p=some (.set S n))
 | _=>False
theorem aGQ {pins:List (Addr×Obj)}{σ:St}{H:Hp}{s:Shared}{T:String}{x:V}{v:Value}(I:Inv X pins σ H s)(r:RelV x v)(ty:tyV X.K T x H) :
  s.TypeIs v T∧∀ a,v=.ref a→∃ ob,s.heap.get? a=some ob∧ob.dict=none:=by
 cases x with
 | str z=>
  obtain⟨t,rfl⟩:=r
  cases(show T = "str" from ty)
  exact⟨typeIs_str s z t,fun _ e=>nomatch e⟩
 | int i=>
  obtain⟨t,rfl⟩:=r
  cases(show T = "int" from ty)
  exact⟨typeIs_int s i t,fun _ e=>nomatch e⟩
 | ref p=>
  cases r
  rcases ty with⟨rfl,xs,hq⟩|⟨rfl,o,hk,hc,hd⟩|⟨rfl,hk⟩|⟨rfl,S,n,hk⟩
  ·obtain⟨its,_,pl,_⟩:=I.list hq;refine⟨pl.isList.typeIs,fun a e=>?_⟩
   cases e
   obtain⟨o,n,e,c,hd,_⟩:=pl;exact⟨o,e,hd⟩
  ·refine⟨⟨o,I.kIn p o hk,hc⟩,fun a e=>?_⟩
   cases e
   exact⟨o,I.kIn _ o hk,hd⟩
  ·have z:∃ o,s.heap.get? p=some o∧o.ExactDict:=by
    rcases hk with⟨kvs,hk⟩|⟨kvs,hk⟩
    ·obtain⟨_,_,_,_,o,_,_,e,ex,_⟩:=I.hok p _ hk;exact⟨o,e,ex⟩
    ·obtain⟨_,_,_,_,o,_,_,e,ex,_⟩:=I.hok p _ hk;exact⟨o,e,ex⟩
   obtain⟨o,e,ex⟩:=z;refine⟨⟨o,e,ex.1⟩,fun a e2=>?_⟩
   cases e2
   exact⟨o,e,ex.2.1⟩
  ·obtain⟨o,_,_,_,e,ex,_⟩:=I.hok p _ hk;refine⟨⟨o,e,ex.1⟩,fun a e2=>?_⟩
   cases e2
   exact⟨o,e,ex.2.1⟩
 | _=>exact False.elim ty
noncomputable def tBM (K:PySem.W.Frag)(T:String)(r:V→List V→Hp→VK→Prop)(to:TE)(t:TA):TE:=fun σ H Q=>to σ H fun x H1=>tyV K T x H1∧t σ H1 fun xs H2=>r x xs H2 Q
variable {o e:Expr}{es:List Expr}{to:TE}{t:TA}{name:Str}{apos cpos:Pos}{T id:String}{r:V→List V→Hp→VK→Prop}
theorem lN (pa:PlainAttrs T)(slot:Slot T name id)(hty:typeOf (.builtin id)=pure (.type "method_descriptor"))(hm:MtR X id r)(ho:PE X o to)(ha:PA X (e::es) t)
  (hbase:attributeBase o name X.env (eval o X.env)=eval o X.env:=by rfl)
  (hfew:((backTo cpos (starEach (e::es) X.env)).all (fun x => !x.1)&&(backToKw cpos (keywordEach [] X.env)).all (fun x=>x.1.isSome)
   && decide ((e::es).length+([]:List Keyword).length+(if ([]:List Keyword).isEmpty then 0 else 1)<30))=true:=by rfl)
  (hline:(apos.endLine==cpos.line)=true:=by rfl) (hs:starEach (e::es) X.env=(false,eval e X.env)::starEach es X.env:=by rfl) (hplain:(backTo cpos (starEach es X.env)).any (·.1)=false:=by rfl) :
  PE X (.Call (.Attribute o name apos) (e::es) [] cpos) (tBM X.K T r to t):=by
 intro pins s σ H Q I h;refine wpAny_Call_method_late hbase hfew hline rfl (thn (ho pins s σ H _ I h) fun v s1 ⟨x,H1,I1,r1,ty,q1⟩=>?_);obtain⟨h1,h2⟩:=aGQ I1 r1 ty;refine⟨T,id,pa,slot,hty,h1,h2,?_⟩;have hA:=ha cpos pins s1 σ H1 _ I1 q1;rw[hs] at hA ⊢;refine Calls.callWith_builtin (by show(false||(backTo cpos (starEach es X.env)).any (·.1))=false; rw[hplain]<;>rfl) (Calls.evalArgs_plain ?_);exact thn hA fun us s2 ⟨vs,H2,I2,r2,q2⟩=>hm pins s2 σ H2 x vs v us Q I2 r1 r2 q2
end
end L2
namespace L2
open PySem PySem.Spec PyProof.Rows
noncomputable def MtM (X:Cx)(id:String)(r:V→List V→Hp→VK→Prop):Prop:=
 ∀(pins:List (Addr×Obj)) (s:Shared) (σ:St) (H:Hp) (x:V) (xs:List V) (v:Value) (us:List Value) (Q:VK),Inv X pins σ H s→RelV x v→Vals xs us→r x xs H Q →
  wpAny (model X.prog X.w) X.A (call (.builtin id) (v::us)) (EP X pins σ Q) X.xe s
theorem Vals.one:∀{x:V} {us:List Value},Vals [x] us→∃ u,us=[u]∧RelV x u:=by
 intro x us h
 cases h with
 | cons r t=>cases t; exact⟨_,rfl,r⟩
theorem Vals.eraseIdx:∀{xs:List V} {us:List Value} (i:Nat),Vals xs us→Vals (xs.eraseIdx i) (us.eraseIdx i)
 | _,_,_,.nil=>.nil
 | _,_,0,.cons _ t=>t
 | _,_,i+1,.cons r t=>.cons r (Vals.eraseIdx i t)
theorem zR {α:Type}:∀(l:List α) (i:Nat),(l.eraseIdx i).length≤l.length
 | [],_=>Nat.le_refl _
 | _::_,0=>Nat.le_succ _
 | _::r,i+1=>Nat.succ_le_succ (zR r i)
section
variable {X:Cx}{pins:List (Addr×Obj)}{σ:St}{H:Hp}{s:Shared}{l b:Addr}{xs ys zs:List V}
theorem Inv.lset {its its':List Value}{n:Nat}{f:Array Value→Array Value}{t':Nat}(I:Inv X pins σ H s)(hH:H l=some (.lst xs))
  (e:s.heap.get? l=some { cls:=.type "list", data:=.seq its.toArray n }) (hf:f its.toArray=its'.toArray) (hv:Vals ys its') (hz:ys.length≤sizeLine) :
  Inv X pins σ (upd H l (.lst ys)) { s with heap:=s.heap.update l (Obj.mapSeq f),toks:=t' }:=by
 have q:=PySem.IsL.update e f;rw[hf] at q;refine I.write (x:=l) (e:=l) (by rw[hH]; exact trivial) (.inl rfl) (fun b' u hb hu=>(Heap.get?_update_other s.heap (Obj.mapSeq f) (Ne.symm hb)).trans hu) ⟨_,q⟩ ?_;exact⟨hz,its',_,hv,q⟩
theorem Inv.lnew {its:List Value}{t':Nat}(I:Inv X pins σ H s)(hv:Vals ys its)(hz:ys.length≤sizeLine) :
  Inv X pins σ (upd H s.heap.objs.size (.lst ys)) { s with heap:=s.heap.push { cls:=.type "list", data:=.seq its.toArray },toks:=t' }:=
 I.laid (fun _ _ q=>Heap.get?_push_of_some _ q) (Nat.le_refl _) ⟨hz,its,0,hv,Heap.get?_push_size _ rfl⟩
theorem Inv.fresh (I:Inv X pins σ H s):H s.heap.objs.size=none:=I.hok.fresh (Nat.le_refl _)
theorem Inv.lstM (I:Inv X pins σ H s)(hH:H l=some (.lst xs)):xs.length≤sizeLine∧∃(its:List Value) (n:Nat),Vals xs its∧xs.length=its.length∧s.heap.get? l=some { cls:=.type "list", data:=.seq its.toArray n }:=by
 obtain⟨z,its,n,r,e⟩:=I.hok l _ hH;exact⟨z,its,n,r,r.length,e⟩
end
section
variable {X:Cx}
noncomputable def a8K:V→List V→Hp→VK→Prop:=fun x vs H Q=>∃ l xs y,x=.ref l∧vs=[y]∧H l=some (.lst xs)∧xs.length<sizeLine∧Q .non (upd H l (.lst (xs++[y])))
theorem fO:MtM X "list.append" a8K:=by
 intro pins s σ H x vs v us Q I rx rv h;obtain⟨l,xs,y,rfl,rfl,hH,hz,q⟩:=h
 cases rx
 obtain⟨u,rfl,ru⟩:=rv.one;obtain⟨z,its,n,r,hl,e⟩:=I.lstM hH;refine call_meets F.slot_list_append ⟨_,e,rfl⟩ F.entry_list_append (F.args_list_append_2 _ _) (PySem.list_append l its.toArray n u (by rw[List.size_toArray]; omega)) ⟨e,?_⟩;refine⟨.non,_,I.lset (its':=its++[u]) hH e (by simp) (r.append (.cons ru .nil)) ?_,rfl,q⟩;rw[List.length_append,List.length_singleton];omega
noncomputable def aBX:V→List V→Hp→VK→Prop:=fun x vs H Q=>∃ l xs i k y,x=.ref l∧vs=[.int i]∧H l=some (.lst xs) ∧ -(2^63)≤i∧i<2^63∧seqIndex? i xs.length=some k∧xs[k]?=some y∧Q y (upd H l (.lst (xs.eraseIdx k)))
theorem aB1:MtM X "list.pop" aBX:=by
 intro pins s σ H x vs v us Q I rx rv h;obtain⟨l,xs,i,k,y,rfl,rfl,hH,h1,h2,hk,hy,q⟩:=h
 cases rx
 obtain⟨u,rfl,ru⟩:=rv.one;obtain⟨t,rfl⟩:=ru;obtain⟨z,its,n,r,hl,e⟩:=I.lstM hH;obtain⟨w,hw,rw'⟩:=r.get hy;refine call_meets F.slot_list_pop ⟨_,e,rfl⟩ F.entry_list_pop (F.args_list_pop_2 _ _)
  (MeetsSeq.list_pop_at l its.toArray n i t k w (fitsIndex_both h1 h2) (by rw[List.size_toArray,←hl]; exact hk) (by rw[← Array.getElem?_toList]; exact hw) (by rw[List.size_toArray]; omega)) ⟨e,?_⟩
 refine⟨y,_,I.lset (its':=its.eraseIdx k) hH e ?_ (r.eraseIdx k) ?_,rw',q⟩
 ·show its.toArray.eraseIdxIfInBounds k=(its.eraseIdx k).toArray;rw[List.eraseIdxIfInBounds_toArray]
 ·have:=zR xs k;omega
end
section
variable {prog:Program}{w:World}{A:Around}{E:Value→Shared→Prop}{s:Shared}
end
section
variable {X:Cx}
end
end L2
namespace Att
open PySem PySem.W PySem.Calls PyProof.Rows
theorem uW {P:Params}{h:Heap}:∀(ns:List Int) (vs:List Value),WellAll P h vs (ns.map WData.int)→IntsAre vs ns:=by
 intro ns
 induction ns with
 | nil=>
  intro vs w;rw[List.map_nil] at w
  cases w
  exact .nil
 | cons n ns ih=>
  intro vs w;rw[List.map_cons] at w
  cases w with
  | cons a b=>
   cases a
   exact .cons _ _ (ih _ b)
theorem a8Y {l:OpenLaw}{n:Nat}(hn:l.most=some n){P:Params}{h:Heap}{args:List WData}{vals:List Value}
  (hpre:l.row.toRowW.claim.pre args=true) (hwl:WellAll P h vals args) :
  ∃ a vs ns,vals=[Value.ref a]∧args=[WData.list (ns.map WData.int)]∧h.get? a=some { cls:=.type "list", data:=.seq vs.toArray }∧IntsAre vs ns∧ns.length≤n:=by
 have hsh:WShape.hasAll [] args [.list .int]=true:=(pre_splitW hpre).1;have hc:l.pre.holds [] { args:=args }=true:=(pre_splitW hpre).2;obtain⟨d,r,rfl,h1,h2⟩:=hasAllW_cons hsh;obtain rfl:=hasAllW_nil h2;obtain⟨xs,rfl,h3⟩:=hasW_list h1;obtain⟨ns,rfl⟩:=items_int h3;have hlen:ns.length≤n:=by
  unfold OpenLaw.pre at hc;have h4:(WTm.not (.lt (.lit (.int (n:Int))) (.len (.arg 0)))).holds [] { args:=[.list (ns.map .int)] }=true:=by
   have h4:=(holds_andW hc).1;rw[hn] at h4;exact h4
  have h5:=condW_of h4 (w_not (w_lt w_lit (w_len_list (w_arg rfl))));rw[List.length_map] at h5;refine Nat.le_of_not_lt fun q=>?_;have q':(n:Int)<((ns.length:Nat):Int):=by omega
  first
   | (rw[decide_eq_true q'] at h5; exact absurd h5 (by decide))
   | (simp at h5; omega)
 cases hwl with
 | cons w1 w2=>
  cases w2
  cases w1 with
  | list ho hall=>exact⟨_,_,ns,rfl,rfl,ho,uW ns _ hall,hlen⟩
theorem a8D (l:OpenLaw)(args:List WData):l.row.toRowW.claim.post args (.bool true) args=true:=
 postW_of (r:=l.row.toRowW) (X:=(true==true))
  (show WShape.has [] (.bool true) .bool=true by first|rfl|decide|simp[WShape.has,WShape.arms,WShape.armsAll])
  (show(WTm.eq .res (.lit (.bool true))).value [] { args:=args,res:=some (.bool true),after:=args }=some (.bool (true==true)) from w_eq_bool (w_res rfl) w_lit) rfl
theorem attach_call {l:OpenLaw}{n:Nat}{q:Program}{loose:List Str}{XP:(Str→Option Value)→Heap→Prop}{YP:World→Heap→Prop}{d:DefRec}
  (hn:l.most=some n) (hdf:d.params.defaults=[])
  (call:∀(w:World) (s₀ s₁:Shared) (mg mb:Str→Option Value) (fa:Addr) (o:Obj) (pm cd doc:Value) (a:Addr) (vs:List Value) (ns:List Int),
   Ground q loose [] XP w s₀ mg mb s₁.heap→YP w s₁.heap →
   s₁.heap.get? fa=some o→o.data=.func (docDef d.name d.params d.body d.scope pm cd doc)→s₁.heap.CodeRec cd d.name→mg d.name=some (.ref fa) →
   s₁.heap.get? a=some { cls:=.type "list", data:=.seq vs.toArray }→IntsAre vs ns→ns.length≤n→s₁.gens=#[] →
   codeAny (model l.prog w) callerA (.call (.ref fa) ⟨[.ref a],[]⟩) (fun r s'=>r=.ok (.ret (.bool true))∧OldK s₁.heap s'.heap∧s'.os=s₁.os∧AllBare s'.gens) s₁) :
  WalkO q loose XP YP l.row.toRowW d [] (fun f vs=>PySem.call f vs):=by
 intro w s₀ s₁ mg mb G Y fa o pm cd doc dV kV ho hd hcd hD hmg hg args vals as hpre hlay hrd hwl hlo;obtain rfl:dV=.none:=Dflts.none hD hdf;obtain rfl:kV=.none:=Dflts.noKw hD;obtain⟨a,vs,ns,rfl,rfl,hobj,hints,hlen⟩:=a8Y hn hpre hwl;refine enter_call (codeAny_mono (call w s₀ s₁ mg mb fa o pm cd doc a vs ns G Y ho (fd_plain hd) hcd hmg hobj hints hlen hg) fun r s' hq=>?_);obtain⟨rfl,h2,h3,h4⟩:=hq;exact⟨.inl ⟨.bool true,.bool true,[],rfl,fun _=>rfl,.bool true,a8D l _,fun _=>⟨List.Pairwise.nil,fun _ hm=>(nomatch hm)⟩⟩,h2,h3,h4⟩
section
variable {prog:Program}{w:World}{A:Around}{E:Value→Shared→Prop}{s:Shared}{K:Frag}
end
end Att
namespace L2
open PySem PySem.Spec PyProof.Rows
theorem a8J:∀{vs:List Value} {ns:List Int},IntsAre vs ns→Vals (ns.map V.int) vs:=by
 intro vs ns h
 induction h with
 | nil=>exact .nil
 | cons n t h ih=>exact .cons ⟨t,rfl⟩ ih
noncomputable def Only (H:Hp):Prop:=∀ b,H b=none∨∃ o xs,H b=some (.frz o (.lst xs))
theorem law_call {P:Program}{w:World}{K:PySem.W.Frag}{mg mb:Str→Option Value}{CX:CXT}{k:Nat}{fa a:Addr}{fd:FuncData}{x:Str}{sp:Sp}{s₁:Shared}{vs:List Value}{ns:List Int}
  (KX:K.In s₁.heap) (hns:s₁.heap.Ns mainGlobals mg) (hb:s₁.heap.Ns builtinsNs mb) (hbb:∀ x:Str,x ≠ "__name__" → mb x=bootBuiltins x) (hlim:s₁.heap.NoLimit) (hg:s₁.gens=#[])
  (ha:s₁.heap.get? a=some { cls:=.type "list", data:=.seq vs.toArray }) (hi:IntsAre vs ns) (hl:ns.length≤sizeLine) (hr:Room k callerA)
  (F:∀ base:Heap,K.In base→base.Ns mainGlobals mg→FnOk P w K mg base CX k fa fd [x] sp) (hbind:∀(s:Shared) (u:Value),BindsTo s fd ⟨[u],[]⟩ [(x,u)])
  (hsp:∀ H:Hp,Only H→SqL K H a (ns.map V.int)→sp [.ref a] H (fun v _=>v=.bl true) fun _ _ _=>False)
  (hCX:∀ H e s',CX [] H s₁ (fun _ _ _=>False) e s'→False) :
  codeAny (model P w) callerA (.call (.ref fa) ⟨[.ref a],[]⟩) (fun r s'=>r=.ok (.ret (.bool true))∧OldK s₁.heap s'.heap∧s'.os=s₁.os∧AllBare s'.gens) s₁:=by
 have rv:=a8J hi;have lenV:=hi.length;have core:∀ H:Hp,Only H→SqL K H a (ns.map V.int)→HOk P w H s₁.heap→(∀ b,H b≠none→b=a)→(H a≠none→K.lookup a=none) →
   codeAny (model P w) callerA (.call (.ref fa) ⟨[.ref a],[]⟩) (fun r s'=>r=.ok (.ret (.bool true))∧OldK s₁.heap s'.heap∧s'.os=s₁.os∧AllBare s'.gens) s₁:=by
  intro H hO hS hok hA hK;have base_of:∀{b:Addr} {o:Obj},s₁.heap.get? b=some o→H b=none→(a9L s₁.heap H).get? b=some o:=fun e n=>a9Z e n;have noA:∀{b:Addr} {o:Obj} {es:Array DictEntry} {ep:Nat},s₁.heap.get? b=some o→o.data=.dict es ep→H b=none:=fun{b o es ep} e d=>by
   cases q:H b with
   | none=>rfl
   | some u=>
    have e':b=a:=hA b (by rw[q]; simp);subst e';rw[ha] at e; cases e;have d':Data.seq vs.toArray _=Data.dict es ep:=d
    cases d'
  have nsK:∀{b:Addr} {m:Str→Option Value},s₁.heap.Ns b m→(a9L s₁.heap H).Ns b m:=fun{b m} ⟨o,es,ep,e,d,r⟩=>⟨o,es,ep,base_of e (noA e d),d,r⟩;have hKb:K.In (a9L s₁.heap H):=fun b o e=>base_of (KX b o e) (by
   cases q:H b with
   | none=>rfl
   | some u=>
    have e':b=a:=hA b (by rw[q]; simp);subst e';rw[hK (by rw[q]; simp)] at e; cases e)
  have hM:Mod K mg (a9L s₁.heap H):=⟨hKb,nsK hns,⟨mb,nsK hb,hbb⟩,let ⟨mc,h1,h2⟩:=hlim; ⟨mc,nsK h1,h2⟩⟩;have e0:Env0 P w K mg (a9L s₁.heap H) callerA [] s₁ H:=⟨rfl,hM,fun b o e=>aCN e,Nat.le_of_eq (a85 _ _),trivial,fun b hb=>absurd (show b∈([]:List Addr) from hb) (by simp),hok,.of_eq hg⟩;refine codeAny_mono ((F _ hKb (nsK hns)).run callerA [] s₁ H ⟨[.ref a],[]⟩ [.ref a] [.ref a] _ _ hr e0 (hbind s₁ (.ref a)) (.cons rfl .nil) (hsp H hO hS)) fun r s' h=>?_
  cases r with
  | error e=>exact(hCX H e s' h).elim
  | ok fl=>
   cases fl with
   | next=>exact False.elim h
   | brk=>exact False.elim h
   | cont=>exact False.elim h
   | ret u=>
    obtain⟨v,H',os,bare,un,hok',r',q⟩:=h;have q':v=.bl true:=q;subst q';obtain rfl:u=Value.bool true:=r';refine⟨rfl,OldK.of_keep fun b o e=>?_,os,bare⟩
    cases q:H b with
    | none=>exact un.keep b o e q (by intro z; exact absurd (show b∈([]:List Addr) from z) (by simp)) (by simp)
    | some u=>
     rcases hO b with z|⟨ob,xs,z⟩
     ·rw[q] at z; cases z
     ·have z2:=un.frzs b ob _ z;obtain⟨e1,_⟩:=hok b _ z;obtain⟨e2,_⟩:=hok' b _ z2;rw[e] at e1; cases e1;exact e2
 cases hk:K.lookup a with
 | some o=>
  have e:=KX a o hk;rw[ha] at e
  cases e
  refine core (fun _=>none) (fun _=>.inl rfl) (.inr ⟨_,vs.toArray,_,hk,rfl,rfl,rfl,by rw[List.size_toArray,lenV]; exact hl,by simpa using rv⟩) (fun b u z=>by have z':(none:Option HO)=some u:=z; cases z') (fun b z=>absurd rfl z) fun z=>absurd rfl z
 | none=>
  refine core (fun b=>if b=a then some (.frz { cls:=.type "list", data:=.seq vs.toArray } (.lst (ns.map V.int))) else none) (fun b=>?_) (.inl (.inr ⟨{ cls:=.type "list", data:=.seq vs.toArray },if_pos rfl⟩)) (fun b u z=>?_) (fun b z=>?_) fun _=>hk
  ·by_cases hb:b=a
   ·exact .inr ⟨_,_,if_pos hb⟩
   ·exact .inl (if_neg hb)
  ·by_cases hb:b=a
   ·have z':=(if_pos hb).symm.trans z
    cases z'
    subst hb;exact⟨ha,by rw[List.length_map]; exact hl,vs,_,rv,ha⟩
   ·have z':=(if_neg hb).symm.trans z
    cases z'
  ·by_cases hb:b=a
   ·exact hb
   ·exact absurd (if_neg hb) z
end L2
namespace L2
open PySem PySem.Spec PyProof.Rows
theorem aDW {l:PySem.W.OpenLaw}{n k:Nat}{q:Program}{loose:List Str}{XP:(Str→Option Value)→Heap→Prop}{YP:World→Heap→Prop}{d:DefRec}{K:Params→PySem.W.Frag}{CX:World→CXT}{sp:World→Sp}{x:Str}
  (hn:l.most=some n) (hn2:n≤sizeLine) (hdf:d.params.defaults=[]) (hr:Room k callerA)
  (hY:∀(w:World) (h:Heap),YP w h→(K w.params).In h)
  (F:∀(w:World) (mg:Str→Option Value) (fa:Addr) (h:Heap),(K w.params).In h→h.Ns mainGlobals mg→mg d.name=some (.ref fa) →
   ∃ fd:FuncData,(∀(s:Shared) (u:Value),BindsTo s fd ⟨[u],[]⟩ [(x,u)]) ∧
    ∀ base:Heap,(K w.params).In base→base.Ns mainGlobals mg→FnOk l.prog w (K w.params) mg base (CX w) k fa fd [x] (sp w))
  (hsp:∀(w:World) (H:Hp) (a:Addr) (ns:List Int),ns.length≤n→Only H→SqL (K w.params) H a (ns.map V.int)→sp w [.ref a] H (fun v _=>v=.bl true) fun _ _ _=>False)
  (hCX:∀(w:World) (H:Hp) (s:Shared) (e:Value) (s':Shared),CX w [] H s (fun _ _ _=>False) e s'→False) :
  PySem.W.WalkO q loose XP YP l.row.toRowW d [] (fun f vs=>PySem.call f vs):=by
 refine Att.attach_call hn hdf fun w s₀ s₁ mg mb fa o pm cd doc a vs ns G Y ho hd hcd hmg hobj hints hlen hg=>?_;have KX:=hY w _ Y;obtain⟨fd,hb,hF⟩:=F w mg fa _ KX G.T.g hmg;exact law_call KX G.T.g G.T.b G.T.builtins G.T.nolimit hg hobj hints (Nat.le_trans hlen hn2) hr hF hb (fun H hO hS=>hsp w H a ns hlen hO hS) fun H e s'=>hCX w H s₁ e s'
end L2
namespace L2
open PySem PySem.Spec PyProof.Rows
noncomputable def inClass (s:Stmt)(j:Nat):Stmt:=match s with
 | .ClassDef _ _ _ body _ _ _ _ _ _ _=>body.getD j (.Pass ⟨0,0,0,0⟩)
 | _=>.Pass ⟨0,0,0,0⟩
noncomputable def oO (s:Stmt):Arguments:=match s with
 | .FunctionDef _ a _ _ _ _ _ _ _ _=>a
 | _=>{ posonlyargs:=[],args:=[],vararg:=none,kwonlyargs:=[],kw_defaults:=[],kwarg:=none,defaults:=[] }
noncomputable def jH (s:Stmt):List Stmt:=match s with
 | .FunctionDef _ _ b _ _ _ _ _ _ _=>b
 | _=>[]
noncomputable def aL (s:Stmt):Scope:=match s with
 | .FunctionDef _ _ _ _ _ _ sc _ _ _=>sc
 | _=>{ kind:=.function,names:=[],isGenerator:=false,isCoroutine:=false }
abbrev CX0:CXT:=fun _ _ _ _ _ _=>False
abbrev E0:XK:=fun _ _ _=>False
theorem a7G {X:Cx}:wN CX0 X E0:=fun _ _ _ _ _ _ _ h=>h.elim
structure Fun (K:PySem.W.Frag)(x qual:Str)(st:Stmt)(f:Addr)(fd:FuncData):Prop where
 ex:∃(oc:Value) (od:Option Addr) (kV doc pm:Value) (an:Option Addr) (cdv ct:Value) (osl:Array (Option Value)),
  fd=PySem.W.fnOf x qual (oO st) (jH st) (aL st) .none kV doc pm an cdv ct∧K.lookup f=some ⟨oc,od,.func fd,osl⟩∧PySem.W.codeIn K cdv qual=true
 kp:PySem.W.keepIn K (.ref f)=true
section
variable {P:Program}{w:World}{K:PySem.W.Frag}{mg:Str→Option Value}{base:Heap}
theorem Fun.ok {x qual:Str}{st:Stmt}{f:Addr}{fd:FuncData}{N ps:List Str}{k:Nat}{sp:Sp}(F:Fun K x qual st f fd)(S:FnScope N ps (aL st))(len:∀ vs H Q E,sp vs H Q E→vs.length=ps.length)
  (hbody:∀(cdv:Value) (A:Around) (outer:List Env) (s:Shared) (H:Hp) (vs:List V) (Q:VK) (E:XK),Room k (A.deeper (envOfC qual (aL st) s.heap.objs.size f cdv))→sp vs H Q E →
   ∃ t,PSs (aBQ CX0 P w K mg base N qual (aL st) f cdv A outer s H E).nox (jH st) t∧t { nx:=fun _ H'=>Q .non H',rt:=Q } (start N vs) H):FnOk P w K mg base CX0 (k+1) f fd ps sp:=by
 obtain⟨oc,od,kV,doc,pm,an,cdv,ct,osl,rfl,lk,hcd⟩:=F.ex;refine aLA lk hcd S len fun A outer s H vs Q E hr hsp=>?_;obtain⟨t,h,q⟩:=hbody cdv A outer s H vs Q E hr hsp;exact⟨t,h.nox,q⟩
theorem Fun.binds {x qual:Str}{st:Stmt}{f:Addr}{fd:FuncData}{ps:List Str}(F:Fun K x qual st f fd)
  (h:∀(kV doc pm:Value) (an:Option Addr) (cdv ct:Value) (us:List Value),us.length=ps.length→bindArgs (PySem.W.fnOf x qual (oO st) (jH st) (aL st) .none kV doc pm an cdv ct) ⟨us,[]⟩=pure (ps.zip us)):Binds K fd ps []:=by
 obtain⟨oc,od,kV,doc,pm,an,cdv,ct,osl,rfl,lk,hcd⟩:=F.ex;exact .all (h kV doc pm an cdv ct)
theorem a91 {x qual:Str}{st:Stmt}{f:Addr}{oc:Value}{od an:Option Addr}{osl:Array (Option Value)}{kV doc pm cdv ct:Value}(l:K.lookup f=some ⟨oc,od,.func (PySem.W.fnOf x qual (oO st) (jH st) (aL st) .none kV doc pm an cdv ct),osl⟩)
  (c:PySem.W.codeIn K cdv qual=true) (k:PySem.W.keepIn K (.ref f)=true):Fun K x qual st f (PySem.W.fnOf x qual (oO st) (jH st) (aL st) .none kV doc pm an cdv ct):=⟨⟨oc,od,kV,doc,pm,an,cdv,ct,osl,rfl,l,c⟩,k⟩
end
theorem a0H {n:Nat}(h:n≤1000):n<sizeLine:=Nat.lt_of_le_of_lt h (by decide)
section
variable {X:Cx}
theorem pv (i:Nat){x:Str}{pos:Pos}(hN:X.N[i]?=some x:=by rfl)(hv:Vis X.env.scope x:=by first|exact Or.inl rfl|exact Or.inr (Or.inl rfl)|exact Or.inr (Or.inr rfl))(hd:(x==("__debug__" : Str))=false:=by decide)
  (hcd:(x==("__classdict__" : Str))=false:=by decide):PE X (.Name x pos) (v5 i):=aGZ hN hv hd hcd
end
theorem a0Q {A B:Prop}(h:B):if false=true then A else B:=by
 rw[if_neg Bool.false_ne_true];exact h
theorem a1F {A B:Prop}(h:A):if true=true then A else B:=by
 rw[if_pos rfl];exact h
theorem aL3 {c A B:Prop}[Decidable c](hc:c)(h:B):if (!decide c)=true then A else B:=by
 rw[decide_eq_true hc];exact a0Q h
noncomputable def Same (H H':Hp):Prop:=∀ b o,H b=some o→H' b=some o
theorem Same.refl (H:Hp):Same H H:=fun _ _ h=>h
theorem Same.trans {H H1 H2:Hp}(a:Same H H1)(b:Same H1 H2):Same H H2:=fun c o h=>b c o (a c o h)
theorem Same.free {H H':Hp}(e:Same H H'){l:Addr}(h:H' l=Option.none):H l=Option.none:=by
 cases q:H l with
 | none=>rfl
 | some o=>
  rw[e l o q] at h
  cases h
theorem Same.seq {K:PySem.W.Frag}{H H':Hp}{a:Addr}{xs:List V}(e:Same H H')(h:SqL K H a xs):SqL K H' a xs:=by
 rcases h with(h|⟨o,h⟩)|h
 ·exact .inl (.inl (e _ _ h))
 ·exact .inl (.inr ⟨o,e _ _ h⟩)
 ·exact .inr h
end L2
set_option maxHeartbeats 4000000
namespace LT
theorem lK (a:Rat):(a.den:Int)≠0:=by have:=a.den_nz; omega
theorem den_pos (a:Rat):(0:Int)<a.den:=by have:=a.den_nz; omega
theorem a4I (a b:Rat):Rat.divInt (a.num*b.den+b.num*a.den) (a.den*b.den)=a+b:=by
 rw[← Rat.divInt_add_divInt _ _ (lK a) (lK b),Rat.num_divInt_den,Rat.num_divInt_den]
theorem aGL (a b:Rat):Rat.divInt (a.num*b.den-b.num*a.den) (a.den*b.den)=a-b:=by
 rw[Rat.sub_eq_add_neg,←a4I a (-b),Rat.neg_num,Rat.neg_den,Int.neg_mul,Int.sub_eq_add_neg]
theorem aBF (a b:Rat):Rat.divInt (a.num*b.num) (a.den*b.den)=a*b:=by
 rw[← Rat.divInt_mul_divInt,Rat.num_divInt_den,Rat.num_divInt_den]
theorem aKM (a b:Rat):decide (a.num*b.den<b.num*a.den)=decide (a<b):=by
 rw[decide_eq_decide,Rat.lt_iff]
theorem fd (t:Int)(g:Nat):t.fdiv (g:Int)=t/(g:Int):=Int.fdiv_eq_ediv_of_nonneg t (by omega)
theorem nG {t b:Int}(h:0<b):t.fdiv (Int.gcd t b:Nat)=(Rat.divInt t b).num∧b.fdiv (Int.gcd t b:Nat)=((Rat.divInt t b).den:Int):=by
 rw[Rat.num_divInt,Rat.den_divInt,fd,fd,if_neg (by omega),Int.sign_eq_one_of_pos h,Int.one_mul,Int.gcd_comm b t];refine⟨rfl,?_⟩;obtain⟨n,rfl⟩:∃ n:Nat,b=(n:Int):=⟨b.toNat,by omega⟩;rw[← Int.natCast_ediv,Int.natAbs_natCast]
theorem a9P {t b:Int}(h:b<0):t.fdiv (-(Int.gcd t b:Nat))=(Rat.divInt t b).num∧b.fdiv (-(Int.gcd t b:Nat))=((Rat.divInt t b).den:Int):=by
 have h1:=nG (t := -t) (b := -b) (by omega);have e:Rat.divInt (-t) (-b)=Rat.divInt t b:=by
  have:=Rat.divInt_mul_right (n:=t) (d:=b) (a := -1) (by decide);rw[← this]; congr 1<;>omega
 rw[e,Int.gcd_neg,Int.neg_gcd] at h1;rw[← h1.1,←h1.2];constructor
 ·rw[← Int.neg_neg t,Int.neg_fdiv_neg]; simp
 ·rw[← Int.neg_neg b,Int.neg_fdiv_neg]; simp
theorem a4K {d r:Int}(hd:0≤d)(h:0<r):Int.gcd r (d%r)=Int.gcd d r:=by
 obtain⟨m,rfl⟩:∃ n:Nat,d=(n:Int):=⟨d.toNat,by omega⟩;obtain⟨n,rfl⟩:∃ n:Nat,r=(n:Int):=⟨r.toNat,by omega⟩;rw[← Int.natCast_emod];show Nat.gcd n (m%n)=Nat.gcd m n;rw[Nat.gcd_comm n,←Nat.gcd_rec,Nat.gcd_comm]
theorem a6W {d:Int}(h:0≤d):(Int.gcd d 0:Int)=d:=by
 rw[Int.gcd_zero_right]; omega
theorem a3G (i:Int):0≤(if i<0 then -i else i):=by split<;>omega
theorem a8N (i j:Int):Int.gcd (if i<0 then -i else i) (if j<0 then -j else j)=Int.gcd i j:=by
 split<;>split<;>simp only[Int.gcd_neg,Int.neg_gcd]
noncomputable def Bt (k:Nat)(i:Int):Prop:=i.natAbs<2^k
noncomputable def Sz (k:Nat)(q:Rat):Prop:=Bt k q.num∧Bt k q.den
theorem Bt.mono {k m:Nat}{i:Int}(h:Bt k i)(l:k≤m):Bt m i:=Nat.lt_of_lt_of_le h (Nat.pow_le_pow_right (by decide) l)
theorem Sz.mono {k m:Nat}{q:Rat}(h:Sz k q)(l:k≤m):Sz m q:=⟨h.1.mono l,h.2.mono l⟩
theorem Bt.mul {k m:Nat}{i j:Int}(h:Bt k i)(g:Bt m j):Bt (k+m) (i*j):=by
 unfold Bt at *; rw[Int.natAbs_mul,Nat.pow_add];exact Nat.mul_lt_mul'' h g
theorem Bt.add {k:Nat}{i j:Int}(h:Bt k i)(g:Bt k j):Bt (k+1) (i+j):=by
 unfold Bt at *; have:=Int.natAbs_add_le i j; rw[Nat.pow_succ]; omega
theorem Bt.neg {k:Nat}{i:Int}(h:Bt k i):Bt k (-i):=by unfold Bt at *; omega
theorem Bt.ediv {k:Nat}{i:Int}(h:Bt k i)(g:Nat):Bt k (i/(g:Int)):=by
 unfold Bt at *;exact Nat.lt_of_le_of_lt (by exact Int.natAbs_ediv_le_natAbs _ _) h
theorem Sz.divInt {k:Nat}{t b:Int}(h:Bt k t)(g:Bt k b)(h0:b≠0):Sz k (Rat.divInt t b):=by
 rcases Int.lt_or_gt_of_ne h0 with hb|hb
 ·have e:Rat.divInt (-t) (-b)=Rat.divInt t b:=by
   have:=Rat.divInt_mul_right (n:=t) (d:=b) (a := -1) (by decide);rw[← this]; congr 1<;>omega
  rw[← e];have n:=nG (t := -t) (b := -b) (by omega);rw[fd,fd] at n;exact⟨by rw[← n.1]; exact h.neg.ediv _,by rw[← n.2]; exact g.neg.ediv _⟩
 ·have n:=nG (t:=t) (b:=b) hb;rw[fd,fd] at n;exact⟨by rw[← n.1]; exact h.ediv _,by rw[← n.2]; exact g.ediv _⟩
theorem Sz.add {k m:Nat}{a b:Rat}(h:Sz k a)(g:Sz m b):Sz (k+m+1) (a+b):=by
 rw[← a4I];refine Sz.divInt (Bt.add (h.1.mul g.2) ?_) ((h.2.mul g.2).mono (by omega)) (Int.mul_ne_zero (lK a) (lK b));exact(g.1.mul h.2).mono (by omega)
theorem Sz.mul {k m:Nat}{a b:Rat}(h:Sz k a)(g:Sz m b):Sz (k+m) (a*b):=by
 rw[← aBF];exact Sz.divInt (h.1.mul g.1) (h.2.mul g.2) (Int.mul_ne_zero (lK a) (lK b))
end LT
namespace LT
theorem dI {t b:Int}{q:Rat}(hb:b≠0)(h:(t:Rat)=q*(b:Rat)):Rat.divInt t b=q:=by
 have h0:(b:Rat)≠0:=fun e=>hb (by exact_mod_cast e);rw[Rat.divInt_eq_div,h];grind
end LT
namespace LT
end LT
namespace L2
open PySem PySem.Spec PyProof.Rows
mutual
inductive Dt (H:Hp):V→PyData→Prop
 | non:Dt H .non .none
 | bl (b:Bool):Dt H (.bl b) (.bool b)
 | int (i:Int):Dt H (.int i) (.int i)
 | str (x:Str):Dt H (.str x) (.str x)
 | tup {p:Addr} {xs:List V} {ds:List PyData}:H p=some (.tup xs)→Dts H xs ds→Dt H (.ref p) (.tuple ds)
 | lst {p:Addr} {xs:List V} {ds:List PyData}:H p=some (.lst xs)→Dts H xs ds→Dt H (.ref p) (.list ds)
 | dic {p:Addr} {kvs:List (Key×V)} {kds:List (PyData×PyData)}:Rd H p (.dK kvs)→Dtk H kvs kds→Dt H (.ref p) (.dict kds)
inductive Dts (H:Hp):List V→List PyData→Prop
 | nil:Dts H [] []
 | cons {x:V} {xs:List V} {d:PyData} {ds:List PyData}:Dt H x d→Dts H xs ds→Dts H (x::xs) (d::ds)
inductive Dtk (H:Hp):List (Key×V)→List (PyData×PyData)→Prop
 | nil:Dtk H [] []
 | cons {n:Int} {x:V} {d:PyData} {kvs:List (Key×V)} {kds:List (PyData×PyData)}:Dt H x d→Dtk H kvs kds→Dtk H ((Sum.inl n,x)::kvs) ((.int n,d)::kds)
end
mutual
theorem Dt.reads {P:Program}{w:World}{H:Hp}{h:Heap}(ok:HOk P w H h):∀(d:PyData) (x:V) (v:Value),Dt H x d→RelV x v→∃ as,Reads h v d as
 | .none,_,_,e,r=>by cases e; cases r; exact⟨_,.none⟩
 | .bool _,_,_,e,r=>by cases e; cases r; exact⟨_,.bool _⟩
 | .int _,_,_,e,r=>by cases e; obtain⟨t,rfl⟩:=r; exact⟨_,.int _ _⟩
 | .str _,_,_,e,r=>by cases e; obtain⟨t,rfl⟩:=r; exact⟨_,.str _ _⟩
 | .list ds,_,_,e,r=>by
  cases e with
  | @lst p xs _ hp rs=>
   cases r
   obtain⟨_,its,n,r',hg⟩:=(show ObjOk P w H h p (.lst xs) from ok p _ hp);obtain⟨as,q⟩:=Dts.reads ok ds xs its rs r';exact⟨_,.list hg rfl rfl (by simpa using q)⟩
 | .tuple ds,_,_,e,r=>by
  cases e with
  | @tup p xs _ hp rs=>
   cases r
   obtain⟨_,its,r',o,h1,h2,n,h3⟩:=(show ObjOk P w H h p (.tup xs) from ok p _ hp);obtain⟨as,q⟩:=Dts.reads ok ds xs its rs r';exact⟨_,.tuple h1 h2 h3 (by simpa using q)⟩
 | .dict kds,_,_,e,r=>by
  cases e with
  | @dic p kvs _ hp rs=>
   cases r
   obtain⟨_,_,vs,kv,o,es,ep,h1,h2,h3,_,h4,_⟩:=(show ObjOk P w H h p (.dK kvs) from hp.ok ok);obtain⟨as,bs,q1,q2⟩:=Dtk.reads ok kds kvs vs es.toList rs kv h4;exact⟨_,.dict h1 h2.1 h3 q1 q2⟩
theorem Dts.reads {P:Program}{w:World}{H:Hp}{h:Heap}(ok:HOk P w H h):∀(ds:List PyData) (xs:List V) (vs:List Value),Dts H xs ds→Vals xs vs→∃ as,ReadsAll h vs ds as
 | [],_,_,e,r=>by cases e; cases r; exact⟨_,.nil⟩
 | d::ds,_,_,e,r=>by
  cases e with
  | cons e1 e2=>
   cases r with
   | cons r1 r2=>
    obtain⟨as,q1⟩:=Dt.reads ok d _ _ e1 r1;obtain⟨bs,q2⟩:=Dts.reads ok ds _ _ e2 r2;exact⟨_,.cons q1 q2⟩
theorem Dtk.reads {P:Program}{w:World}{H:Hp}{h:Heap}(ok:HOk P w H h):∀(kds:List (PyData×PyData)) (kvs:List (Key×V)) (vs:List (Key×Value)) (es:List DictEntry),Dtk H kvs kds→KV kvs vs→Pairs (cM P w) es vs →
  ∃ as bs,ReadsAll h (es.map (·.key)) (kds.map (·.1)) as∧ReadsAll h (es.map (·.val)) (kds.map (·.2)) bs
 | [],_,_,_,e,r,z=>by cases e; cases r; cases z; exact⟨_,_,.nil,.nil⟩
 | (k,d)::kds,_,_,_,e,r,z=>by
  cases e with
  | @cons n _ _ _ _ e1 e2=>
   cases r with
   | cons r1 r2=>
    cases z with
    | @cons en kv _ _ z1 z2 z3=>
     obtain⟨k1,rv⟩:=r1;obtain⟨as,q1⟩:=Dt.reads ok d _ _ e1 rv;obtain⟨as2,bs2,q3,q4⟩:=Dtk.reads ok kds _ _ _ e2 r2 z3;have kr:∃ cs,Reads h en.key (.int n) cs:=by
      rcases cJ ((a4L P w _ _).symm.trans z1) with⟨i,t,a,b⟩|⟨_,_,a,_⟩
      ·rw[← k1] at a
       cases a
       rw[b];exact⟨_,.int _ _⟩
      ·rw[← k1] at a
       cases a
     obtain⟨cs,kr⟩:=kr;exact⟨_,_,.cons kr q3,.cons (z2▸q1:Reads h en.val d as) q4⟩
end
theorem Rd.same {H H':Hp}(g:Same H H'){a:Addr}{u:HO}(r:Rd H a u):Rd H' a u:=r.elim (fun e=>.inl (g _ _ e)) fun⟨o,e⟩=>.inr ⟨o,g _ _ e⟩
mutual
theorem Dt.same {H H':Hp}(g:Same H H'):∀(d:PyData) (x:V),Dt H x d→Dt H' x d
 | .none,_,e=>by cases e; exact .non
 | .bool _,_,e=>by cases e; exact .bl _
 | .int _,_,e=>by cases e; exact .int _
 | .str _,_,e=>by cases e; exact .str _
 | .list ds,_,e=>by
  cases e with
  | lst hp rs=>exact .lst (g _ _ hp) (Dts.same g ds _ rs)
 | .tuple ds,_,e=>by
  cases e with
  | tup hp rs=>exact .tup (g _ _ hp) (Dts.same g ds _ rs)
 | .dict kds,_,e=>by
  cases e with
  | dic hp rs=>exact .dic (hp.same g) (Dtk.same g kds _ rs)
theorem Dts.same {H H':Hp}(g:Same H H'):∀(ds:List PyData) (xs:List V),Dts H xs ds→Dts H' xs ds
 | [],_,e=>by cases e; exact .nil
 | d::ds,_,e=>by
  cases e with
  | cons e1 e2=>exact .cons (Dt.same g d _ e1) (Dts.same g ds _ e2)
theorem Dtk.same {H H':Hp}(g:Same H H'):∀(kds:List (PyData×PyData)) (kvs:List (Key×V)),Dtk H kvs kds→Dtk H' kvs kds
 | [],_,e=>by cases e; exact .nil
 | (_,d)::kds,_,e=>by
  cases e with
  | cons e1 e2=>exact .cons (Dt.same g d _ e1) (Dtk.same g kds _ e2)
end
noncomputable def SameX (x:Addr)(H H':Hp):Prop:=∀ b o,b≠x→H b=some o→H' b=some o
theorem SameX.refl (x:Addr)(H:Hp):SameX x H H:=fun _ _ _ e=>e
theorem SameX.trans {x:Addr}{H H1 H2:Hp}(a:SameX x H H1)(b:SameX x H1 H2):SameX x H H2:=fun c o n e=>b c o n (a c o n e)
theorem gB {H:Hp}{p:Addr}(h:H p=none)(o:HO):Same H (upd H p o):=fun b u q=>by rw[aZ (bJ q h)]; exact q
theorem fL {H:Hp}{p:Addr}(o:HO):SameX p H (upd H p o):=fun b u n q=>by rw[aZ n]; exact q
structure Good (d:PyData):Prop where
 lay:d.canLay0=true
 dep:d.depth≤60
section
variable {X:Cx}
theorem aI3 {u a b:Nat}(h:u+64<cLine)(ha:a≤60):u+min a b<cLine:=by
 have:min a b≤a:=Nat.min_le_left _ _;omega
noncomputable def aM7:R2:=fun x y H Q=>∃ dx dy,Dt H x dx∧Dt H y dy∧Good dx∧Good dy∧Q (.bl (PyData.eqv dx dy)) H
noncomputable def aLT:R2:=fun x y H Q=>∃ dx dy,Dt H x dx∧Dt H y dy∧Good dx∧Good dy∧Q (.bl (!PyData.eqv dx dy)) H
theorem cF (hu:X.A.units+64<cLine):OpR X (compareOp .Eq) aM7:=by
 intro pins s σ H x y v u Q I rx ry h;obtain⟨dx,dy,ex,ey,gx,gy,q⟩:=h;obtain⟨as,r1⟩:=Dt.reads I.hok dx x v ex rx;obtain⟨bs,r2⟩:=Dt.reads I.hok dy y u ey ry;exact SeqAt.compareEq_reads r1 r2 gx.lay gy.lay (aI3 hu gx.dep) ⟨.bl _,H,I,rfl,q⟩
theorem fC (hu:X.A.units+64<cLine):OpR X (compareOp .NotEq) aLT:=by
 intro pins s σ H x y v u Q I rx ry h;obtain⟨dx,dy,ex,ey,gx,gy,q⟩:=h;obtain⟨as,r1⟩:=Dt.reads I.hok dx x v ex rx;obtain⟨bs,r2⟩:=Dt.reads I.hok dy y u ey ry;exact SeqAt.compareNe_reads r1 r2 gx.lay gy.lay (aI3 hu gx.dep) ⟨.bl _,H,I,rfl,q⟩
theorem fH:OpR X (binaryOp .Mult) (rI IntMulOk fun i j=>.int (i*j)):=opI fun _ _ _ _ _ _ _ hc q=>mul_int q hc
noncomputable def aBC (_ j:Int):Prop:=j≠0∧LT.Bt 9000 j
theorem aMG {i j:Int}(h:aBC i j):Builtin.divisionGoesByPylong i j=false:=by
 refine PyProof.noPylong_of_log2 ((Nat.log2_lt ?_).mpr h.2);have:=h.1;omega
theorem pF:OpR X (binaryOp .FloorDiv) (rI aBC fun i j=>.int (i.fdiv j)):=opI fun _ _ _ _ _ _ _ hc q=>floordiv_int hc.1 q (.inl (aMG hc))
theorem bits_le {k:Nat}{i:Int}(h:LT.Bt k i):Builtin.Int.intBits i≤k:=by
 unfold Builtin.Int.intBits
 split
 ·exact Nat.zero_le _
 ·rename_i h0
  have:i.natAbs≠0:=by
   intro e;exact h0 (by simpa using e)
  exact(Nat.log2_lt this).mpr h
theorem aKK {k m:Nat}{i j:Int}(h:LT.Bt k i)(g:LT.Bt m j)(hk:k≤1048576:=by decide)(hm:m≤1048576:=by decide):IntMulOk i j:=
 IntMulOk.of_bits (Nat.le_trans (bits_le h) hk) (Nat.le_trans (bits_le g) hm)
theorem a97 {a b v:Int}{j j':Nat}{p p' pos:Pos}(h:a^b.toNat=v)(hc:aLU a b):PE X (.BinOp (.Constant (.int a) j p) .Pow (.Constant (.int b) j' p') pos) (tC (.int v)):=by
 intro pins s σ H Q I hq;subst h;exact cA aGV aD aD pins s σ H Q I ⟨_,_,rfl,rfl,hc,hq⟩
theorem aA3 {x c y:Int}(h:0<c)(h2:c<2^64):CMul (x%c) y:=by
 have h3:=Int.emod_nonneg x (b:=c) (by omega);have h4:=Int.emod_lt_of_pos x h;exact .inl ⟨by omega,by omega⟩
noncomputable def aMV:V→Option Value
 | .ty n=>some (.type n)
 | .ref a=>some (.ref a)
 | _=>none
noncomputable def aLL (K:PySem.W.Frag):List V→Hp→VK→Prop:=fun xs H Q=>∃ x c cv t b,xs=[x,c]∧aMV c=some cv∧TyOf K H x t∧PySem.W.kitOne K t cv=some b∧Q (.bl b) H
theorem bF:rF X (.builtin "isinstance") (aLL X.K):=by
 intro pins s σ H xs us Q I r h;obtain⟨x,c,cv,t,b,rfl,ec,ty,e,q⟩:=h;obtain⟨u,v,rfl,rx,rc⟩:=vals2 r;have ev:v=cv:=by
  cases c<;>first
   | (cases ec; exact rc)
   | cases ec
 subst ev;exact a9E I rx ty e fun tk=>⟨.bl b,H,I.tok tk,rfl,q⟩
structure Cal (P:Program)(w:World)(K:PySem.W.Frag)(mg:Str→Option Value)(base:Heap)(k:Nat)(x:Str)(ps:List Str)(sp:Sp):Prop where
 ex:∃(f:Addr) (fd:FuncData),FnOk P w K mg base CX0 k f fd ps sp∧mg x=some (.ref f)∧PySem.W.keepIn K (.ref f)=true∧Binds K fd ps []
variable {j k:Nat}{x:Str}{ps:List Str}{sp:Sp}{e:Expr}{es:List Expr}{t:TA}{p pos:Pos}
theorem aK (c:Cal X.prog X.w X.K X.mg X.base j x ps sp)(hr:Room k X.A)(hg:Gl X x)(ha:PA X (e::es) t)(hjk:j≤k:=by decide)
  (hdb:(x==("__debug__" : Str))=false:=by decide) (he:starEach (e::es) X.env=(false,eval e X.env)::starEach es X.env:=by rfl) (hpl:(backTo pos (starEach es X.env)).any (·.1)=false:=by rfl) :
  PE X (.Call (.Name x p) (e::es) [] pos) (aE7 sp [] E0 t):=by
 obtain⟨f,fd,F,hm,hk,hb⟩:=c.ex;exact aE2 F (hr.mono hjk) hg hm hk hb .nil a7G ha hdb he hpl
end
structure Bl (K:PySem.W.Frag)(mg:Str→Option Value):Prop where
 len_:mg "len" = none
 abs_:mg "abs" = none
 range_:mg "range" = none
 isinstance_:mg "isinstance" = none
 int_:mg "int" = none
 bool_:mg "bool" = none
 tuple_:mg "tuple" = none
 max_:mg "max" = none
 min_:mg "min" = none
 list_:mg "list" = none
 all_:mg "all" = none
 any_:mg "any" = none
 sorted_:mg "sorted" = none
 zip_:mg "zip" = none
 set_:mg "set" = none
 sum_:mg "sum" = none
 str_:mg "str" = none
 enumerate_:mg "enumerate" = none
 kib:PySem.W.kitOne K (.type "int") (.type "bool")=some false
 kbi:PySem.W.kitOne K (.type "bool") (.type "int")=some true
theorem aB3 (K:PySem.W.Frag)(t:Value):PySem.W.kitOne K t t=some true:=by
 unfold PySem.W.kitOne;rw[if_pos (beq_self_eq_true t)]
end L2
namespace L2
open PySem PySem.Spec PyProof.Rows LT
theorem aKV {c A B:Prop}[Decidable c](h:c)(a:A):if decide c=true then A else B:=by rw[decide_eq_true h]; exact a1F a
theorem aCM {c A B:Prop}[Decidable c](h:¬c)(b:B):if decide c=true then A else B:=by rw[decide_eq_false h]; exact a0Q b
theorem aLC {c A B:Prop}[Decidable c](h:¬c)(a:A):if (!decide c)=true then A else B:=by rw[decide_eq_false h]; exact a1F a
theorem lH {c A B:Prop}[Decidable c](h1:c→A)(h2:¬c→B):if decide c=true then A else B:=by
 by_cases h:c
 ·exact aKV h (h1 h)
 ·exact aCM h (h2 h)
theorem aKT {c A B:Prop}[Decidable c](h1:¬c→A)(h2:c→B):if (!decide c)=true then A else B:=by
 by_cases h:c
 ·exact aL3 h (h2 h)
 ·exact aLC h (h1 h)
theorem a7B {i j:Int}(h:V.int i=V.int j):i=j:=V.int.inj h
theorem nM {n:Nat}(h:n≤1000):n≤sizeLine:=Nat.le_of_lt (a0H h)
theorem a2W {n:Nat}(h:Nat.ble n 1000=true):n≤sizeLine:=nM (Nat.le_of_ble_eq_true h)
noncomputable def dD (q:Rat):PyData:=.tuple [.int q.num,.int (q.den:Int)]
noncomputable def mL (l:Rat×Rat):PyData:=.tuple [dD l.1,dD l.2]
noncomputable def aA6 (K:PySem.W.Frag):Sp:=fun vs H Q _=>∃(a:Addr) (ns:List Int),vs=[.ref a]∧SqL K H a (ns.map V.int)∧ns.length≤63∧∀ H',Q (.bl true) H'
theorem aBE {k:Nat}{t b:Int}(h:Bt k b)(h0:b≠0):Bt k (Int.gcd t b:Nat):=by
 unfold Bt at *;refine Nat.lt_of_le_of_lt ?_ h;show Int.gcd t b≤b.natAbs;exact Nat.le_of_dvd (by omega) (Nat.gcd_dvd_right _ _)
theorem aBN {t b:Int}(h0:b≠0):((Int.gcd t b:Nat):Int)≠0:=by
 have:=Int.gcd_pos_of_ne_zero_right t h0;omega
end L2
namespace L2
open PySem PySem.Spec PyProof.Rows
section
variable {κ:Type}[DecidableEq κ]
noncomputable def tH (kvs:List (κ×V))(k:κ):Option V:=(kvs.find? fun kv=>decide (kv.1=k)).map (·.2)
noncomputable def putK (kvs:List (κ×V))(k:κ)(v:V):List (κ×V):=
 if (kvs.any fun kv=>decide (kv.1=k))=true then kvs.map (fun kv=>if kv.1=k then(kv.1,v) else kv) else kvs++[(k,v)]
noncomputable def qQ (kvs:List (κ×V))(k:κ):List (κ×V):=kvs.filter fun kv=>decide (kv.1≠k)
theorem pG {p:κ×V}{r:List (κ×V)}{k:κ}(e:p.1=k):tH (p::r) k=some p.2:=by simp[tH,List.find?_cons,e]
theorem pI {p:κ×V}{r:List (κ×V)}{k:κ}(e:¬p.1=k):tH (p::r) k=tH r k:=by simp[tH,List.find?_cons,e]
theorem pQ (k:κ):∀ kvs:List (κ×V),(kvs.any fun kv=>decide (kv.1=k))=(tH kvs k).isSome
 | []=>rfl
 | p::r=>by
  rw[List.any_cons]
  by_cases e:p.1=k
  ·simp only[pG e,decide_eq_true e,Bool.true_or,Option.isSome_some]
  ·rw[pI e,decide_eq_false e,Bool.false_or]; exact pQ k r
theorem oZ (kvs:List (κ×V))(k:κ)(v:V):(putK kvs k v).length≤kvs.length+1:=by
 unfold putK
 split
 ·rw[List.length_map]; omega
 ·rw[List.length_append,List.length_cons,List.length_nil]; omega
theorem a9W {kvs:List (κ×V)}{k:κ}(v:V)(h:tH kvs k=none):putK kvs k v=kvs++[(k,v)]:=by
 unfold putK;rw[pQ,h];exact if_neg (by decide)
theorem RelO.isSome_eq {o:Option V}{u:Option Value}(r:RelO o u):o.isSome=u.isSome:=by
 cases o with
 | none=>cases u with
  | none=>rfl
  | some _=>exact(show False from r).elim
 | some _=>cases u with
  | none=>exact(show False from r).elim
  | some _=>rfl
theorem RelO.getD {o:Option V}{u:Option Value}{d:V}{d':Value}(r:RelO o u)(rd:RelV d d'):RelV (o.getD d) (u.getD d'):=by
 cases o with
 | none=>cases u with
  | none=>exact rd
  | some _=>exact(show False from r).elim
 | some _=>cases u with
  | none=>exact(show False from r).elim
  | some _=>exact r
theorem KV.val {kvs:List (κ×V)}{vs:List (κ×Value)}(r:KV kvs vs)(k:κ):RelO (tH kvs k) (valueAt vs k):=by
 unfold KV at r
 induction r with
 | nil=>exact True.intro
 | @cons p q ps qs h t ih=>
  obtain⟨h1,h2⟩:=h
  by_cases e:p.1=k
  ·have e':q.1=k:=h1.symm.trans e;have b:valueAt (q::qs) k=some q.2:=by simp[valueAt,List.find?_cons,e']
   rw[pG e,b]; exact h2
  ·have e':¬q.1=k:=fun z=>e (h1.trans z);have b:valueAt (q::qs) k=valueAt qs k:=by simp[valueAt,List.find?_cons,e']
   rw[pI e,b]; exact ih
theorem KV.any {kvs:List (κ×V)}{vs:List (κ×Value)}(r:KV kvs vs)(k:κ):(kvs.any fun kv=>decide (kv.1=k))=vs.any fun kv=>decide (kv.1=k):=by
 unfold KV at r
 induction r with
 | nil=>rfl
 | cons h t ih=>rw[List.any_cons,List.any_cons,ih,h.1]
theorem KV.repl {kvs:List (κ×V)}{vs:List (κ×Value)}(r:KV kvs vs)(k:κ){y:V}{u:Value}(ry:RelV y u) :
  KV (kvs.map fun kv=>if kv.1=k then(kv.1,y) else kv) (vs.map fun kv=>if kv.1=k then(kv.1,u) else kv):=by
 unfold KV at r ⊢
 induction r with
 | nil=>exact .nil
 | @cons p q ps qs h t ih=>
  rw[List.map_cons,List.map_cons];refine .cons ?_ ih;obtain⟨h1,h2⟩:=h
  by_cases e:p.1=k
  ·rw[if_pos e,if_pos (h1.symm.trans e)]; exact⟨h1,ry⟩
  ·rw[if_neg e,if_neg (fun z=>e (h1.trans z))]; exact⟨h1,h2⟩
theorem KV.put {kvs:List (κ×V)}{vs:List (κ×Value)}(r:KV kvs vs)(k:κ){y:V}{u:Value}(ry:RelV y u):KV (putK kvs k y) (stored vs k u):=by
 unfold putK stored;rw[r.any k]
 by_cases e:(vs.any fun kv=>decide (kv.1=k))=true
 ·rw[if_pos e,if_pos e]; exact r.repl k ry
 ·rw[if_neg e,if_neg e]; exact Paired.snoc r ⟨rfl,ry⟩
theorem KV.drop {kvs:List (κ×V)}{vs:List (κ×Value)}(r:KV kvs vs)(k:κ):KV (qQ kvs k) (without vs k):=by
 unfold KV at r ⊢;unfold qQ without
 induction r with
 | nil=>exact .nil
 | @cons p q ps qs h t ih=>
  obtain⟨h1,h2⟩:=h;rw[List.filter_cons,List.filter_cons]
  by_cases e:p.1=k
  ·have a:¬decide (p.1≠k)=true:=by simp[e]
   have b:¬decide (q.1≠k)=true:=by simp[h1.symm.trans e]
   rw[if_neg a,if_neg b]; exact ih
  ·have e':¬q.1=k:=fun z=>e (h1.trans z);have a:decide (p.1≠k)=true:=by simp[e]
   have b:decide (q.1≠k)=true:=by simp[e']
   rw[if_pos a,if_pos b]; exact .cons ⟨h1,h2⟩ ih
theorem KV.length {kvs:List (κ×V)}{vs:List (κ×Value)}(r:KV kvs vs):kvs.length=vs.length:=Paired.length r
theorem a3F (kvs:List (κ×V))(k:κ):(qQ kvs k).length≤kvs.length:=List.length_filter_le _ _
end
theorem a0L {P:Program}{w:World}{k:Key}{u:Value}(r:RelV (kV k) u):(cM P w).is k u=true:=by
 cases k with
 | inl i=>obtain⟨t,e⟩:=(show ∃ t,u=Value.int i t from r); subst e; exact a1S P w i t
 | inr x=>obtain⟨t,e⟩:=(show ∃ t,u=Value.str x t from r); subst e; exact a2S P w x t
theorem zX {P:Program}{w:World}:∀{ks:List Key} {us:List Value},Vals (ks.map kV) us→ItemsAre (cM P w) ks us
 | [],_,r=>by rw[List.map_nil] at r; cases r; exact .nil
 | k::ks,_,r=>by
  rw[List.map_cons] at r
  cases r with
  | cons h t=>exact .cons (a0L h) (zX t)
abbrev KT (H:Hp):List (List Key×V)→List (List Key×Addr×Value)→Prop:=Paired fun p q=>p.1=q.1∧H q.2.1=some (.tup (p.1.map kV))∧RelV p.2 q.2.2
theorem KT.val {H:Hp}{kvs:List (List Key×V)}{xs:List (List Key×Addr×Value)}(r:KT H kvs xs)(k:List Key):RelO (tH kvs k) ((atKey xs k).map (·.2)):=by
 induction r with
 | nil=>exact True.intro
 | @cons p q ps qs h t ih=>
  obtain⟨h1,_,h2⟩:=h
  by_cases e:p.1=k
  ·have e':q.1=k:=h1.symm.trans e;have b:atKey (q::qs) k=some q.2:=by simp[atKey,List.find?_cons,e']
   rw[pG e,b]; exact h2
  ·have e':¬q.1=k:=fun z=>e (h1.trans z);have b:atKey (q::qs) k=atKey qs k:=by simp[atKey,List.find?_cons,e']
   rw[pI e,b]; exact ih
theorem KT.repl {H:Hp}{kvs:List (List Key×V)}{xs:List (List Key×Addr×Value)}(r:KT H kvs xs)(k:List Key){y:V}{u:Value}(ry:RelV y u) :
  KT H (kvs.map fun kv=>if kv.1=k then(kv.1,y) else kv) (xs.map (putAt k u)):=by
 induction r with
 | nil=>exact .nil
 | @cons p q ps qs h t ih=>
  rw[List.map_cons,List.map_cons];refine .cons ?_ ih;obtain⟨h1,h2,h3⟩:=h;unfold putAt
  by_cases e:p.1=k
  ·rw[if_pos e,if_pos (h1.symm.trans e)]; exact⟨h1,h2,ry⟩
  ·rw[if_neg e,if_neg (fun z=>e (h1.trans z))]; exact⟨h1,h2,h3⟩
theorem KT.put {H:Hp}{kvs:List (List Key×V)}{xs:List (List Key×Addr×Value)}(r:KT H kvs xs)(k:List Key){b:Addr}{y:V}{u:Value}(hb:H b=some (.tup (k.map kV)))(ry:RelV y u) :
  KT H (putK kvs k y) (storedH xs k b u):=by
 have e:(kvs.any fun kv=>decide (kv.1=k))=(atKey xs k).isSome:=by
  rw[pQ,(r.val k).isSome_eq,Option.isSome_map]
 unfold putK storedH;rw[e]
 by_cases q:(atKey xs k).isSome=true
 ·rw[if_pos q,if_pos q]; exact r.repl k ry
 ·rw[if_neg q,if_neg q]; exact Paired.snoc r ⟨rfl,hb,ry⟩
theorem KT.keeps {H H':Hp}{kvs:List (List Key×V)}{xs:List (List Key×Addr×Value)}(r:KT H kvs xs)(ht:∀ b ys,H b=some (.tup ys)→H' b=some (.tup ys)):KT H' kvs xs:=
 Paired.mapP r fun _ _ z=>⟨z.1,ht _ _ z.2.1,z.2.2⟩
section
variable {P:Program}{w:World}{H:Hp}{h:Heap}{a:Addr}
theorem aG0 {u:HO}(ok:HOk P w H h)(e:Rd H a u):ObjOk P w H h a u:=e.ok ok
theorem a0Z {kvs:List (Key×V)}(ok:HOk P w H h)(e:Rd H a (.dK kvs)):kvs.length≤sizeLine∧(a==sysModules)=false∧∃ vs,KV kvs vs∧h.DictOf (cM P w) a vs:=
 show ObjOk P w H h a (.dK kvs) from aG0 ok e
theorem aA8 {kvs:List (Key×V)}(ok:HOk P w H h)(e:H a=some (.dK kvs)):kvs.length≤sizeLine∧(a==sysModules)=false∧∃ vs,KV kvs vs∧h.DictOf (cM P w) a vs:=a0Z ok (.inl e)
theorem a0D {ks:List Key}(ok:HOk P w H h)(e:H a=some (.tup (ks.map kV))):(tupleKind (cM P w)).is h ks a:=by
 obtain⟨_,its,r,o,h1,h2,n,h3⟩:=(show ObjOk P w H h a (.tup (ks.map kV)) from ok a _ e);exact⟨o,its.toArray,n,h1,h2,h3,by simpa using zX r⟩
theorem a5C {kvs:List (List Key×V)}(ok:HOk P w H h)(e:Rd H a (.dT kvs)):kvs.length≤sizeLine∧(a==sysModules)=false ∧
  ∃ xs,KT H kvs xs∧h.DictOfH (tupleKind (cM P w)) a xs:=by
 obtain⟨z,y,xs,r,o,es,ep,h1,h2,h3,h4,h5⟩:=(show ObjOk P w H h a (.dT kvs) from aG0 ok e);refine⟨z,y,xs,r,o,es,ep,h1,h2,h3,h4,fun x hx=>?_,h5⟩;have all:∀{l:List (List Key×V)} {m:List (List Key×Addr×Value)},KT H l m→∀ x∈m,(tupleKind (cM P w)).is h x.1 x.2.1:=by
  intro l m q
  induction q with
  | nil=>intro x hx; exact nomatch hx
  | @cons p q ps qs hq t ih=>
   intro x hx;rcases List.mem_cons.mp hx with e|hx
   ·subst e;exact a0D ok (by rw[← hq.1]; exact hq.2.1)
   ·exact ih x hx
 exact all r x hx
theorem aKB {kvs:List (List Key×V)}(ok:HOk P w H h)(e:H a=some (.dT kvs)):kvs.length≤sizeLine∧(a==sysModules)=false ∧
  ∃ xs,KT H kvs xs∧h.DictOfH (tupleKind (cM P w)) a xs:=a5C ok (.inl e)
end
noncomputable def DGet (H:Hp)(a:Addr)(y:V)(r:Option V):Prop:=
 (∃ kvs k,Rd H a (.dK kvs)∧y=kV k∧r=tH kvs k)∨∃ kvs k b,Rd H a (.dT kvs)∧y=.ref b∧H b=some (.tup (k.map kV))∧r=tH kvs k
noncomputable def DPut (H:Hp)(a:Addr)(y v:V)(H':Hp):Prop:=
 (∃ kvs k,H a=some (.dK kvs)∧y=kV k∧kvs.length<sizeLine∧H'=upd H a (.dK (putK kvs k v))) ∨
 ∃ kvs k b,H a=some (.dT kvs)∧y=.ref b∧H b=some (.tup (k.map kV))∧kvs.length<sizeLine∧H'=upd H a (.dT (putK kvs k v))
theorem DGet.k {H:Hp}{a:Addr}{kvs:List (Key×V)}{k:Key}(e:H a=some (.dK kvs)):DGet H a (kV k) (tH kvs k):=.inl ⟨kvs,k,.inl e,rfl,rfl⟩
theorem DPut.k {H:Hp}{a:Addr}{kvs:List (Key×V)}{k:Key}{v:V}(e:H a=some (.dK kvs))(hl:kvs.length<sizeLine):DPut H a (kV k) v (upd H a (.dK (putK kvs k v))):=.inl ⟨kvs,k,e,rfl,hl,rfl⟩
section
variable {X:Cx}{pins:List (Addr×Obj)}{σ:St}{H:Hp}{s:Shared}{a:Addr}{y v:V}{u r:Value}{o:Option V}{A:Around}{E:Value→Shared→Prop}
theorem Inv.big (I:Inv X pins σ H s):sysModules<s.heap.objs.size:=by
 have h:mainGlobals<s.heap.objs.size:=(I.mod.glob.keeps I.bk).lt;exact Nat.lt_trans (by decide) h
theorem a78 {Q:Value→Shared→Prop}(hu:A.units+1<cLine)(I:Inv X pins σ H s)(g:DGet H a y (some v))(ry:RelV y u)(h:∀ w' s',Inv X pins σ H s'→RelV v w'→Q w' s') :
  wpAny (model X.prog X.w) A (getItem (.ref a) u) Q E s:=by
 rcases g with⟨kvs,k,e,ey,l⟩|⟨kvs,k,b,e,ey,eb,l⟩
 ·subst ey;obtain⟨z,hd,vs,rel,dd⟩:=a0Z I.hok e;obtain⟨w',hw,rw'⟩:=RelO.some_of (v:=v) (o:=valueAt vs k) (by rw[l]; exact rel.val k);exact wpAny_getItem_of (a0L ry) dd.mapOf hw (h w' _ (I.tok _) rw')
 ·subst ey
  cases(show u=Value.ref b from ry)
  obtain⟨z,hd,xs,rel,dd⟩:=a5C I.hok e;obtain⟨w',hw,rw'⟩:=RelO.some_of (v:=v) (o:=(atKey xs k).map (·.2)) (by rw[l]; exact rel.val k);obtain⟨p,hp,hp2⟩:=Option.map_eq_some_iff.mp hw;refine wpAny_getItem_heap (tupleKind_room_in1 hu) (a0D I.hok eb) dd hp ?_;rw[hp2];exact h w' _ (I.tok _) rw'
theorem aN3 {Q:Value→Shared→Prop}(hu:A.units+1<cLine)(I:Inv X pins σ H s)(g:DGet H a y o)(ry:RelV y u)(h:∀ s',Inv X pins σ H s'→Q (.bool o.isSome) s') :
  wpAny (model X.prog X.w) A (compareOp .In u (.ref a)) Q E s:=by
 rcases g with⟨kvs,k,e,ey,l⟩|⟨kvs,k,b,e,ey,eb,l⟩
 ·subst ey;obtain⟨z,hd,vs,rel,dd⟩:=a0Z I.hok e;refine wpAny_in_of (a0L ry) hd dd.mapOf ?_;rw[← (rel.val k).isSome_eq,←l];exact h _ (I.tok _)
 ·subst ey
  cases(show u=Value.ref b from ry)
  obtain⟨z,hd,xs,rel,dd⟩:=a5C I.hok e;refine wpAny_in_heap (tupleKind_room_in1 hu) (a0D I.hok eb) hd dd ?_;have q:=(rel.val k).isSome_eq;rw[Option.isSome_map] at q;rw[← q,←l];exact h _ (I.tok _)
theorem uX {h':Heap}{t':Nat}{ob:HO}(I:Inv X pins σ H s)(mu:Mut (H a))(hs:Heap.SameBut a s.heap h')(he:∃ q,h'.get? a=some q)(new:ObjOk X.prog X.w (upd H a ob) h' a ob) :
  Inv X pins σ (upd H a ob) { s with heap:=h',toks:=t' }:=
 I.write (x:=a) (e:=a) mu (.inl rfl) (fun b q hb z=>(hs.2 b hb).trans z) he new
theorem a4H {P:Program}{w:World}{H':Hp}{h':Heap}{kvs:List (Key×V)}{vs:List (Key×Value)}(z:kvs.length≤sizeLine)(hd:(a==sysModules)=false)(rel:KV kvs vs)(dd:h'.DictOf (cM P w) a vs) :
  ObjOk P w H' h' a (.dK kvs):=⟨z,hd,vs,rel,dd⟩
theorem a7Q {H':Hp}{Q:Unit→Shared→Prop}(hu:A.units+1<cLine)(I:Inv X pins σ H s)(g:DPut H a y v H')(ry:RelV y u)(rv:RelV v r)(h:∀ s',Inv X pins σ H' s'→Q () s') :
  wpAny (model X.prog X.w) A (setItem (.ref a) u r) Q E s:=by
 rcases g with⟨kvs,k,e,ey,l,eH⟩|⟨kvs,k,b,e,ey,eb,l,eH⟩
 ·subst ey eH;obtain⟨z,hd,vs,rel,dd⟩:=aA8 I.hok e;have hz:vs.length≤sizeLine:=by rw[← rel.length]; exact z
  have hl:(putK kvs k v).length≤sizeLine:=by have:=oZ kvs k v; omega
  refine wpAny_setItem_pairs (hsz:=hz) (a0L ry) dd fun h' dd' hs=>h _ ?_;have he:∃ q,h'.get? a=some q:=let ⟨q,_,_,hq,_⟩:=dd'; ⟨q,hq⟩;exact uX I (by rw[e]; exact True.intro) hs he (a4H hl hd (rel.put k rv) dd')
 ·subst ey eH
  cases(show u=Value.ref b from ry)
  obtain⟨z,hd,xs,rel,dd⟩:=aKB I.hok e;have hz:xs.length≤sizeLine:=by rw[← Paired.length rel]; exact z
  have hl:(putK kvs k v).length≤sizeLine:=by have:=oZ kvs k v; omega
  refine wpAny_setItem_heap (hsz:=hz) (tupleKind_room_in1 hu) (a0D I.hok eb) dd fun h' dd' hs=>h _ ?_;obtain⟨q,es,ep,hq,h2,h3,h4,_,h5⟩:=dd';refine uX I (by rw[e]; exact True.intro) hs ⟨q,hq⟩ ⟨hl,hd,_,(rel.put k eb rv).keeps fun c ys ec=>?_,q,es,ep,hq,h2,h3,h4,h5⟩;rw[aZ (a8T ec e (fun z=>nomatch z))];exact ec
end
section
variable {X:Cx}{pins:List (Addr×Obj)}{σ:St}{H:Hp}{s:Shared}{a:Addr}{kvs:List (Key×V)}{k:Key}{u:Value}{A:Around}{E:Value→Shared→Prop}
theorem aFL {Q:Unit→Shared→Prop}(I:Inv X pins σ H s)(e:H a=some (.dK kvs))(ry:RelV (kV k) u)(l:(tH kvs k).isSome=true)(h:∀ s',Inv X pins σ (upd H a (.dK (qQ kvs k))) s'→Q () s') :
  wpAny (model X.prog X.w) A (delItem (.ref a) u) Q E s:=by
 obtain⟨z,hd,vs,rel,dd⟩:=aA8 I.hok e;refine wpAny_delItem_slot dd.typeIs (by decide) PySem.F.slot_dict_delitem
  (call_meetsIn PySem.F.slot_dict_delitem dd.typeIs PySem.F.entry_dict_delitem (PySem.F.args_dict_delitem_2 _ _) (meets_dict_delitem_pairs (cM X.prog X.w) a (a0L ry)) ⟨vs,dd,by rw[← rel.length]; exact z,by rw[← (rel.val k).isSome_eq]; exact l,fun h' dd' hs=>h _ ?_⟩)
 have he:∃ q,h'.get? a=some q:=let ⟨q,_,_,hq,_⟩:=dd'; ⟨q,hq⟩;exact uX I (by rw[e]; exact True.intro) hs he (a4H (Nat.le_trans (a3F kvs k) z) hd (rel.drop k) dd')
theorem aK5 {v:V}{more:List Value}{Q:Value→Shared→Prop}(I:Inv X pins σ H s)(e:H a=some (.dK kvs))(ry:RelV (kV k) u)(l:tH kvs k=some v)(hm:more=[]∨∃ x,more=[x])
  (h:∀ w' s',Inv X pins σ (upd H a (.dK (qQ kvs k))) s'→RelV v w'→Q w' s'):wpAny (model X.prog X.w) A (call (.builtin "dict.pop") (.ref a::u::more)) Q E s:=by
 obtain⟨z,hd,vs,rel,dd⟩:=aA8 I.hok e;obtain⟨w',hw,rw'⟩:=RelO.some_of (v:=v) (o:=valueAt vs k) (by rw[← l]; exact rel.val k);have hp:(keyPart u).isSome=true:=by
  cases k with
  | inl i=>obtain⟨t,q⟩:=(show ∃ t,u=Value.int i t from ry); subst q; rfl
  | inr x=>obtain⟨t,q⟩:=(show ∃ t,u=Value.str x t from ry); subst q; rfl
 have ha:argsOk "dict.pop" ⟨.ref a::u::more,[]⟩:=by
  rcases hm with q|⟨x,q⟩
  ·subst q; exact PySem.F.args_dict_pop_2 _ _
  ·subst q; exact PySem.F.args_dict_pop_3 _ _ _
 refine call_meetsIn PySem.F.slot_dict_pop dd.typeIs PySem.F.entry_dict_pop ha (meets_dict_pop_there (cM X.prog X.w) a (a0L ry) more hm hp)
  ⟨vs,w',dd,by rw[← rel.length]; exact z,hw,fun h' dd' hs=>h w' _ ?_ rw'⟩
 have he:∃ q,h'.get? a=some q:=let ⟨q,_,_,hq,_⟩:=dd'; ⟨q,hq⟩;exact uX I (by rw[e]; exact True.intro) hs he (a4H (Nat.le_trans (a3F kvs k) z) hd (rel.drop k) dd')
theorem aKI {Q:Value→Shared→Prop}(I:Inv X pins σ H s)(e:Rd H a (.dK kvs))(h:∀ t s',Inv X pins σ H s'→Q (.int kvs.length t) s'):wpAny (model X.prog X.w) A (call (.builtin "len") [.ref a]) Q E s:=by
 obtain⟨z,hd,vs,rel,dd⟩:=a0Z I.hok e;refine call_len_dict hd dd (by rw[← rel.length]; rw[sizeLine_eq] at z; omega) ?_;rw[← rel.length];exact h _ _ (I.tok _)
end
noncomputable def aM2 (i:Expr):Prop:=∀ ov iv,subscripted i false ov iv=operate [ov,iv] (getItem ov iv)
theorem aCR {prog:Program}{w:World}{A:Around}{E:Value→Shared→Prop}{s:Shared}{env:Env}{value slice:Expr}{pos:Pos}{T id:String}{Q:Value→Shared→Prop}
  (hl:typeLookup (.type T) "__getitem__" = pure (some (.builtin id))) (hs:aM2 slice)
  (h:wpAny (model prog w) A (eval value env) (fun o s₁=>wpAny (model prog w) A (eval slice env) (fun i s₂=>s₂.TypeIs o T∧wpAny (model prog w) A (getItem o i) Q E s₂) E s₁) E s) :
  wpAny (model prog w) A (eval (.Subscript value slice pos) env) Q E s:=by
 refine Subscript_ (wpAny_mono h (fun o s₁ h₁=>wpAny_mono h₁ (fun i s₂ h₂=>?_) fun _ _ x=>x) fun _ _ x=>x);obtain⟨hT,h₂⟩:=h₂;unfold subscriptTail;refine wpAny_bind ?_;rw[getitemInPython_of_ne hT.not_modules];refine wpAny_bind (wpAny_specialOf hT hl ?_);have fin:wpAny (model prog w) A (subscripted slice false o i) (fun r s₃=>wpAny (model prog w) A (letTemporaryGo value o r >>= fun _=>pure r) Q E s₃) E s₂:=by
  rw[hs o i];exact wpAny_operating (wpAny_mono h₂ (fun r s₃ h₃=>wpAny_bind (wpAny_letTemporaryGo (wpAny_pure h₃))) fun _ _ x=>x)
 first
  | exact wpAny_pure (wpAny_bind fin)
  | exact wpAny_bind (wpAny_pure (wpAny_bind fin))
  | exact wpAny_bind fin
theorem a2K {X:Cx}{pins:List (Addr×Obj)}{σ:St}{H:Hp}{s:Shared}{a:Addr}{y:V}{o:Option V}(I:Inv X pins σ H s)(g:DGet H a y o):s.TypeIs (.ref a) "dict" := by
 rcases g with⟨kvs,k,e,_,_⟩|⟨kvs,k,b,e,_,_,_⟩
 ·obtain⟨_,_,vs,_,dd⟩:=a0Z I.hok e;exact dd.typeIs
 ·obtain⟨_,_,xs,_,dd⟩:=a5C I.hok e;exact dd.typeIs
noncomputable def aH9 (td ty:TE):TE:=fun σ H Q=>td σ H fun x H1=>ty σ H1 fun y H2=>∃ a v,x=.ref a∧DGet H2 a y (some v)∧Q v H2
noncomputable def aLP (ty td:TE):TE:=fun σ H Q=>ty σ H fun y H1=>td σ H1 fun x H2=>∃ a o,x=.ref a∧DGet H2 a y o∧Q (.bl o.isSome) H2
noncomputable def aIB (td ty tv:TE):TS:=fun D σ H=>tv σ H fun v H1=>td σ H1 fun x H2=>ty σ H2 fun y H3=>∃ a H4,x=.ref a∧DPut H3 a y v H4∧D.nx σ H4
section
variable {X:Cx}{o i e value:Expr}{pos pos' tpos:Pos}{td ty tv:TE}
theorem aEN (hu:X.A.units+1<cLine)(ho:PE X o td)(hi:PE X i ty)(hs:aM2 i):PE X (.Subscript o i pos) (aH9 td ty):=by
 intro pins s σ H Q I h;refine aCR PySem.F.slot_dict_getitem.lookup hs (thn (ho pins s σ H _ I h) fun u s1 ⟨x,H1,I1,rx,q1⟩=>thn (hi pins s1 σ H1 _ I1 q1) fun iv s2 ⟨y,H2,I2,ry,a,v,ex,g,q2⟩=>?_);subst ex;obtain rfl:u=Value.ref a:=rx;exact⟨a2K I2 g,a78 hu I2 g ry fun w' s3 I3 rw'=>⟨v,H2,I3,rw',q2⟩⟩
theorem aI7 (hu:X.A.units+1<cLine)(hi:PE X i ty)(ho:PE X o td):PC X .In i o (aLP ty td):=by
 intro pins s σ H Q I h;refine thn (hi pins s σ H _ I h) fun iv s1 ⟨y,H1,I1,ry,q1⟩=>thn (ho pins s1 σ H1 _ I1 q1) fun u s2 ⟨x,H2,I2,rx,a,ov,ex,g,q2⟩=>?_;subst ex;obtain rfl:u=Value.ref a:=rx;exact aN3 hu I2 g ry fun s3 I3=>⟨.bl ov.isSome,H2,I3,rfl,q2⟩
theorem a7E (hu:X.A.units+1<cLine)(ho:PE X o td)(hi:PE X i ty)(hv:PE X value tv)(hs:swapsWith value (some (.Subscript o i pos')) pos.line X.env=pure false) :
  PS X (.Assign [.Subscript o i pos'] value pos) (aIB td ty tv):=by
 intro pins s σ H D I h;refine wpAny_Assign_Subscript (thn (hv pins s σ H _ I h) fun r s1 ⟨v,H1,I1,rv,q1⟩=>thn (ho pins s1 σ H1 _ I1 q1) fun u s2 ⟨x,H2,I2,rx,q2⟩=>thn (hi pins s2 σ H2 _ I2 q2) fun iv s3 ⟨y,H3,I3,ry,a,H4,ex,g,q3⟩=>?_) hs;subst ex;obtain rfl:u=Value.ref a:=rx;exact a7Q hu I3 g ry rv fun s4 I4=>⟨σ,H4,I4,q3⟩
end
theorem a3K {P:Program}{w:World}{H:Hp}(h:Heap)(hb:sysModules<h.objs.size):ObjOk P w H (h.push { cls:=.type "dict", data:=.dict #[] }) h.objs.size (.dK []):=
 ⟨Nat.zero_le _,beq_eq_false_iff_ne.mpr (Ne.symm (Nat.ne_of_lt hb)),[],.nil,Heap.DictOf.new h⟩
noncomputable def aID:TE:=fun _ H Q=>∀ p,H p=none→Q (.ref p) (upd H p (.dK []))
section
variable {X:Cx}{pos:Pos}
theorem a9H:PE X (.Dict [] [] pos) aID:=fun pins s σ H Q I h=>
 wpAny_Dict_empty ⟨.ref s.heap.objs.size,_,I.laid (a:=s.heap.objs.size) (o:=.dK []) (t':=s.toks) (fun _ _ q=>Heap.get?_push_of_some _ q) (Nat.le_refl _) (a3K s.heap I.big),rfl,h _ (I.hok.fresh (Nat.le_refl _))⟩
end
noncomputable def a3D:List (TE×TE)→St→Hp→(List (V×V)→Hp→Prop)→Prop
 | [],_,H,Q=>Q [] H
 | (tk,tv)::r,σ,H,Q=>tk σ H fun x H1=>tv σ H1 fun y H2=>a3D r σ H2 fun ps H3=>Q ((x,y)::ps) H3
abbrev VV:List (V×V)→List (Value×Value)→Prop:=Paired fun p q=>RelV p.1 q.1∧RelV p.2 q.2
noncomputable def PPs (X:Cx)(pos:Pos)(keys:List (Option Expr))(values:List Expr)(trs:List (TE×TE)):Prop:=
 ∀(pins:List (Addr×Obj)) (s:Shared) (σ:St) (H:Hp) (Q:List (V×V)→Hp→Prop),Inv X pins σ H s→a3D trs σ H Q →
  wpAny (model X.prog X.w) X.A (evalPairs (pairTrees keys values X.env pos)) (fun vs s'=>∃ ps H',Inv X pins σ H' s'∧VV ps vs∧Q ps H') X.xe s
theorem aDX {X:Cx}{pos:Pos}:PPs X pos [] [] []:=fun pins s σ H Q I h=>pairTrees_nil_walk ⟨[],H,I,.nil,h⟩
theorem aAH {X:Cx}{pos:Pos}{k v:Expr}{ks:List (Option Expr)}{vs:List Expr}{tk tv:TE}{trs:List (TE×TE)}(hk:PE X k tk)(hv:PE X v tv)(hr:PPs X pos ks vs trs) :
  PPs X pos (some k::ks) (v::vs) ((tk,tv)::trs):=fun pins s σ H Q I h=>
 pairTrees_cons_walk (thn (hk pins s σ H _ I h) fun u s1 ⟨x,H1,I1,rx,q1⟩=>thn (hv pins s1 σ H1 _ I1 q1) fun w2 s2 ⟨y,H2,I2,ry,q2⟩=>
  thn (hr pins s2 σ H2 _ I2 q2) fun ws s3 ⟨ps,H3,I3,rel,q3⟩=>⟨(x,y)::ps,H3,I3,.cons ⟨rx,ry⟩ rel,q3⟩)
noncomputable def rW (kvs more:List (Key×V)):List (Key×V):=more.foldl (fun acc kv=>putK acc kv.1 kv.2) kvs
theorem KV.merge:∀{more:List (Key×V)} {rs:List (Key×Value)} {kvs:List (Key×V)} {vs:List (Key×Value)},KV more rs→KV kvs vs→KV (rW kvs more) (merged vs rs):=by
 intro more rs kvs vs r;unfold KV at r
 induction r generalizing kvs vs with
 | nil=>intro q; exact q
 | @cons p q ps qs h t ih=>
  intro r0;have e:KV (putK kvs p.1 p.2) (stored vs q.1 q.2):=by
   have:=r0.put p.1 h.2;rw[← h.1]; exact this
  exact ih e
theorem pR:∀(more kvs:List (Key×V)),(rW kvs more).length≤kvs.length+more.length
 | [],kvs=>by show kvs.length≤kvs.length+0; omega
 | p::r,kvs=>by
  have h1:=pR r (putK kvs p.1 p.2);have h2:=oZ kvs p.1 p.2
  show(rW (putK kvs p.1 p.2) r).length≤_
  rw[List.length_cons]; omega
theorem wH {P:Program}{w:World}:∀{kvs:List (Key×V)} {ws:List (Value×Value)},VV (kvs.map fun kv=>(kV kv.1,kv.2)) ws→∃ rs,Carries (cM P w) ws rs∧KV kvs rs
 | [],_,r=>by rw[List.map_nil] at r; cases r; exact⟨[],True.intro,.nil⟩
 | p::kvs,_,r=>by
  rw[List.map_cons] at r
  cases r with
  | @cons a b as bs h t=>
   obtain⟨rs,c,q⟩:=wH (P:=P) (w:=w) t;obtain⟨b1,b2⟩:=b;exact⟨(p.1,b2)::rs,⟨a0L h.1,rfl,c⟩,.cons ⟨rfl,h.2⟩ q⟩
noncomputable def aE5 (trs:List (TE×TE)):TE:=fun σ H Q=>∀ p,H p=none→a3D trs σ (upd H p (.dK [])) fun ps H2=>H2 p=some (.dK [])∧∃ kvs:List (Key×V),ps=kvs.map (fun kv=>(kV kv.1,kv.2))∧kvs.length≤15∧Q (.ref p) (upd H2 p (.dK (rW [] kvs)))
theorem aDE {X:Cx}{pos:Pos}{keys:List (Option Expr)}{values:List Expr}{trs:List (TE×TE)}(h:PPs X pos keys values trs)(hall:keys.all (·.isSome)=true)(hl:keys.length=values.length)(h0:keys≠[])
  (h15:keys.length≤15):PE X (.Dict keys values pos) (aE5 trs):=by
 intro pins s σ H Q I q;have hn:=I.hok.fresh (Nat.le_refl s.heap.objs.size);have I1:=I.laid (a:=s.heap.objs.size) (o:=.dK []) (h':=s.heap.push { cls:=.type "dict", data:=.dict #[] }) (t':=s.toks) (fun _ _ q=>Heap.get?_push_of_some _ q) (Nat.le_refl _) (a3K s.heap I.big);refine wpAny_Dict_walk (knd:=cM X.prog X.w) hall hl h0 h15 (thn (h pins _ σ _ _ I1 (q _ hn)) fun ws s2 ⟨ps,H2,I2,rel,e,kvs,ep,lk,q2⟩=>?_);subst ep;obtain⟨rs,c,rk⟩:=wH (P:=X.prog) (w:=X.w) rel;obtain⟨z,hd,vs0,r0,dd⟩:=aA8 I2.hok e
 cases r0
 refine⟨rs,c,dd,fun h' dd' hs=>⟨.ref s.heap.objs.size,_,?_,rfl,q2⟩⟩;have hz:(rW [] kvs).length≤sizeLine:=by
  have h1:=pR kvs [];rw[List.length_nil] at h1;rw[sizeLine_eq]; omega
 have he:∃ q,h'.get? s.heap.objs.size=some q:=let ⟨q,_,_,hq,_⟩:=dd'; ⟨q,hq⟩;exact uX I2 (by rw[e]; exact True.intro) hs he (a4H hz hd (rk.merge .nil) dd')
structure M1 (X:Cx)(o:Expr)(m:Str)(apos:Pos)(e:Expr)(cpos:Pos):Prop where
 base:attributeBase o m X.env (eval o X.env)=eval o X.env
 few:((backTo cpos (starEach [e] X.env)).all (fun x => !x.1)&&(backToKw cpos (keywordEach [] X.env)).all (fun x=>x.1.isSome)
  && decide (([e]:List Expr).length+([]:List Keyword).length+(if ([]:List Keyword).isEmpty then 0 else 1)<30))=true
 line:(apos.endLine==cpos.line)=true
 trees:backTo cpos (starEach [e] X.env)=[(false,eval e X.env)]
noncomputable def IsD (H:Hp)(a:Addr):Prop:=(∃ kvs,Rd H a (.dK kvs))∨∃ kvs,Rd H a (.dT kvs)
theorem aBU {X:Cx}{pins:List (Addr×Obj)}{σ:St}{H:Hp}{s:Shared}{a:Addr}(I:Inv X pins σ H s)(d:IsD H a) :
  s.TypeIs (.ref a) "dict" ∧ (∀ b,Value.ref a=.ref b→∃ ob,s.heap.get? b=some ob∧ob.dict=none)∧(a==sysModules)=false:=by
 rcases d with⟨kvs,e⟩|⟨kvs,e⟩
 ·obtain⟨_,hd,vs,_,dd⟩:=a0Z I.hok e;refine⟨dd.typeIs,fun b q=>?_,hd⟩
  cases q
  obtain⟨ob,_,_,h1,h2,_⟩:=dd;exact⟨ob,h1,h2.2.1⟩
 ·obtain⟨_,hd,xs,_,dd⟩:=a5C I.hok e;refine⟨dd.typeIs,fun b q=>?_,hd⟩
  cases q
  obtain⟨ob,_,_,h1,h2,_⟩:=dd;exact⟨ob,h1,h2.2.1⟩
section
variable {X:Cx}{pins:List (Addr×Obj)}{σ:St}{H:Hp}{s:Shared}{a:Addr}{y d:V}{u r:Value}{o:Option V}{A:Around}{E:Value→Shared→Prop}
theorem aG5 {Q:Value→Shared→Prop}(hu:A.units+1<cLine)(I:Inv X pins σ H s)(g:DGet H a y o)(ry:RelV y u)(h:∀ w' s',Inv X pins σ H s'→RelV (o.getD .non) w'→Q w' s') :
  wpAny (model X.prog X.w) A (call (.builtin "dict.get") [.ref a,u]) Q E s:=by
 rcases g with⟨kvs,k,e,ey,l⟩|⟨kvs,k,b,e,ey,eb,l⟩
 ·subst ey;obtain⟨z,hd,vs,rel,dd⟩:=a0Z I.hok e;refine call_meetsIn PySem.F.slot_dict_get dd.typeIs PySem.F.entry_dict_get (PySem.F.args_dict_get_2 _ _) (meets_dict_get (cM X.prog X.w) a (a0L ry) hd) ⟨_,dd.mapOf,h _ _ (I.tok _) ?_⟩;rw[l];exact(rel.val k).getD rfl
 ·subst ey
  cases(show u=Value.ref b from ry)
  obtain⟨z,hd,xs,rel,dd⟩:=a5C I.hok e;refine call_meetsIn PySem.F.slot_dict_get dd.typeIs PySem.F.entry_dict_get (PySem.F.args_dict_get_2 _ _) (meetsH_dict_get (tupleKind (cM X.prog X.w)) a b hd) ⟨tupleKind_room_in1 hu,k,xs,a0D I.hok eb,dd,h _ _ (I.tok _) ?_⟩;rw[l];exact(rel.val k).getD rfl
end
noncomputable def aBT (td ty:TE):TE:=fun σ H Q=>td σ H fun x H1=>∃ a,x=.ref a∧IsD H1 a∧ty σ H1 fun y H2=>∃ o,DGet H2 a y o∧Q (o.getD .non) H2
noncomputable def aBZ (td ty:TE):TE:=fun σ H Q=>td σ H fun x H1=>∃ a,x=.ref a∧IsD H1 a∧ty σ H1 fun y H2=>∃ kvs k v,H2 a=some (.dK kvs)∧y=kV k∧tH kvs k=some v∧Q v (upd H2 a (.dK (qQ kvs k)))
section
variable {X:Cx}{o e f:Expr}{apos cpos:Pos}{td ty tx:TE}
theorem a9S (hu:X.A.units+1<cLine)(ho:PE X o td)(he:PE X e ty)(m:M1 X o "get" apos e cpos):PE X (.Call (.Attribute o "get" apos) [e] [] cpos) (aBT td ty):=by
 intro pins s σ H Q I h;refine wpAny_Call_method m.base m.few m.line PySem.F.plainAttrs_dict PySem.F.slot_dict_get PySem.F.type_dict_get (thn (ho pins s σ H _ I h) fun u s1 ⟨x,H1,I1,rx,a,ex,d,q1⟩=>?_);subst ex;obtain rfl:u=Value.ref a:=rx;obtain⟨t1,t2,_⟩:=aBU I1 d;refine⟨t1,t2,?_⟩;rw[m.trees];refine Calls.callWith_builtin rfl (Calls.evalArgs_plain (Calls.spliced_cons (thn (he pins s1 σ H1 _ I1 q1) fun iv s2 ⟨y,H2,I2,ry,ov,g,q2⟩=>Calls.spliced_nil ?_)));exact aG5 hu I2 g ry fun w' s3 I3 rw'=>⟨_,H2,I3,rw',q2⟩
theorem aAF (ho:PE X o td)(he:PE X e ty)(m:M1 X o "pop" apos e cpos):PE X (.Call (.Attribute o "pop" apos) [e] [] cpos) (aBZ td ty):=by
 intro pins s σ H Q I h;refine wpAny_Call_method m.base m.few m.line PySem.F.plainAttrs_dict PySem.F.slot_dict_pop PySem.F.type_dict_pop (thn (ho pins s σ H _ I h) fun u s1 ⟨x,H1,I1,rx,a,ex,d,q1⟩=>?_);subst ex;obtain rfl:u=Value.ref a:=rx;obtain⟨t1,t2,_⟩:=aBU I1 d;refine⟨t1,t2,?_⟩;rw[m.trees];refine Calls.callWith_builtin rfl (Calls.evalArgs_plain (Calls.spliced_cons (thn (he pins s1 σ H1 _ I1 q1) fun iv s2 ⟨y,H2,I2,ry,kvs,k,v,ea,ey,l,q2⟩=>Calls.spliced_nil ?_)));subst ey;exact aK5 I2 ea ry l (.inl rfl) fun w' s3 I3 rw'=>⟨v,_,I3,rw',q2⟩
end
section
variable {X:Cx}{pins:List (Addr×Obj)}{σ:St}{H:Hp}{s:Shared}{a:Addr}{kvs:List (Key×V)}{A:Around}{E:Value→Shared→Prop}
end
section
variable {X:Cx}{pins:List (Addr×Obj)}{σ:St}{H:Hp}{s:Shared}{a:Addr}{y:V}{u:Value}{A:Around}{E:Value→Shared→Prop}
end
end L2
namespace L2
open PySem PySem.Spec PyProof.Rows
section
variable {κ:Type}[DecidableEq κ]
theorem aCS {kvs:List (κ×V)}{k:κ}{v:V}(h:tH kvs k=some v):k∈kvs.map (·.1):=by
 have q:(kvs.any fun kv=>decide (kv.1=k))=true:=by
  rw[pQ,h]
  all_goals rfl
 obtain⟨p,hp,e⟩:=List.any_eq_true.mp q;exact List.mem_map.mpr ⟨p,hp,of_decide_eq_true e⟩
theorem a98 {p:κ×V}{r:List (κ×V)}{k:κ}(e:p.1=k):qQ (p::r) k=qQ r k:=by
 unfold qQ;rw[List.filter_cons,if_neg (by simp[e])]
theorem a6Z {p:κ×V}{r:List (κ×V)}{k:κ}(e:¬p.1=k):qQ (p::r) k=p::qQ r k:=by
 unfold qQ;rw[List.filter_cons,if_pos (by simp[e])]
end
end L2
abbrev Fg:=PySem.W.Frag
abbrev Mg:=PySem.Str→Option PySem.Value
namespace L2.VS
open PySem PySem.Spec PyProof.Rows
section
abbrev D:=PyData
structure Pb where
 P:V→Hp→Prop
 mono:∀{v G G'},Same G G'→P v G→P v G'
structure Bx where
 P:V→List Addr→Hp→Hp→Prop
 mono:∀{v fp G G' H},Same G G'→P v fp G H→P v fp G' H
 loc:∀{v fp G H H'},(∀ b∈fp,H' b=H b)→P v fp G H→P v fp G H'
 dom:∀{v fp G H},P v fp G H→∀ b∈fp,∃ o,H b=some o
 uniq:∀{v fp fp' G H},P v fp G H→P v fp' G H→fp=fp'
 nt:∀{v fp G H},P v fp G H→∀ b∈fp,∀ xs,H b=some (.tup xs)→∃ q∈fp,V.ref q∈xs∧∃ vs,H q=some (.lst vs)
 view:Option D
 vok:∀{v fp G H G' d},P v fp G H→view=some d→Same G G'→(∀ b∈fp,G' b=H b)→Dt G' v d
 pv:Option Pb:=none
 pok:∀{v fp G H G' B},P v fp G H→pv=some B→Same G G'→(∀ b∈fp,G' b=H b)→B.P v G':=by intro _ _ _ _ _ _ _ z; cases z
inductive Sl where
 | no|val (d:D)|own (ds:List D)|pen|con (p:Addr)|box (B:Bx)|pub (B:Pb)
abbrev En:=List Sl
inductive Rv where
 | val (d:D)|own (ds:List D)|box (B:Bx)
def Rv.d:Rv→D
 | .val d=>d
 | .own ds=>.list ds
 | .box B=>B.view.getD .none
def Rv.sl:Rv→Sl
 | .val d=>.val d
 | .own ds=>.own ds
 | .box B=>.box B
inductive Fl where
 | nx (Γ:En)|rt (r:Rv)|bk (Γ:En)|ct (Γ:En)
variable {P0:Addr→Hp→Prop}
structure Fra (P0:Addr→Hp→Prop) where
 H0:Hp
 G0:Hp
 pen:Option Addr
 stab:∀ p,pen=some p→∀ H H',(∀ b o,H0 b=some o→H' b=H b)→P0 p H→P0 p H'
 pin:∀ p,pen=some p→∀ H,P0 p H→∃ o,H p=some o
 pin0:∀ p,pen=some p→∃ o,H0 p=some o
 pg:∀ p,pen=some p→G0 p=none
def Fra.PI (F:Fra P0)(H:Hp):Prop:=∀ p,F.pen=some p→P0 p H
theorem Fra.stab' (F:Fra P0):∀ H H',(∀ b o,F.H0 b=some o→H' b=H b)→F.PI H→F.PI H':=fun H H' h pi p e=>F.stab p e H H' h (pi p e)
structure Rf (F:Fra P0)(G H:Hp):Prop where
 sub:Same G H
 g0:∀ b o,F.H0 b=some o→G b=F.G0 b
 h0:∀ b o,F.H0 b=some o→F.pen≠some b→H b=some o
 pn:F.PI H
def SlF (F:Fra P0)(G H:Hp)(x:Option (Option V))(fp:List Addr):Sl→Prop
 | .no=>fp=[]
 | .val d=>fp=[]∧∃ v,x=some (some v)∧Dt G v d
 | .own ds=>∃ p vs,fp=[p]∧x=some (some (.ref p))∧F.H0 p=none∧G p=none∧H p=some (.lst vs)∧Dts G vs ds
 | .pen=>fp=[]∧∃ p,x=some (some (.ref p))∧F.pen=some p
 | .con p=>fp=[]∧x=some (some (.ref p))
 | .pub B=>fp=[]∧∃ v,x=some (some v)∧B.P v G
 | .box B=>∃ v,x=some (some v)∧B.P v fp G H∧∀ b∈fp,F.H0 b=none∧G b=none
def aJW (F:Fra P0)(G H:Hp)(x:Option (Option V)):Sl→Prop
 | .no=>True
 | .val d=>∃ v,x=some (some v)∧Dt G v d
 | .own ds=>∃ p vs,x=some (some (.ref p))∧F.H0 p=none∧G p=none∧H p=some (.lst vs)∧Dts G vs ds
 | .pen=>∃ p,x=some (some (.ref p))∧F.pen=some p
 | .con p=>x=some (some (.ref p))
 | .pub B=>∃ v,x=some (some v)∧B.P v G
 | .box B=>∃ v fp,x=some (some v)∧B.P v fp G H∧∀ b∈fp,F.H0 b=none∧G b=none
theorem SlF.ok {F:Fra P0}{G H:Hp}{x:Option (Option V)}{fp:List Addr}:∀{s:Sl},SlF F G H x fp s→aJW F G H x s
 | .no,_=>trivial
 | .val _,h=>h.2
 | .own _,h=>let ⟨p,vs,_,r⟩:=h; ⟨p,vs,r⟩
 | .pen,h=>h.2
 | .con _,h=>h.2
 | .pub _,h=>h.2
 | .box _,h=>let ⟨v,r⟩:=h; ⟨v,fp,r⟩
theorem SlF.mine {F:Fra P0}{G H:Hp}{x:Option (Option V)}{fp:List Addr}{b:Addr}(hb:b∈fp):∀{s:Sl},SlF F G H x fp s→F.H0 b=none∧G b=none∧∃ o,H b=some o
 | .no,h=>by rw[show fp=[] from h] at hb; cases hb
 | .val _,h=>by rw[h.1] at hb; cases hb
 | .own _,h=>by
  obtain⟨p,vs,e,_,h1,h2,h3,_⟩:=h;rw[e] at hb;rw[List.mem_singleton.mp hb];exact⟨h1,h2,_,h3⟩
 | .pen,h=>by rw[h.1] at hb; cases hb
 | .con _,h=>by rw[h.1] at hb; cases hb
 | .pub _,h=>by rw[h.1] at hb; cases hb
 | .box B,h=>by
  obtain⟨v,_,h2,h3⟩:=h;exact⟨(h3 b hb).1,(h3 b hb).2,B.dom h2 b hb⟩
theorem SlF.go {F:Fra P0}{G H G' H':Hp}{x:Option (Option V)}{fp:List Addr}(g:Same G G')(k:∀ b∈fp,G' b=none∧H' b=H b):∀{s:Sl},SlF F G H x fp s→SlF F G' H' x fp s
 | .no,h=>h
 | .val _,h=>let ⟨e,v,e1,d1⟩:=h; ⟨e,v,e1,Dt.same g _ _ d1⟩
 | .own _,h=>by
  obtain⟨p,vs,e,e1,e2,e3,e4,e5⟩:=h;have:=k p (by rw[e]; exact List.mem_singleton.mpr rfl);exact⟨p,vs,e,e1,e2,this.1,this.2.trans e4,Dts.same g _ _ e5⟩
 | .pen,h=>h
 | .con _,h=>h
 | .pub B,h=>let ⟨e,v,e1,d1⟩:=h; ⟨e,v,e1,B.mono g d1⟩
 | .box B,h=>by
  obtain⟨v,h1,h2,h3⟩:=h;exact⟨v,h1,B.loc (fun b hb=>(k b hb).2) (B.mono g h2),fun b hb=>⟨(h3 b hb).1,(k b hb).1⟩⟩
structure R (F:Fra P0)(Γ:En)(σ:St)(G H:Hp):Prop where
 fr:Rf F G H
 len:Γ.length=σ.length
 fps:∃ fps:Nat→List Addr,(∀(i:Nat) s,Γ[i]?=some s→SlF F G H σ[i]? (fps i) s)∧∀(i j:Nat) (s t:Sl),Γ[i]?=some s→Γ[j]?=some t→i≠j→∀ b∈fps i,b∉fps j
theorem R.sl {F:Fra P0}{Γ:En}{σ:St}{G H:Hp}(r:R F Γ σ G H)(i:Nat)(s:Sl)(e:Γ[i]?=some s):aJW F G H σ[i]? s:=
 let ⟨_,h,_⟩:=r.fps; (h i s e).ok
theorem R.of {F:Fra P0}{Γ:En}{σ:St}{G H:Hp}(fr:Rf F G H)(len:Γ.length=σ.length)(sl:∀(i:Nat) s,Γ[i]?=some s→aJW F G H σ[i]? s)(nb:∀(i:Nat) B,Γ[i]?≠some (.box B))
  (ap:∀(i j:Nat) x y,i≠j→Γ[i]?=some (.own x)→Γ[j]?=some (.own y)→σ[i]?≠σ[j]?):R F Γ σ G H:=by
 refine⟨fr,len,fun i=>match Γ[i]?,σ[i]? with|some (.own _),some (some (.ref p))=>[p]|_,_=>[],fun i s e=>?_,fun i j s t ei ej hij b hb hc=>?_⟩
 ·have h:=sl i s e
  cases s with
  | no=>simp only[e]; rfl
  | val d=>simp only[e]; exact⟨rfl,h⟩
  | own ds=>
   obtain⟨p,vs,e1,r⟩:=h;simp only[e,e1];exact⟨p,vs,rfl,rfl,r⟩
  | pen=>simp only[e]; exact⟨rfl,h⟩
  | con q=>simp only[e]; exact⟨rfl,h⟩
  | pub B=>simp only[e]; exact⟨rfl,h⟩
  | box B=>exact absurd e (nb i B)
 ·simp only[ei] at hb;simp only[ej] at hc
  cases s with
  | own x=>
   cases t with
   | own y=>
    split at hb
    ·rename_i p _ e1
     split at hc
     ·rename_i q _ e2
      have e1:=List.mem_singleton.mp hb;have e2:=List.mem_singleton.mp hc;exact ap i j x y hij ei ej (by simp_all)
     ·cases hc
    ·cases hb
   | _=>simp at hc
  | _=>simp at hb
section
variable {F:Fra P0}{Γ:En}{σ:St}{G H G' H':Hp}{p:Addr}{o:HO}
theorem Rf.dom (h:Rf F G H){b:Addr}(e:F.H0 b=some o):∃ o',H b=some o':=by
 by_cases hb:F.pen=some b
 ·exact F.pin b hb H (h.pn b hb)
 ·exact⟨o,h.h0 b o e hb⟩
theorem Rf.fresh (h:Rf F G H)(hp:H p=none):F.H0 p=none:=by
 cases e:F.H0 p with
 | none=>rfl
 | some o=>
  obtain⟨o',e'⟩:=h.dom e;rw[hp] at e'; cases e'
theorem Rf.gfresh (h:Rf F G H)(hp:H p=none):G p=none:=h.sub.free hp
theorem Rf.pub (h:Rf F G H)(hp:H p=none):Rf F (upd G p o) (upd H p o):=by
 have hf:=h.fresh hp;have hn:∀ b u,F.H0 b=some u→b≠p:=fun b u e z=>by rw[z,hf] at e; cases e
 refine⟨fun b u e=>?_,fun b u e=>?_,fun b u e hb=>?_,F.stab' H _ (fun b u e=>aZ (hn b u e)) h.pn⟩
 ·by_cases hb:b=p
  ·subst hb; rw[bA] at e; cases e; exact bA
  ·rw[aZ hb] at e ⊢; exact h.sub b u e
 ·rw[aZ (hn b u e)]; exact h.g0 b u e
 ·rw[aZ (hn b u e)]; exact h.h0 b u e hb
theorem Rf.priv (h:Rf F G H)(hp:F.H0 p=none)(hg:G p=none):Rf F G (upd H p o):=by
 have hn:∀ b u,F.H0 b=some u→b≠p:=fun b u e z=>by rw[z,hp] at e; cases e
 refine⟨fun b u e=>?_,h.g0,fun b u e hb=>?_,F.stab' H _ (fun b u e=>aZ (hn b u e)) h.pn⟩
 ·rw[aZ (bJ e hg)]; exact h.sub b u e
 ·rw[aZ (hn b u e)]; exact h.h0 b u e hb
theorem Rf.give (h:Rf F G H)(hp:F.H0 p=none)(hH:H p=some o):Rf F (upd G p o) H:=by
 have hn:∀ b u,F.H0 b=some u→b≠p:=fun b u e z=>by rw[z,hp] at e; cases e
 refine⟨fun b u e=>?_,fun b u e=>?_,h.h0,h.pn⟩
 ·by_cases hb:b=p
  ·subst hb; rw[bA] at e; cases e; exact hH
  ·rw[aZ hb] at e; exact h.sub b u e
 ·rw[aZ (hn b u e)]; exact h.g0 b u e
def R.Has (_:R F Γ σ G H)(b:Addr):Prop:=∃(i:Nat) (s:Sl) (fp:List Addr),Γ[i]?=some s∧SlF F G H σ[i]? fp s∧b∈fp
theorem R.keep (r:R F Γ σ G H)(f:Rf F G' H')(g:Same G G')
  (k:∀ b o,r.Has b→F.H0 b=none→G b=none→H b=some o→G' b=none∧H' b=some o):R F Γ σ G' H':=by
 obtain⟨fps,h1,h2⟩:=r.fps;refine⟨f,r.len,fps,fun i s e=>(h1 i s e).go g fun b hb=>?_,h2⟩;obtain⟨m1,m2,o,m3⟩:=(h1 i s e).mine hb;obtain⟨k1,k2⟩:=k b o ⟨i,s,fps i,e,h1 i s e,hb⟩ m1 m2 m3;exact⟨k1,k2.trans m3.symm⟩
theorem R.new (r:R F Γ σ G H)(hp:H p=none):R F Γ σ (upd G p o) (upd H p o):=by
 refine r.keep (r.fr.pub hp) (gB (r.fr.gfresh hp) o) fun q u _ _ g h=>?_;have hq:q≠p:=bJ h hp;rw[aZ hq,aZ hq];exact⟨g,h⟩
theorem R.newP (r:R F Γ σ G H)(hp:H p=none):R F Γ σ G (upd H p o):=by
 refine r.keep (r.fr.priv (r.fr.fresh hp) (r.fr.gfresh hp)) (Same.refl _) fun q u _ _ g h=>?_;have hq:q≠p:=bJ h hp;rw[aZ hq];exact⟨g,h⟩
def RvO (F:Fra P0)(G H:Hp)(r:V):Rv→Prop
 | .val d=>Dt G r d
 | .own ds=>∃ p vs,r=.ref p∧F.H0 p=none∧G p=none∧H p=some (.lst vs)∧Dts G vs ds
 | .box B=>∃ fp,B.P r fp G H∧∀ b∈fp,F.H0 b=none∧G b=none
def Apart (F:Fra P0)(Γ:En)(σ:St)(G H:Hp)(r:V):Rv→Prop
 | .val _=>True
 | .own _=>∀(i:Nat) s fp,Γ[i]?=some s→SlF F G H σ[i]? fp s→∀ p,r=.ref p→p∉fp
 | .box B=>∀(i:Nat) s fp f,Γ[i]?=some s→SlF F G H σ[i]? fp s→B.P r f G H→∀ b∈f,b∉fp
theorem R.give (r:R F Γ σ G H){v:V}{ds:List D}(h:RvO F G H v (.own ds))(ha:Apart F Γ σ G H v (.own ds)):∃ G',Same G G'∧R F Γ σ G' H∧Dt G' v (.list ds):=by
 obtain⟨p,vs,rfl,e1,e2,e3,e4⟩:=h;have g:=gB e2 (.lst vs);refine⟨upd G p (.lst vs),g,r.keep (r.fr.give e1 e3) g fun q u hq _ eg eh=>⟨?_,eh⟩,.lst bA (Dts.same g _ _ e4)⟩;have hqp:q≠p:=fun z=>by
  obtain⟨i,s,fp,a1,a2,a3⟩:=hq;rw[z] at a3;exact ha i s fp a1 a2 p rfl a3
 rw[aZ hqp];exact eg
theorem R.giveB (r:R F Γ σ G H){v:V}{B:Bx}{d:D}(h:RvO F G H v (.box B))(ha:Apart F Γ σ G H v (.box B))(hv:B.view=some d):∃ G',Same G G'∧R F Γ σ G' H∧Dt G' v d:=by
 obtain⟨fp,e1,e2⟩:=h;have g:Same G (fun b=>if b∈fp then H b else G b):=fun b o e=>by
  show(if b∈fp then H b else G b)=some o
  rw[if_neg (fun z=>by rw[(e2 b z).2] at e; cases e)];exact e
 refine⟨fun b=>if b∈fp then H b else G b,g,r.keep ⟨fun b o e=>?_,fun b o e=>?_,r.fr.h0,r.fr.pn⟩ g fun q u hq _ eg eh=>⟨?_,eh⟩,B.vok e1 hv g fun b hb=>if_pos hb⟩
 ·have e:(if b∈fp then H b else G b)=some o:=e
  split at e
  ·exact e
  ·exact r.fr.sub b o e
 ·show(if b∈fp then H b else G b)=_
  rw[if_neg (fun z=>by rw[(e2 b z).1] at e; cases e)];exact r.fr.g0 b o e
 ·obtain⟨i,s,f,a1,a2,a3⟩:=hq
  show(if q∈fp then H q else G q)=none
  rw[if_neg fun z=>ha i s f fp a1 a2 e1 q z a3];exact eg
theorem R.set (r:R F Γ σ G H){i:Nat}{v:V}{rv:Rv}(h:RvO F G H v rv)(ha:Apart F Γ σ G H v rv):R F (Γ.set i rv.sl) (σ.set i (some v)) G H:=by
 obtain⟨fps,h1,h2⟩:=r.fps;obtain⟨fp,hf,hd⟩:∃ fp,SlF F G H (some (some v)) fp rv.sl∧∀(j:Nat) s,Γ[j]?=some s→∀ b∈fp,b∉fps j:=by
  cases rv with
  | val d=>exact⟨[],⟨rfl,v,rfl,h⟩,fun j s _ b hb=>nomatch hb⟩
  | own ds=>
   obtain⟨p,vs,rfl,q⟩:=h;exact⟨[p],⟨p,vs,rfl,rfl,q⟩,fun j s ej b hb=>by rw[List.mem_singleton.mp hb]; exact ha j s (fps j) ej (h1 j s ej) p rfl⟩
  | box B=>
   obtain⟨fp,q1,q2⟩:=h;exact⟨fp,⟨v,rfl,q1,q2⟩,fun j s ej b hb=>ha j s (fps j) fp ej (h1 j s ej) q1 b hb⟩
 have lt:∀{m:Nat} {z},(Γ.set i rv.sl)[m]?=some z→m<Γ.length:=fun e=>by
  have:=(List.getElem?_eq_some_iff.mp e).1;simpa using this
 have old:∀{m:Nat} {z},m≠i→(Γ.set i rv.sl)[m]?=some z→Γ[m]?=some z:=fun hm e=>by rw[List.getElem?_set_ne (Ne.symm hm)] at e; exact e
 refine⟨r.fr,by rw[List.length_set,List.length_set]; exact r.len,fun j=>if j=i then fp else fps j,fun j s e=>?_,fun j k s t ej ek hjk b hb hc=>?_⟩
 ·dsimp only
  by_cases hj:j=i
  ·subst hj;have hi:=lt e;rw[List.getElem?_set_self hi] at e;rw[if_pos rfl,List.getElem?_set_self (by rw[← r.len]; exact hi)]
   cases e
   exact hf
  ·rw[if_neg hj,List.getElem?_set_ne (Ne.symm hj)];exact h1 j s (old hj e)
 ·dsimp only at hb hc
  by_cases hj:j=i
  ·have hk:k≠i:=fun z=>hjk (hj.trans z.symm);rw[if_pos hj] at hb;rw[if_neg hk] at hc;exact hd k t (old hk ek) b hb hc
  ·rw[if_neg hj] at hb
   by_cases hk:k=i
   ·rw[if_pos hk] at hc;exact hd j s (old hj ej) b hc hb
   ·rw[if_neg hk] at hc;exact h2 j k s t (old hj ej) (old hk ek) hjk b hb hc
theorem R.setV (r:R F Γ σ G H){i:Nat}{v:V}{d:D}(h:Dt G v d):R F (Γ.set i (.val d)) (σ.set i (some v)) G H:=r.set (rv:=.val d) h trivial
theorem R.drop (r:R F Γ σ G H)(i:Nat):R F (Γ.set i .no) σ G H:=by
 obtain⟨fps,h1,h2⟩:=r.fps;have back:∀{m z},m≠i→(Γ.set i .no)[m]?=some z→Γ[m]?=some z:=fun{m z} hm e=>by rw[List.getElem?_set_ne (Ne.symm hm)] at e; exact e
 refine⟨r.fr,by rw[List.length_set]; exact r.len,fun j=>if j=i then[] else fps j,fun j s e=>?_,fun j k s t ej ek hjk b hb hc=>?_⟩
 ·dsimp only
  by_cases hj:j=i
  ·subst hj;have hi:j<Γ.length:=by
    have:=(List.getElem?_eq_some_iff.mp e).1;simpa using this
   rw[List.getElem?_set_self hi] at e
   cases e
   rw[if_pos rfl];rfl
  ·rw[if_neg hj];exact h1 j s (back hj e)
 ·dsimp only at hb hc
  by_cases hj:j=i
  ·rw[if_pos hj] at hb; cases hb
  ·rw[if_neg hj] at hb
   by_cases hk:k=i
   ·rw[if_pos hk] at hc; cases hc
   ·rw[if_neg hk] at hc;exact h2 j k s t (back hj ej) (back hk ek) hjk b hb hc
theorem R.writeF (r:R F Γ σ G H){i:Nat}{s0 s1:Sl}{H':Hp}(e:Γ[i]?=some s0)(fr:Rf F G H')(h:∀ fp,SlF F G H σ[i]? fp s0→∃ fp',SlF F G H' σ[i]? fp' s1∧(∀ b,b∉fp→(∃ o,H b=some o)→H' b=H b∧b∉fp')):R F (Γ.set i s1) σ G H':=by
 obtain⟨fps,h1,h2⟩:=r.fps;obtain⟨fp',w1,w2⟩:=h (fps i) (h1 i s0 e);have hi:i<Γ.length:=(List.getElem?_eq_some_iff.mp e).1;have back:∀{m z},m≠i→(Γ.set i s1)[m]?=some z→Γ[m]?=some z:=fun{m z} hm e=>by rw[List.getElem?_set_ne (Ne.symm hm)] at e; exact e
 have away:∀{j:Nat} {s:Sl},j≠i→Γ[j]?=some s→∀ b∈fps j,H' b=H b∧b∉fp':=fun hj ej b hb=>
  w2 b (fun z=>h2 _ i _ s0 ej e hj b hb z) ((h1 _ _ ej).mine hb).2.2
 refine⟨fr,by rw[List.length_set]; exact r.len,fun j=>if j=i then fp' else fps j,fun j s ej=>?_,fun j k s t ej ek hjk b hb hc=>?_⟩
 ·dsimp only
  by_cases hj:j=i
  ·subst hj;rw[List.getElem?_set_self hi] at ej
   cases ej
   rw[if_pos rfl];exact w1
  ·rw[if_neg hj];have e0:=back hj ej;exact(h1 j s e0).go (Same.refl _) fun b hb=>⟨((h1 j s e0).mine hb).2.1,(away hj e0 b hb).1⟩
 ·dsimp only at hb hc
  by_cases hj:j=i
  ·have hk:k≠i:=fun z=>hjk (hj.trans z.symm);rw[if_pos hj] at hb;rw[if_neg hk] at hc;exact(away hk (back hk ek) b hc).2 hb
  ·rw[if_neg hj] at hb
   by_cases hk:k=i
   ·rw[if_pos hk] at hc;exact(away hj (back hj ej) b hb).2 hc
   ·rw[if_neg hk] at hc;exact h2 j k s t (back hj ej) (back hk ek) hjk b hb hc
theorem R.write (r:R F Γ σ G H){i:Nat}{ds es:List D}{p:Addr}{ws:List V}(e:Γ[i]?=some (.own ds))(ep:σ[i]?=some (some (.ref p)))(hw:Dts G ws es):R F (Γ.set i (.own es)) σ G (upd H p (.lst ws)):=by
 obtain⟨p',vs,e1,e2,e3,e4,e5⟩:=r.sl i _ e;rw[ep] at e1; cases e1;refine r.writeF e (r.fr.priv e2 e3) fun fp h=>?_;obtain⟨q,us,f0,f1,f2,f3,f4,f5⟩:=h;rw[ep] at f1; cases f1;refine⟨[p],⟨p,ws,rfl,ep,e2,e3,bA,hw⟩,fun b hb _=>?_⟩;have hbp:b≠p:=fun z=>hb (by rw[f0,z]; exact List.mem_singleton.mpr rfl);exact⟨aZ hbp,fun z=>hbp (List.mem_singleton.mp z)⟩
end
abbrev ME:=En→(D→En→Prop)→Prop
abbrev MO:=En→(Rv→En→Prop)→Prop
abbrev MT:=En→(Bool→En→Prop)→Prop
abbrev MA:=En→(List Sl→En→Prop)→Prop
abbrev MD:=En→(List D→En→Prop)→Prop
abbrev MG:=D→En→(En→Prop)→Prop
abbrev MGs:=List D→En→(En→Prop)→Prop
abbrev MS:=En→(Fl→Prop)→Prop
abbrev Fm:=List Sl→(Rv→Prop)→Prop
def VT (P0:Addr→Hp→Prop)(t:TE)(m:ME):Prop:=∀(F:Fra P0) (Γ:En) (σ:St) (G H:Hp) (Q:VK) (Qm:D→En→Prop),R F Γ σ G H→m Γ Qm →
 (∀ d Γ' r G' H',Qm d Γ'→Same G G'→R F Γ' σ G' H'→Dt G' r d→Q r H')→t σ H Q
def VO (P0:Addr→Hp→Prop)(t:TE)(m:MO):Prop:=∀(F:Fra P0) (Γ:En) (σ:St) (G H:Hp) (Q:VK) (Qm:Rv→En→Prop),R F Γ σ G H→m Γ Qm →
 (∀ rv Γ' r G' H',Qm rv Γ'→Same G G'→R F Γ' σ G' H'→RvO F G' H' r rv→Apart F Γ' σ G' H' r rv→Q r H')→t σ H Q
def VTT (P0:Addr→Hp→Prop)(t:TT)(m:MT):Prop:=∀(F:Fra P0) (Γ:En) (σ:St) (G H:Hp) (Q:Bool→Hp→Prop) (Qm:Bool→En→Prop),R F Γ σ G H→m Γ Qm →
 (∀ b Γ' G' H',Qm b Γ'→Same G G'→R F Γ' σ G' H'→Q b H')→t σ H Q
def VD (P0:Addr→Hp→Prop)(t:TA)(m:MD):Prop:=∀(F:Fra P0) (Γ:En) (σ:St) (G H:Hp) (Q:List V→Hp→Prop) (Qm:List D→En→Prop),R F Γ σ G H→m Γ Qm →
 (∀ ds Γ' rs G' H',Qm ds Γ'→Same G G'→R F Γ' σ G' H'→Dts G' rs ds→Q rs H')→t σ H Q
def v8 (F:Fra P0)(G:Hp)(r:V):Sl→Prop
 | .val d=>Dt G r d
 | .pen=>∃ p,r=.ref p∧F.pen=some p
 | .con p=>r=.ref p
 | .pub B=>B.P r G
 | _=>False
def VA (P0:Addr→Hp→Prop)(t:TA)(m:MA):Prop:=∀(F:Fra P0) (Γ:En) (σ:St) (G H:Hp) (Q:List V→Hp→Prop) (Qm:List Sl→En→Prop),R F Γ σ G H→m Γ Qm →
 (∀ as Γ' rs G' H',Qm as Γ'→Same G G'→R F Γ' σ G' H'→Paired (v8 F G') rs as→Q rs H')→t σ H Q
def VG (P0:Addr→Hp→Prop)(A:Nat→Bool)(g:TG)(m:MG):Prop:=∀(F:Fra P0) (Γ:En) (σ:St) (G H:Hp) (v:V) (d:D) (Q:St→Hp→Prop) (Qm:En→Prop),R F Γ σ G H→Dt G v d→m d Γ Qm →
 (∀ Γ' σ',Qm Γ'→R F Γ' σ' G H→(∀ i,A i=false→σ'[i]?=σ[i]?)→Q σ' H)→g v σ H Q
def VGs (P0:Addr→Hp→Prop)(A:Nat→Bool)(g:TGs)(m:MGs):Prop:=∀(F:Fra P0) (Γ:En) (σ:St) (G H:Hp) (vs:List V) (ds:List D) (Q:St→Hp→Prop) (Qm:En→Prop),R F Γ σ G H→Dts G vs ds→m ds Γ Qm →
 (∀ Γ' σ',Qm Γ'→R F Γ' σ' G H→(∀ i,A i=false→σ'[i]?=σ[i]?)→Q σ' H)→g vs σ H Q
def Post (F:Fra P0)(A:Nat→Bool)(σ0:St)(G:Hp)(E:Ends):Fl→Prop
 | .nx Γ=>∀ σ G' H',Same G G'→R F Γ σ G' H'→(∀ i,A i=false→σ[i]?=σ0[i]?)→E.nx σ H'
 | .rt rv=>∀ r G' H',Same G G'→Rf F G' H'→RvO F G' H' r rv→E.rt r H'
 | .bk Γ=>∀ σ G' H',Same G G'→R F Γ σ G' H'→(∀ i,A i=false→σ[i]?=σ0[i]?)→E.bk σ H'
 | .ct Γ=>∀ σ G' H',Same G G'→R F Γ σ G' H'→(∀ i,A i=false→σ[i]?=σ0[i]?)→E.ct σ H'
def VSA (P0:Addr→Hp→Prop)(A:Nat→Bool)(t:TS)(m:MS):Prop:=∀(F:Fra P0) (Γ:En) (σ:St) (G H:Hp) (E:Ends) (Qm:Fl→Prop),R F Γ σ G H→m Γ Qm→(∀ fl,Qm fl→Post F A σ G E fl)→t E σ H
abbrev aN2:Nat→Bool:=fun _=>true
abbrev VS (P0:Addr→Hp→Prop)(t:TS)(m:MS):Prop:=VSA P0 aN2 t m
theorem Post.same {F:Fra P0}{A:Nat→Bool}{σ0 σ1:St}{G G':Hp}{E:Ends}(g:Same G G')(hσ:∀ i,A i=false→σ1[i]?=σ0[i]?):∀{fl:Fl},Post F A σ0 G E fl→Post F A σ1 G' E fl
 | .nx _,h=>fun σ G2 H2 s r e=>h σ G2 H2 (g.trans s) r fun i hi=>(e i hi).trans (hσ i hi)
 | .rt _,h=>fun r G2 H2 s=>h r G2 H2 (g.trans s)
 | .bk _,h=>fun σ G2 H2 s r e=>h σ G2 H2 (g.trans s) r fun i hi=>(e i hi).trans (hσ i hi)
 | .ct _,h=>fun σ G2 H2 s r e=>h σ G2 H2 (g.trans s) r fun i hi=>(e i hi).trans (hσ i hi)
def SsX (P0:Addr→Hp→Prop)(X:Cx)(sts:List Stmt)(m:MS):Prop:=∃ t,PSs X sts t∧VS P0 t m
end
section
variable {P0:Addr→Hp→Prop}
theorem _root_.L2.Dts.get {G:Hp}:∀{vs:List V} {ds:List D} {i:Nat} {d:D},Dts G vs ds→ds[i]?=some d→∃ v,vs[i]?=some v∧Dt G v d
 := by
  intro vs ds i d h e
  induction ds generalizing vs i with
  | nil=>cases e
  | cons x ds ih=>
    cases h with
    | cons a b=>
      cases i with
      | zero=>cases e; exact⟨_,rfl,a⟩
      | succ i=>
        have q:=ih b (show ds[i]?=some d from e);exact q
theorem _root_.L2.Dts.len {G:Hp}:∀{vs:List V} {ds:List D},Dts G vs ds→vs.length=ds.length
 := by
  intro vs ds h
  induction ds generalizing vs with
  | nil=>cases h; rfl
  | cons x ds ih=>cases h with|cons a b=>exact congrArg Nat.succ (ih b)
theorem _root_.L2.Dts.app {G:Hp}:∀{vs ws:List V} {ds es:List D},Dts G vs ds→Dts G ws es→Dts G (vs++ws) (ds++es)
 := by
  intro vs ws ds es h g
  induction ds generalizing vs with
  | nil=>cases h; exact g
  | cons x ds ih=>cases h with|cons a b=>exact .cons a (ih b)
theorem _root_.L2.Dts.drp {G:Hp}:∀{vs:List V} {ds:List D} (n:Nat),Dts G vs ds→Dts G (vs.drop n) (ds.drop n)
 | _,_,0,h=>h
 | _,_,_+1,.nil=>.nil
 | _,_,n+1,.cons _ b=>Dts.drp n b
theorem _root_.L2.Dts.tak {G:Hp}:∀{vs:List V} {ds:List D} (n:Nat),Dts G vs ds→Dts G (vs.take n) (ds.take n)
 | _,_,0,_=>.nil
 | _,_,_+1,.nil=>.nil
 | _,_,n+1,.cons a b=>.cons a (Dts.tak n b)
def oQ (o:Option D)(k:D→Prop):Prop:=match o with
 | some d=>k d
 | none=>False
theorem a7D {o:Option D}{k:D→Prop}(h:oQ o k):∃ d,o=some d∧k d:=by
 cases o with
 | none=>exact h.elim
 | some d=>exact⟨d,rfl,h⟩
def mC (d:D):ME:=fun Γ Q=>Q d Γ
def aX (i:Nat):ME:=fun Γ Q=>match Γ[i]? with
 | some (.val d)=>Q d Γ
 | _=>False
def mI0 (g:Int→Int→D)(ma mb:ME):ME:=fun Γ Q=>ma Γ fun x Γ1=>mb Γ1 fun y Γ2=>match x,y with
 | .int i,.int j=>Q (g i j) Γ2
 | _,_=>False
def mI (C:Int→Int→Prop)(g:Int→Int→D)(ma mb:ME):ME:=fun Γ Q=>ma Γ fun x Γ1=>mb Γ1 fun y Γ2=>match x,y with
 | .int i,.int j=>C i j∧Q (g i j) Γ2
 | _,_=>False
def mU (g:Int→D)(ma:ME):ME:=fun Γ Q=>ma Γ fun x Γ1=>match x with
 | .int i=>Q (g i) Γ1
 | _=>False
def mEq (ma mb:ME):ME:=fun Γ Q=>ma Γ fun x Γ1=>mb Γ1 fun y Γ2=>Good x∧Good y∧Q (.bool (PyData.eqv x y)) Γ2
def mNe (ma mb:ME):ME:=fun Γ Q=>ma Γ fun x Γ1=>mb Γ1 fun y Γ2=>Good x∧Good y∧Q (.bool (!PyData.eqv x y)) Γ2
def isN:D→Bool
 | .none=>true
 | _=>false
def aH5 (ma:ME):ME:=fun Γ Q=>ma Γ fun x Γ1=>Q (.bool (isN x)) Γ1
def aD0 (ma:ME):ME:=fun Γ Q=>ma Γ fun x Γ1=>Q (.bool (!isN x)) Γ1
def qN (ma mb:ME):ME:=fun Γ Q=>ma Γ fun x Γ1=>match x with
 | .bool c=>if c=true then mb Γ1 Q else Q (.bool false) Γ1
 | _=>False
def aCF (ma:ME):ME:=fun Γ Q=>ma Γ fun x Γ1=>match x with
 | .bool c=>Q (.bool (!c)) Γ1
 | _=>False
def dY (ma:ME):MT:=fun Γ Q=>ma Γ fun x Γ1=>match x with
 | .bool c=>Q c Γ1
 | _=>False
def aEX (ma mb:MT):MT:=fun Γ Q=>ma Γ fun c Γ1=>if c=true then mb Γ1 Q else Q false Γ1
def mOr (ma mb:MT):MT:=fun Γ Q=>ma Γ fun c Γ1=>if c=true then Q true Γ1 else mb Γ1 Q
def yV (ma:MT):MT:=fun Γ Q=>ma Γ fun c Γ1=>Q (!c) Γ1
def a9F (mc:MT)(ma mb:MO):MO:=fun Γ Q=>mc Γ fun c Γ1=>if c=true then ma Γ1 Q else mb Γ1 Q
def lO:MD:=fun Γ Q=>Q [] Γ
def bW (ma:ME)(mr:MD):MD:=fun Γ Q=>ma Γ fun x Γ1=>mr Γ1 fun xs Γ2=>Q (x::xs) Γ2
def cX:MA:=fun Γ Q=>Q [] Γ
def cD (ma:ME)(mr:MA):MA:=fun Γ Q=>ma Γ fun x Γ1=>mr Γ1 fun xs Γ2=>Q (.val x::xs) Γ2
def rN (i:Nat)(mr:MA):MA:=fun Γ Q=>match Γ[i]? with
 | some .pen=>mr Γ fun xs Γ2=>Q (.pen::xs) Γ2
 | _=>False
def yU (md:MD):ME:=fun Γ Q=>md Γ fun ds Γ1=>ds.length≤1000∧Q (.tuple ds) Γ1
def a2A (md:MD):MO:=fun Γ Q=>md Γ fun ds Γ1=>ds.length≤1000∧Q (.own ds) Γ1
def ixD:D→D→Option D
 | .tuple ds,.int i=>atI ds i
 | .list ds,.int i=>atI ds i
 | _,_=>none
def mIx (ma mb:ME):ME:=fun Γ Q=>ma Γ fun x Γ1=>mb Γ1 fun y Γ2=>oQ (ixD x y) fun d=>Q d Γ2
def nbQ:Rv→Prop→Prop
 | .box B,p=>B.view.isSome=true∧p
 | _,p=>p
def cV (mo:MO):ME:=fun Γ Q=>mo Γ fun rv Γ1=>nbQ rv (Q rv.d Γ1)
def cQ (m:ME):MO:=fun Γ Q=>m Γ fun d Γ1=>Q (.val d) Γ1
def a7J (i:Nat):MO:=fun Γ Q=>match Γ[i]? with
 | some (.val d)=>Q (.val d) Γ
 | some (.own ds)=>Q (.own ds) (Γ.set i .no)
 | some (.box B)=>Q (.box B) (Γ.set i .no)
 | _=>False
def bO (n:Nat)(f:Fm)(ma:MA):MO:=fun Γ Q=>ma Γ fun as Γ1=>as.length=n∧f as fun rv=>Q rv Γ1
def aET:D→Option D
 | .tuple ds=>some (.int ds.length)
 | .list ds=>some (.int ds.length)
 | _=>none
def a3E (ma:ME):ME:=fun Γ Q=>ma Γ fun x Γ1=>oQ (aET x) fun d=>Q d Γ1
def rT:D→Option (List D)
 | .tuple ds=>some ds
 | .list ds=>some ds
 | _=>none
def yR (ma:ME):MO:=fun Γ Q=>ma Γ fun x Γ1=>match rT x with
 | some ds=>Q (.own ds) Γ1
 | none=>False
def cutD (xs:List D)(lo hi:Option Int):List D:=(xs.drop (HT.sIx xs.length 0 lo)).take (HT.sIx xs.length xs.length hi-HT.sIx xs.length 0 lo)
abbrev MP:=En→(Option Int→En→Prop)→Prop
def pNo:MP:=fun Γ Q=>Q none Γ
def pSo (m:ME):MP:=fun Γ Q=>m Γ fun x Γ1=>match x with
 | .int i=>Q (some i) Γ1
 | _=>False
def aJN (ma:ME)(ml mh:MP):MO:=fun Γ Q=>ma Γ fun x Γ1=>ml Γ1 fun lo Γ2=>mh Γ2 fun hi Γ3=>match x with
 | .list ds=>Q (.own (cutD ds lo hi)) Γ3
 | _=>False
def VP (P0:Addr→Hp→Prop)(t:TO)(m:MP):Prop:=∀(F:Fra P0) (Γ:En) (σ:St) (G H:Hp) (Q:Option Int→Hp→Prop) (Qm:Option Int→En→Prop),R F Γ σ G H→m Γ Qm →
 (∀ d Γ' G' H',Qm d Γ'→Same G G'→R F Γ' σ G' H'→Q d H')→t σ H Q
section
variable {ta tb tc:TE}{ma mb:ME}{tA tB':TT}{mA mB:MT}{K:Fg}
theorem aIG {v:V}{d:D}(h:∀ G,Dt G v d):VT P0 (tC v) (mC d):=fun _ _ _ G _ _ _ r m k=>k _ _ _ _ _ m (Same.refl _) r (h G)
theorem aB {i:Nat}:VT P0 (v5 i) (aX i):=by
 intro F Γ σ G H Q Qm r m k;unfold aX at m
 split at m
 ·rename_i d e
  obtain⟨v,e1,d1⟩:=r.sl i _ e;exact⟨v,e1,k _ _ _ _ _ m (Same.refl _) r d1⟩
 ·exact m.elim
theorem aF0 {r2:R2}{m2:D→D→(D→Prop)→Prop}(ha:VT P0 ta ma)(hb:VT P0 tb mb)
  (h:∀(F:Fra P0) (Γ:En) (σ:St) (G H:Hp) (x y:V) (d e:D) (Q:VK) (Qm:D→Prop),R F Γ σ G H→Dt G x d→Dt G y e→m2 d e Qm→(∀ u r G' H',Qm u→Same G G'→R F Γ σ G' H'→Dt G' r u→Q r H')→r2 x y H Q) :
  VT P0 (tOp r2 ta tb) (fun Γ Q=>ma Γ fun x Γ1=>mb Γ1 fun y Γ2=>m2 x y fun d=>Q d Γ2):=by
 intro F Γ σ G H Q Qm r m k;refine ha F Γ σ G H _ _ r m fun d Γ1 x G1 H1 m1 s1 r1 d1=>?_;refine hb F Γ1 σ G1 H1 _ _ r1 m1 fun e Γ2 y G2 H2 m2 s2 r2 d2=>?_;exact h F Γ2 σ G2 H2 x y d e _ _ r2 (Dt.same s2 _ _ d1) d2 m2 fun u w G3 H3 q s3 r3 d3=>k _ _ _ _ _ q ((s1.trans s2).trans s3) r3 d3
theorem a65 {gv:Int→Int→V}{g:Int→Int→D}(hg:∀ G i j,Dt G (gv i j) (g i j))(ha:VT P0 ta ma)(hb:VT P0 tb mb):VT P0 (tOp (rI0 gv) ta tb) (mI0 g ma mb):=by
 refine aF0 (m2:=fun x y Q=>match x,y with|.int i,.int j=>Q (g i j)|_,_=>False) ha hb fun F Γ σ G H x y d e Q Qm r d1 d2 m k=>?_
 split at m
 ·cases d1; cases d2
  exact⟨_,_,rfl,rfl,k _ _ _ _ m (Same.refl _) r (hg _ _ _)⟩
 ·exact m.elim
theorem aIS {C:Int→Int→Prop}{gv:Int→Int→V}{g:Int→Int→D}(hg:∀ G i j,Dt G (gv i j) (g i j))(ha:VT P0 ta ma)(hb:VT P0 tb mb):VT P0 (tOp (rI C gv) ta tb) (mI C g ma mb):=by
 refine aF0 (m2:=fun x y Q=>match x,y with|.int i,.int j=>C i j∧Q (g i j)|_,_=>False) ha hb fun F Γ σ G H x y d e Q Qm r d1 d2 m k=>?_
 split at m
 ·cases d1; cases d2
  exact⟨_,_,rfl,rfl,m.1,k _ _ _ _ m.2 (Same.refl _) r (hg _ _ _)⟩
 ·exact m.elim
theorem aMN {gv:Int→V}{g:Int→D}(hg:∀ G i,Dt G (gv i) (g i))(ha:VT P0 ta ma):VT P0 (tUn (rU gv) ta) (mU g ma):=by
 intro F Γ σ G H Q Qm r m k;refine ha F Γ σ G H _ _ r m fun d Γ1 x G1 H1 m1 s1 r1 d1=>?_
 split at m1
 ·cases d1
  exact⟨_,rfl,k _ _ _ _ _ m1 s1 r1 (hg _ _)⟩
 ·exact m1.elim
theorem eQ (ha:VT P0 ta ma)(hb:VT P0 tb mb):VT P0 (tOp aM7 ta tb) (mEq ma mb):=by
 refine aF0 (m2:=fun x y Q=>Good x∧Good y∧Q (.bool (PyData.eqv x y))) ha hb fun F Γ σ G H x y d e Q Qm r d1 d2 m k=>?_;exact⟨d,e,Dt.same r.fr.sub _ _ d1,Dt.same r.fr.sub _ _ d2,m.1,m.2.1,k _ _ _ _ m.2.2 (Same.refl _) r (.bl _)⟩
theorem jV (ha:VT P0 ta ma)(hb:VT P0 tb mb):VT P0 (tOp aLT ta tb) (mNe ma mb):=by
 refine aF0 (m2:=fun x y Q=>Good x∧Good y∧Q (.bool (!PyData.eqv x y))) ha hb fun F Γ σ G H x y d e Q Qm r d1 d2 m k=>?_;exact⟨d,e,Dt.same r.fr.sub _ _ d1,Dt.same r.fr.sub _ _ d2,m.1,m.2.1,k _ _ _ _ m.2.2 (Same.refl _) r (.bl _)⟩
theorem aC5 {G:Hp}{x:V}{d:D}(h:Dt G x d):decide (x=V.non)=isN d:=by
 cases h<;>first|rfl|exact decide_eq_false (by intro z; cases z)
theorem a8I (ha:VT P0 ta ma):VT P0 (tOp (fun x y H Q=>y=.non∧Q (.bl (decide (x=.non))) H) ta (tC .non)) (aH5 ma):=by
 intro F Γ σ G H Q Qm r m k;refine ha F Γ σ G H _ _ r m fun d Γ1 x G1 H1 m1 s1 r1 d1=>⟨rfl,?_⟩;rw[aC5 d1];exact k _ _ _ _ _ m1 s1 r1 (.bl _)
theorem aDI (ha:VT P0 ta ma):VT P0 (tOp (fun x y H Q=>y=.non∧Q (.bl (!decide (x=.non))) H) ta (tC .non)) (aD0 ma):=by
 intro F Γ σ G H Q Qm r m k;refine ha F Γ σ G H _ _ r m fun d Γ1 x G1 H1 m1 s1 r1 d1=>⟨rfl,?_⟩;rw[aC5 d1];exact k _ _ _ _ _ m1 s1 r1 (.bl _)
theorem jF (ha:VT P0 ta ma)(hb:VT P0 tb mb):VT P0 (aGU ta tb) (qN ma mb):=by
 intro F Γ σ G H Q Qm r m k;refine ha F Γ σ G H _ _ r m fun d Γ1 x G1 H1 m1 s1 r1 d1=>?_
 split at m1
 ·rename_i c
  cases d1
  refine⟨c,rfl,?_⟩
  cases c with
  | true=>exact a1F (hb F Γ1 σ G1 H1 _ _ r1 m1 fun e Γ2 y G2 H2 m2 s2 r2 d2=>k _ _ _ _ _ m2 (s1.trans s2) r2 d2)
  | false=>exact a0Q (k _ _ _ _ _ m1 s1 r1 (.bl _))
 ·exact m1.elim
theorem aGM (ha:VT P0 ta ma):VT P0 (aFR ta) (aCF ma):=by
 intro F Γ σ G H Q Qm r m k;refine ha F Γ σ G H _ _ r m fun d Γ1 x G1 H1 m1 s1 r1 d1=>?_
 split at m1
 ·cases d1
  exact⟨_,rfl,k _ _ _ _ _ m1 s1 r1 (.bl _)⟩
 ·exact m1.elim
theorem bB (ha:VT P0 ta ma):VTT P0 (aH3 ta) (dY ma):=by
 intro F Γ σ G H Q Qm r m k;refine ha F Γ σ G H _ _ r m fun d Γ1 x G1 H1 m1 s1 r1 d1=>?_
 split at m1
 ·cases d1
  exact⟨_,rfl,k _ _ _ _ m1 s1 r1⟩
 ·exact m1.elim
theorem fP (ha:VT P0 ta ma):VTT P0 (tB ta) (dY ma):=bB ha
theorem yQ (ha:VTT P0 tA mA)(hb:VTT P0 tB' mB):VTT P0 (aMC tA tB') (aEX mA mB):=by
 intro F Γ σ G H Q Qm r m k;refine ha F Γ σ G H _ _ r m fun c Γ1 G1 H1 m1 s1 r1=>?_
 cases c with
 | true=>exact a1F (hb F Γ1 σ G1 H1 _ _ r1 m1 fun e Γ2 G2 H2 m2 s2 r2=>k _ _ _ _ m2 (s1.trans s2) r2)
 | false=>exact a0Q (k _ _ _ _ m1 s1 r1)
theorem dU (ha:VTT P0 tA mA)(hb:VTT P0 tB' mB):VTT P0 (tOr tA tB') (mOr mA mB):=by
 intro F Γ σ G H Q Qm r m k;refine ha F Γ σ G H _ _ r m fun c Γ1 G1 H1 m1 s1 r1=>?_
 cases c with
 | true=>exact a1F (k _ _ _ _ m1 s1 r1)
 | false=>exact a0Q (hb F Γ1 σ G1 H1 _ _ r1 m1 fun e Γ2 G2 H2 m2 s2 r2=>k _ _ _ _ m2 (s1.trans s2) r2)
theorem eN (ha:VTT P0 tA mA):VTT P0 (aLZ tA) (yV mA):=by
 intro F Γ σ G H Q Qm r m k;exact ha F Γ σ G H _ _ r m fun c Γ1 G1 H1 m1 s1 r1=>k _ _ _ _ m1 s1 r1
theorem rZ {oa ob:MO}(hc:VTT P0 tA mA)(ha:VO P0 ta oa)(hb:VO P0 tb ob):VO P0 (tIf tA ta tb) (a9F mA oa ob):=by
 intro F Γ σ G H Q Qm r m k;refine hc F Γ σ G H _ _ r m fun c Γ1 G1 H1 m1 s1 r1=>?_
 cases c with
 | true=>exact a1F (ha F Γ1 σ G1 H1 _ _ r1 m1 fun e Γ2 y G2 H2 m2 s2 r2 d2 a2=>k _ _ _ _ _ m2 (s1.trans s2) r2 d2 a2)
 | false=>exact a0Q (hb F Γ1 σ G1 H1 _ _ r1 m1 fun e Γ2 y G2 H2 m2 s2 r2 d2 a2=>k _ _ _ _ _ m2 (s1.trans s2) r2 d2 a2)
theorem c7:VD P0 pW lO:=fun _ _ _ _ _ _ _ r m k=>k _ _ _ _ _ m (Same.refl _) r .nil
theorem aW {tr:TA}{mr:MD}(ha:VT P0 ta ma)(hr:VD P0 tr mr):VD P0 (dN ta tr) (bW ma mr):=by
 intro F Γ σ G H Q Qm r m k;refine ha F Γ σ G H _ _ r m fun d Γ1 x G1 H1 m1 s1 r1 d1=>?_;exact hr F Γ1 σ G1 H1 _ _ r1 m1 fun e Γ2 y G2 H2 m2 s2 r2 d2=>k _ _ _ _ _ m2 (s1.trans s2) r2 (.cons (Dt.same s2 _ _ d1) d2)
theorem aV:VA P0 pW cX:=fun _ _ _ _ _ _ _ r m k=>k _ _ _ _ _ m (Same.refl _) r .nil
theorem aN {tr:TA}{mr:MA}(ha:VT P0 ta ma)(hr:VA P0 tr mr):VA P0 (dN ta tr) (cD ma mr):=by
 intro F Γ σ G H Q Qm r m k;refine ha F Γ σ G H _ _ r m fun d Γ1 x G1 H1 m1 s1 r1 d1=>?_;exact hr F Γ1 σ G1 H1 _ _ r1 m1 fun e Γ2 y G2 H2 m2 s2 r2 d2=>k _ _ _ _ _ m2 (s1.trans s2) r2 (.cons (Dt.same s2 _ _ d1) d2)
theorem eG {i:Nat}{tr:TA}{mr:MA}(hr:VA P0 tr mr):VA P0 (dN (v5 i) tr) (rN i mr):=by
 intro F Γ σ G H Q Qm r m k;unfold rN at m
 split at m
 ·rename_i e
  obtain⟨p,e1,e2⟩:=r.sl i _ e;exact⟨_,e1,hr F Γ σ G H _ _ r m fun as Γ2 y G2 H2 m2 s2 r2 d2=>k _ _ _ _ _ m2 s2 r2 (.cons ⟨p,rfl,e2⟩ d2)⟩
 ·exact m.elim
theorem gZ {t:TA}{md:MD}(h:VD P0 t md):VT P0 (aIH t) (yU md):=by
 intro F Γ σ G H Q Qm r m k;refine h F Γ σ G H _ _ r m fun ds Γ1 xs G1 H1 m1 s1 r1 d1=>⟨nM (by rw[d1.len]; exact m1.1),fun p hp=>?_⟩;have g:=gB (r1.fr.gfresh hp) (.tup xs);exact k _ _ _ _ _ m1.2 (s1.trans g) (r1.new hp) (.tup bA (Dts.same g _ _ d1))
theorem SlF.det {F:Fra P0}{G H:Hp}{x:Option (Option V)}{fp fp':List Addr}:∀{s:Sl},SlF F G H x fp s→SlF F G H x fp' s→fp=fp'
 | .no,h,g=>(show fp=[] from h).trans (show fp'=[] from g).symm
 | .val _,h,g=>h.1.trans g.1.symm
 | .pen,h,g=>h.1.trans g.1.symm
 | .con _,h,g=>h.1.trans g.1.symm
 | .pub _,h,g=>h.1.trans g.1.symm
 | .own _,h,g=>by
  obtain⟨p,vs,e,e1,_⟩:=h;obtain⟨q,ws,f,f1,_⟩:=g;rw[e1] at f1; cases f1;rw[e,f]
 | .box B,h,g=>by
  obtain⟨v,e1,e2,_⟩:=h;obtain⟨v',f1,f2,_⟩:=g;rw[e1] at f1; cases f1;exact B.uniq e2 f2
theorem R.before {F:Fra P0}{Γ:En}{σ:St}{G H G' H':Hp}(r:R F Γ σ G H)(g:Same G G')(k:∀ b o,F.H0 b=none→G b=none→H b=some o→G' b=none∧H' b=some o){i:Nat}{s:Sl}{fp:List Addr}(e:Γ[i]?=some s)(h:SlF F G' H' σ[i]? fp s):∀ b∈fp,∃ o,H b=some o:=by
 obtain⟨fps,h1,h2⟩:=r.fps;have h0:=h1 i s e;have h3:SlF F G' H' σ[i]? (fps i) s:=h0.go g fun b hb=>by
  obtain⟨m1,m2,o,m3⟩:=h0.mine hb;obtain⟨k1,k2⟩:=k b o m1 m2 m3;exact⟨k1,k2.trans m3.symm⟩
 rw[h.det h3];exact fun b hb=>(h0.mine hb).2.2
theorem Apart.new {F:Fra P0}{Γ:En}{σ:St}{G H G' H':Hp}(r:R F Γ σ G H){p:Addr}(hp:H p=none){ds:List D}(g:Same G G')(k:∀ b o,F.H0 b=none→G b=none→H b=some o→G' b=none∧H' b=some o):Apart F Γ σ G' H' (.ref p) (.own ds):=by
 intro i s fp e h q eq hq
 cases eq
 obtain⟨o,eo⟩:=r.before g k e h p hq;rw[hp] at eo; cases eo
theorem Apart.newB {F:Fra P0}{Γ:En}{σ:St}{G H G' H':Hp}(r:R F Γ σ G H){v:V}{B:Bx}(hp:∀ fp,B.P v fp G' H'→∀ b∈fp,H b=none)(g:Same G G')(k:∀ b o,F.H0 b=none→G b=none→H b=some o→G' b=none∧H' b=some o):Apart F Γ σ G' H' v (.box B):=by
 intro i s fp f e h hf b hb hc;obtain⟨o,eo⟩:=r.before g k e h b hc;rw[hp f hf b hb] at eo; cases eo
theorem qT {F:Fra P0}{Γ:En}{σ:St}{G H:Hp}(r:R F Γ σ G H){p:Addr}{xs:List V}{ds:List D}(hp:H p=none)(d:Dts G xs ds) :
  R F Γ σ G (upd H p (.lst xs))∧RvO F G (upd H p (.lst xs)) (.ref p) (.own ds)∧Apart F Γ σ G (upd H p (.lst xs)) (.ref p) (.own ds):=
 ⟨r.newP hp,⟨p,xs,rfl,r.fr.fresh hp,r.fr.gfresh hp,bA,d⟩,Apart.new r hp (Same.refl _) fun b o _ g e=>⟨g,by rw[aZ (bJ e hp)]; exact e⟩⟩
theorem jU {t:TA}{md:MD}(h:VD P0 t md):VO P0 (aJE t) (a2A md):=by
 intro F Γ σ G H Q Qm r m k;refine h F Γ σ G H _ _ r m fun ds Γ1 xs G1 H1 m1 s1 r1 d1=>⟨nM (by rw[d1.len]; exact m1.1),fun p hp=>?_⟩;obtain⟨a,b,c⟩:=qT r1 hp d1;exact k _ _ _ _ _ m1.2 s1 a b c
theorem aR {mo:MO}(h:VO P0 ta mo):VT P0 ta (cV mo):=by
 intro F Γ σ G H Q Qm r m k;refine h F Γ σ G H _ _ r m fun rv Γ1 x G1 H1 m1 s1 r1 d1 a1=>?_
 cases rv with
 | val d=>exact k _ _ _ _ _ m1 s1 r1 d1
 | own ds=>
  obtain⟨G2,s2,r2,d2⟩:=r1.give d1 a1;exact k _ _ _ _ _ m1 (s1.trans s2) r2 d2
 | box B=>
  obtain⟨hv,m1⟩:=m1;obtain⟨d,hd⟩:=Option.isSome_iff_exists.mp hv;obtain⟨G2,s2,r2,d2⟩:=r1.giveB d1 a1 hd;have m1:Qm (B.view.getD .none) Γ1:=m1;rw[hd] at m1;exact k _ _ _ _ _ m1 (s1.trans s2) r2 d2
theorem aO (h:VT P0 ta ma):VO P0 ta (cQ ma):=by
 intro F Γ σ G H Q Qm r m k;exact h F Γ σ G H _ _ r m fun d Γ1 x G1 H1 m1 s1 r1 d1=>k _ _ _ _ _ m1 s1 r1 d1 trivial
theorem R.apart {F:Fra P0}{Γ:En}{σ:St}{G H:Hp}(r:R F Γ σ G H){i j:Nat}{s t:Sl}{fp fq:List Addr}(hij:i≠j)(ei:Γ[i]?=some s)(ej:Γ[j]?=some t)(hi:SlF F G H σ[i]? fp s)(hj:SlF F G H σ[j]? fq t):∀ b∈fp,b∉fq:=by
 obtain⟨fps,h1,h2⟩:=r.fps;rw[hi.det (h1 i s ei),hj.det (h1 j t ej)];exact h2 i j s t ei ej hij
theorem aES {i:Nat}:VO P0 (v5 i) (a7J i):=by
 intro F Γ σ G H Q Qm r m k;have other:∀{j:Nat} {s s0:Sl} {fp fq:List Addr},Γ[i]?=some s0→SlF F G H σ[i]? fp s0→(Γ.set i .no)[j]?=some s→SlF F G H σ[j]? fq s→∀ b∈fp,b∉fq:=by
  intro j s s0 fp fq e h ej hj b hb hc
  by_cases hij:i=j
  ·subst hij;have hi:i<Γ.length:=(List.getElem?_eq_some_iff.mp e).1;rw[List.getElem?_set_self hi] at ej
   cases ej
   rw[show fq=[] from hj] at hc; cases hc
  ·rw[List.getElem?_set_ne hij] at ej;exact r.apart hij e ej h hj b hb hc
 unfold a7J at m
 split at m
 ·rename_i d e
  obtain⟨v,e1,d1⟩:=r.sl i _ e;exact⟨v,e1,k _ _ _ _ _ m (Same.refl _) r d1 trivial⟩
 ·rename_i ds e
  obtain⟨p,vs,e1,e2⟩:=r.sl i _ e;refine⟨_,e1,k _ _ _ _ _ m (Same.refl _) (r.drop i) ⟨p,vs,rfl,e2⟩ fun j s fp ej hj q eq hq=>?_⟩
  cases eq
  exact other e (fp:=[p]) ⟨p,vs,rfl,e1,e2⟩ ej hj p (List.mem_singleton.mpr rfl) hq
 ·rename_i B e
  obtain⟨v,fp,e1,e2,e3⟩:=r.sl i _ e;refine⟨_,e1,k _ _ _ _ _ m (Same.refl _) (r.drop i) ⟨fp,e2,e3⟩ fun j s fq f ej hj hf b hb=>?_⟩;rw[B.uniq hf e2] at hb;exact other e (fp:=fp) ⟨v,e1,e2,e3⟩ ej hj b hb
 ·exact m.elim
theorem bN (ha:VT P0 ta ma)(hb:VT P0 tb mb):VT P0 (tOp (rIx K) ta tb) (mIx ma mb):=by
 refine aF0 (m2:=fun x y Q=>oQ (ixD x y) Q) ha hb fun F Γ σ G H x y d e Q Qm r d1 d2 m k=>?_;obtain⟨u,hu,q⟩:=a7D m;unfold ixD at hu
 split at hu
 ·rename_i ds i
  cases d2
  cases d1 with
  | @tup p xs _ hp rs=>
   obtain⟨j,h1,h2⟩:∃ j,ixN ds.length i=some j∧ds[j]?=some u:=by
    unfold atI at hu
    cases e:ixN ds.length i with
    | none=>rw[e] at hu; cases hu
    | some j=>rw[e] at hu; exact⟨j,rfl,hu⟩
   obtain⟨v,hv,dv⟩:=Dts.get rs h2;refine .inr (.inl ⟨p,xs,i,v,rfl,rfl,SqT.of (r.fr.sub _ _ hp),?_,k _ _ _ _ q (Same.refl _) r dv⟩);unfold atI;rw[rs.len,h1];exact hv
 ·rename_i ds i
  cases d2
  cases d1 with
  | @lst p xs _ hp rs=>
   obtain⟨j,h1,h2⟩:∃ j,ixN ds.length i=some j∧ds[j]?=some u:=by
    unfold atI at hu
    cases e:ixN ds.length i with
    | none=>rw[e] at hu; cases hu
    | some j=>rw[e] at hu; exact⟨j,rfl,hu⟩
   obtain⟨v,hv,dv⟩:=Dts.get rs h2;refine .inl ⟨p,xs,i,v,rfl,rfl,SqL.of (r.fr.sub _ _ hp),?_,k _ _ _ _ q (Same.refl _) r dv⟩;unfold atI;rw[rs.len,h1];exact hv
 ·cases hu
theorem aC1 {rr:List V→Hp→VK→Prop}{m1:D→(D→Prop)→Prop}(ha:VT P0 ta ma)
  (h:∀(F:Fra P0) (Γ:En) (σ:St) (G H:Hp) (x:V) (d:D) (Q:VK) (Qm:D→Prop),R F Γ σ G H→Dt G x d→m1 d Qm→(∀ u r G' H',Qm u→Same G G'→R F Γ σ G' H'→Dt G' r u→Q r H')→rr [x] H Q) :
  VT P0 (tCB rr (dN ta pW)) (fun Γ Q=>ma Γ fun x Γ1=>m1 x fun d=>Q d Γ1):=by
 intro F Γ σ G H Q Qm r m k;refine ha F Γ σ G H _ _ r m fun d Γ1 x G1 H1 m1 s1 r1 d1=>?_;exact h F Γ1 σ G1 H1 x d _ _ r1 d1 m1 fun u w G3 H3 q s3 r3 d3=>k _ _ _ _ _ q (s1.trans s3) r3 d3
theorem eV (ha:VT P0 ta ma):VT P0 (tCB (fun xs H Q=>∃ p ys,xs=[.ref p]∧(SqL K H p ys∨SqT K H p ys)∧Q (.int ys.length) H) (dN ta pW)) (a3E ma):=by
 refine aC1 (m1:=fun x Q=>oQ (aET x) Q) ha fun F Γ σ G H x d Q Qm r d1 m k=>?_;obtain⟨u,hu,q⟩:=a7D m;unfold aET at hu
 split at hu
 ·cases hu
  cases d1 with
  | @tup p xs _ hp rs=>exact⟨p,xs,rfl,.inr (SqT.of (r.fr.sub _ _ hp)),by rw[rs.len]; exact k _ _ _ _ q (Same.refl _) r (.int _)⟩
 ·cases hu
  cases d1 with
  | @lst p xs _ hp rs=>exact⟨p,xs,rfl,.inl (SqL.of (r.fr.sub _ _ hp)),by rw[rs.len]; exact k _ _ _ _ q (Same.refl _) r (.int _)⟩
 ·cases hu
def aEV (ma:ME):ME:=fun Γ Q=>ma Γ fun x Γ1=>match x with
 | .int i=>Q (.int (if i<0 then -i else i)) Γ1
 | _=>False
theorem a4D (ha:VT P0 ta ma):VT P0 (tCB (fun xs H Q=>∃ i,xs=[.int i]∧Q (.int (if i<0 then -i else i)) H) (dN ta pW)) (aEV ma):=by
 refine aC1 (m1:=fun x Q=>match x with|.int i=>Q (.int (if i<0 then -i else i))|_=>False) ha fun F Γ σ G H x d Q Qm r d1 m k=>?_
 split at m
 ·cases d1
  exact⟨_,rfl,k _ _ _ _ m (Same.refl _) r (.int _)⟩
 ·exact m.elim
theorem a0A (ha:VT P0 ta ma):VO P0 (tCB (fun xs H Q=>∃ p ys,xs=[.ref p]∧(SqL K H p ys∨SqT K H p ys)∧∀ l,H l=none→Q (.ref l) (upd H l (.lst ys))) (dN ta pW)) (yR ma):=by
 intro F Γ σ G H Q Qm r m k;refine ha F Γ σ G H _ _ r m fun d Γ1 x G1 H1 m1 s1 r1 d1=>?_
 split at m1
 ·rename_i ds e
  cases d1<;>simp only[rT] at e<;>try (cases e)
  ·rename_i p xs hp rs
   refine⟨p,xs,rfl,.inr (SqT.of (r1.fr.sub _ _ hp)),fun l hl=>?_⟩;obtain⟨a,b,c⟩:=qT r1 hl rs;exact k _ _ _ _ _ m1 s1 a b c
  ·rename_i p xs hp rs
   refine⟨p,xs,rfl,.inl (SqL.of (r1.fr.sub _ _ hp)),fun l hl=>?_⟩;obtain⟨a,b,c⟩:=qT r1 hl rs;exact k _ _ _ _ _ m1 s1 a b c
 ·exact m1.elim
theorem aAI:VP P0 a95 pNo:=fun _ _ _ _ _ _ _ r m k=>k _ _ _ _ m (Same.refl _) r
theorem a9N (ha:VT P0 ta ma):VP P0 (aGP ta) (pSo ma):=by
 intro F Γ σ G H Q Qm r m k;refine ha F Γ σ G H _ _ r m fun d Γ1 x G1 H1 m1 s1 r1 d1=>?_
 split at m1
 ·cases d1
  exact⟨_,rfl,k _ _ _ _ m1 s1 r1⟩
 ·exact m1.elim
theorem _root_.L2.Dts.cut {G:Hp}{vs:List V}{ds:List D}(h:Dts G vs ds)(lo hi:Option Int):Dts G (aAN vs lo hi) (cutD ds lo hi):=by
 unfold aAN cutD;rw[h.len];exact Dts.tak _ (Dts.drp _ h)
theorem aFX {tl th:TO}{ml mh:MP}(ha:VT P0 ta ma)(hl:VP P0 tl ml)(hh:VP P0 th mh):VO P0 (tSl (aMD K) ta tl th) (aJN ma ml mh):=by
 intro F Γ σ G H Q Qm r m k;refine ha F Γ σ G H _ _ r m fun d Γ1 x G1 H1 m1 s1 r1 d1=>?_;refine hl F Γ1 σ G1 H1 _ _ r1 m1 fun lo Γ2 G2 H2 m2 s2 r2=>?_;refine hh F Γ2 σ G2 H2 _ _ r2 m2 fun hi Γ3 G3 H3 m3 s3 r3=>?_
 split at m3
 ·have d1:=Dt.same (s2.trans s3) _ _ d1
  cases d1 with
  | @lst p xs _ hp rs=>
   refine⟨p,xs,rfl,SqL.of (r3.fr.sub _ _ hp),fun l hl=>?_⟩;obtain⟨a,b,c⟩:=qT r3 hl (rs.cut lo hi);exact k _ _ _ _ _ m3 ((s1.trans s2).trans s3) a b c
 ·exact m3.elim
def spM (P0:Addr→Hp→Prop)(n:Nat)(f:Fm):Sp:=fun vs H Q _=>∃(F:Fra P0) (as:List Sl) (Qm:Rv→Prop),F.H0=H∧Rf F F.G0 H∧Paired (v8 F F.G0) vs as∧as.length=n∧f as Qm ∧
 ∀ rv r G' H',Qm rv→Rf F G' H'→RvO F G' H' r rv→Q r H'
def Fra.sub (F:Fra P0){G H:Hp}(r:Rf F G H):Fra P0 where
 H0:=H
 G0:=G
 pen:=F.pen
 stab:=fun p e H1 H2 h=>F.stab p e H1 H2 fun b o e=>let ⟨o',e'⟩:=r.dom e; h b o' e'
 pin:=F.pin
 pin0:=fun p e=>F.pin p e H (r.pn p e)
 pg:=fun p e=>by
  obtain⟨o,e0⟩:=F.pin0 p e;rw[r.g0 p o e0];exact F.pg p e
theorem Fra.subRf (F:Fra P0){G H:Hp}(r:Rf F G H):Rf (F.sub r) G H:=⟨r.sub,fun _ _ _=>rfl,fun _ _ e _=>e,r.pn⟩
theorem Rf.back {F:Fra P0}{G H G' H':Hp}(r:Rf F G H)(h:Rf (F.sub r) G' H'):Rf F G' H'∧Same G G':=by
 refine⟨⟨h.sub,fun b o e=>?_,fun b o e hb=>?_,h.pn⟩,fun b o e=>?_⟩
 ·obtain⟨o',e'⟩:=r.dom e;exact(h.g0 b o' e').trans (r.g0 b o e)
 ·exact h.h0 b o (r.h0 b o e hb) hb
 ·exact(h.g0 b o (r.sub b o e)).trans e
theorem Fra.pen_ne (F:Fra P0){p:Addr}(h:F.H0 p=none):F.pen≠some p:=fun e=>by
 obtain⟨o,e0⟩:=F.pin0 p e;rw[h] at e0; cases e0
theorem R.after {F:Fra P0}{Γ:En}{σ:St}{G H G' H':Hp}(r:R F Γ σ G H)(h:Rf (F.sub r.fr) G' H'):R F Γ σ G' H'∧Same G G':=by
 obtain⟨a,b⟩:=r.fr.back h;refine⟨r.keep a b fun p u _ e1 e2 e3=>⟨(h.g0 p _ e3).trans e2,h.h0 p _ e3 (F.pen_ne e1)⟩,b⟩
theorem aM {n:Nat}{f:Fm}{t:TA}{m:MA}{E:XK}(h:VA P0 t m):VO P0 (aE7 (spM P0 n f) [] E t) (bO n f m):=by
 intro F Γ σ G H Q Qm r hm k;refine h F Γ σ G H _ _ r hm fun as Γ1 rs G1 H1 m1 s1 r1 d1=>?_;refine⟨F.sub r1.fr,as,fun rv=>Qm rv Γ1,rfl,F.subRf r1.fr,?_,m1.1,m1.2,fun rv v G2 H2 q f2 v2=>?_⟩
 ·rw[List.append_nil];exact Paired.imp' (fun a s h=>by cases s<;>exact h) d1
 ·obtain⟨r2,s2⟩:=r1.after f2;refine k _ _ _ _ _ q (s1.trans s2) r2 ?_ ?_
  ·cases rv with
   | val d=>exact v2
   | own ds=>
    obtain⟨p,vs,e,e1,e2,e3,e4⟩:=v2;exact⟨p,vs,e,r1.fr.fresh e1,e2,e3,e4⟩
   | box B=>
    obtain⟨fp,e1,e2⟩:=v2;exact⟨fp,e1,fun b hb=>⟨r1.fr.fresh (e2 b hb).1,(e2 b hb).2⟩⟩
  ·have kp:∀ b o,F.H0 b=none→G1 b=none→H1 b=some o→G2 b=none∧H2 b=some o:=fun b o h1 h2 h3=>⟨(f2.g0 b _ h3).trans h2,f2.h0 b _ h3 (F.pen_ne h1)⟩
   cases rv with
   | val d=>trivial
   | own ds=>
    obtain⟨p,vs,rfl,e1,e2,e3,e4⟩:=v2;exact Apart.new r1 e1 s2 kp
   | box B=>
    obtain⟨fp,e1,e2⟩:=v2;exact Apart.newB r1 (fun f hf b hb=>by rw[B.uniq hf e1] at hb; exact(e2 b hb).1) s2 kp
end
end
section
variable {P0:Addr→Hp→Prop}{A:Nat→Bool}
def gN (i:Nat):MG:=fun d Γ Q=>Q (Γ.set i (.val d))
def aAM:MGs:=fun ds Γ Q=>match ds with
 | []=>Q Γ
 | _=>False
def vX (g:MG)(gs:MGs):MGs:=fun ds Γ Q=>match ds with
 | d::r=>g d Γ fun Γ1=>gs r Γ1 Q
 | []=>False
def gT (n:Nat)(gs:MGs):MG:=fun d Γ Q=>match d with
 | .tuple ds=>ds.length=n∧gs ds Γ Q
 | _=>False
theorem yP {i:Nat}{v:Option V}{σ:St}(hA:A i=true):∀ j,A j=false→(σ.set i v)[j]?=σ[j]?:=fun j hj=>List.getElem?_set_ne (fun z=>by rw[z,hj] at hA; cases hA)
theorem dH {i:Nat}(hA:A i=true:=by rfl):VG P0 A (a2C i) (gN i):=fun _ _ _ _ _ _ _ _ _ r h m k=>k _ _ m (r.setV h) (yP hA)
theorem a7W:VGs P0 A aM5 aAM:=by
 intro F Γ σ G H vs ds Q Qm r h m k
 cases h with
 | nil=>exact⟨rfl,k _ _ m r fun _ _=>rfl⟩
 | cons _ _=>exact m.elim
theorem tK {g:TG}{gs:TGs}{m:MG}{ms:MGs}(h1:VG P0 A g m)(h2:VGs P0 A gs ms):VGs P0 A (aHO g gs) (vX m ms):=by
 intro F Γ σ G H vs ds Q Qm r h hm k
 cases h with
 | nil=>exact hm.elim
 | cons a b=>exact⟨_,_,rfl,h1 F Γ σ G H _ _ _ _ r a hm fun Γ1 σ1 m1 r1 e1=>h2 F Γ1 σ1 G H _ _ _ _ r1 b m1 fun Γ2 σ2 m2 r2 e2=>k _ _ m2 r2 fun i hi=>(e2 i hi).trans (e1 i hi)⟩
theorem aBR {K:Fg}{n:Nat}{gs:TGs}{ms:MGs}(h:VGs P0 A gs ms):VG P0 A (aLH K n gs) (gT n ms):=by
 intro F Γ σ G H v d Q Qm r hd m k;unfold gT at m
 split at m
 ·cases hd with
  | @tup p xs _ hp rs=>exact⟨p,xs,rfl,SqT.of (r.fr.sub _ _ hp),by rw[rs.len]; exact m.1,h F Γ σ G H _ _ _ _ r rs m.2 k⟩
 ·exact m.elim
def Walk (P0:Addr→Hp→Prop)(J:It)(G0:Hp)(ds:List D):Prop:=∀(F:Fra P0) (Γ:En) (σ:St) (G H:Hp),Same G0 G→R F Γ σ G H →
 (∀ i d,ds[i]?=some d→J.go i H∧∀ x H',J.yld i H x H'→∃ G',Same G G'∧R F Γ σ G' H'∧Dt G' x d)∧J.stop ds.length H
def VI (P0:Addr→Hp→Prop)(wi:TI)(m:MD):Prop:=∀(F:Fra P0) (Γ:En) (σ:St) (G H:Hp) (Q:It→Hp→Prop) (Qm:List D→En→Prop),R F Γ σ G H→m Γ Qm →
 (∀ ds Γ' J G' H',Qm ds Γ'→Same G G'→R F Γ' σ G' H'→Walk P0 J G' ds→Q J H')→wi σ H Q
def aIE (ma:ME):MD:=fun Γ Q=>ma Γ fun x Γ1=>match x with
 | .list ds=>Q ds Γ1
 | _=>False
def aHI (ma:ME):MD:=fun Γ Q=>ma Γ fun x Γ1=>match x with
 | .tuple ds=>Q ds Γ1
 | _=>False
def j5 (lo:Int)(n:Nat):List D:=(List.range n).map fun(k:Nat)=>PyData.int (lo+k)
def a5X (md:MD):MD:=fun Γ Q=>md Γ fun ds Γ1=>match ds with
 | [.int j] => -(2^62)≤j∧j<2^62∧Q (j5 0 j.toNat) Γ1
 | _=>False
theorem a2I {K:Fg}{ta:TE}{ma:ME}(ha:VT P0 ta ma):VI P0 (aFV K ta) (aIE ma):=by
 intro F Γ σ G H Q Qm r m k;refine ha F Γ σ G H _ _ r m fun d Γ1 x G1 H1 m1 s1 r1 d1=>?_
 split at m1
 ·cases d1 with
  | @lst p xs ds hp rs=>
   refine⟨p,rfl,⟨xs,SqL.of (r1.fr.sub _ _ hp)⟩,k _ _ _ _ _ m1 s1 r1 fun F2 Γ2 σ2 G2 H2 s2 r2=>⟨fun i d e=>?_,?_⟩⟩
   ·have hq:H2 p=some (.lst xs):=r2.fr.sub _ _ (s2 _ _ hp);obtain⟨v,ev,dv⟩:=Dts.get rs e;refine⟨⟨xs,v,SqL.of hq,ev⟩,fun y H3 hy=>⟨G2,Same.refl _,?_⟩⟩;obtain⟨rfl,hy⟩:=hy;have:=hy xs (SqL.of hq);rw[ev] at this
    cases this
    exact⟨r2,Dt.same s2 _ _ dv⟩
   ·exact⟨xs,SqL.of (r2.fr.sub _ _ (s2 _ _ hp)),by rw[rs.len]; exact Nat.le_refl _⟩
 ·exact m1.elim
theorem a86 {K:Fg}{ta:TE}{ma:ME}(ha:VT P0 ta ma):VI P0 (aLW K ta) (aHI ma):=by
 intro F Γ σ G H Q Qm r m k;refine ha F Γ σ G H _ _ r m fun d Γ1 x G1 H1 m1 s1 r1 d1=>?_
 split at m1
 ·cases d1 with
  | @tup p xs ds hp rs=>
   refine⟨p,rfl,⟨xs,SqT.of (r1.fr.sub _ _ hp)⟩,k _ _ _ _ _ m1 s1 r1 fun F2 Γ2 σ2 G2 H2 s2 r2=>⟨fun i d e=>?_,?_⟩⟩
   ·have hq:H2 p=some (.tup xs):=r2.fr.sub _ _ (s2 _ _ hp);obtain⟨v,ev,dv⟩:=Dts.get rs e;refine⟨⟨xs,v,SqT.of hq,ev⟩,fun y H3 hy=>⟨G2,Same.refl _,?_⟩⟩;obtain⟨rfl,hy⟩:=hy;have:=hy xs (SqT.of hq);rw[ev] at this
    cases this
    exact⟨r2,Dt.same s2 _ _ dv⟩
   ·exact⟨xs,SqT.of (r2.fr.sub _ _ (s2 _ _ hp)),by rw[rs.len]; exact Nat.le_refl _⟩
 ·exact m1.elim
theorem a5I {G:Hp}(lo:Int)(n:Nat):Walk P0 (Itr lo n) G (j5 lo n):=by
 intro F Γ σ G2 H2 _ r;have hl:(j5 lo n).length=n:=by simp[j5]
 refine⟨fun i d e=>?_,by rw[hl]; exact Nat.le_refl _⟩;have hi:i<n:=by have:=(List.getElem?_eq_some_iff.mp e).1; omega
 refine⟨hi,fun x H' hy=>?_⟩;obtain⟨rfl,rfl⟩:=hy;refine⟨G2,Same.refl _,r,?_⟩;unfold j5 at e;rw[List.getElem?_map,List.getElem?_range hi] at e
 cases e
 exact .int _
theorem oV {t:TA}{md:MD}(h:VD P0 t md):VI P0 (aHS t) (a5X md):=by
 intro F Γ σ G H Q Qm r m k;refine h F Γ σ G H _ _ r m fun ds Γ1 xs G1 H1 m1 s1 r1 d1=>?_
 split at m1
 ·rename_i j
  cases d1 with
  | cons a b=>
   cases a; cases b
   exact⟨j,rfl,m1.1,m1.2.1,k _ _ _ _ _ m1.2.2 s1 r1 (a5I _ _)⟩
 ·exact m1.elim
def mNx:MS:=fun Γ Q=>Q (.nx Γ)
def cU (a b:MS):MS:=fun Γ Q=>a Γ fun fl=>match fl with
 | .nx Γ1=>b Γ1 Q
 | fl=>Q fl
def a75 (m:ME):MS:=fun Γ Q=>m Γ fun _ Γ1=>Q (.nx Γ1)
def jX (i:Nat)(m:MO):MS:=fun Γ Q=>m Γ fun rv Γ1=>Q (.nx (Γ1.set i rv.sl))
def aL6 (i j:Nat)(m:MD):MS:=fun Γ Q=>m Γ fun ds Γ1=>match ds with
 | [d,e]=>Q (.nx ((Γ1.set i (.val d)).set j (.val e)))
 | _=>False
def fQ (m:MO):MS:=fun Γ Q=>m Γ fun rv _=>Q (.rt rv)
def mIf (c:MT)(a b:MS):MS:=fun Γ Q=>c Γ fun k Γ1=>if k=true then a Γ1 Q else b Γ1 Q
def vP:MS:=fun _ _=>False
def forL (g:MG)(b:MS):List D→En→(Fl→Prop)→Prop
 | [],Γ,Q=>Q (.nx Γ)
 | d::ds,Γ,Q=>g d Γ fun Γ1=>b Γ1 fun fl=>match fl with
  | .nx Γ2=>forL g b ds Γ2 Q
  | .ct Γ2=>forL g b ds Γ2 Q
  | .bk Γ2=>Q (.nx Γ2)
  | .rt rv=>Q (.rt rv)
def aB5 (mi:MD)(g:MG)(b:MS):MS:=fun Γ Q=>mi Γ fun ds Γ1=>forL g b ds Γ1 Q
def a2Z (c:MT)(b:MS):MS:=fun Γ Q=>∃ W:Nat→En→Prop,(∃ n,W n Γ)∧∀ n Γ,W n Γ→c Γ fun k Γ1=>if k=true then b Γ1 fun fl=>match fl with
  | .nx Γ2=>∃ n',n'<n∧W n' Γ2
  | .ct Γ2=>∃ n',n'<n∧W n' Γ2
  | .bk Γ2=>Q (.nx Γ2)
  | .rt rv=>Q (.rt rv)
 else Q (.nx Γ1)
def fY (i:Nat)(m:ME):MS:=fun Γ Q=>match Γ[i]? with
 | some (.own _)=>m Γ fun d Γ1=>match Γ1[i]? with
  | some (.own ds)=>ds.length<1000∧Q (.nx (Γ1.set i (.own (ds++[d]))))
  | _=>False
 | _=>False
def a2D (i:Nat)(m:MS):MS:=fun Γ Q=>match Γ[i]? with
 | some (.own ds)=>m (Γ.set i (.val (.list ds))) Q
 | _=>m Γ Q
theorem cW:VSA P0 A aFA mNx:=fun _ _ _ _ _ _ _ r m k=>k _ m _ _ _ (Same.refl _) r fun _ _=>rfl
theorem pX:VSA P0 A aBI vP:=fun _ _ _ _ _ _ _ _ m _=>m.elim
theorem aP {t u:TS}{a b:MS}(ha:VSA P0 A t a)(hb:VSA P0 A u b):VSA P0 A (aLS t u) (cU a b):=by
 intro F Γ σ G H E Qm r m k;refine ha F Γ σ G H _ _ r m fun fl q=>?_
 cases fl with
 | nx Γ1=>exact fun σ1 G1 H1 s1 r1 e1=>hb F Γ1 σ1 G1 H1 E Qm r1 q fun fl q=>(k fl q).same s1 e1
 | rt rv=>exact k _ q
 | bk Γ1=>exact k _ q
 | ct Γ1=>exact k _ q
theorem a1I {t:TE}{m:ME}(h:VT P0 t m):VSA P0 A (aED t) (a75 m):=by
 intro F Γ σ G H E Qm r hm k;exact h F Γ σ G H _ _ r hm fun d Γ1 x G1 H1 m1 s1 r1 d1=>k _ m1 _ _ _ s1 r1 fun _ _=>rfl
theorem bV {i:Nat}{t:TE}{m:MO}(h:VO P0 t m)(hA:A i=true:=by rfl):VSA P0 A (aGT t (a2C i)) (jX i m):=by
 intro F Γ σ G H E Qm r hm k;exact h F Γ σ G H _ _ r hm fun rv Γ1 x G1 H1 m1 s1 r1 d1 a1=>k _ m1 _ _ _ s1 (r1.set d1 a1) (yP hA)
theorem aFF {i j:Nat}{t:TA}{m:MD}(h:VD P0 t m)(hA:A i=true:=by rfl)(hB:A j=true:=by rfl):VSA P0 A (aM1 i j t) (aL6 i j m):=by
 intro F Γ σ G H E Qm r hm k;refine h F Γ σ G H _ _ r hm fun ds Γ1 x G1 H1 m1 s1 r1 d1=>?_
 split at m1
 ·cases d1 with
  | cons a b=>
   cases b with
   | cons b c=>
    cases c
    exact⟨_,_,rfl,k _ m1 _ _ _ s1 ((r1.setV a).setV b) fun q hq=>(yP hB q hq).trans (yP hA q hq)⟩
 ·exact m1.elim
theorem bD {t:TE}{m:MO}(h:VO P0 t m):VSA P0 A (aJO t) (fQ m):=by
 intro F Γ σ G H E Qm r hm k;exact h F Γ σ G H _ _ r hm fun rv Γ1 x G1 H1 m1 s1 r1 d1 _=>k _ m1 _ _ _ s1 r1.fr d1
theorem cI {c:TT}{t u:TS}{mc:MT}{a b:MS}(hc:VTT P0 c mc)(ha:VSA P0 A t a)(hb:VSA P0 A u b):VSA P0 A (aLJ c t u) (mIf mc a b):=by
 intro F Γ σ G H E Qm r m k;refine hc F Γ σ G H _ _ r m fun k1 Γ1 G1 H1 m1 s1 r1=>?_
 cases k1 with
 | true=>exact a1F (ha F Γ1 σ G1 H1 E Qm r1 m1 fun fl q=>(k fl q).same s1 fun _ _=>rfl)
 | false=>exact a0Q (hb F Γ1 σ G1 H1 E Qm r1 m1 fun fl q=>(k fl q).same s1 fun _ _=>rfl)
theorem a4E {c:TT}{t:TS}{mc:MT}{b:MS}(hc:VTT P0 c mc)(hb:VSA P0 A t b):VSA P0 A (aBW c t) (a2Z mc b):=by
 intro F Γ σ G H E Qm r m k;obtain⟨W,⟨n0,w0⟩,turn⟩:=m;refine⟨fun n σ1 H1=>∃ Γ1 G1,Same G G1∧R F Γ1 σ1 G1 H1∧W n Γ1∧∀ i,A i=false→σ1[i]?=σ[i]?,⟨n0,Γ,G,Same.refl _,r,w0,fun _ _=>rfl⟩,?_⟩;rintro n σ1 H1 ⟨Γ1,G1,s1,r1,w1,e1⟩;refine hc F Γ1 σ1 G1 H1 _ _ r1 (turn n Γ1 w1) fun k2 Γ2 G2 H2 m2 s2 r2=>?_
 cases k2 with
 | true=>
  refine a1F ⟨_,fun _ _ h=>h,?_⟩;refine hb F Γ2 σ1 G2 H2 _ _ r2 m2 fun fl q=>?_
  cases fl with
  | nx Γ3=>
   obtain⟨n',hn,w3⟩:=q;exact fun σ3 G3 H3 s3 r3 e3=>⟨n',hn,Γ3,G3,(s1.trans s2).trans s3,r3,w3,fun i hi=>(e3 i hi).trans (e1 i hi)⟩
  | ct Γ3=>
   obtain⟨n',hn,w3⟩:=q;exact fun σ3 G3 H3 s3 r3 e3=>⟨n',hn,Γ3,G3,(s1.trans s2).trans s3,r3,w3,fun i hi=>(e3 i hi).trans (e1 i hi)⟩
  | bk Γ3=>exact fun σ3 G3 H3 s3 r3 e3=>k _ q _ _ _ ((s1.trans s2).trans s3) r3 fun i hi=>(e3 i hi).trans (e1 i hi)
  | rt rv=>exact fun v G3 H3 s3 r3=>k _ q _ _ _ ((s1.trans s2).trans s3) r3
 | false=>exact a0Q (k _ m2 _ _ _ (s1.trans s2) r2 e1)
theorem uK {wi:TI}{g:TG}{t:TS}{mi:MD}{mg:MG}{b:MS}(hi:VI P0 wi mi)(hg:VG P0 A g mg)(hb:VSA P0 A t b):VSA P0 A (aMB wi g t) (aB5 mi mg b):=by
 intro F Γ σ G H E Qm r m k;refine hi F Γ σ G H _ _ r m fun ds Γ1 J G1 H1 m1 s1 r1 wk=>?_;refine⟨fun i n σ2 H2=>n=ds.length-i∧i≤ds.length∧∃ Γ2 G2,Same G1 G2∧R F Γ2 σ2 G2 H2∧forL mg b (ds.drop i) Γ2 Qm∧∀ i,A i=false→σ2[i]?=σ[i]?,⟨ds.length,by simp,Nat.zero_le _,Γ1,G1,Same.refl _,r1,m1,fun _ _=>rfl⟩,?_⟩;rintro i n σ2 H2 ⟨rfl,hle,Γ2,G2,s2,r2,m2,e2⟩;obtain⟨go,stop⟩:=wk F Γ2 σ2 G2 H2 s2 r2
 by_cases hlt:i<ds.length
 ·refine .inr ⟨(go i ds[i] (by simp[hlt])).1,fun σ' H'=>ds.length-(i+1)<ds.length-i∧i+1≤ds.length∧∃ Γ3 G3,Same G1 G3∧R F Γ3 σ' G3 H'∧forL mg b (ds.drop (i+1)) Γ3 Qm∧∀ i,A i=false→σ'[i]?=σ[i]?,fun σ' H' h=>⟨_,h.1,rfl,h.2⟩,fun x H' hy=>?_⟩;obtain⟨G3,s3,r3,d3⟩:=(go i ds[i] (by simp[hlt])).2 x H' hy;rw[List.drop_eq_getElem_cons hlt] at m2;refine hg F Γ2 σ2 G3 H' x _ _ _ r3 d3 m2 fun Γ4 σ4 m4 r4 e4=>?_;refine hb F Γ4 σ4 G3 H' _ _ r4 m4 fun fl q=>?_
  cases fl with
  | nx Γ5=>exact fun σ5 G5 H5 s5 r5 e5=>⟨by omega,hlt,Γ5,G5,(s2.trans s3).trans s5,r5,q,fun i hi=>((e5 i hi).trans (e4 i hi)).trans (e2 i hi)⟩
  | ct Γ5=>exact fun σ5 G5 H5 s5 r5 e5=>⟨by omega,hlt,Γ5,G5,(s2.trans s3).trans s5,r5,q,fun i hi=>((e5 i hi).trans (e4 i hi)).trans (e2 i hi)⟩
  | bk Γ5=>exact fun σ5 G5 H5 s5 r5 e5=>k _ q _ _ _ ((s1.trans s2).trans (s3.trans s5)) r5 fun i hi=>((e5 i hi).trans (e4 i hi)).trans (e2 i hi)
  | rt rv=>exact fun v G5 H5 s5 r5=>k _ q _ _ _ ((s1.trans s2).trans (s3.trans s5)) r5
 ·have e:i=ds.length:=by omega
  subst e;rw[List.drop_length] at m2;exact .inl ⟨stop,k _ m2 _ _ _ (s1.trans s2) r2 e2⟩
theorem fM {K:Fg}{i:Nat}{t:TE}{m:ME}(h:VT P0 t m):VSA P0 A (aED (tBM K "list" a8K (v5 i) (dN t pW))) (fY i m):=by
 intro F Γ σ G H E Qm r hm k;unfold fY at hm
 split at hm
 ·rename_i ds0 e0
  obtain⟨p,vs,e1,e2,e3,e4,e5⟩:=r.sl i _ e0;refine⟨_,e1,.inl ⟨rfl,_,SqL.of e4⟩,?_⟩;refine h F Γ σ G H _ _ r hm fun d Γ1 x G1 H1 m1 s1 r1 d1=>?_
  split at m1
  ·rename_i ds e
   obtain⟨p',ws,f1,f2,f3,f4,f5⟩:=r1.sl i _ e;rw[e1] at f1; cases f1;refine⟨p,ws,x,rfl,rfl,f4,a0H (by rw[f5.len]; exact Nat.le_of_lt m1.1),?_⟩;exact k _ m1.2 _ _ _ s1 (r1.write e e1 (f5.app (.cons d1 .nil))) fun _ _=>rfl
  ·exact m1.elim
 ·exact hm.elim
theorem R.pub1 {F:Fra P0}{Γ:En}{σ:St}{G H:Hp}(r:R F Γ σ G H){i:Nat}{ds:List D}(e:Γ[i]?=some (.own ds)):∃ G',Same G G'∧R F (Γ.set i (.val (.list ds))) σ G' H:=by
 obtain⟨p,vs,e1,e2,e3,e4,e5⟩:=r.sl i _ e;have hap:Apart F (Γ.set i .no) σ G H (.ref p) (.own ds):=fun j s fp ej hj q eq hq=>by
  cases eq
  by_cases hji:i=j
  ·subst hji;have hi:i<Γ.length:=(List.getElem?_eq_some_iff.mp e).1;rw[List.getElem?_set_self hi] at ej
   cases ej
   rw[show fp=[] from hj] at hq; cases hq
  ·rw[List.getElem?_set_ne hji] at ej;exact r.apart hji e ej (fp:=[p]) ⟨p,vs,rfl,e1,e2,e3,e4,e5⟩ hj p (List.mem_singleton.mpr rfl) hq
 obtain⟨G',s,r',d'⟩:=(r.drop i).give (ds:=ds) ⟨p,vs,rfl,e2,e3,e4,e5⟩ hap;refine⟨G',s,?_⟩;have q:=r'.setV (i:=i) d';rw[List.set_set] at q;have hs:σ.set i (some (.ref p))=σ:=by
  apply List.ext_getElem?;intro j
  by_cases hj:i=j
  ·subst hj;have hi:i<σ.length:=(List.getElem?_eq_some_iff.mp e1).1;rw[List.getElem?_set_self hi,e1]
  ·rw[List.getElem?_set_ne hj]
 rw[hs] at q;exact q
theorem a6E {i:Nat}{t:TS}{m:MS}(h:VSA P0 A t m):VSA P0 A t (a2D i m):=by
 intro F Γ σ G H E Qm r hm k;unfold a2D at hm
 split at hm
 ·rename_i ds e
  obtain⟨G',s,r'⟩:=r.pub1 e;exact h F _ σ G' H E Qm r' hm fun fl q=>(k fl q).same s fun _ _=>rfl
 ·exact h F Γ σ G H E Qm r hm k
def mFn (n:Nat)(b:MS):Fm:=fun as Q=>b (as++List.replicate n .no) fun fl=>match fl with
 | .rt rv=>Q rv
 | .nx _=>Q (.val .none)
 | _=>False
theorem aAR {n k:Nat}{N:List Str}{t:TS}{b:MS}(h:VS P0 t b)(hN:N.length=n+k){vs:List V}{H:Hp}{Q:VK}{E:XK}(hs:spM P0 n (mFn k b) vs H Q E) :
  t { nx:=fun _ H'=>Q .non H',rt:=Q } (start N vs) H:=by
 obtain⟨F,as,Qm,rfl,rf,pr,hl,hm,q⟩:=hs;have hlen:vs.length=as.length:=Paired.length pr;have get:∀{vs:List V} {as:List Sl} {i:Nat} {s:Sl},Paired (v8 F F.G0) vs as→as[i]?=some s→∃ v,vs[i]?=some v∧v8 F F.G0 v s:=by
  intro vs as i s pr
  induction pr generalizing i with
  | nil=>intro e; simp at e
  | cons a b ih=>
   cases i with
   | zero=>intro e; simp at e; subst e; exact⟨_,rfl,a⟩
   | succ i=>intro e; simpa using ih (i:=i) (by simpa using e)
 have at_:∀{i:Nat} {s:Sl},(as++List.replicate k Sl.no)[i]?=some s→s≠.no→∃ v,(start N vs)[i]?=some (some v)∧v8 F F.G0 v s:=by
  intro i s e hne
  by_cases hi:i<as.length
  ·rw[List.getElem?_append_left hi] at e;obtain⟨v,ev,av⟩:=get pr e;refine⟨v,?_,av⟩;unfold start;rw[List.getElem?_append_left (by rw[List.length_map]; omega),List.getElem?_map,ev];rfl
  ·rw[List.getElem?_append_right (by omega),List.getElem?_replicate] at e
   split at e
   ·cases e; exact absurd rfl hne
   ·cases e
 have r:R F (as++List.replicate k .no) (start N vs) F.G0 F.H0:=by
  refine R.of rf ?_ (fun i s e=>?_) (fun i B e=>?_) (fun i j x y _ e _=>?_)
  ·unfold start;simp only[List.length_append,List.length_replicate,List.length_map];omega
  ·cases s with
   | no=>trivial
   | val d=>
    obtain⟨v,ev,av⟩:=at_ e (by intro z; cases z)
    exact⟨v,ev,av⟩
   | own ds=>
    obtain⟨v,ev,av⟩:=at_ e (by intro z; cases z)
    exact av.elim
   | pen=>
    obtain⟨v,ev,p,rfl,ep⟩:=at_ e (by intro z; cases z)
    exact⟨p,ev,ep⟩
   | con q=>
    obtain⟨v,ev,av⟩:=at_ e (by intro z; cases z)
    have av:v=.ref q:=av;rw[av] at ev;exact ev
   | pub B=>
    obtain⟨v,ev,av⟩:=at_ e (by intro z; cases z)
    exact⟨v,ev,av⟩
   | box B=>
    obtain⟨v,ev,av⟩:=at_ e (by intro z; cases z)
    exact av.elim
  ·obtain⟨v,ev,av⟩:=at_ e (by intro z; cases z)
   exact av.elim
  ·obtain⟨v,ev,av⟩:=at_ e (by intro z; cases z)
   exact av.elim
 refine h F _ _ _ _ _ _ r hm fun fl hq=>?_
 cases fl with
 | nx Γ=>exact fun σ G' H' _ r' _=>q _ _ _ _ hq r'.fr .non
 | rt rv=>exact fun v G' H' _ f' v'=>q _ _ _ _ hq f' v'
 | bk Γ=>exact hq.elim
 | ct Γ=>exact hq.elim
theorem aEI {n:Nat}{f:Fm}{ps:List Str}(h:ps.length=n):∀ vs H Q E,spM P0 n f vs H Q E→vs.length=ps.length:=by
 rintro vs H Q E ⟨F,as,Qm,_,_,pr,hl,_⟩;rw[Paired.length pr,hl,h]
theorem _root_.L2.Fun.okV {P:Program}{w:World}{K:Fg}{mg:Mg}{base:Heap}{x qual:Str}{st:Stmt}{f:Addr}{fd:FuncData}{N ps:List Str}{k n j:Nat}{b:MS}
  (F:Fun K x qual st f fd) (S:FnScope N ps (aL st)) (hn:ps.length=n) (hN:N.length=n+j)
  (hbody:∀(cdv:Value) (A:Around) (outer:List Env) (s:Shared) (H:Hp) (E:XK),Room k (A.deeper (envOfC qual (aL st) s.heap.objs.size f cdv)) →
   SsX P0 (aBQ CX0 P w K mg base N qual (aL st) f cdv A outer s H E).nox (jH st) b):FnOk P w K mg base CX0 (k+1) f fd ps (spM P0 n (mFn j b)):=by
 refine F.ok S (aEI hn) fun cdv A outer s H vs Q E hr hs=>?_;obtain⟨t,h1,h2⟩:=hbody cdv A outer s H E hr;exact⟨t,h1,aAR h2 hN hs⟩
end
section
variable {P0:Addr→Hp→Prop}
def eO:D→String
 | .none => "NoneType"
 | .bool _ => "bool"
 | .int _ => "int"
 | .str _ => "str"
 | .list _ => "list"
 | .tuple _ => "tuple"
 | .dict _ => "dict"
def qX (a b:String):Bool:=a==b||(a == "bool" && b == "int")
def tyL:List String:=["NoneType", "bool", "int", "str", "list", "tuple", "dict"]
def Kit (K:Fg):Prop:=∀ a∈tyL,∀ b∈tyL,PySem.W.kitOne K (.type a) (.type b)=some (qX a b)
theorem Kit.mk' {K:Fg}(h:∀ a∈tyL,∀ b∈tyL,(a==b)=false→PySem.W.kitOne K (.type a) (.type b)=some (a == "bool" && b == "int")):Kit K:=by
 intro a ha b hb
 by_cases e:a=b
 ·subst e;rw[aB3];simp[qX]
 ·have e':(a==b)=false:=by simpa using e
  rw[h a ha b hb e'];simp[qX,e']
theorem a0Y {K:Fg}{H:Hp}{x:V}{d:D}(h:Dt H x d):TyOf K H x (.type (eO d))∧eO d∈tyL:=by
 cases h with
 | non=>exact⟨.non,by simp[eO,tyL]⟩
 | bl b=>exact⟨.bl b,by simp[eO,tyL]⟩
 | int i=>exact⟨.int i,by simp[eO,tyL]⟩
 | str x=>exact⟨.str x,by simp[eO,tyL]⟩
 | tup hp _=>exact⟨.tup hp,by simp[eO,tyL]⟩
 | lst hp _=>exact⟨.lst hp,by simp[eO,tyL]⟩
 | dic hp _=>exact⟨hp.elim .dK fun⟨_,q⟩=>.fdK q,by simp[eO,tyL]⟩
def wW (n:String)(ma:ME):ME:=fun Γ Q=>ma Γ fun x Γ1=>Q (.bool (qX (eO x) n)) Γ1
theorem bZ {K:Fg}{n:String}{ta:TE}{ma:ME}(hk:Kit K)(hn:n∈tyL)(ha:VT P0 ta ma):VT P0 (tCB (aLL K) (dN ta (dN (tC (.ty n)) pW))) (wW n ma):=by
 intro F Γ σ G H Q Qm r m k;refine ha F Γ σ G H _ _ r m fun d Γ1 x G1 H1 m1 s1 r1 d1=>?_;obtain⟨h1,h2⟩:=a0Y (K:=K) (Dt.same r1.fr.sub _ _ d1);exact⟨x,.ty n,.type n,_,_,rfl,rfl,h1,hk _ h2 _ hn,k _ _ _ _ _ m1 s1 r1 (.bl _)⟩
section
variable {X:Cx}
structure Goods (ds:List D):Prop where
 lay:PyData.canLayAll0 ds=true
 dep:PyData.depthAll ds≤59
def aMA (neg:Bool):R2:=fun x y H Q=>∃ dx ds,Dt H x dx∧(Dt H y (.list ds)∨Dt H y (.tuple ds))∧Good dx∧Goods ds∧Q (.bl (if neg then !(ds.any fun e=>PyData.eqv e dx) else ds.any fun e=>PyData.eqv e dx)) H
theorem aG9 {u a b:Nat}(h:u+64<cLine)(ha:a≤59):u+1+min a b<cLine:=by
 have:min a b≤a:=Nat.min_le_left _ _;omega
theorem aBP (hu:X.A.units+64<cLine):OpR X (compareOp .In) (aMA false):=by
 intro pins s σ H x y v u Q I rx ry h;obtain⟨dx,ds,ex,ey,gx,gs,q⟩:=h;obtain⟨as,r1⟩:=Dt.reads I.hok dx x v ex rx;rcases ey with ey|ey
 ·obtain⟨bs,r2⟩:=Dt.reads I.hok _ y u ey ry;exact SeqAt.in_list_reads r2 r1 gs.lay gx.lay (aG9 hu gs.dep) ⟨.bl _,H,I,rfl,q⟩
 ·obtain⟨bs,r2⟩:=Dt.reads I.hok _ y u ey ry;exact SeqAt.in_tuple_reads r2 r1 gs.lay gx.lay (aG9 hu gs.dep) ⟨.bl _,H,I,rfl,q⟩
def mIn (neg:Bool)(ma mb:ME):ME:=fun Γ Q=>ma Γ fun x Γ1=>mb Γ1 fun y Γ2=>match rT y with
 | some ds=>Good x∧Goods ds∧Q (.bool (if neg then !(ds.any fun e=>PyData.eqv e x) else ds.any fun e=>PyData.eqv e x)) Γ2
 | none=>False
theorem aFD {neg:Bool}{ta tb:TE}{ma mb:ME}(ha:VT P0 ta ma)(hb:VT P0 tb mb):VT P0 (tOp (aMA neg) ta tb) (mIn neg ma mb):=by
 refine aF0 (m2:=fun x y Q=>match rT y with|some ds=>Good x∧Goods ds∧Q (.bool (if neg then !(ds.any fun e=>PyData.eqv e x) else ds.any fun e=>PyData.eqv e x))|none=>False) ha hb fun F Γ σ G H x y d e Q Qm r d1 d2 m k=>?_
 split at m
 ·rename_i ds hds
  refine⟨d,ds,Dt.same r.fr.sub _ _ d1,?_,m.1,m.2.1,k _ _ _ _ m.2.2 (Same.refl _) r (.bl _)⟩;have d2:=Dt.same r.fr.sub _ _ d2
  cases d2<;>simp only[rT] at hds<;>try (cases hds)
  ·exact .inr (.tup (by assumption) (by assumption))
  ·exact .inl (.lst (by assumption) (by assumption))
 ·exact m.elim
end
def aI1 (H H':Hp):Prop:=∀ b xs,H b=some (.tup xs)→H' b=some (.tup xs)∨∃ q vs,V.ref q∈xs∧H q=some (.lst vs)
def a7C:En→En:=List.map fun s=>match s with
 | .own ds=>.val (.list ds)
 | .box B=>match B.view with
  | some d=>.val d
  | none=>match B.pv with
   | some b=>.pub b
   | none=>.no
 | s=>s
def a3M (m:MT):MT:=fun Γ Q=>m (a7C Γ) fun b Γ1=>Γ1=a7C Γ∧Q b Γ
def OwnA (F:Fra P0)(Γ:En)(σ:St)(G H:Hp)(b:Addr):Prop:=∃(i:Nat) (s:Sl) (fp:List Addr),Γ[i]?=some s∧SlF F G H σ[i]? fp s∧b∈fp
section
variable {F:Fra P0}{Γ:En}{σ:St}{G H:Hp}
open Classical in
noncomputable def a5L (F:Fra P0)(Γ:En)(σ:St)(G H:Hp):Hp:=fun b=>if OwnA F Γ σ G H b then H b else G b
noncomputable def rK (F:Fra P0)(Γ:En)(σ:St)(G H:Hp)(G1:Hp):Hp:=fun b=>open Classical in if OwnA F Γ σ G H b then none else G1 b
theorem OwnA.at {b:Addr}(h:OwnA F Γ σ G H b):F.H0 b=none∧G b=none∧∃ o,H b=some o:=by
 obtain⟨i,s,fp,_,e,hb⟩:=h;exact e.mine hb
theorem OwnA.tup {b:Addr}(h:OwnA F Γ σ G H b){xs:List V}(e:H b=some (.tup xs)):∃ q vs,V.ref q∈xs∧OwnA F Γ σ G H q∧H q=some (.lst vs):=by
 obtain⟨i,s,fp,e0,e1,hb⟩:=h
 cases s with
 | no=>rw[show fp=[] from e1] at hb; cases hb
 | val d=>rw[e1.1] at hb; cases hb
 | pen=>rw[e1.1] at hb; cases hb
 | con q=>rw[e1.1] at hb; cases hb
 | pub B=>rw[e1.1] at hb; cases hb
 | own ds=>
  obtain⟨p,vs,f0,_,_,_,f3,_⟩:=e1;rw[f0] at hb;rw[List.mem_singleton.mp hb,f3] at e
  cases e
 | box B=>
  have e1':=e1;obtain⟨v,_,h2,_⟩:=e1;obtain⟨q,q1,q2,vs,q3⟩:=B.nt h2 b hb xs e;exact⟨q,vs,q2,⟨i,_,fp,e0,e1',q1⟩,q3⟩
theorem R.pubAll (r:R F Γ σ G H):Same G (a5L F Γ σ G H)∧R F (a7C Γ) σ (a5L F Γ σ G H) H:=by
 have g:Same G (a5L F Γ σ G H):=fun b o e=>by
  unfold a5L
  by_cases h:OwnA F Γ σ G H b
  ·have:=h.at.2.1;rw[e] at this; cases this
  ·rw[if_neg h]; exact e
 have nob:∀(i:Nat) s,(a7C Γ)[i]?=some s→(∀ x,s≠.own x)∧∀ B,s≠.box B:=by
  intro i s e;unfold a7C at e;rw[List.getElem?_map] at e
  cases e0:Γ[i]? with
  | none=>rw[e0] at e; cases e
  | some s0=>
   rw[e0] at e
   cases s0 with
   | box B=>
    have e:(match B.view with|some d=>Sl.val d|none=>match B.pv with|some b=>Sl.pub b|none=>Sl.no)=s:=Option.some.inj e
    cases hv:B.view with
    | none=>
     cases hw:B.pv with
     | none=>rw[hv,hw] at e; subst e; exact⟨fun x z=>(nomatch z),fun x z=>(nomatch z)⟩
     | some b=>rw[hv,hw] at e; subst e; exact⟨fun x z=>(nomatch z),fun x z=>(nomatch z)⟩
    | some d=>rw[hv] at e; subst e; exact⟨fun x z=>(nomatch z),fun x z=>(nomatch z)⟩
   | _=>cases e; exact⟨fun x z=>(nomatch z),fun x z=>(nomatch z)⟩
 refine⟨g,R.of ⟨fun b o e=>?_,fun b o e=>?_,r.fr.h0,r.fr.pn⟩ ?_ (fun i s e=>?_) (fun i B e=>(nob i _ e).2 B rfl) (fun i j x y _ e=>((nob i _ e).1 x rfl).elim)⟩
 ·unfold a5L at e
  split at e
  ·exact e
  ·exact r.fr.sub b o e
 ·have h:¬OwnA F Γ σ G H b:=fun h=>by
   have:=h.at.1;rw[e] at this; cases this
  unfold a5L;rw[if_neg h];exact r.fr.g0 b o e
 ·unfold a7C;rw[List.length_map];exact r.len
 ·unfold a7C at e;rw[List.getElem?_map] at e
  cases e0:Γ[i]? with
  | none=>rw[e0] at e; cases e
  | some s0=>
   rw[e0] at e;have h:=r.sl i s0 e0
   cases s0 with
   | no=>cases e; trivial
   | val d=>cases e; obtain⟨v,e1,d1⟩:=h; exact⟨v,e1,Dt.same g _ _ d1⟩
   | own ds=>
    cases e
    obtain⟨p,vs,e1,e2,e3,e4,e5⟩:=h;refine⟨_,e1,.lst ?_ (Dts.same g _ _ e5)⟩;unfold a5L;rw[if_pos ⟨i,_,[p],e0,⟨p,vs,rfl,e1,e2,e3,e4,e5⟩,List.mem_singleton.mpr rfl⟩];exact e4
   | pen=>cases e; exact h
   | con q=>cases e; exact h
   | pub B=>cases e; obtain⟨v,e1,e2⟩:=h; exact⟨v,e1,B.mono g e2⟩
   | box B=>
    have e:(match B.view with|some d=>Sl.val d|none=>match B.pv with|some b=>Sl.pub b|none=>Sl.no)=s:=Option.some.inj e;obtain⟨v,fp,e1,e2,e3⟩:=h
    cases hv:B.view with
    | none=>
     cases hw:B.pv with
     | none=>rw[hv,hw] at e; subst e; trivial
     | some b0=>
      rw[hv,hw] at e;subst e;refine⟨v,e1,B.pok e2 hw g fun b hb=>?_⟩;unfold a5L;rw[if_pos ⟨i,_,fp,e0,⟨v,e1,e2,e3⟩,hb⟩]
    | some d=>
     rw[hv] at e;subst e;refine⟨v,e1,B.vok e2 hv g fun b hb=>?_⟩;unfold a5L;rw[if_pos ⟨i,_,fp,e0,⟨v,e1,e2,e3⟩,hb⟩]
theorem R.backG (r:R F Γ σ G H){G1 H1:Hp}(s:Same (a5L F Γ σ G H) G1)(f1:Rf F G1 H1) :
  (∀ b,OwnA F Γ σ G H b→G1 b=H b∧H1 b=H b)∧Same G (rK F Γ σ G H G1)∧Rf F (rK F Γ σ G H G1) H1∧aI1 G1 (rK F Γ σ G H G1):=by
 have s0:=(r.pubAll).1;have own:∀ b,OwnA F Γ σ G H b→G1 b=H b∧H1 b=H b:=fun b h=>by
  obtain⟨_,_,o,e⟩:=h.at;have q:a5L F Γ σ G H b=H b:=by unfold a5L; rw[if_pos h]
  rw[e] at q ⊢;exact⟨s b _ q,f1.sub b _ (s b _ q)⟩
 have g:Same G (rK F Γ σ G H G1):=fun b o e=>by
  have h:¬OwnA F Γ σ G H b:=fun h=>by
   have:=h.at.2.1;rw[e] at this; cases this
  unfold rK;rw[if_neg h];exact s b o (s0 b o e)
 refine⟨own,g,⟨fun b o e=>?_,fun b o e=>?_,f1.h0,f1.pn⟩,fun b xs e=>?_⟩
 ·unfold rK at e
  split at e
  ·cases e
  ·exact f1.sub b o e
 ·have h:¬OwnA F Γ σ G H b:=fun h=>by
   have:=h.at.1;rw[e] at this; cases this
  unfold rK;rw[if_neg h];exact f1.g0 b o e
 ·by_cases h:OwnA F Γ σ G H b
  ·have e':H b=some (.tup xs):=by rw[← (own b h).1]; exact e
   obtain⟨q,vs,q1,q2,q3⟩:=h.tup e';exact .inr ⟨q,vs,q1,by rw[(own q q2).1]; exact q3⟩
  ·refine .inl ?_;unfold rK;rw[if_neg h];exact e
theorem a6D {G1:Hp}{b:Addr}(h:OwnA F Γ σ G H b):rK F Γ σ G H G1 b=none:=by
 unfold rK;rw[if_pos h]
theorem R.back (r:R F Γ σ G H){G' H':Hp}(s:Same (a5L F Γ σ G H) G')(r':R F (a7C Γ) σ G' H'):Same G (rK F Γ σ G H G')∧R F Γ σ (rK F Γ σ G H G') H'∧aI1 G' (rK F Γ σ G H G'):=by
 obtain⟨own,g,f,t⟩:=r.backG s r'.fr;obtain⟨fps,h1,h2⟩:=r.fps;refine⟨g,⟨f,r.len,fps,fun i sl e=>(h1 i sl e).go g fun b hb=>?_,h2⟩,t⟩;have ho:OwnA F Γ σ G H b:=⟨i,sl,fps i,e,h1 i sl e,hb⟩;exact⟨a6D ho,(own b ho).2⟩
end
theorem a4A {t:TT}{m:MT}(h:VTT P0 t m):VTT P0 t (a3M m):=by
 intro F Γ σ G H Q Qm r hm k;obtain⟨s0,r0⟩:=r.pubAll;refine h F _ σ _ H _ _ r0 hm fun b Γ1 G1 H1 m1 s1 r1=>?_;obtain⟨rfl,q⟩:=m1;obtain⟨s2,r2,t2⟩:=r.back s1 r1;exact k _ _ _ _ q s2 r2
section
variable {ta tb:TE}{ma mb:ME}
abbrev a7K:=mI0 fun i j=>PyData.int (i+j)
abbrev aEU:=mI0 fun i j=>PyData.int (i-j)
abbrev a1V:=mI IntMulOk fun i j=>PyData.int (i*j)
abbrev a5K:=mI aBC fun i j=>PyData.int (i.fdiv j)
abbrev aKZ:=mI (fun _ j=>0<j) fun i j=>PyData.int (i%j)
abbrev aIK:=mU fun i=>PyData.int (-i)
abbrev mLt:=mI0 fun i j=>PyData.bool (decide (i<j))
abbrev mLe:=mI0 fun i j=>PyData.bool (decide (i≤j))
abbrev mGt:=mI0 fun i j=>PyData.bool (decide (j<i))
abbrev mGe:=mI0 fun i j=>PyData.bool (decide (j≤i))
theorem oG (ha:VT P0 ta ma)(hb:VT P0 tb mb):VT P0 (tOp (rI0 fun i j=>.int (i+j)) ta tb) (a7K ma mb):=a65 (fun _ _ _=>.int _) ha hb
theorem a0I (ha:VT P0 ta ma)(hb:VT P0 tb mb):VT P0 (tOp (rI0 fun i j=>.int (i-j)) ta tb) (aEU ma mb):=a65 (fun _ _ _=>.int _) ha hb
theorem j7 (ha:VT P0 ta ma)(hb:VT P0 tb mb):VT P0 (tOp (rI IntMulOk fun i j=>.int (i*j)) ta tb) (a1V ma mb):=aIS (fun _ _ _=>.int _) ha hb
theorem tX (ha:VT P0 ta ma)(hb:VT P0 tb mb):VT P0 (tOp (rI aBC fun i j=>.int (i.fdiv j)) ta tb) (a5K ma mb):=aIS (fun _ _ _=>.int _) ha hb
theorem aC3 (ha:VT P0 ta ma)(hb:VT P0 tb mb):VT P0 (tOp (rI (fun _ j=>0<j) fun i j=>.int (i%j)) ta tb) (aKZ ma mb):=aIS (fun _ _ _=>.int _) ha hb
theorem a6S (ha:VT P0 ta ma):VT P0 (tUn (rU fun i=>.int (-i)) ta) (aIK ma):=aMN (fun _ _=>.int _) ha
theorem a2O (ha:VT P0 ta ma)(hb:VT P0 tb mb):VT P0 (tOp (rI0 fun i j=>.bl (decide (i<j))) ta tb) (mLt ma mb):=a65 (fun _ _ _=>.bl _) ha hb
theorem aGY (ha:VT P0 ta ma)(hb:VT P0 tb mb):VT P0 (tOp (rI0 fun i j=>.bl (decide (i≤j))) ta tb) (mLe ma mb):=a65 (fun _ _ _=>.bl _) ha hb
theorem aB2 (ha:VT P0 ta ma)(hb:VT P0 tb mb):VT P0 (tOp (rI0 fun i j=>.bl (decide (j<i))) ta tb) (mGt ma mb):=a65 (fun _ _ _=>.bl _) ha hb
theorem aKO (ha:VT P0 ta ma)(hb:VT P0 tb mb):VT P0 (tOp (rI0 fun i j=>.bl (decide (j≤i))) ta tb) (mGe ma mb):=a65 (fun _ _ _=>.bl _) ha hb
theorem aG {i:Int}:VT P0 (tC (.int i)) (mC (.int i)):=aIG fun _=>.int i
theorem nU {b:Bool}:VT P0 (tC (.bl b)) (mC (.bool b)):=aIG fun _=>.bl b
theorem cC {s:Str}:VT P0 (tC (.str s)) (mC (.str s)):=aIG fun _=>.str s
theorem mK:VT P0 (tC .non) (mC .none):=aIG fun _=>.non
end
end
section
def a9M:Fm:=fun as Q=>match as with
 | [.pen,.val (.int m)]=>0<m∧m<1073741824∧∀ r:Int,0≤r→r<m→Q (.val (.int r))
 | _=>False
def oJ:Fl→Prop:=fun fl=>fl=.rt (.val (.bool true))
end
end L2.VS
namespace L2.VS
open PySem PySem.Spec PyProof.Rows LT
section
variable {Γ:En}{i j n:Nat}{d e x y:D}{ma mb:ME}{oa ob:MO}{ta tb:MT}{md:MD}{aa:MA}{sa sb:MS}{g:MG}{gs:MGs}{mp mq:MP}
theorem aL8 {Q:Fl→Prop}(h:sa Γ fun fl=>match fl with|.nx Γ1=>sb Γ1 Q|fl=>Q fl):cU sa sb Γ Q:=h
theorem aMX {Q:Fl→Prop}(h:Q (.nx Γ)):mNx Γ Q:=h
theorem aF4 {Q:Fl→Prop}(h:ma Γ fun _ Γ1=>Q (.nx Γ1)):a75 ma Γ Q:=h
theorem aIQ {Q:Fl→Prop}(h:oa Γ fun rv Γ1=>Q (.nx (Γ1.set i rv.sl))):jX i oa Γ Q:=h
theorem aJI {Q:Fl→Prop}(h:md Γ fun ds Γ1=>match ds with|[d,e]=>Q (.nx ((Γ1.set i (.val d)).set j (.val e)))|_=>False):aL6 i j md Γ Q:=h
theorem aKP {Q:Fl→Prop}(h:oa Γ fun rv _=>Q (.rt rv)):fQ oa Γ Q:=h
theorem aMR {Q:Fl→Prop}(h:ta Γ fun k Γ1=>if k=true then sa Γ1 Q else sb Γ1 Q):mIf ta sa sb Γ Q:=h
theorem aKL {Q:Fl→Prop}(h:md Γ fun ds Γ1=>forL g sa ds Γ1 Q):aB5 md g sa Γ Q:=h
def aK4 (i:Nat)(d:D)(Γ1:En)(Q:Fl→Prop):Prop:=match Γ1[i]? with
 | some (.own ds)=>ds.length<1000∧Q (.nx (Γ1.set i (.own (ds++[d]))))
 | _=>False
theorem a9Y {Q:Fl→Prop}{ds:List D}(h0:Γ[i]?=some (.own ds))(h:ma Γ fun d Γ1=>aK4 i d Γ1 Q):fY i ma Γ Q:=by
 unfold fY;rw[h0];exact h
theorem vO {Q:Fl→Prop}{Γ1:En}{ds:List D}(h0:Γ1[i]?=some (.own ds))(h1:ds.length<1000)(h:Q (.nx (Γ1.set i (.own (ds++[d]))))):aK4 i d Γ1 Q:=by
 unfold aK4;rw[h0];exact⟨h1,h⟩
theorem aGR {Q:Fl→Prop}{ds:List D}(h0:Γ[i]?=some (.own ds))(h:sa (Γ.set i (.val (.list ds))) Q):a2D i sa Γ Q:=by
 unfold a2D;rw[h0];exact h
theorem i_c {Q:D→En→Prop}(h:Q d Γ):mC d Γ Q:=h
theorem aKJ {Q:D→En→Prop}(h0:Γ[i]?=some (.val d))(h:Q d Γ):aX i Γ Q:=by
 unfold aX;rw[h0];exact h
theorem aMO {f:Int→Int→D}{Q:D→En→Prop}(h:ma Γ fun x Γ1=>mb Γ1 fun y Γ2=>match x,y with|.int i,.int j=>Q (f i j) Γ2|_,_=>False):mI0 f ma mb Γ Q:=h
theorem i_I {C:Int→Int→Prop}{f:Int→Int→D}{Q:D→En→Prop}(h:ma Γ fun x Γ1=>mb Γ1 fun y Γ2=>match x,y with|.int i,.int j=>C i j∧Q (f i j) Γ2|_,_=>False):mI C f ma mb Γ Q:=h
theorem i_U {f:Int→D}{Q:D→En→Prop}(h:ma Γ fun x Γ1=>match x with|.int i=>Q (f i) Γ1|_=>False):mU f ma Γ Q:=h
theorem aJD {Q:D→En→Prop}(h:ma Γ fun x Γ1=>match x with|.int i=>Q (.int (if i<0 then -i else i)) Γ1|_=>False):aEV ma Γ Q:=h
theorem aMU {Q:D→En→Prop}(h:ma Γ fun x Γ1=>mb Γ1 fun y Γ2=>Good x∧Good y∧Q (.bool (PyData.eqv x y)) Γ2):mEq ma mb Γ Q:=h
theorem aMT {Q:D→En→Prop}(h:ma Γ fun x Γ1=>mb Γ1 fun y Γ2=>Good x∧Good y∧Q (.bool (!PyData.eqv x y)) Γ2):mNe ma mb Γ Q:=h
theorem aJL {Q:D→En→Prop}(h:ma Γ fun x Γ1=>Q (.bool (isN x)) Γ1):aH5 ma Γ Q:=h
theorem aHJ {Q:D→En→Prop}(h:ma Γ fun x Γ1=>Q (.bool (!isN x)) Γ1):aD0 ma Γ Q:=h
theorem aFT {Q:D→En→Prop}(h:ma Γ fun x Γ1=>match x with|.bool c=>if c=true then mb Γ1 Q else Q (.bool false) Γ1|_=>False):qN ma mb Γ Q:=h
theorem aFJ {Q:D→En→Prop}(h:ma Γ fun x Γ1=>match x with|.bool c=>Q (.bool (!c)) Γ1|_=>False):aCF ma Γ Q:=h
theorem aIT {Q:Bool→En→Prop}(h:ma Γ fun x Γ1=>match x with|.bool c=>Q c Γ1|_=>False):dY ma Γ Q:=h
theorem aL4 {Q:Bool→En→Prop}(h:ta Γ fun c Γ1=>if c=true then tb Γ1 Q else Q false Γ1):aEX ta tb Γ Q:=h
theorem aMP {Q:Bool→En→Prop}(h:ta Γ fun c Γ1=>if c=true then Q true Γ1 else tb Γ1 Q):mOr ta tb Γ Q:=h
theorem aJF {Q:Bool→En→Prop}(h:ta Γ fun c Γ1=>Q (!c) Γ1):yV ta Γ Q:=h
theorem aK7 {Q:Rv→En→Prop}(h:ta Γ fun c Γ1=>if c=true then oa Γ1 Q else ob Γ1 Q):a9F ta oa ob Γ Q:=h
theorem aL1 {Q:List D→En→Prop}(h:Q [] Γ):lO Γ Q:=h
theorem aH4 {Q:List D→En→Prop}(h:ma Γ fun x Γ1=>md Γ1 fun xs Γ2=>Q (x::xs) Γ2):bW ma md Γ Q:=h
theorem aIF {Q:List Sl→En→Prop}(h:Q [] Γ):cX Γ Q:=h
theorem aI5 {Q:List Sl→En→Prop}(h:ma Γ fun x Γ1=>aa Γ1 fun xs Γ2=>Q (.val x::xs) Γ2):cD ma aa Γ Q:=h
theorem aG3 {Q:List Sl→En→Prop}(h0:Γ[i]?=some .pen)(h:aa Γ fun xs Γ2=>Q (.pen::xs) Γ2):rN i aa Γ Q:=by
 unfold rN;rw[h0];exact h
theorem aKN {Q:D→En→Prop}(h:md Γ fun ds Γ1=>ds.length≤1000∧Q (.tuple ds) Γ1):yU md Γ Q:=h
theorem aLD {Q:Rv→En→Prop}(h:md Γ fun ds Γ1=>ds.length≤1000∧Q (.own ds) Γ1):a2A md Γ Q:=h
theorem aML {Q:D→En→Prop}(h:ma Γ fun x Γ1=>mb Γ1 fun y Γ2=>oQ (ixD x y) fun d=>Q d Γ2):mIx ma mb Γ Q:=h
theorem aL9 {Q:D→En→Prop}(h:ma Γ fun x Γ1=>oQ (aET x) fun d=>Q d Γ1):a3E ma Γ Q:=h
theorem aIO {s:String}{Q:D→En→Prop}(h:ma Γ fun x Γ1=>Q (.bool (qX (eO x) s)) Γ1):wW s ma Γ Q:=h
theorem aJV {Q:D→En→Prop}(h:oa Γ fun rv Γ1=>nbQ rv (Q rv.d Γ1)):cV oa Γ Q:=h
theorem aKD {Q:Rv→En→Prop}(h:ma Γ fun d Γ1=>Q (.val d) Γ1):cQ ma Γ Q:=h
theorem aGW {Q:Rv→En→Prop}{ds:List D}(h0:Γ[i]?=some (.own ds))(h:Q (.own ds) (Γ.set i .no)):a7J i Γ Q:=by
 unfold a7J;rw[h0];exact h
theorem aF6 {f:Fm}{Q:Rv→En→Prop}(h:aa Γ fun as Γ1=>as.length=n∧f as fun rv=>Q rv Γ1):bO n f aa Γ Q:=h
theorem aAV {Q:Rv→En→Prop}(h:ma Γ fun x Γ1=>match rT x with|some ds=>Q (.own ds) Γ1|none=>False):yR ma Γ Q:=h
theorem aIM {Q:Rv→En→Prop}(h:ma Γ fun x Γ1=>mp Γ1 fun lo Γ2=>mq Γ2 fun hi Γ3=>match x with|.list ds=>Q (.own (cutD ds lo hi)) Γ3|_=>False):aJN ma mp mq Γ Q:=h
theorem aKW {Q:Option Int→En→Prop}(h:Q none Γ):pNo Γ Q:=h
theorem aKF {Q:Option Int→En→Prop}(h:ma Γ fun x Γ1=>match x with|.int i=>Q (some i) Γ1|_=>False):pSo ma Γ Q:=h
theorem aMK {neg:Bool}{Q:D→En→Prop}(h:ma Γ fun x Γ1=>mb Γ1 fun y Γ2=>match rT y with|some ds=>Good x∧Goods ds∧Q (.bool (if neg then !(ds.any fun e=>PyData.eqv e x) else ds.any fun e=>PyData.eqv e x)) Γ2|none=>False):mIn neg ma mb Γ Q:=h
theorem aDR {Q:Bool→En→Prop}(h:ta (a7C Γ) fun b Γ1=>Γ1=a7C Γ∧Q b Γ):a3M ta Γ Q:=h
theorem aJ7 {Q:List D→En→Prop}(h:ma Γ fun x Γ1=>match x with|.list ds=>Q ds Γ1|_=>False):aIE ma Γ Q:=h
theorem aKC {Q:List D→En→Prop}(h:ma Γ fun x Γ1=>match x with|.tuple ds=>Q ds Γ1|_=>False):aHI ma Γ Q:=h
theorem aFO {Q:List D→En→Prop}(h:md Γ fun ds Γ1=>match ds with|[.int j] => -(2^62)≤j∧j<2^62∧Q (j5 0 j.toNat) Γ1|_=>False):a5X md Γ Q:=h
theorem aN0 {Q:En→Prop}(h:Q (Γ.set i (.val d))):gN i d Γ Q:=h
theorem aMQ {Q:En→Prop}{ds:List D}(hl:ds.length=n)(h:gs ds Γ Q):gT n gs (.tuple ds) Γ Q:=⟨hl,h⟩
theorem aEO {Q:En→Prop}(h:Q Γ):aAM [] Γ Q:=h
theorem aB4 {Q:En→Prop}{ds:List D}(h:g d Γ fun Γ1=>gs ds Γ1 Q):vX g gs (d::ds) Γ Q:=h
theorem lM {k:Nat}{as:List Sl}{Q:Rv→Prop}(h:sa (as++List.replicate k .no) fun fl=>match fl with|.rt rv=>Q rv|.nx _=>Q (.val .none)|_=>False):mFn k sa as Q:=h
theorem dM {o:Option D}{k:D→Prop}(h0:o=some d)(h:k d):oQ o k:=by rw[h0]; exact h
theorem gK {m:Int}{Q:Rv→Prop}(h1:0<m)(h2:m<1073741824)(h:∀ r:Int,0≤r→r<m→Q (.val (.int r))):a9M [.pen,.val (.int m)] Q:=⟨h1,h2,h⟩
structure KOk (I:En→Prop)(Q K:Fl→Prop):Prop where
 nx:∀ Γ,I Γ→K (.nx Γ)
 ct:∀ Γ,I Γ→K (.ct Γ)
 bk:∀ Γ,Q (.nx Γ)→K (.bk Γ)
 rt:∀ rv,Q (.rt rv)→K (.rt rv)
theorem uJ {ds:List D}{Q:Fl→Prop}(I:Nat→En→Prop)(h0:I 0 Γ)(hs:∀ i d Γ K,ds[i]?=some d→I i Γ→KOk (I (i+1)) Q K→g d Γ fun Γ1=>sa Γ1 K)(he:∀ Γ,I ds.length Γ→Q (.nx Γ)):forL g sa ds Γ Q:=by
 have aux:∀(es:List D) (k:Nat) (Γ:En),(∀ i d,es[i]?=some d→ds[k+i]?=some d)→k+es.length=ds.length→I k Γ→forL g sa es Γ Q:=by
  intro es
  induction es with
  | nil=>intro k Γ _ hl hi; exact he Γ (by rw[← hl]; simpa using hi)
  | cons d es ih=>
   intro k Γ hd hl hi;have next:∀ Γ2,I (k+1) Γ2→forL g sa es Γ2 Q:=fun Γ2 h3=>ih (k+1) Γ2 (fun i e he'=>by
    have:=hd (i+1) e (by simpa using he');rw[show k+1+i=k+(i+1) by omega]; exact this) (by rw[← hl,List.length_cons]; omega) h3
   exact hs k d Γ _ (by simpa using hd 0 d rfl) hi ⟨next,next,fun _ h=>h,fun _ h=>h⟩
 exact aux ds 0 Γ (fun i d h=>by simpa using h) (by simp) h0
theorem uZ {lo:Int}{n:Nat}{Q:Fl→Prop}(I:Nat→En→Prop)(h0:I 0 Γ)(hs:∀ i Γ K,i<n→I i Γ→KOk (I (i+1)) Q K→g (.int (lo+i)) Γ fun Γ1=>sa Γ1 K)(he:∀ Γ,I n Γ→Q (.nx Γ)):forL g sa (j5 lo n) Γ Q:=by
 have hl:(j5 lo n).length=n:=by simp[j5]
 refine uJ I h0 (fun i d Γ K e hi hk=>?_) (by rw[hl]; exact he);have hi':i<n:=by have:=(List.getElem?_eq_some_iff.mp e).1; omega
 unfold j5 at e;rw[List.getElem?_map,List.getElem?_range hi'] at e
 cases e
 exact hs i Γ K hi' hi hk
theorem zV {Q:Fl→Prop}(I:Nat→En→Prop)(m0:Nat)(h0:I m0 Γ)(hs:∀ m Γ,I m Γ→ta Γ fun k Γ1=>if k=true then sa Γ1 fun fl=>match fl with
  | .nx Γ2=>∃ n',n'<m∧I n' Γ2
  | .ct Γ2=>∃ n',n'<m∧I n' Γ2
  | .bk Γ2=>Q (.nx Γ2)
  | .rt rv=>Q (.rt rv)
 else Q (.nx Γ1)):a2Z ta sa Γ Q:=⟨I,⟨m0,h0⟩,hs⟩
end
theorem aIP {A B:Prop}(h:B):if (!true)=true then A else B:=a0Q h
theorem aL7 {A B:Prop}(h:A):if (!false)=true then A else B:=a1F h
theorem good_int (i:Int):Good (.int i):=⟨rfl,by show 0≤60; decide⟩
theorem good_bool (b:Bool):Good (.bool b):=⟨rfl,by show 0≤60; decide⟩
theorem good_none:Good .none:=⟨rfl,by show 0≤60; decide⟩
theorem aCJ (i j:Int):PyData.eqv (.int i) (.int j)=decide (i=j):=by
 show(i==j)=_
 exact Bool.beq_eq_decide_eq i j
theorem aAJ (i j:Bool):PyData.eqv (.bool i) (.bool j)=decide (i=j):=by
 show(i==j)=_
 exact Bool.beq_eq_decide_eq i j
section
variable {P:D→Prop}{Γ:En}{Q:D→En→Prop}
end
def Gd (n:Nat)(d:D):Prop:=d.canLay0=true∧d.depth≤n
theorem Gd.good {n:Nat}{d:D}(h:Gd n d)(hn:n≤60:=by decide):Good d:=⟨h.1,Nat.le_trans h.2 hn⟩
theorem Gd.mono {n m:Nat}{d:D}(h:Gd n d)(hn:n≤m:=by decide):Gd m d:=⟨h.1,Nat.le_trans h.2 hn⟩
theorem gds {n:Nat}:∀{ds:List D},(∀ d∈ds,Gd n d)→PyData.canLayAll0 ds=true∧PyData.depthAll ds≤n
 | [],_=>⟨rfl,Nat.zero_le _⟩
 | d::ds,h=>by
  have h1:=h d List.mem_cons_self;have h2:=gds (ds:=ds) fun e he=>h e (List.mem_cons_of_mem _ he);refine⟨by show(d.canLay0&&PyData.canLayAll0 ds)=true; rw[h1.1,h2.1]; rfl,?_⟩;show max d.depth (PyData.depthAll ds)≤n;exact Nat.max_le.mpr ⟨h1.2,h2.2⟩
theorem yX {n:Nat}{ds:List D}(h:∀ d∈ds,Gd n d):Gd (n+1) (.tuple ds):=⟨(gds h).1,Nat.succ_le_succ (gds h).2⟩
theorem a7U {n:Nat}{ds:List D}(h:∀ d∈ds,Gd n d):Gd (n+1) (.list ds):=⟨(gds h).1,Nat.succ_le_succ (gds h).2⟩
theorem a3W {n:Nat}{ds:List D}(h:∀ d∈ds,Gd n d)(hn:n≤59:=by decide):Goods ds:=⟨(gds h).1,Nat.le_trans (gds h).2 hn⟩
theorem wJ (i:Int):Gd 0 (.int i):=⟨rfl,Nat.le_refl _⟩
theorem z6 (s:Str)(h:(PyData.str s).canLay0=true:=by decide +kernel):Gd 0 (.str s):=⟨h,Nat.le_refl _⟩
theorem good_str (s:Str)(h:(PyData.str s).canLay0=true:=by decide +kernel):Good (.str s):=(z6 s h).good
theorem uQ (q:Rat):Gd 1 (dD q):=yX (n:=0) fun d h=>by
 rcases List.mem_cons.mp h with rfl|h
 ·exact wJ _
 ·rw[List.mem_singleton.mp h]; exact wJ _
theorem a3P {d:D}(h:Good d):PyData.eqv d d=true:=SeqAt.eqv_refl d h.lay
theorem isT {d:D}{n:String}{A B:Prop}(h:qX (eO d) n=true)(a:A):if qX (eO d) n=true then A else B:=by rw[h]; exact a1F a
theorem isF {d:D}{n:String}{A B:Prop}(h:qX (eO d) n=false)(b:B):if qX (eO d) n=true then A else B:=by rw[h]; exact a0Q b
theorem aN1 {d:D}{n:String}{A B:Prop}(h:qX (eO d) n=true)(b:B):if (!qX (eO d) n)=true then A else B:=by rw[h]; exact a0Q b
theorem aE1 (q:Rat):ixD (dD q) (.int 0)=some (.int q.num):=rfl
theorem aCP (q:Rat):ixD (dD q) (.int 1)=some (.int (q.den:Int)):=rfl
theorem a9R (l:Rat×Rat):ixD (mL l) (.int 0)=some (dD l.1):=rfl
theorem aAX (l:Rat×Rat):ixD (mL l) (.int 1)=some (dD l.2):=rfl
end L2.VS
namespace L2
open PySem PySem.Spec PyProof.Rows
def a1R (env:Env):List (Str×NameKind)→List (Str×Addr)→List (Str×Addr)
 | [],cs=>cs
 | (n,k)::r,cs=>if (k==.free)=true then a1R env r ((n,(env.cells.lookup n).getD 0)::cs) else a1R env r cs
theorem a9B {env:Env}:∀(names:List (Str×NameKind)) (cs:List (Str×Addr)),(∀ y∈names,y.2=.free→∃ c,env.cells.lookup y.1=some c) →
  (forIn names cs fun(x:Str×NameKind) (r:List (Str×Addr))=>(do
   if (x.2==NameKind.free)=true then do
    let a←cellOf env x.1
    pure (ForInStep.yield ((x.1,a)::r))
   else pure (ForInStep.yield r):Sem (ForInStep (List (Str×Addr)))))=pure (a1R env names cs)
 | [],cs,_=>rfl
 | (n,k)::r,cs,h=>by
  have ih:=fun cs=>a9B (env:=env) r cs fun y hy=>h y (List.mem_cons_of_mem _ hy);rw[List.forIn_cons];unfold a1R
  by_cases hk:(k==NameKind.free)=true
  ·obtain⟨c,hc⟩:=h (n,k) List.mem_cons_self (by simpa using hk);have hc':env.cells.lookup n=some c:=hc;have e:cellOf env n=pure c:=by unfold cellOf; rw[hc']
   simp only[hk,if_true,e,hc',Option.getD_some];simp only[pure_bind];exact ih _
  ·have hk':(k==NameKind.free)=false:=by simpa using hk
   simp only[hk',Bool.false_eq_true,if_false,pure_bind];exact ih _
theorem a8E {scope:Scope}{env:Env}(h:∀ y∈scope.names,y.2=.free→∃ c,env.cells.lookup y.1=some c):closureFor scope env=pure (a1R env scope.names []):=by
 have e:=a9B (env:=env) scope.names [] h;unfold closureFor;rw[← e];simp only[bind_pure]
theorem qD {env:Env}:∀(names:List (Str×NameKind)) (cs:List (Str×Addr)),(∀ y∈names,y.2=.free→∃ c,env.cells.lookup y.1=some c)→(∀ x c,cs.lookup x=some c→env.cells.lookup x=some c) →
  ∀ x c,(a1R env names cs).lookup x=some c→env.cells.lookup x=some c
 | [],cs,_,h=>h
 | (n,k)::r,cs,hf,h=>by
  have ih:=fun cs=>qD (env:=env) r cs fun y hy=>hf y (List.mem_cons_of_mem _ hy);unfold a1R
  by_cases hk:(k==NameKind.free)=true
  ·rw[if_pos hk];obtain⟨c0,hc⟩:=hf (n,k) List.mem_cons_self (by simpa using hk);have hc':env.cells.lookup n=some c0:=hc;refine ih _ fun x c e=>?_;rw[List.lookup_cons] at e
   cases hx:x==n with
   | true=>
    rw[hx,hc'] at e;have:x=n:=by simpa using hx
    rw[this,hc'];exact e
   | false=>rw[hx] at e; exact h x c e
  ·rw[if_neg hk];exact ih _ h
theorem t6 {env:Env}:∀(names:List (Str×NameKind)) (cs:List (Str×Addr)) (x:Str),((∃ k,(x,k)∈names∧k=.free)∨(cs.lookup x).isSome=true)→((a1R env names cs).lookup x).isSome=true
 | [],cs,x,h=>by
  rcases h with⟨k,hm,_⟩|h
  ·cases hm
  ·exact h
 | (n,k)::r,cs,x,h=>by
  unfold a1R
  by_cases hk:(k==NameKind.free)=true
  ·rw[if_pos hk];refine t6 r _ x ?_
   by_cases hx:x=n
   ·right
    rw[List.lookup_cons,hx];simp
   ·rcases h with⟨k',hm,hf⟩|h
    ·rcases List.mem_cons.mp hm with e|hm
     ·cases e; exact absurd rfl hx
     ·exact .inl ⟨k',hm,hf⟩
    ·right
     rw[List.lookup_cons];have:(x==n)=false:=by simpa using hx
     rw[this];exact h
  ·rw[if_neg hk];refine t6 r _ x ?_;rcases h with⟨k',hm,hf⟩|h
   ·rcases List.mem_cons.mp hm with e|hm
    ·cases e; subst hf; exact absurd rfl hk
    ·exact .inl ⟨k',hm,hf⟩
   ·exact .inr h
theorem lV {env:Env}:∀{names:List (Str×NameKind)} {x:Str},(∀ y∈names,y.2≠.cell) →
    ((names.map fun(n,k)=>if (k==NameKind.free&&env.scope.kind==.function&&env.kindOf n==some .cell) then(n,NameKind.cell) else(n,k)).lookup x=some .cell ∨
     (names.map fun(n,k)=>if (k==NameKind.free&&env.scope.kind==.function&&env.kindOf n==some .cell) then(n,NameKind.cell) else(n,k)).lookup x=some .free)→(x,NameKind.free)∈names
  | [],_,_,h=>by simp at h
  | (n,k)::r,x,hc,h=>by
    have ih:=@lV env r x (fun y hy=>hc y (List.mem_cons_of_mem _ hy));have hk:k≠.cell:=hc (n,k) List.mem_cons_self;rw[List.map_cons] at h
    by_cases hf:(k==NameKind.free&&env.scope.kind==.function&&env.kindOf n==some .cell)=true
    · have kf:k=.free:=by
        have:=(Bool.and_eq_true _ _▸hf:_∧_).1;have:=(Bool.and_eq_true _ _▸this:_∧_).1;simpa using this
      simp only[hf,if_true] at h;rw[List.lookup_cons] at h
      cases hx:x==n with
      | true=>
        have:x=n:=by simpa using hx
        subst this; subst kf;exact List.mem_cons_self
      | false=>rw[hx] at h; exact List.mem_cons_of_mem _ (ih h)
    · simp only[hf,Bool.false_eq_true,if_false] at h;rw[List.lookup_cons] at h
      cases hx:x==n with
      | true=>
        have:x=n:=by simpa using hx
        subst this;rw[hx] at h;rcases h with h|h
        · exact absurd (Option.some.inj h) hk
        · have:k=.free:=Option.some.inj h;subst this;exact List.mem_cons_self
      | false=>rw[hx] at h; exact List.mem_cons_of_mem _ (ih h)
def j0 (X:Cx)(N:List Str)(scope:Scope)(C:Addr)(s₀:Shared)(H₀:Hp)(ex:List Addr):Cx where
 prog:=X.prog
 w:=X.w
 K:=X.K
 mg:=X.mg
 base:=X.base
 A:=X.A
 N:=N
 s₀:=s₀
 H₀:=H₀
 env:=compEnvC scope (a1R X.env scope.names []) C X.env
 outer:=X.stack
 stack:=X.stack
 ex:=ex
 fn:=fun _=>false
 calm:=X.calm
 pn:=[]
 xe:=fun _ _=>False
def blk (nt:Nat)(fv:List Nat)(σ:St):St:=List.replicate nt none++fv.map fun j=>(σ[j]?).getD none
def aCA (nt:Nat)(fv:List Nat)(wi:TI)(g:TG)(ti:TT)(te:TE):TE:=fun σ H Q=>wi σ H fun J H1=>∃ W:Nat→Nat→List V→Hp→Prop,(∃ m,W 0 m [] H1)∧∀ i m ys H,W i m ys H →
 (J.stop i H∧ys.length≤sizeLine∧∀ p,H p=none→Q (.ref p) (upd H p (.lst ys))) ∨
 (J.go i H∧ys.length≤sizeLine∧∀ x H',J.yld i H x H'→g x (blk nt fv σ) H' fun σ2 H2=>(∀ i,nt≤i→σ2[i]?=(blk nt fv σ)[i]?)∧ti σ2 H2 fun b H3=>if b=true then te σ2 H3 fun v H4=>∃ m',m'<m∧W (i+1) m' (ys++[v]) H4 else ∃ m',m'<m∧W (i+1) m' ys H3)
def PTs (X:Cx)(cs:List Expr)(t:TT):Prop:=
 ∀(pins:List (Addr×Obj)) (s:Shared) (σ:St) (H:Hp) (Q:Bool→Hp→Prop),Inv X pins σ H s→t σ H Q →
  wpAny (model X.prog X.w) X.A (forIn cs true fun c r=>if r=true then do let ok←isTrue c X.env (eval c X.env); pure (ForInStep.yield ok) else pure (ForInStep.yield r)) (TP X pins σ Q) X.xe s
def aG6:TT:=fun _ H Q=>Q true H
theorem kW {X:Cx}:PTs X [] aG6:=fun _ _ _ H _ I h=>wpAny_tests_nil ⟨H,I,h⟩
structure BlkOk (X:Cx)(N:List Str)(scope:Scope)(nt:Nat)(fv:List Nat):Prop where
 kind:scope.kind=.function
 ncell:∀ y∈scope.names,y.2≠.cell
 names:∀ y∈scope.names,y.2=.local→scope.names.lookup y.1=some .local
 free:∀ y∈scope.names,y.2=.free→X.env.kindOf y.1=some .cell
 len:N.length=nt+fv.length
 fv:∀ i x,N[nt+i]?=some x→∃ j,fv[i]?=some j∧X.N[j]?=some x∧X.env.kindOf x=some .cell∧(relabel scope X.env).names.lookup x=some .cell
section
variable {X:Cx}{N:List Str}{scope:Scope}{nt:Nat}{fv:List Nat}{pins:List (Addr×Obj)}{σ:St}{H:Hp}{s:Shared}
theorem BlkOk.cells (B:BlkOk X N scope nt fv)(I:Inv X pins σ H s):∀ y∈scope.names,y.2=.free→∃ c,X.env.cells.lookup y.1=some c:=fun y hy hf=>I.ok.has y.1 (.inl (B.free y hy hf))
theorem aG4 (B:BlkOk X N scope nt fv)(I:Inv X pins σ H s){C:Addr}{fp:List Addr}(hC:s.heap.objs.size≤C)(hf:∀ b∈fp,a4Q X pins H b)(hlt:∀ b∈fp,b<s.heap.objs.size) :
  (j0 X N scope C s H fp).Ok:=by
 have sub:∀ x c,(a1R X.env scope.names []).lookup x=some c→X.env.cells.lookup x=some c:=qD _ _ (B.cells I) (fun x c e=>by simp at e);refine⟨I.ok.mod,B.kind,I.ok.glob,I.ok.blt,hC,fun x y c e1 e2=>I.ok.inj x y c (sub x c e1) (sub y c e2),fun x hx=>?_,fun x c h=>absurd h (by show ¬(false=true); decide),I.ok.hd,I.ok.frames,.inl rfl,fun b hb=>⟨?_,fun x c e=>?_⟩,I.bs,Nat.le_trans I.ok.bsz I.sz,fun b o e hb=>?_,fun b hb z=>?_,I.stack,I.stkFree⟩
 ·have hm:(x,NameKind.free)∈scope.names:=lV B.ncell hx;exact Option.isSome_iff_exists.mp (t6 scope.names [] x (.inl ⟨_,hm,rfl⟩))
 ·exact Nat.ne_of_lt (Nat.lt_of_lt_of_le (hlt b hb) hC)
 ·exact(hf b hb).2.2.2.2.1 x c (sub x c e)
 ·rcases(hf b hb).2.2.2.1 with z|z
  ·exact I.ok.noex b o e z
  ·exact absurd (Nat.lt_of_lt_of_le (Heap.lt_size e) (Nat.le_trans I.ok.bsz z)) (Nat.lt_irrefl _)
 ·rcases List.mem_cons.mp (I.stkSub b z) with z|z
  ·exact(hf b hb).2.1 z
  ·exact(hf b hb).2.2.1 z
theorem a7T (B:BlkOk X N scope nt fv)(I:Inv X pins σ H s){C:Addr}{fp:List Addr}(hC:s.heap.objs.size≤C)(hf:∀ b∈fp,a4Q X pins H b)(hlt:∀ b∈fp,b<s.heap.objs.size){h':Heap}{tk:Nat}
  (k:∀ b o,s.heap.get? b=some o→h'.get? b=some o) (hn:∃ m,h'.Ns C m):Inv (j0 X N scope C s H fp) [] (blk nt fv σ) H { s with heap:=h',toks:=tk }:=by
 have sub:∀ x c,(a1R X.env scope.names []).lookup x=some c→X.env.cells.lookup x=some c:=qD _ _ (B.cells I) (fun x c e=>by simp at e);obtain⟨m,hn⟩:=hn;refine⟨aG4 B I hC hf hlt,rfl,I.bare,Un.kept k,⟨m,hn,fun i x v e1 e2 e3=>?_⟩,fun x c e=>?_,I.hok.fresh hC,fun x c e=>I.freeC x c (sub x c e),fun p hp=>(nomatch hp),I.hok.kept k,?_⟩
 ·have hi:nt≤i:=by
   refine Nat.le_of_not_lt fun hlt=>?_;unfold blk at e2;rw[List.getElem?_append_left (by simpa using hlt),List.getElem?_replicate] at e2
   split at e2<;>cases e2
  obtain⟨j,hj⟩:∃ j,i=nt+j:=⟨i-nt,by omega⟩;subst hj;obtain⟨o,f1,f2,f3,f4⟩:=B.fv j x e1;unfold blk at e2;rw[List.getElem?_append_right (by simp),List.length_replicate,Nat.add_sub_cancel_left,List.getElem?_map,f1] at e2;have e2':(σ[o]?).getD none=some v:=Option.some.inj e2;have e4:σ[o]?=some (some v):=by
   cases q:σ[o]? with
   | none=>rw[q] at e2'; cases e2'
   | some z=>rw[q] at e2'; exact congrArg some e2'
  obtain⟨m0,hn0,hl⟩:=I.loc;obtain⟨u,ru,lk⟩:=hl o x v f2 e4 (.inr (.inl f3));refine⟨u,ru,.inr ⟨.inl f4,?_⟩⟩;rcases lk with⟨z,_⟩|⟨_,c,hc,hcell⟩
  ·rw[f3] at z; cases z
  ·have hm:(x,NameKind.free)∈scope.names:=lV B.ncell (.inl f4);obtain⟨c',hc'⟩:=Option.isSome_iff_exists.mp (t6 (env:=X.env) scope.names [] x (.inl ⟨_,hm,rfl⟩));have:=sub x c' hc';rw[hc] at this
   cases this
   obtain⟨oc,h1,h2⟩:=hcell;exact⟨c,hc',oc,k c oc h1,h2⟩
 ·obtain⟨v,oc,h1,h2⟩:=I.cell x c (sub x c e);exact⟨v,oc,k c oc h1,h2⟩
 ·show(blk nt fv σ).length=N.length
  unfold blk;rw[List.length_append,List.length_replicate,List.length_map];exact B.len.symm
end
section
variable {prog:Program}{w:World}{A:Around}{R:Result→Shared→Prop}{s:Shared}
theorem a00 {elt target iter:Expr}{ifs:List Expr}{scope:Scope}{pos:Pos}{it acc:Value}{env:Env}(I:Nat→Shared→Prop)
  (turn:∀ n s,I n s→wpAny (model prog w) A (pyNext it) (fun r s₁=>match r with
   | none=>R (.ok .next) s₁
   | some v=>wpAny (model prog w) A (letOwnedTupleGo target it v) (fun _ s₁'=>wpAny (model prog w) A (assign target env v) (fun _ s₂=>
     wpAny (model prog w) A (forIn ifs true fun c r=>if r=true then do let ok←isTrue c env (eval c env); pure (ForInStep.yield ok) else pure (ForInStep.yield r)) (fun ok s₃=>
      if ok=true then wpAny (model prog w) A (eval elt env) (fun x s₄=>
       wpAny (model prog w) A (call (.builtin "list.append") [acc,x]) (fun _ s₅=>∃ m,m<n∧I m s₅) (fun _ _=>False) s₄) (fun _ _=>False) s₃
      else ∃ m,m<n∧I m s₃) (fun _ _=>False) s₂) (fun _ _=>False) s₁') (fun _ _=>False) s₁) (fun _ _=>False) s)
  (n:Nat) (h:I n s) :
  codeAny (model prog w) A (.compLoop (.ListComp elt [⟨target,iter,ifs,0⟩] scope pos) 0 it acc env) R s:=by
 refine codeAny_loop rfl I (fun n s hI=>?_) n h;show wpAny _ A ((compTurn (.ListComp elt [⟨target,iter,ifs,0⟩] scope pos) 0 it acc env).onRaise (fun x=>do noteFrame x env; theTreesLotGoes x)) _ _ s;refine wpAny_noted ?_;rw[compTurn_list];refine wpAny_bind (wpAny_standAt (wpAny_bind (wpAny_mono (turn n s hI) (fun r s₁ h₁=>?_) fun _ _ f=>f.elim)))
 cases r with
 | none=>exact wpAny_pure h₁
 | some v=>
  refine wpAny_bind (wpAny_mono h₁ (fun _ s₁' h₁'=>?_) fun _ _ f=>f.elim);refine wpAny_bind (wpAny_mono h₁' (fun _ s₂ h₂=>wpAny_bind (wpAny_mono h₂ (fun ok s₃ h₃=>?_) fun _ _ f=>f.elim)) fun _ _ f=>f.elim)
  cases ok with
  | false=>exact wpAny_pure ⟨rfl,h₃⟩
  | true=>
   exact wpAny_bind (wpAny_bind (wpAny_mono h₃ (fun x s₄ h₄=>wpAny_bind (wpAny_mono h₄ (fun _ s₅ h₅=>wpAny_pure (wpAny_pure ⟨rfl,h₅⟩)) fun _ _ f=>f.elim)) fun _ _ f=>f.elim))
end
end L2
namespace L2
open PySem PySem.Spec PyProof.Rows
section
variable {X:Cx}{N:List Str}{scope:Scope}{nt:Nat}{fv:List Nat}{elt tg iter:Expr}{ifs:List Expr}{wi:TI}{g:TG}{ti:TT}{te:TE}{pos:Pos}
def tR (its:List Value)(n:Nat):Obj:={ cls:=.type "list", dict:=none,data:=.seq its.toArray n }
theorem a4B (hc:X.calm=true)(B:BlkOk X N scope nt fv)
  (hg:∀ C s₀ H₀ ex,PG (j0 X N scope C s₀ H₀ ex) tg g) (ht:∀ C s₀ H₀ ex,PTs (j0 X N scope C s₀ H₀ ex) ifs ti) (he:∀ C s₀ H₀ ex,PE (j0 X N scope C s₀ H₀ ex) elt te)
  {pins:List (Addr×Obj)} {σ:St} {s2:Shared} {H2:Hp} {it:Addr} {fp:List Addr} {tn:Nat→Heap→Prop} {J:It} (I2:Inv X pins σ H2 s2) (T:Turn X.prog X.w X.K tg J fp it tn) (st2:tn 0 s2.heap) (f2:∀ b∈fp,a4Q X pins H2 b)
  {W:Nat→Nat→List V→Hp→Prop} {m0:Nat} (w0:W 0 m0 [] H2) {Q:VK}
  (turn:∀ i m ys H,W i m ys H→(J.stop i H∧ys.length≤sizeLine∧∀ p,H p=none→Q (.ref p) (upd H p (.lst ys))) ∨
   (J.go i H∧ys.length≤sizeLine∧∀ x H',J.yld i H x H'→g x (blk nt fv σ) H' fun σ2 H2=>(∀ i,nt≤i→σ2[i]?=(blk nt fv σ)[i]?)∧ti σ2 H2 fun b H3=>if b=true then te σ2 H3 fun v H4=>∃ m',m'<m∧W (i+1) m' (ys++[v]) H4 else ∃ m',m'<m∧W (i+1) m' ys H3))
  {RR:Value→Addr→Result→Shared→Prop}
  (hR:∀ D C s',s2.heap.objs.size≤C→(∃ m,s'.heap.Ns C m)→(∀ h',Heap.SameBut C s'.heap h'→∃ H',Inv X pins σ H' { s' with heap:=h' }∧H' C=none∧Q (.ref D) H')→RR (.ref D) C (.ok .next) s') :
  wpAny (model X.prog X.w) X.A (newList []) (fun acc s₃=>wpAny (model X.prog X.w) X.A (newFunctionEnv scope X.env.globals (a1R X.env scope.names []) [] X.env.qual none .none (some X.env)) (fun cenv s₄=>
   codeAny (model X.prog X.w) X.A (.compStart (.ListComp elt [⟨tg,iter,ifs,0⟩] scope pos) 0 (.ref it) acc { cenv with scope:=relabel scope X.env }) (RR acc cenv.locals) s₄) X.xe s₃) X.xe s2:=by
 refine wpAny_newObj_type (wpAny_newFunctionEnv B.ncell (by intro y hy; simp at hy) (fun h₁ hns₁ hsb₁=>?_) B.kind);dsimp only at hns₁ hsb₁ ⊢;generalize hH2:s2.heap.push { cls:=.type "list", dict:=none,data:=.seq ([]:List Value).toArray }=Hh at hns₁ hsb₁ ⊢;have hC:Hh.objs.size=s2.heap.objs.size+1:=by rw[← hH2,Heap.size_push]
 have hDC:s2.heap.objs.size≠Hh.objs.size:=by rw[hC]; exact Nat.ne_of_lt (Nat.lt_succ_self _)
 have hCle:s2.heap.objs.size≤Hh.objs.size:=by rw[hC]; exact Nat.le_succ _
 have below:∀ b,b<s2.heap.objs.size→b≠Hh.objs.size∧b≠s2.heap.objs.size:=fun b hb=>⟨by rw[hC]; exact Nat.ne_of_lt (Nat.lt_succ_of_lt hb),Nat.ne_of_lt hb⟩;have old:∀ b o,s2.heap.get? b=some o→h₁.get? b=some o:=fun b o e=>hsb₁.extBut b o (below b (Heap.lt_size e)).1 (Heap.get?_push_of_some _ (hH2▸Heap.get?_push_of_some _ e));have hacc:h₁.get? s2.heap.objs.size=some (tR [] 0):=hsb₁.extBut _ _ hDC (Heap.get?_push_of_some _ (hH2▸Heap.get?_push_size _ rfl));have flt:∀ b∈fp,b<s2.heap.objs.size:=fun b hb=>by obtain⟨o,e,_⟩:=T.obj 0 _ st2 b hb; exact Heap.lt_size e
 have fresh:∀ a,s2.heap.objs.size≤a→s2.heap.get? a=none:=fun a ha=>by
  cases e:s2.heap.get? a with
  | none=>rfl
  | some o'=>exact absurd (Heap.lt_size e) (Nat.not_lt.mpr ha)
 have ftk:∀{H':Hp} {pl:List (Addr×Obj)},(∀ b∈fp,H' b=none)→(∀ p∈pl,p.1∉fp)→∀ b∈fp,a4Q (j0 X N scope Hh.objs.size s2 H2 fp) pl H' b:=fun{H' pl} hn hp b hb=>
  ⟨hn b hb,(below b (flt b hb)).1,fun z=>by
   rcases List.mem_cons.mp (I2.stkSub b z) with z|z
   ·exact(f2 b hb).2.1 z
   ·exact(f2 b hb).2.2.1 z,.inl hb,fun x c e=>(f2 b hb).2.2.2.2.1 x c (qD _ _ (B.cells I2) (fun x c e=>by simp at e) x c e),fun p hp' z=>hp p hp' (z▸hb)⟩
 have Dfp:s2.heap.objs.size∉fp:=fun hm=>Nat.lt_irrefl _ (flt _ hm);have Dfs:s2.heap.objs.size∉frs X.stack:=fun z=>by
  rcases List.mem_cons.mp (I2.stkSub _ z) with z|z
  ·exact Nat.lt_irrefl _ (z▸I2.lt)
  ·exact I2.nofs (Nat.le_refl _) z
 have Dcell:∀ x c,(a1R X.env scope.names []).lookup x=some c→c≠s2.heap.objs.size:=fun x c e z=>by
  obtain⟨v,q⟩:=I2.cell x c (qD _ _ (B.cells I2) (fun x c e=>by simp at e) x c e);exact Nat.lt_irrefl _ (z▸q.lt)
 have Iblk:Inv (j0 X N scope Hh.objs.size s2 H2 fp) [] (blk nt fv σ) H2 { s2 with heap:=h₁,toks:=s2.toks+([]:List (Str×Value)).length }:=a7T B I2 hCle f2 flt old ⟨_,hns₁⟩;have pinD:∀{s':Shared} {H':Hp} {σ':St} {its:List Value} {n:Nat} {pl:List (Addr×Obj)},Inv (j0 X N scope Hh.objs.size s2 H2 fp) pl σ' H' s'→s'.heap.get? s2.heap.objs.size=some (tR its n)→H' s2.heap.objs.size=none →
   Inv (j0 X N scope Hh.objs.size s2 H2 fp) [(s2.heap.objs.size,tR its n)] σ' H' s':=fun I e hn=>I.pins_of fun p hp=>by
  rw[List.mem_singleton.mp hp];exact⟨e,hn,hDC,Dfs,fun v z=>by cases z⟩
 have loop:∀ s₃:Shared,s₃={ s2 with heap:=h₁,toks:=s2.toks+([]:List (Str×Value)).length } →
   codeAny (model X.prog X.w) X.A (.compLoop (.ListComp elt [⟨tg,iter,ifs,0⟩] scope pos) 0 (.ref it) (.ref s2.heap.objs.size) (compEnvC scope (a1R X.env scope.names []) Hh.objs.size X.env)) (RR (.ref s2.heap.objs.size) Hh.objs.size) s₃:=by
  rintro s₃ rfl;refine a00 (fun n s'=>∃ i ys its k H',Inv (j0 X N scope Hh.objs.size s2 H2 fp) [(s2.heap.objs.size,tR its k)] (blk nt fv σ) H' s'∧tn i s'.heap∧(∀ b∈fp,H' b=none)∧W i n ys H'∧Vals ys its) ?_ m0
   ⟨0,[],[],0,H2,pinD Iblk hacc (I2.hok.fresh (Nat.le_refl _)),T.keep _ _ _ st2 fun b _ o e=>old b o e,fun b hb=>(f2 b hb).1,w0,.nil⟩
  rintro n s' ⟨i,ys,its,k,H',I',st',fr',w',vs'⟩;obtain⟨pd,pn,_,_,_⟩:=I'.pin (s2.heap.objs.size,tR its k) (by exact List.mem_cons_self);have pfp:∀{o:Obj},∀ p∈[(s2.heap.objs.size,o)],p.1∉fp:=fun p hp=>by rw[List.mem_singleton.mp hp]; exact Dfp
  rcases turn i n ys H' w' with⟨stop,hz,q⟩|⟨go,hz,step⟩
  ·refine wpAny_mono (T.done (j0 X N scope Hh.objs.size s2 H2 fp) rfl rfl rfl hc i _ s' _ H' (fun _ _=>False) I' (ftk fr' pfp) st' stop) (fun r s1 ⟨hr,I1⟩=>?_) fun _ _ f=>f;subst hr;obtain⟨pd1,pn1,_,_,_⟩:=I1.pin (s2.heap.objs.size,tR its k) (by exact List.mem_cons_self);obtain⟨m,hm,_⟩:=I1.loc;refine hR _ _ s1 hCle ⟨m,hm⟩ fun h' sb=>⟨upd H' s2.heap.objs.size (.lst ys),?_,by rw[aZ (Ne.symm hDC)]; exact I1.free,q _ pn1⟩;have keepT:∀ b u,H' b=some u→b≠Hh.objs.size:=fun b u e z=>by
    have e0:H' Hh.objs.size=none:=I1.free;rw[z,e0] at e
    cases e
   have kept:∀ b o,b≠Hh.objs.size→s1.heap.get? b=some o→h'.get? b=some o:=fun b o hb e=>sb.extBut b o hb e;have un:=I1.base;refine I2.call' (s':={ s1 with heap:=h' }) (ch:=fp) I1.os ⟨fun b o e hn hb hx=>?_,fun b o e hn hb hx=>?_,fun b o e hn hx=>?_,fun b o e hx=>?_,fun b xs e=>?_,fun b o u e=>?_,fun b ps e=>?_⟩ ?_ I1.bare fun b hb=>?_
   ·exact kept b o (below b (Heap.lt_size e)).1 (un.keep b o e hn hb hx)
   ·obtain⟨sl,e1⟩:=un.slot b o e hn hb hx;exact⟨sl,kept b _ (below b (Heap.lt_size e)).1 e1⟩
   ·rw[aZ (below b (Heap.lt_size e)).2];exact un.free b o e hn hx
   ·obtain⟨o',e1⟩:=un.there b o e hx;exact⟨o',kept b o' (below b (Heap.lt_size e)).1 e1⟩
   ·have e1:=un.tups b xs e;rw[aZ (bJ e1 pn1)];exact e1
   ·have e1:=un.frzs b o u e;rw[aZ (bJ e1 pn1)];exact e1
   ·obtain⟨mo,e1⟩:=un.tbls b ps e;exact⟨mo,by rw[aZ (bJ e1 pn1)]; exact e1⟩
   ·intro b u e
    by_cases hb:b=s2.heap.objs.size
    ·subst hb;rw[bA] at e
     cases e
     exact⟨hz,its,k,vs',kept _ _ hDC pd1⟩
    ·rw[aZ hb] at e;refine(I1.hok b u e).stay (fun c v hc' q'=>kept c v ?_ q') (fun c q'=>by rw[aZ (bJ q' pn1)]; exact q') fun c xs q'=>by rw[aZ (bJ q' pn1)]; exact q'
     rcases hc' with z|z
     ·rw[z]; exact keepT b u e
     ·exact keepT c _ z
   ·exact⟨(f2 b hb).2.2.2.1,(f2 b hb).2.1,(f2 b hb).2.2.2.2.1,(f2 b hb).2.2.2.2.2⟩
  ·refine wpAny_mono (T.item (j0 X N scope Hh.objs.size s2 H2 fp) rfl rfl rfl hc i _ s' _ H' (fun _ _=>False) I' (ftk fr' pfp) st' go) (fun r s3 ⟨u,hr,h3⟩=>?_) fun _ _ f=>f;subst hr;refine wpAny_mono h3 (fun _ s4 ⟨x,H4,I4,r4,y4,st4,fr4⟩=>?_) fun _ _ f=>f;have I4':=I4.pinned (ftk fr4 pfp) (T.obj _ _ st4);refine wpAny_mono (hg Hh.objs.size s2 H2 fp _ s4 _ H4 x u _ I4' r4 (step x H4 y4)) (fun _ s5 ⟨σ5,H5,I5,x5,q5⟩=>?_) fun _ _ f=>f;refine wpAny_mono (ht Hh.objs.size s2 H2 fp _ s5 σ5 H5 _ I5 q5) (fun b s6 ⟨H6,I6,q6⟩=>?_) fun _ _ f=>f;have weak:∀{s':Shared} {H':Hp} {pl:List (Addr×Obj)},Inv (j0 X N scope Hh.objs.size s2 H2 fp) pl σ5 H' s'→Inv (j0 X N scope Hh.objs.size s2 H2 fp) pl (blk nt fv σ) H' s':=by
    intro s' H' pl I;refine I.weak ((a7T B I2 hCle f2 flt old ⟨_,hns₁⟩ (tk:=0)).len.trans I.len.symm) fun j v e=>?_
    by_cases hj:nt≤j
    ·rw[x5 j hj]; exact e
    ·unfold blk at e;rw[List.getElem?_append_left (by simpa using hj),List.getElem?_replicate] at e
     split at e<;>cases e
   have pnew:∀{s':Shared} {H':Hp} {σ':St},Inv (j0 X N scope Hh.objs.size s2 H2 fp) ([(s2.heap.objs.size,tR its k)]++a0E fp s4.heap) σ' H' s' →
     s'.heap.get? s2.heap.objs.size=some (tR its k)∧H' s2.heap.objs.size=none∧tn (i+1) s'.heap∧∀ b∈fp,H' b=none:=fun{s' H' σ'} I=>by
    obtain⟨p1,p2,_⟩:=I.pin (s2.heap.objs.size,tR its k) (by exact List.mem_cons_self);refine⟨p1,p2,T.keep _ _ _ st4 fun b hb o e=>(I.pin (b,o) (List.mem_append_right _ (List.mem_append_right _ (mR hb e)))).1,fun b hb=>?_⟩;obtain⟨o,e,d⟩:=T.obj _ _ st4 b hb;exact(I.pin (b,o) (List.mem_append_right _ (List.mem_append_right _ (mR hb e)))).2.1
   cases b with
   | false=>
    obtain⟨m',hm,w6⟩:=q6;obtain⟨p1,p2,p3,p4⟩:=pnew I6;exact⟨m',hm,i+1,ys,its,k,H6,weak (pinD I6 p1 p2),p3,p4,w6,vs'⟩
   | true=>
    refine wpAny_mono (he Hh.objs.size s2 H2 fp _ s6 σ5 H6 _ I6 q6) (fun v s7 ⟨y,H7,I7,r7,q7⟩=>?_) fun _ _ f=>f;obtain⟨m',hm,w7⟩:=q7;obtain⟨p1,p2,p3,p4⟩:=pnew I7;have hl:=vs'.length;refine wpAny_list_append_plain (l:=s2.heap.objs.size) (items:=its.toArray) ⟨k,p1⟩ (fun h8 pl8 sb8=>?_) (by rw[List.size_toArray]; omega);obtain⟨k8,e8⟩:=pl8;have e8':h8.get? s2.heap.objs.size=some (tR (its++[v]) k8):=by
     rw[e8];unfold tR;simp
    have I7':=(weak I7).pins_of (pins':=[]) fun p hp=>(nomatch hp);have I8:Inv (j0 X N scope Hh.objs.size s2 H2 fp) [] (blk nt fv σ) H7 { s7 with heap:=h8 }:=I7'.turned (t':=s7.toks) (it:=s2.heap.objs.size) (fun b o hb e=>(sb8.2 b hb).trans e) p2 hDC (.inr (Nat.le_refl _)) Dcell (fun p hp=>(nomatch hp));exact⟨m',hm,i+1,ys++[y],its++[v],k8,H7,pinD I8 e8' p2,T.keep _ _ _ p3 fun b hb o e=>(sb8.2 b (fun z=>Dfp (z▸hb))).trans e,p4,w7,vs'.append (.cons r7 .nil)⟩
 exact codeAny_compStart_list (loop _ rfl) (T.self X.A 0 _ _ _ (T.keep _ _ _ st2 fun b _ o e=>old b o e) (loop _ rfl))
theorem jD (hc:X.calm=true)(B:BlkOk X N scope nt fv)(hi:PI X tg iter wi)
  (hg:∀ C s₀ H₀ ex,PG (j0 X N scope C s₀ H₀ ex) tg g) (ht:∀ C s₀ H₀ ex,PTs (j0 X N scope C s₀ H₀ ex) ifs ti) (he:∀ C s₀ H₀ ex,PE (j0 X N scope C s₀ H₀ ex) elt te)
  (hs:∀ x,foldedSetIterable iter X.env x=pure x:=by intro _; rfl):PE X (.ListComp elt [⟨tg,iter,ifs,0⟩] scope pos) (aCA nt fv wi g ti te):=by
 intro pins s σ H Q I h;rw[eval_ListComp];refine wpAny_comprehension_free (use:=none) rfl hs (a8E (B.cells I)) B.kind B.names (thn (hi pins s σ H _ I h) fun xv s1 h1=>thn h1 fun itv s2 h2=>?_);obtain⟨it,fp,tn,J,H2,rfl,I2,T,st2,f2,W,⟨m0,w0⟩,turn⟩:=h2;refine a4B hc B hg ht he I2 T st2 f2 w0 turn (RR:=fun acc C=>compPost (model X.prog X.w) X.A X.xe none (EP X pins σ Q) acc C) fun D C s' hC hn hq=>?_;obtain⟨m,hm⟩:=hn;refine⟨m,hm,fun h' sb=>?_⟩;obtain⟨H',I',_,q'⟩:=hq h' sb;exact⟨.ref D,H',I',rfl,q'⟩
theorem aEH {i:Nat}{x:Str}{pos' spos:Pos}(hN:X.N.Nodup)(hi':X.N[i]?=some x)(hx:X.env.scope.names.lookup x=some .local)(hc:X.calm=true)(B:BlkOk X N scope nt fv)(hi:PI X tg iter wi)
  (hg:∀ C s₀ H₀ ex,PG (j0 X N scope C s₀ H₀ ex) tg g) (ht:∀ C s₀ H₀ ex,PTs (j0 X N scope C s₀ H₀ ex) ifs ti) (he:∀ C s₀ H₀ ex,PE (j0 X N scope C s₀ H₀ ex) elt te)
  (hsw:swapsWith (.ListComp elt [⟨tg,iter,ifs,0⟩] scope pos) (some (.Name x pos')) spos.line X.env=pure true:=by rfl)
  (hs:∀ x,foldedSetIterable iter X.env x=pure x:=by intro _; rfl):PS X (.Assign [.Name x pos'] (.ListComp elt [⟨tg,iter,ifs,0⟩] scope pos) spos) (aGT (aCA nt fv wi g ti te) (a2C i)):=by
 intro pins s σ H D I h;rw[exec_Assign_Name_used _ _ _ _ hsw];refine wpAny_bind (wpAny_standAt (wpAny_bind ?_));show wpAny _ X.A (do let _←comprehension (.ListComp elt [⟨tg,iter,ifs,0⟩] scope pos) scope X.env _ (newList []) false (eval iter X.env) (some (assign (.Name x pos') X.env))) _ _ s;refine wpAny_bind (wpAny_mono (wpAny_comprehension_free (use:=some (assign (.Name x pos') X.env)) (Q:=fun _ s'=>SP X pins D .next s') rfl hs (a8E (B.cells I)) B.kind B.names
  (thn (hi pins s σ H _ I h) fun xv s1 h1=>thn h1 fun itv s2 h2=>?_)) (fun _ s' h'=>wpAny_pure (wpAny_pure h')) fun _ _ e=>e)
 obtain⟨it,fp,tn,J,H2,rfl,I2,T,st2,f2,W,⟨m0,w0⟩,turn⟩:=h2;refine a4B (Q:=fun v H1=>a2C i v σ H1 D.nx) hc B hg ht he I2 T st2 f2 w0 turn (RR:=fun acc C=>compPost (model X.prog X.w) X.A X.xe (some (assign (.Name x pos') X.env)) (fun _ s'=>SP X pins D .next s') acc C) fun L C s' hC hn hq=>?_;obtain⟨m,hm⟩:=hn;obtain⟨H',I',hC',q'⟩:=hq s'.heap (Heap.SameBut.refl ..);have hCL:C≠X.env.locals:=fun z=>by
  have:=I2.lt;rw[← z] at this;exact Nat.lt_irrefl _ (Nat.lt_of_lt_of_le this hC)
 have Ccell:∀ y c,X.env.cells.lookup y=some c→c≠C:=fun y c e z=>by
  obtain⟨v,qc⟩:=I2.cell y c e;exact Nat.lt_irrefl _ (Nat.lt_of_lt_of_le (z▸qc.lt) hC)
 show wpAny _ X.A (assign (.Name x pos') X.env (.ref L)) _ _ s';refine wpAny_assign_Name (zB (v:=.ref L) I' hN hi' (.inl hx) rfl (fun s'' I'' sb''=>?_) (.inr hx));obtain⟨a,sb,ha⟩:=sb'';have haC:C≠a:=by
  rcases ha with z|z
  ·rw[z]; exact hCL
  ·exact(Ccell x a z).symm
 refine⟨m,hm.sameBut sb haC,fun h' sb'=>?_⟩;refine⟨_,H',I''.turned (t':=s''.toks) (it:=C) (fun b o hb e=>(sb'.2 b hb).trans e) hC' hCL (.inr (Nat.le_trans I2.sz hC)) Ccell fun p hp z=>?_,q'⟩;have e:=(I2.pin p hp).1;exact Nat.lt_irrefl _ (Nat.lt_of_lt_of_le (z▸Heap.lt_size e) hC)
end
end L2
namespace L2
open PySem PySem.Spec PyProof.Rows
def aMI (scope osc:Scope):List (Str×NameKind):=scope.names.map fun(n,k)=>if (k==.free&&osc.kind==.function&&osc.names.lookup n==some .cell) then(n,.cell) else(n,k)
def aM8 (osc:Scope)(ON N:List Str)(scope:Scope)(nt:Nat)(fv:List Nat):Bool:=
 scope.kind==.function&&scope.names.all (fun y=>y.2 != .cell)&&scope.names.all (fun y=>y.2 != .local||scope.names.lookup y.1==some .local) &&
 scope.names.all (fun y=>y.2 != .free||osc.names.lookup y.1==some .cell)&&N.length==nt+fv.length &&
 (List.range fv.length).all fun i=>match N[nt+i]?,fv[i]? with
  | some x,some j=>ON[j]?==some x&&osc.names.lookup x==some .cell&&(aMI scope osc).lookup x==some .cell
  | _,_=>false
theorem sH {X:Cx}{osc:Scope}{ON N:List Str}{scope:Scope}{nt:Nat}{fv:List Nat}(h:aM8 osc ON N scope nt fv=true)(e1:X.env.scope=osc:=by rfl)(e2:X.N=ON:=by rfl):BlkOk X N scope nt fv:=by
 subst e1 e2;unfold aM8 at h;simp only[Bool.and_eq_true,List.all_eq_true,Bool.or_eq_true,bne_iff_ne,ne_eq,beq_iff_eq] at h;obtain⟨⟨⟨⟨⟨h1,h2⟩,h3⟩,h4⟩,h5⟩,h6⟩:=h;refine⟨h1,h2,fun y hy e=>?_,fun y hy e=>?_,h5,fun i x e=>?_⟩
 ·rcases h3 y hy with z|z
  ·exact absurd e z
  ·exact z
 ·rcases h4 y hy with z|z
  ·exact absurd e z
  ·exact z
 ·have hi:i<fv.length:=by
   have:=(List.getElem?_eq_some_iff.mp e).1;omega
  have q:=h6 i (List.mem_range.mpr hi);rw[e,List.getElem?_eq_getElem hi] at q;simp only[Bool.and_eq_true,beq_iff_eq] at q;obtain⟨⟨q1,q2⟩,q3⟩:=q;exact⟨fv[i],List.getElem?_eq_getElem hi,q1,q2,q3⟩
end L2
namespace L2.VS
open PySem PySem.Spec PyProof.Rows
section
variable {P0:Addr→Hp→Prop}
def yE:MT:=fun Γ Q=>Q true Γ
theorem iD:VTT P0 aG6 yE:=fun _ _ _ _ _ _ _ r m k=>k _ _ _ _ m (Same.refl _) r
def aJ8:Option Sl→Sl
 | some (.val d)=>.val d
 | some .pen=>.pen
 | some (.pub B)=>.pub B
 | _=>.no
def aD9 (nt:Nat)(fv:List Nat)(Γ:En):En:=List.replicate nt .no++fv.map fun j=>aJ8 Γ[j]?
def sZ (g:MG)(t:MT)(e:ME)(Γb:En):List D→List D→(List D→Prop)→Prop
 | [],acc,Q=>Q acc
 | d::ds,acc,Q=>g d Γb fun Γ1=>t Γ1 fun b Γ2=>if b=true then e Γ2 fun v _=>sZ g t e Γb ds (acc++[v]) Q else sZ g t e Γb ds acc Q
def a0F (nt:Nat)(fv:List Nat)(mi:MD)(g:MG)(t:MT)(e:ME):MO:=fun Γ Q=>mi Γ fun ds Γ1=>ds.length≤1000∧sZ g t e (aD9 nt fv Γ1) ds [] fun out=>Q (.own out) Γ1
theorem aK8 {F:Fra P0}{Γ:En}{σ:St}{G H G' H':Hp}{nt:Nat}{fv:List Nat}(r:R F Γ σ G H)(rf:Rf (F.sub r.fr) G' H')(s:Same G G'):R (F.sub r.fr) (aD9 nt fv Γ) (blk nt fv σ) G' H':=by
 have at_:∀{i:Nat} {sl:Sl},(aD9 nt fv Γ)[i]?=some sl→sl≠.no→∃(j:Nat) (s0:Sl),Γ[j]?=some s0∧sl=aJ8 (some s0)∧(blk nt fv σ)[i]?=some ((σ[j]?).getD none):=by
  intro i sl e hn;unfold aD9 at e
  by_cases hi:i<nt
  ·rw[List.getElem?_append_left (by simpa using hi),List.getElem?_replicate] at e;rw[if_pos hi] at e
   cases e
   exact absurd rfl hn
  ·rw[List.getElem?_append_right (by simpa using hi),List.length_replicate,List.getElem?_map] at e
   cases ej:fv[i-nt]? with
   | none=>rw[ej] at e; cases e
   | some j=>
    rw[ej] at e;have e':aJ8 Γ[j]?=sl:=Option.some.inj e
    cases es:Γ[j]? with
    | none=>rw[es] at e'; exact absurd e'.symm hn
    | some s0=>
     rw[es] at e';refine⟨j,s0,es,e'.symm,?_⟩;unfold blk;rw[List.getElem?_append_right (by simpa using hi),List.length_replicate,List.getElem?_map,ej];rfl
 refine R.of rf (by simp[aD9,blk]) (fun i sl e=>?_) (fun i B e=>?_) (fun i j x y _ e=>?_)
 ·cases sl with
  | no=>trivial
  | val d=>
   obtain⟨j,s0,h1,h2,h3⟩:=at_ e (by intro z; cases z)
   cases s0 with
   | val d0=>
    cases h2
    obtain⟨v,e1,d1⟩:=r.sl j _ h1;rw[e1] at h3;exact⟨v,h3,Dt.same s _ _ d1⟩
   | _=>cases h2
  | own ds=>
   obtain⟨j,s0,h1,h2,h3⟩:=at_ e (by intro z; cases z)
   cases s0<;>cases h2
  | pen=>
   obtain⟨j,s0,h1,h2,h3⟩:=at_ e (by intro z; cases z)
   cases s0 with
   | pen=>
    obtain⟨p,e1,e2⟩:=r.sl j _ h1;rw[e1] at h3;exact⟨p,h3,e2⟩
   | _=>cases h2
  | con q=>
   obtain⟨j,s0,h1,h2,h3⟩:=at_ e (by intro z; cases z)
   cases s0<;>cases h2
  | pub B=>
   obtain⟨j,s0,h1,h2,h3⟩:=at_ e (by intro z; cases z)
   cases s0 with
   | pub B'=>
    cases h2
    obtain⟨v,e1,e2⟩:=r.sl j _ h1;rw[e1] at h3;exact⟨v,h3,B.mono s e2⟩
   | _=>cases h2
  | box B=>
   obtain⟨j,s0,h1,h2,h3⟩:=at_ e (by intro z; cases z)
   cases s0<;>cases h2
 ·obtain⟨j,s0,h1,h2,h3⟩:=at_ e (by intro z; cases z)
  cases s0<;>cases h2
 ·obtain⟨j,s0,h1,h2,h3⟩:=at_ e (by intro z; cases z)
  cases s0<;>cases h2
theorem lG {nt:Nat}{fv:List Nat}{wi:TI}{g:TG}{ti:TT}{te:TE}{mi:MD}{mg:MG}{mt:MT}{me:ME}(hi:VI P0 wi mi)(hg:VG P0 (fun i=>decide (i<nt)) g mg)(ht:VTT P0 ti mt)(he:VT P0 te me) :
  VO P0 (aCA nt fv wi g ti te) (a0F nt fv mi mg mt me):=by
 intro F Γ σ G H Q Qm r m k;refine hi F Γ σ G H _ _ r m fun ds Γ1 J G1 H1 m1 s1 r1 wk=>?_;obtain⟨hsz,m1⟩:=m1;refine⟨fun i n ys H2=>n=ds.length-i∧i≤ds.length∧ys.length≤i∧∃ G2 out,Rf (F.sub r1.fr) G2 H2∧Same G1 G2∧Dts G2 ys out∧sZ mg mt me (aD9 nt fv Γ1) (ds.drop i) out fun out=>Qm (.own out) Γ1,
  ⟨ds.length,by simp,Nat.zero_le _,Nat.zero_le _,G1,[],F.subRf r1.fr,Same.refl _,.nil,by simpa using m1⟩,?_⟩
 rintro i n ys H2 ⟨rfl,hle,hy,G2,out,rf2,s2,d2,m2⟩;have rb:=aK8 (nt:=nt) (fv:=fv) r1 rf2 s2;obtain⟨go,stop⟩:=wk (F.sub r1.fr) _ _ G2 H2 s2 rb;have small:ys.length≤sizeLine:=nM (by omega)
 by_cases hlt:i<ds.length
 ·refine .inr ⟨(go i ds[i] (by simp[hlt])).1,small,fun x H' hyl=>?_⟩;obtain⟨G3,s3,r3,d3⟩:=(go i ds[i] (by simp[hlt])).2 x H' hyl;rw[List.drop_eq_getElem_cons hlt] at m2;refine hg (F.sub r1.fr) _ _ G3 H' x _ _ _ r3 d3 m2 fun Γ4 σ4 m4 r4 e4=>⟨fun j hj=>e4 j (decide_eq_false (by omega)),?_⟩;refine ht (F.sub r1.fr) _ _ G3 H' _ _ r4 m4 fun b Γ5 G5 H5 m5 s5 r5=>?_
  cases b with
  | true=>
   refine a1F (he (F.sub r1.fr) _ _ G5 H5 _ _ r5 m5 fun d Γ6 v G6 H6 m6 s6 r6 d6=>?_);refine⟨ds.length-(i+1),by omega,rfl,hlt,by rw[List.length_append,List.length_singleton]; omega,G6,out++[d],r6.fr,((s2.trans s3).trans s5).trans s6,?_,m6⟩;exact(Dts.same ((s3.trans s5).trans s6) _ _ d2).app (.cons d6 .nil)
  | false=>
   refine a0Q ?_;exact⟨ds.length-(i+1),by omega,rfl,hlt,by omega,G5,out,r5.fr,(s2.trans s3).trans s5,Dts.same (s3.trans s5) _ _ d2,m5⟩
 ·have e:i=ds.length:=by omega
  subst e;rw[List.drop_length] at m2;refine .inl ⟨stop,small,fun p hp=>?_⟩;obtain⟨r7,s7⟩:=r1.after rf2;obtain⟨a,b,c⟩:=qT r7 hp d2;exact k _ _ _ _ _ m2 (s1.trans s7) a b c
theorem aHL {nt:Nat}{fv:List Nat}{mi:MD}{mg:MG}{mt:MT}{me:ME}{Γ:En}{Q:Rv→En→Prop}(h:mi Γ fun ds Γ1=>ds.length≤1000∧sZ mg mt me (aD9 nt fv Γ1) ds [] fun out=>Q (.own out) Γ1):a0F nt fv mi mg mt me Γ Q:=h
theorem lZ {α:Type}{mg:MG}{mt:MT}{me:ME}{Γb:En}(p:α→Bool)(f:α→D)(enc:α→D):∀(xs:List α) (acc:List D) (Q:List D→Prop),
  (∀ x∈xs,∀(K:List D→Prop) (k:D→Prop) (k0:Prop),(p x=true→k (f x))→(p x=false→k0)→mg (enc x) Γb fun Γ1=>mt Γ1 fun b Γ2=>if b=true then me Γ2 fun v _=>k v else k0) →
  Q (acc++(xs.filter p).map f)→sZ mg mt me Γb (xs.map enc) acc Q
 | [],acc,Q,_,q=>by simpa [sZ] using q
 | x::xs,acc,Q,h,q=>by
  show mg (enc x) Γb fun Γ1=>mt Γ1 fun b Γ2=>if b=true then me Γ2 fun v _=>sZ mg mt me Γb (xs.map enc) (acc++[v]) Q else sZ mg mt me Γb (xs.map enc) acc Q
  refine h x List.mem_cons_self Q (fun v=>sZ mg mt me Γb (xs.map enc) (acc++[v]) Q) _ (fun hp=>?_) fun hp=>?_
  ·refine lZ p f enc xs _ Q (fun y hy=>h y (List.mem_cons_of_mem _ hy)) ?_;simpa [List.filter_cons,hp,List.append_assoc] using q
  ·refine lZ p f enc xs _ Q (fun y hy=>h y (List.mem_cons_of_mem _ hy)) ?_;simpa [List.filter_cons,hp] using q
end
end L2.VS
namespace L2
open PySem PySem.Spec PyProof.Rows
section
variable {X:Cx}
end
end L2
namespace L2.VS
open PySem PySem.Spec PyProof.Rows
section
variable {P0:Addr→Hp→Prop}
end
end L2.VS
namespace L2
open PySem PySem.Spec PyProof.Rows
section
variable {X:Cx}
def bAt (ys:List V)(i:Nat):Bool:=match ys[i]? with
 | some (.bl b)=>b
 | _=>false
def aJS:V→Bool
 | .bl _=>true
 | _=>false
theorem aAY {A:Around}{ys:List V}{its:List Value}(r:Vals ys its)(hb:ys.all aJS=true):TruthOf X.prog X.w A (fun i v=>its.toArray[i]?=some v) (bAt ys):=by
 intro i v s Q E hP hq;have hv:its[i]?=some v:=by simpa using hP
 have hi:i<ys.length:=by
  have:=(List.getElem?_eq_some_iff.mp hv).1;rw[r.length]; exact this
 obtain⟨u,hu,ru⟩:=r.get (List.getElem?_eq_getElem hi);rw[hv] at hu
 cases hu
 have hbl:=List.all_eq_true.mp hb ys[i] (List.getElem_mem hi);unfold bAt at hq;rw[List.getElem?_eq_getElem hi] at hq
 cases e:ys[i] with
 | bl b=>
  rw[e] at ru hq
  cases ru
  exact wpAny_truthy_bool hq
 | _=>rw[e] at hbl; cases hbl
theorem range_all (ys:List V)(bs:List Bool)(h:ys=bs.map V.bl):(List.range ys.length).all (bAt ys)=bs.all id:=by
 subst h;rw[Bool.eq_iff_iff,List.all_eq_true,List.all_eq_true];constructor
 ·intro h b hb;obtain⟨i,hi,e⟩:=List.mem_iff_getElem.mp hb;have q:=h i (List.mem_range.mpr (by simpa using hi));unfold bAt at q;rw[List.getElem?_map,List.getElem?_eq_getElem hi,e] at q;exact q
 ·intro h i hi;have hi':i<bs.length:=by simpa using List.mem_range.mp hi
  unfold bAt;rw[List.getElem?_map,List.getElem?_eq_getElem hi'];exact h _ (List.getElem_mem hi')
theorem aFQ (bs:List Bool):(bs.map V.bl).all aJS=true:=by simp[aJS]
theorem aEB (hc:X.calm=true){pins:List (Addr×Obj)}{σ:St}{H:Hp}{s:Shared}{p:Addr}{bs:List Bool}{f:(Nat→Bool)→List Nat→Bool}{Q:Value→Shared→Prop}(I:Inv X pins σ H s)(hx:SqL X.K H p (bs.map V.bl))
  (h:∀ s',Inv X pins σ H s'→Q (.bool (f (bAt (bs.map V.bl)) (List.range (bs.map V.bl).length))) s') :
  wpAny (model X.prog X.w) X.A.in1 (pyIter (.ref p)) (fun it s₂=>∃ I fp wr n P St tr,it=.ref I∧Walks X.prog X.w X.A.in1 I fp wr n P St∧St 0 s₂.heap∧TruthOf X.prog X.w X.A.in1 P tr ∧
   ∀ h' tk,(∀ b o,b∉wr→s₂.heap.get? b=some o→h'.get? b=some o)→Q (.bool (f tr (List.range n))) { s₂ with heap:=h',toks:=tk }) X.xe s:=by
 obtain⟨its,r,ht,hz⟩:=I.list hx;have hlt:p<s.heap.objs.size:=by
  obtain⟨o,ho,_⟩:=ht.isList;exact Heap.lt_size ho
 refine wpAny_pyIter_list ht.isList ?_;refine⟨s.heap.objs.size,_,_,_,_,_,bAt (bs.map V.bl),rfl,Walks.list (A:=X.A.in1) (show X.A.in1.handled=none from I.ok.hd hc) s.heap.objs.size p (Nat.ne_of_lt hlt) its.toArray,⟨⟨_,Heap.get?_push_size _ rfl,rfl,rfl⟩,?_⟩,aAY r (aFQ bs),fun h' tk hk=>?_⟩
 ·obtain⟨o,ho,q⟩:=ht.isList;exact⟨o,Heap.get?_push_of_some _ ho,q⟩
 ·have hl:its.toArray.size=(bs.map V.bl).length:=by rw[List.size_toArray]; exact r.length.symm
  rw[hl];refine h _ (I.kept (h':=h') (t':=tk) fun b o e=>hk b o (by simp; exact Nat.ne_of_lt (Heap.lt_size e)) (Heap.get?_push_of_some _ e))
theorem jZ (hc:X.calm=true):rF X (.builtin "all") (fun xs H Q=>∃(p:Addr) (bs:List Bool),xs=[.ref p]∧SqL X.K H p (bs.map V.bl)∧Q (.bl (bs.all id)) H):=by
 intro pins s σ H xs us Q I r h;obtain⟨p,bs,rfl,hx,q⟩:=h;obtain⟨u,rfl,ru⟩:=vals1 r
 cases ru
 exact call_all_walk (aEB (f:=fun tr l=>l.all tr) hc I hx fun s' I'=>⟨.bl _,H,I',rfl,by rw[range_all _ bs rfl]; exact q⟩)
end
end L2
namespace L2.VS
open PySem PySem.Spec PyProof.Rows
section
variable {P0:Addr→Hp→Prop}
def sJ:List D→Option (List Bool)
 | []=>some []
 | .bool b::ds=>(sJ ds).map (b::·)
 | _::_=>none
theorem rB (bs:List Bool):sJ (bs.map PyData.bool)=some bs:=by
 induction bs with
 | nil=>rfl
 | cons b bs ih=>show(sJ (bs.map PyData.bool)).map (b::·)=_; rw[ih]; rfl
theorem wF {G:Hp}:∀{vs:List V} {ds:List D} {bs:List Bool},Dts G vs ds→sJ ds=some bs→vs=bs.map V.bl
 | _,_,_,.nil,e=>by cases e; rfl
 | _,d::ds,bs,.cons a b,e=>by
  cases a with
  | bl c=>
   show _;have e':(sJ ds).map (c::·)=some bs:=e
   cases e2:sJ ds with
   | none=>rw[e2] at e'; cases e'
   | some cs=>
    rw[e2] at e'
    cases e'
    rw[wF b e2];rfl
  | _=>cases e
def mBs (f:List Bool→Bool)(ma:ME):ME:=fun Γ Q=>ma Γ fun x Γ1=>match x with
 | .list ds=>(match sJ ds with
  | some bs=>Q (.bool (f bs)) Γ1
  | none=>False)
 | _=>False
abbrev aIL:=mBs fun bs=>bs.all id
theorem aJJ {K:Fg}{f:List Bool→Bool}{ta:TE}{ma:ME}(ha:VT P0 ta ma):VT P0 (tCB (fun xs H Q=>∃(p:Addr) (bs:List Bool),xs=[.ref p]∧SqL K H p (bs.map V.bl)∧Q (.bl (f bs)) H) (dN ta pW)) (mBs f ma):=by
 intro F Γ σ G H Q Qm r m k;refine ha F Γ σ G H _ _ r m fun d Γ1 x G1 H1 m1 s1 r1 d1=>?_
 split at m1
 ·split at m1
  ·rename_i bs e
   cases d1 with
   | @lst p xs _ hp rs=>
    refine⟨p,bs,rfl,SqL.of ?_,k _ _ _ _ _ m1 s1 r1 (.bl _)⟩;rw[← wF rs e];exact r1.fr.sub _ _ hp
  ·exact m1.elim
 ·exact m1.elim
theorem w5 {K:Fg}{ta:TE}{ma:ME}(ha:VT P0 ta ma):VT P0 (tCB (fun xs H Q=>∃(p:Addr) (bs:List Bool),xs=[.ref p]∧SqL K H p (bs.map V.bl)∧Q (.bl (bs.all id)) H) (dN ta pW)) (aIL ma):=aJJ ha
theorem aMZ {f:List Bool→Bool}{ma:ME}{Γ:En}{Q:D→En→Prop}(h:ma Γ fun x Γ1=>match x with|.list ds=>(match sJ ds with|some bs=>Q (.bool (f bs)) Γ1|none=>False)|_=>False):mBs f ma Γ Q:=h
end
section
variable {P0:Addr→Hp→Prop}
end
section
def aJR (K:Fg)(pen a:Addr)(ns:List Int)(H:Hp):Prop:=∃ z k:Int,0≤z∧0≤k∧H pen=some (.lst [.int z,.int k,.ref a])∧SqL K H a (ns.map V.int)
theorem aEQ {K:Fg}{pen a:Addr}{ns:List Int}{z k:Int}{H H':Hp}(hp:H pen=some (.lst [.int z,.int k,.ref a]))(h:SqL K H a (ns.map V.int))(e:SameX pen H H'):SqL K H' a (ns.map V.int):=by
 rcases h with(h|⟨o,h⟩)|h
 ·refine .inl (.inl (e _ _ ?_ h));rintro rfl;rw[hp] at h;injection h with h;injection h with h;have h2:([V.int z,V.int k,V.ref a]:List V)[2]?=(ns.map V.int)[2]?:=by rw[h]
  rw[List.getElem?_map] at h2
  cases e2:ns[2]? with
  | none=>rw[e2] at h2; cases h2
  | some n=>rw[e2] at h2; cases h2
 ·refine .inl (.inr ⟨o,e _ _ ?_ h⟩);rintro rfl;rw[hp] at h
  cases h
 ·exact .inr h
def a70 (K:Fg):Sp:=fun vs H Q _=>∃ pen a ns,∃ m:Int,vs=[.ref pen,.int m]∧aJR K pen a ns H∧0<m∧m<1073741824∧∀(r:Int) H',0≤r→r<m→aJR K pen a ns H'→SameX pen H H'→Q (.int r) H'
def bK (K:Fg)(a:Addr)(ns:List Int):Addr→Hp→Prop:=fun p H=>aJR K p a ns H
theorem aAA {K:Fg}{a:Addr}{ns:List Int}:∀ vs H Q E,spM (bK K a ns) 2 a9M vs H Q E→a70 K vs H Q E:=by
 rintro vs H Q E ⟨F,as,Qm,rfl,rf,pr,hl,hm,q⟩;unfold a9M at hm
 split at hm
 ·rename_i m
  cases pr with
  | cons a1 b1=>
   cases b1 with
   | cons a2 b2=>
    cases b2
    obtain⟨p,rfl,ep⟩:=a1;have a2:Dt F.G0 _ (.int m):=a2
    cases a2
    refine⟨p,a,ns,m,rfl,rf.pn p ep,hm.1,hm.2.1,fun r H' h1 h2 hp hx=>?_⟩;refine q _ _ F.G0 H' (hm.2.2 r h1 h2) ⟨fun b o e=>hx b o (fun z=>?_) (rf.sub b o e),fun _ _ _=>rfl,fun b o e hb=>hx b o (fun z=>hb (by rw[z]; exact ep)) e,fun p' ep'=>?_⟩ (.int _)
    ·rw[z,F.pg p ep] at e; cases e
    ·rw[ep] at ep'; cases ep'; exact hp
 ·exact hm.elim
theorem a81 {K:Fg}{a:Addr}{ns:List Int}{pen:Addr}{H0:Hp}(h0:∃ o,H0 pen=some o)(hS:SqL K H0 a (ns.map V.int)):∀ H H',(∀ b o,H0 b=some o→H' b=H b)→bK K a ns pen H→bK K a ns pen H':=by
 rintro H H' h ⟨z,k,hz,hk,e,s⟩;obtain⟨o,e0⟩:=h0;refine⟨z,k,hz,hk,(h pen o e0).trans e,?_⟩;rcases hS with(q|⟨ob,q⟩)|q
 ·have ea:=h a _ q;rcases s with(s|⟨ob',s⟩)|s
  ·exact .inl (.inl (ea.trans s))
  ·exact .inl (.inr ⟨ob',ea.trans s⟩)
  ·exact .inr s
 ·have ea:=h a _ q;rcases s with(s|⟨ob',s⟩)|s
  ·exact .inl (.inl (ea.trans s))
  ·exact .inl (.inr ⟨ob',ea.trans s⟩)
  ·exact .inr s
 ·exact .inr q
theorem law_go2 {K:Fg}{a:Addr}{ns:List Int}{k:Nat}{t:TS}{b:MS}{H:Hp}{pen:Addr}{Q:VK}{nx:St→Hp→Prop}(h:VS (bK K a ns) t b)(hp:H pen=none)(hS:SqL K H a (ns.map V.int))
    (hb:b (.no::.pen::List.replicate k .no) oJ) (q:∀ H',Q (.bl true) H') :
    t { nx:=nx,rt:=Q } (some (.ref a)::some (.ref pen)::List.replicate k none) (upd H pen (.lst [.int 0,.int 0,.ref a])):=by
  have g:=gB hp (.lst [.int 0,.int 0,.ref a]);have hS':=g.seq hS
  let F:Fra (bK K a ns):=
    { H0:=upd H pen (.lst [.int 0,.int 0,.ref a])
      G0:=fun _=>none
      pen:=some pen
      stab:=fun p e=>by cases e; exact a81 ⟨_,bA⟩ hS'
      pin:=fun p e H1 h1=>by obtain⟨z,k,_,_,e1,_⟩:=h1; exact⟨_,e1⟩
      pin0:=fun p e=>by cases e; exact⟨_,bA⟩
      pg:=fun _ _=>rfl }
  refine h F (.no::.pen::List.replicate k .no) _ F.G0 _ _ oJ (R.of ⟨fun b o e=>(nomatch e),fun _ _ _=>rfl,fun _ _ e _=>e,fun p e=>?_⟩ ?_ (fun i s e=>?_) (fun i B e=>?_) (fun i j x y _ e=>?_)) hb fun fl e=>?_
  · cases e
    exact⟨0,0,by decide,by decide,bA,hS'⟩
  · simp
  · match i with
    | 0=>cases e; trivial
    | 1=>cases e; exact⟨pen,rfl,rfl⟩
    | i+2=>
      have e':(List.replicate k Sl.no)[i]?=some s:=by simpa using e
      rw[List.getElem?_replicate] at e'
      split at e'
      · cases e'; trivial
      · cases e'
  · match i with
    | 0=>cases e
    | 1=>cases e
    | i+2=>
      have e':(List.replicate k Sl.no)[i]?=some (.box B):=by simpa using e
      rw[List.getElem?_replicate] at e'
      split at e'
      · cases e'
      · cases e'
  · match i with
    | 0=>cases e
    | 1=>cases e
    | i+2=>
      have e':(List.replicate k Sl.no)[i]?=some (.own x):=by simpa using e
      rw[List.getElem?_replicate] at e'
      split at e'
      · cases e'
      · cases e'
  · unfold oJ at e;subst e;intro r G' H' _ _ hr;have hr:Dt G' r (.bool true):=hr
    cases hr
    exact q H'
theorem law_body2 {K:Fg}{a:Addr}{ns:List Int}{k:Nat}{b:MS}{H:Hp}{Q:VK}{nx:St→Hp→Prop}{X:Cx}{st:Stmt}{rest:List Stmt}{N:List Str}
  (h1:PS X st (aGT (aJE (dN (tC (.int 0)) (dN (tC (.int 0)) (dN (v5 0) pW)))) (a2C 1))) (h2:∃ t,PSs X rest t∧VS (bK K a ns) t b) (hN:N.length=k+2) (hS:SqL K H a (ns.map V.int))
  (hb:b (.no::.pen::List.replicate k .no) oJ) (q:∀ H',Q (.bl true) H'):∃ t,PSs X (st::rest) t∧t { nx:=nx,rt:=Q } (start N [.ref a]) H:=by
 obtain⟨t,h2,h3⟩:=h2;refine⟨_,aF h1 h2,?_⟩;have e:start N [.ref a]=some (.ref a)::none::List.replicate k none:=by
  unfold start;rw[hN];rfl
 rw[e];refine⟨_,rfl,a2W rfl,fun pen hp=>?_⟩;exact law_go2 (t:=t) h3 hp hS hb q
end
section
variable {P0:Addr→Hp→Prop}{K:Fg}
def aIJ (ma:ME)(ml mh:MP):ME:=fun Γ Q=>ma Γ fun x Γ1=>ml Γ1 fun lo Γ2=>mh Γ2 fun hi Γ3=>match x with
 | .tuple ds=>¬(HT.sIx ds.length 0 lo=0∧HT.sIx ds.length ds.length hi=ds.length)∧Q (.tuple (cutD ds lo hi)) Γ3
 | _=>False
theorem aC6 {ta:TE}{ma:ME}{tl th:TO}{ml mh:MP}(ha:VT P0 ta ma)(hl:VP P0 tl ml)(hh:VP P0 th mh):VT P0 (tSl (aLG K) ta tl th) (aIJ ma ml mh):=by
 intro F Γ σ G H Q Qm r m k;refine ha F Γ σ G H _ _ r m fun d Γ1 x G1 H1 m1 s1 r1 d1=>?_;refine hl F Γ1 σ G1 H1 _ _ r1 m1 fun lo Γ2 G2 H2 m2 s2 r2=>?_;refine hh F Γ2 σ G2 H2 _ _ r2 m2 fun hi Γ3 G3 H3 m3 s3 r3=>?_
 split at m3
 ·have d1:=Dt.same (s2.trans s3) _ _ d1
  cases d1 with
  | @tup p xs _ hp rs=>
   refine⟨p,xs,rfl,SqT.of (r3.fr.sub _ _ hp),by rw[rs.len]; exact m3.1,fun l hl=>?_⟩;have g:=gB (r3.fr.gfresh hl) (.tup (aAN xs lo hi));exact k _ _ _ _ _ m3.2 (((s1.trans s2).trans s3).trans g) (r3.new hl) (.tup bA (Dts.same g _ _ (rs.cut lo hi)))
 ·exact m3.elim
theorem aKS {ma:ME}{ml mh:MP}{Γ:En}{Q:D→En→Prop}(h:ma Γ fun x Γ1=>ml Γ1 fun lo Γ2=>mh Γ2 fun hi Γ3=>match x with|.tuple ds=>¬(HT.sIx ds.length 0 lo=0∧HT.sIx ds.length ds.length hi=ds.length)∧Q (.tuple (cutD ds lo hi)) Γ3|_=>False):aIJ ma ml mh Γ Q:=h
end
end L2.VS
namespace L2
open PySem PySem.Spec PyProof.Rows
section
variable {X:Cx}
end
end L2
namespace L2.VS
open PySem PySem.Spec PyProof.Rows
section
variable {P0:Addr→Hp→Prop}{A:Nat→Bool}
end
end L2.VS
namespace PySem
open Sem (wp)
namespace F
end F
set_option hygiene false in
local macro_rules|`(tactic| walk_at "zr")=>`(tactic| (
 simp only[Bool.false_eq_true,if_false,List.forIn_toArray,List.forIn_cons,List.forIn_nil];refine wpAny_bind (wpAny_bind (wpAny_bind (wpAny_holding ?_)));show wpAny _ _ (Builtin.SmallTypes.nextOf (.ref i1) >>= _) _ _ _;refine wpAny_bind (wpAny_nextOf_list_item (h1.extBut hs₀.extBut D.i1z) (hl1.extBut hs₀.extBut D.l1z) hx fun h₂ h1₂ hs₂=>wpAny_pure ?_);refine wpAny_pure ?_;refine wpAny_bind (wpAny_bind (wpAny_holding ?_));show wpAny _ _ (Builtin.SmallTypes.nextOf (.ref i2) >>= _) _ _ _;refine wpAny_bind (wpAny_nextOf_list_item ((h2.extBut hs₀.extBut D.i2z).extBut hs₂.extBut D.i12.symm) ((hl2.extBut hs₀.extBut D.l2z).extBut hs₂.extBut D.l2i1) hy fun h₄ h2₄ hs₄=>wpAny_pure ?_);refine wpAny_pure (wpAny_pure ?_);show wpAny _ _ (newTuple [x,y] >>= _) _ _ _;refine wpAny_bind (wpAny_newTuple (wpAny_pure ⟨_,rfl,?_⟩))
 replace hs₂:Heap.SameBut i1 h₀ h₂:=hs₂
 replace hs₄:Heap.SameBut i2 h₂ h₄:=hs₄
 have hsz:h₄.objs.size=hp.objs.size:=by rw[hs₄.1,hs₂.1,hs₀.1]
 show Q (.ref h₄.objs.size) ⟨h₄.push { cls:=.type "tuple", data:=.seq #[x,y] },g,d,tk,os⟩;have hz₄:IsZipK h₄ z TI TO (rawInt T) (.bool true):=hs₄.extBut _ _ D.i2z.symm (hs₂.extBut _ _ D.i1z.symm hz₀);have hT₄:IsPair (h₄.push { cls:=.type "tuple", data:=.seq #[x,y] }) h₄.objs.size x y:=Heap.get?_push_size _ rfl;rw[hsz] at hT₄ ⊢;exact hQ _ (Heap.get?_push_of_some _ hz₄) ((h1₂.extBut hs₄.extBut D.i12).at fun o e=>Heap.get?_push_of_some _ e) (h2₄.at fun o e=>Heap.get?_push_of_some _ e) hT₄ (by rw[Heap.size_push,hsz])
  fun c o c1 c2 c3 e=>Heap.get?_push_of_some _ (hs₄.extBut _ _ c3 (hs₂.extBut _ _ c2 (hs₀.extBut _ _ c1 e)))))
set_option hygiene false in
local macro_rules|`(tactic| walk_at "ze")=>`(tactic| (
 simp only[Bool.false_eq_true,if_false,List.forIn_toArray,List.forIn_cons,List.forIn_nil];refine wpAny_bind (wpAny_bind (wpAny_bind (wpAny_holding ?_)));show wpAny _ _ (Builtin.SmallTypes.nextOf (.ref i1) >>= _) _ _ _
 cases hx:xs[k1]? with
 | none=>
  refine wpAny_bind (wpAny_nextOf_list_end hh (h1.extBut hs₀.extBut D.i1z) (hl1.extBut hs₀.extBut D.l1z) hx fun h₂ e hs₂ he=>?_);exact hE h₂ e (fun c o c1 c2 c3 x=>hs₂ _ _ c2 (hs₀.extBut _ _ c1 x)) he
 | some x=>
  have hy:ys[k2]?=none:=by rcases hend with h|h; rw[hx] at h; cases h; exact h
  refine wpAny_bind (wpAny_nextOf_list_item (h1.extBut hs₀.extBut D.i1z) (hl1.extBut hs₀.extBut D.l1z) hx fun h₂ h1₂ hs₂=>wpAny_pure ?_);refine wpAny_pure ?_;refine wpAny_bind (wpAny_bind (wpAny_holding ?_));show wpAny _ _ (Builtin.SmallTypes.nextOf (.ref i2) >>= _) _ _ _;refine wpAny_bind (wpAny_nextOf_list_end hh ((h2.extBut hs₀.extBut D.i2z).extBut hs₂.extBut D.i12.symm) ((hl2.extBut hs₀.extBut D.l2z).extBut hs₂.extBut D.l2i1) hy fun h₄ e hs₄ he=>?_);exact hE h₄ e (fun c o c1 c2 c3 x=>hs₄ _ _ c3 (hs₂.extBut _ _ c2 (hs₀.extBut _ _ c1 x))) he))
section
variable {prog:Program}{w:World}{A:Around}{E:Value→Shared→Prop}{s:Shared}
end
end PySem
namespace PySem
open Sem (wp)
section
variable {prog:Program}{w:World}{A:Around}{R:Result→Shared→Prop}
end
section
variable {prog:Program}{w:World}{A:Around}{E:Value→Shared→Prop}{s:Shared}
end
end PySem
namespace L2
open PySem PySem.Spec PyProof.Rows
section
variable {X:Cx}{pins:List (Addr×Obj)}{σ:List (Option V)}{H:Hp}{s:Shared}
end
end L2
namespace L2.VS
open PySem PySem.Spec PyProof.Rows
section
variable {P0:Addr→Hp→Prop}{K:Fg}
def aDV (ds es:List D):List D:=(ds.zip es).map fun p=>.tuple [p.1,p.2]
end
end L2.VS
namespace L2
open PySem PySem.Spec PyProof.Rows
section
variable {X:Cx}{pins:List (Addr×Obj)}{σ:List (Option V)}{H:Hp}{s:Shared}
theorem Inv.turnedL {h':Heap}{t':Nat}{ch:List Addr}{T:Addr}{o:HO}(I:Inv X pins σ H s)(k:∀ b u,b∉ch→s.heap.get? b=some u→h'.get? b=some u)(hch:∀ b∈ch,a4Q X pins H b)(hT:s.heap.objs.size≤T)
  (new:ObjOk X.prog X.w (upd H T o) h' T o):Inv X pins σ (upd H T o) { s with heap:=h',toks:=t' }:=by
 have hn:=I.hok.fresh hT;have nch:∀ b u,H b=some u→b∉ch:=fun b u e z=>by rw[(hch b z).1] at e; cases e
 refine I.step (g':=s.gens) (d':=s.drawn) (ch:=ch) (fun b hb=>⟨(hch b hb).2.2.2.1,(hch b hb).2.1,(hch b hb).2.2.2.2.1,(hch b hb).2.2.2.2.2⟩) (fun b o _ _ hc e _=>k b o hc e) (fun b o _ _ hc e _=>⟨o.slots,k b o hc e⟩)
  (fun b u _ e n=>by rw[aZ (Nat.ne_of_lt (Nat.lt_of_lt_of_le (Heap.lt_size e) hT))]; exact n) (fun b o hc e=>⟨o,k b o hc e⟩) (fun b xs q=>by rw[aZ (bJ q hn)]; exact q) (fun b u xs q=>by rw[aZ (bJ q hn)]; exact q)
  (fun b ps q=>⟨#[],by rw[aZ (bJ q hn),q]; simp⟩) (fun m hm=>?_) (fun b u e=>?_) I.bare
 ·obtain⟨o,es,ep,ho,r⟩:=hm;exact⟨o,es,ep,k _ o (fun z=>(hch _ z).2.1 rfl) ho,r⟩
 ·by_cases hb:b=T
  ·subst hb; rw[bA] at e; cases e; exact new
  ·rw[aZ hb] at e;refine(I.hok b u e).stay (fun c v hc q=>k c v ?_ q) (fun c q=>by rw[aZ (bJ q hn)]; exact q) fun c xs q=>by rw[aZ (bJ q hn)]; exact q
   rcases hc with z|z
   ·rw[z]; exact nch b u e
   ·exact nch c _ z
theorem Inv.turnedC {h':Heap}{t':Nat}{ch:List Addr}(I:Inv X pins σ H s)(k:∀ b u,b∉ch→s.heap.get? b=some u→h'.get? b=some u)(hch:∀ b∈ch,a4Q X pins H b):Inv X pins σ H { s with heap:=h',toks:=t' }:=by
 have nch:∀ b u,H b=some u→b∉ch:=fun b u e z=>by rw[(hch b z).1] at e; cases e
 refine I.step (g':=s.gens) (d':=s.drawn) (ch:=ch) (fun b hb=>⟨(hch b hb).2.2.2.1,(hch b hb).2.1,(hch b hb).2.2.2.2.1,(hch b hb).2.2.2.2.2⟩) (fun b o _ _ hc e _=>k b o hc e) (fun b o _ _ hc e _=>⟨o.slots,k b o hc e⟩)
  (fun b u _ e n=>n) (fun b o hc e=>⟨o,k b o hc e⟩) (fun b xs q=>q) (fun b u xs q=>q) (fun b ps q=>⟨#[],by rw[q]; simp⟩) (fun m hm=>?_) (fun b u e=>?_) I.bare
 ·obtain⟨o,es,ep,ho,r⟩:=hm;exact⟨o,es,ep,k _ o (fun z=>(hch _ z).2.1 rfl) ho,r⟩
 ·refine(I.hok b u e).stay (fun c v hc q=>k c v ?_ q) (fun _ q=>q) fun _ _ q=>q;rcases hc with z|z
  ·rw[z]; exact nch b u e
  ·exact nch c _ z
end
def Ite (K:Fg)(a:Addr):It:=
  ⟨fun i H=>∃ xs x,SqL K H a xs∧xs[i]?=some x,
   fun i H v H'=>∃ T x,v=.ref T∧H T=none∧H'=upd H T (.tup [.int (i:Int),x])∧∀ xs,SqL K H a xs→xs[i]?=some x,
   fun i H=>∃ xs,SqL K H a xs∧xs.length≤i⟩
theorem a80 {P:Program}{w:World}{K:Fg}{elts:List Expr}{cx}{tp:Pos}{e it a:Addr}(hne:e≠it):Turn P w K (.Tuple elts cx tp) (Ite K a) [e,it] e
  (fun i h=>(∃ old,IsEnum h e it (i:Int) old)∧h.IsListIter it a i) where
 mem:=by simp
 obj:=fun i h st c hc=>by
  obtain⟨⟨old,he⟩,⟨o1,e1,c1,d1⟩⟩:=st;simp only[List.mem_cons,List.not_mem_nil,or_false] at hc;rcases hc with rfl|rfl
  ·exact⟨_,he,fun v z=>by cases z⟩
  ·exact⟨o1,e1,fun v z=>by rw[d1] at z; cases z⟩
 keep:=fun i h h' st k=>by
  obtain⟨⟨old,he⟩,h1⟩:=st;exact⟨⟨old,k e (by simp) _ he⟩,h1.at fun o q=>k it (by simp) o q⟩
 item:=by
  intro X hP hw hK hc i pins s σ H E I hf st hg;subst hP hw hK;obtain⟨xs,x,qx,ex⟩:=hg;obtain⟨ix,rx,px,zx⟩:=I.list qx;obtain⟨ux,gx,rux⟩:=rx.get ex;obtain⟨⟨old,he⟩,h1⟩:=st;refine wpAny_pyNext_enum_item he h1 px.isList (x:=ux) (by simpa using gx) hne fun h' a1 a2 a3 a4 kp=>?_;refine⟨_,rfl,wpAny_letOwnedTupleGo_enum a1 fun h'' he' hs'=>?_⟩;have hs':Heap.SameBut e h' h'':=hs';have nT:s.heap.objs.size≠e:=Nat.ne_of_gt (Heap.lt_size he);have hT:h''.get? s.heap.objs.size=some { cls:=.type "tuple", data:=.seq #[.int i s.toks,ux] }:=hs'.extBut _ _ nT a3;have I2:Inv X pins σ (upd H s.heap.objs.size (.tup [.int (i:Int),x])) { s with heap:=h'',toks:=s.toks+1 }:=I.turnedL (t':=s.toks+1) (ch:=[e,it])
   (fun c o hc q=>hs'.extBut _ _ (fun q=>hc (by simp[q])) (kp c o (fun q=>hc (by simp[q])) (fun q=>hc (by simp[q])) q))
   hf (Nat.le_refl _) ⟨nM (by show 2≤1000; decide),[.int i s.toks,ux],.cons ⟨_,rfl⟩ (.cons rux .nil),⟨_,hT,rfl,_,rfl⟩⟩
  have fr:=I.hok.fresh (Nat.le_refl s.heap.objs.size);refine⟨.ref s.heap.objs.size,_,I2,rfl,⟨_,x,rfl,fr,rfl,fun xs' q1=>by rw[I.list_inj q1 qx]; exact ex⟩,⟨⟨_,by rw[Int.natCast_add]; exact he'⟩,a2.extBut hs'.extBut (Ne.symm hne)⟩,fun c hc=>?_⟩;have lt:c<s.heap.objs.size:=by
   simp only[List.mem_cons,List.not_mem_nil,or_false] at hc;rcases hc with rfl|rfl
   ·exact Heap.lt_size he
   ·obtain⟨_,q,_⟩:=h1; exact Heap.lt_size q
  rw[aZ (Nat.ne_of_lt lt)];exact(hf c hc).1
 done:=by
  intro X hP hw hK hc i pins s σ H E I hf st hg;subst hP hw hK;obtain⟨xs,qx,hle⟩:=hg;obtain⟨ix,rx,px,zx⟩:=I.list qx;obtain⟨⟨old,he⟩,h1⟩:=st;have lx:=rx.length;refine wpAny_pyNext_enum_end (I.ok.hd hc) he h1 px.isList (by simp; omega) fun h' kp=>⟨rfl,I.turnedC (t':=s.toks) (ch:=[e,it]) (fun c o hc q=>?_) hf⟩;exact kp c o (fun q=>hc (by simp[q])) q
 self:=fun _ _ _ _ _ st h=>wpAny_pyIter_enum st.1.choose_spec h
section
variable {X:Cx}
def aHF (K:Fg)(ta:TA):TI:=fun σ H R=>ta σ H fun vs H1=>∃ p xs,vs=[.ref p]∧SqL K H1 p xs∧R (Ite K p) H1
theorem aD2 {a:Expr}{ta:TA}{p pos tp:Pos}{elts:List Expr}{cx}(hg:Gl X "enumerate")(hm:X.mg "enumerate" = none)(ha:PA X [a] ta)(hs:starEach [a] X.env=[(false,eval a X.env)]:=by rfl) :
  PI X (.Tuple elts cx tp) (.Call (.Name "enumerate" p) [a] [] pos) (aHF X.K ta):=by
 intro pins s σ H R I h;refine wpAny_Call_Name_kw (wA I hg hm boot_enumerate ?_ (by decide) (by decide));refine PyProof.Rows.callWith_type1 (rest:=[]) (thn (ha pos pins s σ H _ I h) fun us s1 ⟨vs,H1,I1,r1,p,xs,e,hp,k⟩=>?_) hs rfl;subst e
 cases r1 with
 | cons ra rc=>
  cases rc
  cases ra
  obtain⟨ix,rx,px,zx⟩:=I1.list hp;refine call_enumerate_list px.isList fun h' he hit sz kp=>?_;refine wpAny_pyIter_enum he ?_;have I2:Inv X pins σ H1 { s1 with heap:=h' }:=I1.kept (t':=s1.toks) kp;refine⟨_,[s1.heap.objs.size+1,s1.heap.objs.size],_,_,H1,rfl,I2,a80 (Nat.ne_of_gt (Nat.lt_succ_self _)),⟨⟨_,he⟩,hit⟩,fun c hc=>?_,k⟩;have hle:s1.heap.objs.size≤c:=by
   simp only[List.mem_cons,List.not_mem_nil,or_false] at hc;rcases hc with rfl|rfl
   ·exact Nat.le_succ _
   ·exact Nat.le_refl _
  exact I1.fpOk hle (I1.hok.fresh hle)
end
end L2
namespace L2.VS
open PySem PySem.Spec PyProof.Rows
section
variable {P0:Addr→Hp→Prop}{K:Fg}
def vJ (ds:List D):List D:=(List.range ds.length).map fun(i:Nat)=>PyData.tuple [.int (i:Int),ds.getD i .none]
def aK1 (ma:ME):MD:=fun Γ Q=>ma Γ fun x Γ1=>match x with
 | .list ds=>Q (vJ ds) Γ1
 | _=>False
theorem aD1 {ta:TE}{ma:ME}(ha:VT P0 ta ma):VI P0 (aHF K (dN ta pW)) (aK1 ma):=by
 intro F Γ σ G H Q Qm r m k;refine ha F Γ σ G H _ _ r m fun d Γ1 x G1 H1 m1 s1 r1 d1=>?_
 split at m1
 ·rename_i ds
  cases d1 with
  | @lst p xs _ hp rs=>
   refine⟨p,xs,rfl,SqL.of (r1.fr.sub _ _ hp),k _ _ _ _ _ m1 s1 r1 fun F3 Γ3 σ3 G3 H3 s3 r3=>⟨fun i d e=>?_,?_⟩⟩
   ·have hp3:=SqL.of (K:=K) (r3.fr.sub _ _ (s3 _ _ hp));have hi:i<ds.length:=by
     have:=(List.getElem?_eq_some_iff.mp e).1;unfold vJ at this;simpa using this
    have ed:d=.tuple [.int (i:Int),ds[i]]:=by
     unfold vJ at e;rw[List.getElem?_map,List.getElem?_range hi] at e
     cases e
     simp[List.getD_eq_getElem?_getD,List.getElem?_eq_getElem hi]
    subst ed;obtain⟨v1,g1,dv1⟩:=Dts.get rs (List.getElem?_eq_getElem hi);refine⟨⟨xs,v1,hp3,g1⟩,fun v H4 hy=>?_⟩;obtain⟨T,x',rfl,hT,rfl,hx⟩:=hy;have h1:=hx xs hp3;rw[g1] at h1; cases h1;have g:=gB (r3.fr.gfresh hT) (.tup [.int (i:Int),v1]);exact⟨_,g,r3.new hT,.tup bA (.cons (.int _) (.cons (Dt.same (s3.trans g) _ _ dv1) .nil))⟩
   ·refine⟨xs,SqL.of (r3.fr.sub _ _ (s3 _ _ hp)),?_⟩;have l1:=rs.len;have l3:(vJ ds).length=ds.length:=by unfold vJ; rw[List.length_map,List.length_range]
    rw[l3,l1];exact Nat.le_refl _
 ·exact m1.elim
theorem aJ4 {ma:ME}{Γ:En}{Q:List D→En→Prop}(h:ma Γ fun x Γ1=>match x with|.list ds=>Q (vJ ds) Γ1|_=>False):aK1 ma Γ Q:=h
end
end L2.VS
namespace L2
open PySem PySem.Spec PyProof.Rows
section
variable {X:Cx}
end
end L2
namespace L2.VS
open PySem PySem.Spec PyProof.Rows
section
variable {P0:Addr→Hp→Prop}
end
section
variable {P0:Addr→Hp→Prop}{ta tb:TE}{ma mb:ME}
end
end L2.VS
namespace LT
abbrev Ln:=Rat×Rat
def pl (l:Ln)(t:Rat):Rat:=l.1+l.2*t
end LT
namespace L2
open PySem PySem.Calls PyProof.Rows PySem.W
section
variable {cmp:Nat→Nat→(Bool→Shared→Prop)→Shared→Prop}
end
section
variable {prog:Program}{w:World}{A:Around}{E:Value→Shared→Prop}{s:Shared}{Q:Bool→Shared→Prop}
end
section
variable {prog:Program}{w:World}{A:Around}{E:Value→Shared→Prop}{s:Shared}
end
end L2
namespace L2
open PySem PySem.Spec PyProof.Rows
section
variable {X:Cx}
end
end L2
namespace L2.VS
open PySem PySem.Spec PyProof.Rows
section
variable {P0:Addr→Hp→Prop}{A:Nat→Bool}
end
section
variable {P0:Addr→Hp→Prop}{A:Nat→Bool}
end
end L2.VS
namespace L2
open PySem PySem.Spec PyProof.Rows
@[irreducible] def PSi (X:Cx) (L:List Stmt) (t:TS):Prop:=PSs X L t
@[irreducible] def PSd (X:Cx) (st:Stmt) (t:TS):Prop:=PS X st t
@[irreducible] def PEd (X:Cx) (e:Expr) (t:TE):Prop:=PE X e t
@[irreducible] def PAd (X:Cx) (es:List Expr) (t:TA):Prop:=PA X es t
section
variable {X:Cx}{L rest:List Stmt}{st:Stmt}{t u:TS}{e a b:Expr}{es:List Expr}{te ta tb:TE}{tl:TA}{pos:Pos}
theorem iC (ha:PE X e te)(hr:PAd X es tl)(hs:starEach (e::es) X.env=(false,eval e X.env)::starEach es X.env:=by rfl):PAd X (e::es) (dN te tl):=by
 unfold PAd at *;exact aA ha hr hs
end
end L2
namespace L2.VS
open PySem PySem.Spec PyProof.Rows
section
variable {P0:Addr→Hp→Prop}{S:Type}
structure Fam (S:Type) where
 box:Addr→S→Bx
 pin:∀{p s v fp G H},(box p s).P v fp G H→v=.ref p
def RvP (G H:Hp)(v:V)(fp:List Addr):Rv→Prop
 | .val d=>fp=[]∧Dt G v d
 | .own ds=>∃ p vs,fp=[p]∧v=.ref p∧H p=some (.lst vs)∧Dts G vs ds
 | .box B=>B.P v fp G H
section
variable {G G' H H':Hp}{v:V}{fp fp':List Addr}
theorem RvP.mono (g:Same G G'):∀{rv:Rv},RvP G H v fp rv→RvP G' H v fp rv
 | .val _,h=>⟨h.1,Dt.same g _ _ h.2⟩
 | .own _,h=>let ⟨p,vs,a,b,c,d⟩:=h; ⟨p,vs,a,b,c,Dts.same g _ _ d⟩
 | .box B,h=>B.mono g h
theorem RvP.loc (k:∀ b∈fp,H' b=H b):∀{rv:Rv},RvP G H v fp rv→RvP G H' v fp rv
 | .val _,h=>h
 | .own _,h=>let ⟨p,vs,a,b,c,d⟩:=h; ⟨p,vs,a,b,(k p (by rw[a]; exact List.mem_singleton.mpr rfl)).trans c,d⟩
 | .box B,h=>B.loc k h
theorem RvP.dom:∀{rv:Rv},RvP G H v fp rv→∀ b∈fp,∃ o,H b=some o
 | .val _,h=>fun b hb=>by rw[h.1] at hb; cases hb
 | .own _,h=>fun b hb=>by
  obtain⟨p,vs,a,_,c,_⟩:=h;rw[a] at hb;rw[List.mem_singleton.mp hb];exact⟨_,c⟩
 | .box B,h=>B.dom h
theorem RvP.uniq:∀{rv:Rv},RvP G H v fp rv→RvP G H v fp' rv→fp=fp'
 | .val _,h,g=>h.1.trans g.1.symm
 | .own _,h,g=>by
  obtain⟨p,_,a,b,_⟩:=h;obtain⟨q,_,c,d,_⟩:=g;rw[b] at d
  cases d
  rw[a,c]
 | .box B,h,g=>B.uniq h g
theorem RvP.nt:∀{rv:Rv},RvP G H v fp rv→∀ b∈fp,∀ xs,H b=some (.tup xs)→∃ q∈fp,V.ref q∈xs∧∃ vs,H q=some (.lst vs)
 | .val _,h=>fun b hb=>by rw[h.1] at hb; cases hb
 | .own _,h=>fun b hb xs e=>by
  obtain⟨p,vs,a,_,c,_⟩:=h;rw[a] at hb;rw[List.mem_singleton.mp hb,c] at e
  cases e
 | .box B,h=>B.nt h
end
def bKp (W:Fam S)(rv:Rv)(p:Addr)(s:S):Bx where
 P:=fun v fp G H=>∃ f1 f2,fp=f1++f2∧RvP G H v f1 rv∧(W.box p s).P (.ref p) f2 G H∧∀ b∈f1,b∉f2
 mono:=fun g ⟨f1,f2,e,a,b,c⟩=>⟨f1,f2,e,a.mono g,(W.box p s).mono g b,c⟩
 loc:=fun k ⟨f1,f2,e,a,b,c⟩=>⟨f1,f2,e,a.loc fun x hx=>k x (by rw[e]; exact List.mem_append_left _ hx),(W.box p s).loc (fun x hx=>k x (by rw[e]; exact List.mem_append_right _ hx)) b,c⟩
 dom:=fun⟨f1,f2,e,a,b,c⟩ x hx=>by
  rw[e] at hx;exact(List.mem_append.mp hx).elim (a.dom x) ((W.box p s).dom b x)
 uniq:=fun⟨f1,f2,e,a,b,_⟩ ⟨g1,g2,e',a',b',_⟩=>by rw[e,e',a.uniq a',(W.box p s).uniq b b']
 nt:=fun⟨f1,f2,e,a,b,_⟩ x hx xs z=>by
  rw[e] at hx;rcases List.mem_append.mp hx with h|h
  ·obtain⟨q,h1,h2⟩:=a.nt x h xs z;exact⟨q,by rw[e]; exact List.mem_append_left _ h1,h2⟩
  ·obtain⟨q,h1,h2⟩:=(W.box p s).nt b x h xs z;exact⟨q,by rw[e]; exact List.mem_append_right _ h1,h2⟩
 view:=none
 vok:=fun _ z=>nomatch z
def zH (W:Fam S)(m:MO):MS:=fun Γ Q=>m Γ fun rv Γ1=>∃ p s,Γ1[0]?=some (.box (W.box p s))∧Q (.rt (.box (bKp W rv p s)))
theorem qP {W:Fam S}{A:Nat→Bool}{t:TE}{m:MO}(h:VO P0 t m):VSA P0 A (aJO t) (zH W m):=by
 intro F Γ σ G H E Qm r hm k;refine h F Γ σ G H _ _ r hm fun rv Γ1 v G1 H1 m1 s1 r1 v1 a1=>?_;obtain⟨p,s,e,q⟩:=m1;obtain⟨fps,h1,h2⟩:=r1.fps;have h0:=h1 0 _ e;obtain⟨w,ew,pw,nw⟩:=id h0;have z:=W.pin pw;subst z;refine k _ q v G1 H1 s1 r1.fr ?_
 cases rv with
 | val d=>exact⟨_,⟨[],fps 0,rfl,⟨rfl,v1⟩,pw,fun b hb=>nomatch hb⟩,nw⟩
 | own ds=>
  obtain⟨u,vs,rfl,e1,e2,e3,e4⟩:=v1;refine⟨_,⟨[u],fps 0,rfl,⟨u,vs,rfl,rfl,e3,e4⟩,pw,fun b hb=>?_⟩,fun b hb=>?_⟩
  ·rw[List.mem_singleton.mp hb];exact a1 0 _ _ e h0 u rfl
  ·rcases List.mem_append.mp hb with hb|hb
   ·rw[List.mem_singleton.mp hb];exact⟨e1,e2⟩
   ·exact nw b hb
 | box B=>
  obtain⟨fp,e1,e2⟩:=v1;refine⟨_,⟨fp,fps 0,rfl,e1,pw,fun b hb=>a1 0 _ _ fp e h0 e1 b hb⟩,fun b hb=>?_⟩;rcases List.mem_append.mp hb with hb|hb
  ·exact e2 b hb
  ·exact nw b hb
abbrev Lm (S:Type):=Addr→S→List Sl→(Rv→S→Prop)→Prop
def aEZ (W:Fam S)(n:Nat)(b:MS):Lm S:=fun p s as Q=>b (.box (W.box p s)::(as++List.replicate n .no)) fun fl=>match fl with
 | .rt rv=>∃ rv0 s',rv=.box (bKp W rv0 p s')∧Q rv0 s'
 | .nx Γ=>∃ s',Γ[0]?=some (.box (W.box p s'))∧Q (.val .none) s'
 | _=>False
def spL (P0:Addr→Hp→Prop)(W:Fam S)(n:Nat)(f:Lm S):Sp:=fun vs H Q _=>∃(F:Fra P0) (p:Addr) (s:S) (fp:List Addr) (ws:List V) (as:List Sl) (Qm:Rv→S→Prop),vs=.ref p::ws∧(∀ b,F.H0 b=if b∈fp then none else H b)∧Rf F F.G0 H ∧
 (W.box p s).P (.ref p) fp F.G0 H∧(∀ b∈fp,F.G0 b=none)∧Paired (v8 F F.G0) ws as∧as.length+1=n∧f p s as Qm ∧
 ∀ rv s' r f1 f2 G' H',Qm rv s'→Rf F G' H'→RvP G' H' r f1 rv→(W.box p s').P (.ref p) f2 G' H'→(∀ b∈f1,b∉f2)→(∀ b∈f1++f2,F.H0 b=none∧G' b=none)→Q r H'
theorem aHZ {F:Fra P0}{G:Hp}{ws:List V}{as:List Sl}{i k m:Nat}{s:Sl}(pr:Paired (v8 F G) ws as)(e:(as++List.replicate k Sl.no)[i]?=some s)(hne:s≠.no) :
  ∃ v,(ws.map some++List.replicate m none)[i]?=some (some v)∧v8 F G v s:=by
 induction pr generalizing i with
 | nil=>
  rw[List.nil_append,List.getElem?_replicate] at e
  split at e
  ·cases e; exact absurd rfl hne
  ·cases e
 | cons a b ih=>
  cases i with
  | zero=>cases e; exact⟨_,rfl,a⟩
  | succ i=>exact ih e
theorem a7A {W:Fam S}{n k:Nat}{N:List Str}{t:TS}{b:MS}(h:VS P0 t b)(hN:N.length=n+k){vs:List V}{H:Hp}{Q:VK}{E:XK}(hs:spL P0 W n (aEZ W k b) vs H Q E) :
  t { nx:=fun _ H'=>Q .non H',rt:=Q } (start N vs) H:=by
 obtain⟨F,p,s,fp,ws,as,Qm,rfl,hH,rf,hP,hG,pr,hl,hm,q⟩:=hs;have hlen:ws.length=as.length:=Paired.length pr;have r:R F (.box (W.box p s)::(as++List.replicate k .no)) (start N (.ref p::ws)) F.G0 H:=by
  refine⟨rf,?_,fun i=>if i=0 then fp else[],fun i u e=>?_,fun i j u z _ _ hij b hb hc=>?_⟩
  ·unfold start;simp only[List.length_cons,List.length_append,List.length_replicate,List.length_map];omega
  ·cases i with
   | zero=>
    cases e
    exact⟨.ref p,rfl,hP,fun b hb=>⟨by have hb:b∈fp:=hb; rw[hH,if_pos hb],hG b hb⟩⟩
   | succ i=>
    have e:(as++List.replicate k Sl.no)[i]?=some u:=e;have at_:u≠.no→∃ v,(start N (.ref p::ws))[i+1]?=some (some v)∧v8 F F.G0 v u:=fun hne=>by
     obtain⟨v,ev,av⟩:=aHZ (m:=N.length-(ws.length+1)) pr e hne;exact⟨v,ev,av⟩
    cases u with
    | no=>rfl
    | val d=>
     obtain⟨v,ev,av⟩:=at_ (by intro z; cases z)
     exact⟨rfl,v,ev,av⟩
    | own ds=>
     obtain⟨v,ev,av⟩:=at_ (by intro z; cases z)
     exact av.elim
    | pen=>
     obtain⟨v,ev,q,rfl,eq⟩:=at_ (by intro z; cases z)
     exact⟨rfl,q,ev,eq⟩
    | con q=>
     obtain⟨v,ev,av⟩:=at_ (by intro z; cases z)
     have av:v=.ref q:=av;rw[av] at ev;exact⟨rfl,ev⟩
    | pub B=>
     obtain⟨v,ev,av⟩:=at_ (by intro z; cases z)
     exact⟨rfl,v,ev,av⟩
    | box B=>
     obtain⟨v,ev,av⟩:=at_ (by intro z; cases z)
     exact av.elim
  ·dsimp only at hb hc
   split at hb
   ·rename_i hi
    split at hc
    ·rename_i hj; exact hij (hi.trans hj.symm)
    ·cases hc
   ·cases hb
 refine h F _ _ _ _ _ _ r hm fun fl hq=>?_
 cases fl with
 | nx Γ=>
  intro σ G' H' _ r' _;obtain⟨s',e,hq⟩:=hq;obtain⟨fps,h1,_⟩:=r'.fps;obtain⟨w,ew,pw,nw⟩:=h1 0 _ e;have z:=W.pin pw;subst z;exact q _ _ _ [] _ _ _ hq r'.fr ⟨rfl,.non⟩ pw (fun b hb=>nomatch hb) nw
 | rt rv=>
  intro v G' H' _ f' v';obtain⟨rv0,s',rfl,hq⟩:=hq;obtain⟨g,⟨f1,f2,rfl,a,b,c⟩,d⟩:=v';exact q _ _ _ _ _ _ _ hq f' a b c d
 | bk Γ=>exact hq.elim
 | ct Γ=>exact hq.elim
theorem aD6 {W:Fam S}{n:Nat}{f:Lm S}{ps:List Str}(h:ps.length=n):∀ vs H Q E,spL P0 W n f vs H Q E→vs.length=ps.length:=by
 rintro vs H Q E ⟨F,p,s,fp,ws,as,Qm,rfl,_,_,_,_,pr,hl,_⟩;rw[List.length_cons,Paired.length pr,hl,h]
theorem _root_.L2.Fun.okL {P:Program}{w:World}{K:Fg}{mg:Mg}{base:Heap}{x qual:Str}{st:Stmt}{f:Addr}{fd:FuncData}{N ps:List Str}{k n j:Nat}{b:MS}{W:Fam S}
  (F:Fun K x qual st f fd) (S0:FnScope N ps (aL st)) (hn:ps.length=n) (hN:N.length=n+j)
  (hb:∀(cdv:Value) (A:Around) (outer:List Env) (s:Shared) (H:Hp) (E:XK),Room k (A.deeper (envOfC qual (aL st) s.heap.objs.size f cdv)) →
   SsX P0 (aBQ CX0 P w K mg base N qual (aL st) f cdv A outer s H E).nox (jH st) b):FnOk P w K mg base CX0 (k+1) f fd ps (spL P0 W n (aEZ W j b)):=by
 refine F.ok S0 (aD6 hn) fun cdv A outer s H vs Q E hr hs=>?_;obtain⟨t,h1,h2⟩:=hb cdv A outer s H E hr;exact⟨t,h1,a7A h2 hN hs⟩
def a08 (W:Fam S)(n:Nat)(f:Lm S)(i:Nat)(m:MA):MO:=fun Γ Q=>∃ p,(∃ s,Γ[i]?=some (.box (W.box p s)))∧m Γ fun as Γ1=>∃ s1,Γ1[i]?=some (.box (W.box p s1))∧as.length+1=n∧f p s1 as fun rv s'=>Q rv (Γ1.set i (.box (W.box p s')))
def Fra.less (F:Fra P0){G H:Hp}(r:Rf F G H)(fp:List Addr)(hf:∀ b∈fp,F.H0 b=none):Fra P0 where
 H0:=fun b=>if b∈fp then none else H b
 G0:=G
 pen:=F.pen
 stab:=fun p e H1 H2 h=>F.stab p e H1 H2 fun b o z=>by
  obtain⟨o',e'⟩:=r.dom z;exact h b o' (by rw[if_neg (fun hb=>by rw[hf b hb] at z; cases z)]; exact e')
 pin:=F.pin
 pin0:=fun p e=>by
  obtain⟨o,z⟩:=F.pin0 p e;obtain⟨o',e'⟩:=F.pin p e H (r.pn p e);exact⟨o',by rw[if_neg (fun hb=>by rw[hf p hb] at z; cases z)]; exact e'⟩
 pg:=fun p e=>by
  obtain⟨o,e0⟩:=F.pin0 p e;rw[r.g0 p o e0];exact F.pg p e
end
section
variable {P0:Addr→Hp→Prop}
theorem aE4 {S:Type}{W:Fam S}{n:Nat}{b:MS}{p:Addr}{s:S}{as:List Sl}{Q:Rv→S→Prop}(h:b (.box (W.box p s)::(as++List.replicate n .no)) fun fl=>match fl with
 | .rt rv=>∃ rv0 s',rv=.box (bKp W rv0 p s')∧Q rv0 s'
 | .nx Γ=>∃ s',Γ[0]?=some (.box (W.box p s'))∧Q (.val .none) s'
 | _=>False):aEZ W n b p s as Q:=h
end
section
variable {P0:Addr→Hp→Prop}
section
variable {C:Addr}{x:Str}{i:Nat}
variable {E:XK}
end
end
section
variable {P0:Addr→Hp→Prop}
end
section
variable {P0:Addr→Hp→Prop}{S:Type}
structure PartAt (W:Fam S)(p:Addr)(B:S→Bx)(v:V)(s:S)(fp f0:List Addr)(G H:Hp):Prop where
 sub:∀ b∈f0,b∈fp
 own:(W.box p s).P (.ref p) f0 G H
 back:∀ s' f0' G' H',Same G G'→(W.box p s').P (.ref p) f0' G' H'→(∀ b∈fp,b∉f0→H' b=H b∧b∉f0')→∃ fp',(B s').P v fp' G' H'∧∀ b∈fp',b∈f0'∨(b∈fp∧b∉f0)
def PartOf (W:Fam S)(p:Addr)(B:S→Bx):Prop:=∀{s v fp G H},(B s).P v fp G H→∃ f0,PartAt W p B v s fp f0 G H
theorem PartOf.self {W:Fam S}{p:Addr}:PartOf W p (W.box p):=fun{s v fp G H} h=>by
 have z:=W.pin h;subst z;exact⟨fp,fun _ h=>h,h,fun s' f' G' H' _ h' _=>⟨f',h',fun b hb=>.inl hb⟩⟩
section
variable {W:Fam S}{B:S→Bx}{i:Nat}{p:Addr}{s1 s':S}{F:Fra P0}{Γ1:En}{σ:St}{G1 H1 G' H':Hp}{v:V}{fp f0 f1 f2:List Addr}
theorem R.unlend (r1:R F Γ1 σ G1 H1)(e1:Γ1[i]?=some (.box (B s1)))(hi:SlF F G1 H1 σ[i]? fp (.box (B s1)))(hv:σ[i]?=some (some v))(hp:PartAt W p B v s1 fp f0 G1 H1)(hF:∀ b∈f0,F.H0 b=none)
  (f':Rf (F.less r1.fr f0 hF) G' H') (b2:(W.box p s').P (.ref p) f2 G' H') (d2:∀ b∈f2,(F.less r1.fr f0 hF).H0 b=none∧G' b=none) :
  Same G1 G'∧R F (Γ1.set i (.box (B s'))) σ G' H'∧(∀ b,(F.less r1.fr f0 hF).H0 b=none→F.H0 b=none) ∧
  ∀ f1:List Addr,(∀ b∈f1,(F.less r1.fr f0 hF).H0 b=none)→(∀ b∈f1,b∉f2)→∀(j:Nat) (u:Sl) (fq:List Addr),(Γ1.set i (.box (B s')))[j]?=some u→SlF F G' H' σ[j]? fq u→∀ x∈f1,x∉fq:=by
 obtain⟨fps,h1,h2⟩:=r1.fps;have z:=SlF.det hi (h1 i _ e1);subst z;obtain⟨v',ev',pv',nw⟩:=id hi;rw[hv] at ev'
 cases ev'
 have h0:∀ b,(F.less r1.fr f0 hF).H0 b=if b∈f0 then none else H1 b:=fun _=>rfl
 have inH:∀ b o,F.H0 b=some o→(if b∈f0 then none else H1 b)≠none:=fun b o z=>by
  obtain⟨o',e'⟩:=r1.fr.dom z;rw[if_neg (fun hb=>by rw[hF b hb] at z; cases z),e'];exact fun y=>nomatch y
 have nF:∀ b,(F.less r1.fr f0 hF).H0 b=none→F.H0 b=none:=fun b z=>by
  cases y:F.H0 b with
  | none=>rfl
  | some o=>exact absurd z (inH b o y)
 have nw0:∀ b∈f0,G1 b=none:=fun b hb=>(nw b (hp.sub b hb)).2;have sG:Same G1 G':=fun b o z=>by
  have hH:=r1.fr.sub b o z;have hb:b∉f0:=fun hb=>by rw[nw0 b hb] at z; cases z
  exact(f'.g0 b o (by rw[h0,if_neg hb]; exact hH)).trans z
 have rf:Rf F G' H':=by
  refine⟨f'.sub,fun b o z=>?_,fun b o z hb=>?_,f'.pn⟩
  ·obtain⟨o',e'⟩:=r1.fr.dom z;have hb:b∉f0:=fun hb=>by rw[hF b hb] at z; cases z
   exact(f'.g0 b o' (by rw[h0,if_neg hb]; exact e')).trans (r1.fr.g0 b o z)
  ·have hb':b∉f0:=fun hb=>by rw[hF b hb] at z; cases z
   exact f'.h0 b o (by rw[h0,if_neg hb']; exact r1.fr.h0 b o z hb) hb
 have stay:∀ b,F.H0 b=none→G1 b=none→(∃ o,H1 b=some o)→b∉f0→(F.less r1.fr f0 hF).H0 b≠none∧G' b=none∧H' b=H1 b:=fun b m1 m2 m3 hb=>by
  obtain⟨o,m3⟩:=m3;have y:(F.less r1.fr f0 hF).H0 b=some o:=by rw[h0,if_neg hb]; exact m3
  refine⟨by rw[y]; exact(fun z=>nomatch z),(f'.g0 b o y).trans m2,?_⟩;rw[m3];exact f'.h0 b o y (F.pen_ne m1)
 have oth:∀(j:Nat) (u:Sl),j≠i→Γ1[j]?=some u→∀ b∈fps j,(F.less r1.fr f0 hF).H0 b≠none∧G' b=none∧H' b=H1 b:=fun j u hj ej b hb=>by
  obtain⟨m1,m2,m3⟩:=(h1 j u ej).mine hb;exact stay b m1 m2 m3 fun z=>h2 j i u _ ej e1 hj b hb (hp.sub b z)
 have mine:∀ b∈fps i,b∉f0→(F.less r1.fr f0 hF).H0 b≠none∧G' b=none∧H' b=H1 b:=fun b hb hn=>by
  obtain⟨m1,m2,m3⟩:=(h1 i _ e1).mine hb;exact stay b m1 m2 m3 hn
 obtain⟨fp',pB,hfp⟩:=hp.back s' f2 G' H' sG b2 fun b hb hn=>⟨(mine b hb hn).2.2,fun z=>(mine b hb hn).1 (d2 b z).1⟩;have back:∀(j:Nat) (u:Sl),j≠i→(Γ1.set i (.box (B s')))[j]?=some u→Γ1[j]?=some u:=fun j u hj ej=>by rw[List.getElem?_set_ne (Ne.symm hj)] at ej; exact ej
 have hil:i<Γ1.length:=(List.getElem?_eq_some_iff.mp e1).1;have new:R F (Γ1.set i (.box (B s'))) σ G' H':=by
  refine⟨rf,by rw[List.length_set]; exact r1.len,fun j=>if j=i then fp' else fps j,fun j u ej=>?_,fun j l u z ej el hjl b hb hc=>?_⟩
  ·dsimp only
   by_cases hj:j=i
   ·subst hj;rw[if_pos rfl];rw[List.getElem?_set_self hil] at ej
    cases ej
    refine⟨v,hv,pB,fun x hx=>?_⟩;rcases hfp x hx with hx|⟨hx,hn⟩
    ·exact⟨nF x (d2 x hx).1,(d2 x hx).2⟩
    ·exact⟨(nw x hx).1,(mine x hx hn).2.1⟩
   ·rw[if_neg hj];have ej:=back j u hj ej;exact(h1 j u ej).go sG fun x hx=>(oth j u hj ej x hx).2
  ·dsimp only at hb hc;have cross:∀(l:Nat) (z:Sl),l≠i→Γ1[l]?=some z→∀ b∈fp',b∉fps l:=fun l z hl el b hb hc=>by
    rcases hfp b hb with hb|⟨hb,_⟩
    ·exact(oth l z hl el b hc).1 (d2 b hb).1
    ·exact h2 i l _ z e1 el (Ne.symm hl) b hb hc
   by_cases hj:j=i
   ·rw[if_pos hj] at hb;have hl':l≠i:=fun y=>hjl (hj.trans y.symm);rw[if_neg hl'] at hc;exact cross l z hl' (back l z hl' el) b hb hc
   ·rw[if_neg hj] at hb
    by_cases hl':l=i
    ·rw[if_pos hl'] at hc;exact cross j u hj (back j u hj ej) b hc hb
    ·rw[if_neg hl'] at hc;exact h2 j l u z (back j u hj ej) (back l z hl' el) hjl b hb hc
 refine⟨sG,new,nF,fun f1 hf1 ap j u fq ej hu x hx hxf=>?_⟩
 by_cases hj:j=i
 ·subst hj;rw[List.getElem?_set_self hil] at ej
  cases ej
  obtain⟨w,ew2,pw2,_⟩:=hu;rw[hv] at ew2
  cases ew2
  rw[(B s').uniq pw2 pB] at hxf;rcases hfp x hxf with h|⟨h,hn⟩
  ·exact ap x hx h
  ·exact(mine x h hn).1 (hf1 x hx)
 ·have ej:=back j u hj ej;have y:=SlF.det hu ((h1 j u ej).go sG fun x hx=>(oth j u hj ej x hx).2);rw[y] at hxf;exact(oth j u hj ej x hxf).1 (hf1 x hx)
theorem a6F {n:Nat}{f:Lm S}{as:List Sl}{rs:List V}{Q:VK}{E:XK}{Qm:Rv→En→Prop}(hB:PartOf W p B)(r1:R F Γ1 σ G1 H1)(e1:Γ1[i]?=some (.box (B s1)))(d1:Paired (v8 F G1) rs as)(hl:as.length+1=n)
  (hf:f p s1 as fun rv s'=>Qm rv (Γ1.set i (.box (B s')))) (k:∀ rv Γ' r G' H',Qm rv Γ'→Same G1 G'→R F Γ' σ G' H'→RvO F G' H' r rv→Apart F Γ' σ G' H' r rv→Q r H'):spL P0 W n f (.ref p::(rs++[])) H1 Q E:=by
 obtain⟨fps,h1,h2⟩:=r1.fps;have hi:=h1 i _ e1;obtain⟨v,ew',pw',nw⟩:=id hi;obtain⟨f0,hp⟩:=hB pw';have hF:∀ b∈f0,F.H0 b=none:=fun b hb=>(nw b (hp.sub b hb)).1;refine⟨F.less r1.fr f0 hF,p,s1,f0,rs,as,fun rv s'=>Qm rv (Γ1.set i (.box (B s'))),by rw[List.append_nil],fun b=>rfl,
  ⟨r1.fr.sub,fun _ _ _=>rfl,fun b o z _=>?_,r1.fr.pn⟩,hp.own,fun b hb=>(nw b (hp.sub b hb)).2,Paired.imp' (fun a s h=>by cases s<;>exact h) d1,hl,hf,fun rv s' v1 f1 f2 G' H' hq f' a b c d=>?_⟩
 ·have z:(if b∈f0 then none else H1 b)=some o:=z
  split at z
  ·cases z
  ·exact z
 ·obtain⟨sG,new,nF,apart⟩:=r1.unlend e1 hi ew' hp hF f' b (fun x hx=>d x (List.mem_append_right _ hx));have apart:=apart f1 (fun x hx=>(d x (List.mem_append_left _ hx)).1) c;refine k rv _ v1 G' H' hq sG new ?_ ?_
  ·cases rv with
   | val d'=>exact a.2
   | own ds=>
    obtain⟨u,vs,e2,e3,e4,e5⟩:=a;have hu:=d u (List.mem_append_left _ (by rw[e2]; exact List.mem_singleton.mpr rfl));exact⟨u,vs,e3,nF u hu.1,hu.2,e4,e5⟩
   | box B=>exact⟨f1,a,fun x hx=>⟨nF x (d x (List.mem_append_left _ hx)).1,(d x (List.mem_append_left _ hx)).2⟩⟩
  ·cases rv with
   | val d'=>trivial
   | own ds=>
    intro j u fq ej hu y ey hy;obtain⟨u',vs,e2,e3,e4,e5⟩:=a;rw[e3] at ey
    cases ey
    exact apart j u fq ej hu _ (by rw[e2]; exact List.mem_singleton.mpr rfl) hy
   | box B=>
    intro j u fq g ej hu hg x hx;have y:g=f1:=B.uniq hg a;rw[y] at hx;exact apart j u fq ej hu x hx
end
def a6Y (i:Nat)(mj:ME):ME:=fun Γ Q=>(∃ ds,Γ[i]?=some (.own ds))∧mj Γ fun d Γ1=>∃ ds,Γ1[i]?=some (.own ds)∧oQ (ixD (.list ds) d) fun e=>Q e Γ1
theorem aBA {ds:List D}{d e:D}(h:ixD (.list ds) d=some e):∃ i j,d=.int i∧ixN ds.length i=some j∧ds[j]?=some e:=by
 unfold ixD at h
 split at h
 ·rename_i z; cases z
 ·rename_i es i z
  cases z
  unfold atI at h
  cases y:ixN ds.length i with
  | none=>rw[y] at h; cases h
  | some j=>rw[y] at h; exact⟨i,j,rfl,y,h⟩
 ·cases h
theorem aAB {K:Fg}{i:Nat}{tj:TE}{mj:ME}(hj:VT P0 tj mj):VT P0 (tOp (rIx K) (v5 i) tj) (a6Y i mj):=by
 intro F Γ σ G H Q Qm r hm k;obtain⟨⟨ds,e⟩,hm⟩:=hm;obtain⟨p,vs,ep,_⟩:=r.sl i _ e;refine⟨.ref p,ep,hj F Γ σ G H _ _ r hm fun d Γ1 x G1 H1 m1 g1 r1 d1=>?_⟩;obtain⟨es,e1,m1⟩:=m1;obtain⟨y,hy,q⟩:=a7D m1;obtain⟨q',us,eq',_,_,hq,hus⟩:=r1.sl i _ e1;rw[ep] at eq'
 cases eq'
 obtain⟨n,j,rfl,h1,h2⟩:=aBA hy
 cases d1
 obtain⟨v,hv,dv⟩:=Dts.get hus h2;refine .inl ⟨p,us,n,v,rfl,rfl,SqL.of hq,?_,k _ _ _ _ _ q g1 r1 dv⟩;unfold atI;rw[hus.len,h1];exact hv
end
section
section
variable {S:Type}{W:Fam S}{n i:Nat}{f:Lm S}{m:MA}{Γ Γ1:En}{p:Addr}{s:S}{as:List Sl}
def lnK (W:Fam S)(n:Nat)(f:Lm S)(i:Nat)(p:Addr)(Q:Rv→En→Prop)(as:List Sl)(Γ1:En):Prop:=∃ s1,Γ1[i]?=some (.box (W.box p s1))∧as.length+1=n∧f p s1 as fun rv s'=>Q rv (Γ1.set i (.box (W.box p s')))
theorem aF3 {Q:Rv→En→Prop}(h0:Γ[i]?=some (.box (W.box p s)))(h:m Γ (lnK W n f i p Q)):a08 W n f i m Γ Q:=⟨p,⟨s,h0⟩,h⟩
theorem aJQ {Q:Rv→En→Prop}(h0:Γ1[i]?=some (.box (W.box p s)))(hl:as.length+1=n)(h:f p s as fun rv s'=>Q rv (Γ1.set i (.box (W.box p s')))):lnK W n f i p Q as Γ1:=⟨s,h0,hl,h⟩
def rtK (W:Fam S)(Q:Fl→Prop)(rv:Rv)(Γ1:En):Prop:=∃ p s,Γ1[0]?=some (.box (W.box p s))∧Q (.rt (.box (bKp W rv p s)))
theorem aFN {mo:MO}{Q:Fl→Prop}(h:mo Γ (rtK W Q)):zH W mo Γ Q:=h
theorem aJY {rv:Rv}{Q:Fl→Prop}(h0:Γ1[0]?=some (.box (W.box p s)))(h:Q (.rt (.box (bKp W rv p s)))):rtK W Q rv Γ1:=⟨p,s,h0,h⟩
theorem aFB {rv:Rv}{Q:Rv→S→Prop}(h:Q rv s):∃ rv0 s',Rv.box (bKp W rv p s)=.box (bKp W rv0 p s')∧Q rv0 s':=⟨rv,s,rfl,h⟩
variable {L w0 w1:Addr}{s0 s1:S}{mj:ME}
end
def oxK (i:Nat)(Q:D→En→Prop)(d:D)(Γ1:En):Prop:=∃ ds,Γ1[i]?=some (.own ds)∧oQ (ixD (.list ds) d) fun e=>Q e Γ1
theorem aA4 {i:Nat}{mj:ME}{Γ:En}{Q:D→En→Prop}{ds:List D}(h0:Γ[i]?=some (.own ds))(h:mj Γ (oxK i Q)):a6Y i mj Γ Q:=⟨⟨ds,h0⟩,h⟩
theorem aIR {i:Nat}{Γ:En}{Q:D→En→Prop}{ds:List D}{d:D}(h0:Γ[i]?=some (.own ds))(h:oQ (ixD (.list ds) d) fun e=>Q e Γ):oxK i Q d Γ:=⟨ds,h0,h⟩
end
section
variable {P0:Addr→Hp→Prop}
section
variable {F:Fra P0}{Γ Γ1:En}{σ:St}{G H G1 H1:Hp}{bs:List Bool}
end
section
variable {bs:List Bool}{Γ Γ1:En}
end
end
section
variable {P0:Addr→Hp→Prop}{S:Type}
end
section
variable {P0:Addr→Hp→Prop}{S:Type}
section
variable {C:Addr}{i:Nat}
theorem wQ {W:Fam S}{n:Nat}{m:Str}{f:Lm S}{t:TA}{ma:MA}{E:XK}(hW:∀{p s v fp G H},(W.box p s).P v fp G H→∃ dx fs,H p=some (.ins C dx fs)∧fs.lookup m=none)(h:VA P0 t ma):VO P0 (aHD C m (spL P0 W n f) [] E (v5 i) t) (a08 W n f i ma):=by
 intro F Γ σ G H Q Qm r hm k;obtain⟨p,⟨s,e⟩,hm⟩:=hm;obtain⟨v,fp,ev,pv,_⟩:=r.sl i _ e;have z:=W.pin pv;subst z;obtain⟨dx,fs,hp,hl⟩:=hW pv;refine⟨.ref p,ev,p,dx,fs,rfl,hp,hl,h F Γ σ G H _ _ r hm fun as Γ1 rs G1 H1 m1 g1 r1 d1=>?_⟩;obtain⟨s1,e1,hn,hf⟩:=m1;exact a6F (Qm:=Qm) PartOf.self r1 e1 d1 hn hf fun rv Γ' r' G' H' q g'=>k rv Γ' r' G' H' q (g1.trans g')
end
end
end L2.VS
namespace L2
open PySem PySem.Spec PyProof.Rows
variable {X:Cx}
end L2
namespace L2.VS
open PySem PySem.Spec PyProof.Rows
section
variable {P0:Addr→Hp→Prop}
end
section
variable {P0:Addr→Hp→Prop}{A:Nat→Bool}
end
section
variable {P0:Addr→Hp→Prop}
def a8Q (i:Nat)(m:ME):ME:=fun Γ Q=>(∃ ds,Γ[i]?=some (.own ds))∧m Γ fun x Γ1=>∃ ds d,∃ k:Nat,Γ1[i]?=some (.own ds)∧x=.int (k:Int)∧k<1000000∧ds[k]?=some d∧Q d (Γ1.set i (.own (ds.eraseIdx k)))
theorem zN {G:Hp}:∀{vs:List V} {ds:List D} {k:Nat},Dts G vs ds→Dts G (vs.eraseIdx k) (ds.eraseIdx k)
 | _,_,_,.nil=>.nil
 | _,_,0,.cons _ b=>b
 | _,_,k+1,.cons a b=>.cons a (zN b)
theorem aB6 {K:Fg}{i:Nat}{t:TE}{m:ME}(h:VT P0 t m):VT P0 (tBM K "list" aBX (v5 i) (dN t pW)) (a8Q i m):=by
 intro F Γ σ G H Q Qm r hm k;obtain⟨⟨ds0,e0⟩,hm⟩:=hm;obtain⟨p,vs0,ep,_,_,hp0,_⟩:=r.sl i _ e0;refine⟨.ref p,ep,.inl ⟨rfl,_,SqL.of hp0⟩,?_⟩;refine h F Γ σ G H _ _ r hm fun x Γ1 v G1 H1 m1 g1 r1 d1=>?_;obtain⟨ds,d,n,e1,rfl,hn,hd,q⟩:=m1;obtain⟨p',vs,ep',_,_,hp,hvs⟩:=r1.sl i _ e1;rw[ep] at ep'
 cases ep'
 cases d1
 obtain⟨u,hu,du⟩:=Dts.get hvs hd;have hlt:n<vs.length:=(List.getElem?_eq_some_iff.mp hu).1;refine⟨p,vs,(n:Int),n,u,rfl,rfl,hp,by omega,by omega,?_,hu,?_⟩
 ·unfold seqIndex?;have h1:¬(n:Int)<0:=by omega
  have h2:(decide (0≤(n:Int))&&decide ((n:Int)<(vs.length:Int)))=true:=by
   rw[decide_eq_true (by omega),decide_eq_true (by omega)];rfl
  simp only[if_neg h1,h2,if_true,Int.toNat_natCast]
 ·exact k _ _ _ _ _ q g1 (r1.write e1 ep (zN hvs)) du
def ppK (i:Nat)(Q:D→En→Prop)(x:D)(Γ1:En):Prop:=∃ ds d,∃ k:Nat,Γ1[i]?=some (.own ds)∧x=.int (k:Int)∧k<1000000∧ds[k]?=some d∧Q d (Γ1.set i (.own (ds.eraseIdx k)))
theorem aDT {i:Nat}{m:ME}{Γ:En}{Q:D→En→Prop}{ds:List D}(h0:Γ[i]?=some (.own ds))(h:m Γ (ppK i Q)):a8Q i m Γ Q:=⟨⟨ds,h0⟩,h⟩
theorem aIV {i:Nat}{Q:D→En→Prop}{Γ1:En}{ds:List D}{d:D}{k:Nat}(h0:Γ1[i]?=some (.own ds))(hk:k<1000000)(hd:ds[k]?=some d)(h:Q d (Γ1.set i (.own (ds.eraseIdx k)))):ppK i Q (.int (k:Int)) Γ1:=⟨ds,d,k,h0,rfl,hk,hd,h⟩
def a5H (i:Nat):ME:=fun Γ Q=>∃ ds,(Γ[i]?=some (.own ds)∨Γ[i]?=some (.val (.list ds)))∧Q (.int (ds.length:Int)) Γ
theorem a1M {K:Fg}{i:Nat}:VT P0 (tCB (fun xs H Q=>∃ p ys,xs=[.ref p]∧(SqL K H p ys∨SqT K H p ys)∧Q (.int ys.length) H) (dN (v5 i) pW)) (a5H i):=by
 intro F Γ σ G H Q Qm r hm k;obtain⟨ds,e|e,q⟩:=hm
 ·obtain⟨p,vs,ep,_,_,hp,hvs⟩:=r.sl i _ e;exact⟨.ref p,ep,p,vs,rfl,.inl (SqL.of hp),by rw[hvs.len]; exact k _ _ _ _ _ q (Same.refl _) r (.int _)⟩
 ·obtain⟨v,ev,dv⟩:=r.sl i _ e
  cases dv with
  | @lst p vs _ hp rs=>exact⟨.ref p,ev,p,vs,rfl,.inl (SqL.of (r.fr.sub _ _ hp)),by rw[rs.len]; exact k _ _ _ _ _ q (Same.refl _) r (.int _)⟩
theorem aHR {i:Nat}{Γ:En}{Q:D→En→Prop}{ds:List D}(h0:Γ[i]?=some (.own ds))(h:Q (.int (ds.length:Int)) Γ):a5H i Γ Q:=⟨ds,.inl h0,h⟩
theorem aGJ {i:Nat}{Γ:En}{Q:D→En→Prop}{ds:List D}(h0:Γ[i]?=some (.val (.list ds)))(h:Q (.int (ds.length:Int)) Γ):a5H i Γ Q:=⟨ds,.inr h0,h⟩
end
section
variable {P0:Addr→Hp→Prop}{A:Nat→Bool}
inductive DkRel (G:Hp):List (Key×V)→List (Int×D)→Prop
 | nil:DkRel G [] []
 | cons {n:Int} {v:V} {d:D} {kvs:List (Key×V)} {kds:List (Int×D)} (h:Dt G v d) (r:DkRel G kvs kds):DkRel G ((Sum.inl n,v)::kvs) ((n,d)::kds)
theorem DkRel.same {G G':Hp}(g:Same G G'){kvs:List (Key×V)}{kds:List (Int×D)}(h:DkRel G kvs kds):DkRel G' kvs kds:=by
 induction h with
 | nil=>exact .nil
 | cons h _ ih=>exact .cons (Dt.same g _ _ h) ih
theorem DkRel.len {G:Hp}{kvs:List (Key×V)}{kds:List (Int×D)}(h:DkRel G kvs kds):kvs.length=kds.length:=by
 induction h with
 | nil=>rfl
 | cons _ _ ih=>rw[List.length_cons,List.length_cons,ih]
def v4:List (Int×D)→Int→Option D
 | [],_=>none
 | (n,d)::r,k=>if n=k then some d else v4 r k
def vR:List (Int×D)→Int→D→List (Int×D)
 | [],_,_=>[]
 | (n,d)::r,k,e=>(if n=k then(n,e) else(n,d))::vR r k e
def sU (kds:List (Int×D))(k:Int)(d:D):List (Int×D):=if (v4 kds k).isSome then vR kds k d else kds++[(k,d)]
def lL:List (Int×D)→Int→List (Int×D)
 | [],_=>[]
 | (n,d)::r,k=>if n=k then lL r k else(n,d)::lL r k
theorem DkRel.val {G:Hp}{kvs:List (Key×V)}{kds:List (Int×D)}(h:DkRel G kvs kds)(k:Int):(tH kvs (Sum.inl k:Key)=none∧v4 kds k=none)∨∃ v d,tH kvs (Sum.inl k:Key)=some v∧v4 kds k=some d∧Dt G v d:=by
 induction h with
 | nil=>exact .inl ⟨rfl,rfl⟩
 | @cons n v d kvs kds h r ih=>
  by_cases e:n=k
  ·refine .inr ⟨v,d,pG (by rw[e]),?_,h⟩;unfold v4; rw[if_pos e]
  ·rw[pI (fun z=>e (Sum.inl.inj z))];unfold v4; rw[if_neg e]; exact ih
theorem DkRel.some {G:Hp}{kvs:List (Key×V)}{kds:List (Int×D)}(h:DkRel G kvs kds){k:Int}{d:D}(e:v4 kds k=some d):∃ v,tH kvs (Sum.inl k:Key)=some v∧Dt G v d:=by
 rcases h.val k with⟨_,z⟩|⟨v,d',a,b,c⟩
 ·rw[e] at z; cases z
 ·rw[e] at b; cases b; exact⟨v,a,c⟩
theorem DkRel.isSome {G:Hp}{kvs:List (Key×V)}{kds:List (Int×D)}(h:DkRel G kvs kds)(k:Int):(tH kvs (Sum.inl k:Key)).isSome=(v4 kds k).isSome:=by
 rcases h.val k with⟨a,z⟩|⟨v,d',a,b,c⟩
 ·rw[a,z]; rfl
 ·rw[a,b]; rfl
theorem DkRel.repl {G:Hp}{kvs:List (Key×V)}{kds:List (Int×D)}(h:DkRel G kvs kds)(k:Int){v:V}{d:D}(dv:Dt G v d):DkRel G (kvs.map fun kv=>if kv.1=(Sum.inl k:Key) then(kv.1,v) else kv) (vR kds k d):=by
 induction h with
 | nil=>exact .nil
 | @cons n u e kvs kds h r ih=>
  unfold vR;rw[List.map_cons]
  by_cases z:n=k
  ·rw[if_pos z,if_pos (congrArg Sum.inl z)]; exact .cons dv ih
  ·rw[if_neg z,if_neg (fun y=>z (Sum.inl.inj y))]; exact .cons h ih
theorem DkRel.snoc {G:Hp}{kvs:List (Key×V)}{kds:List (Int×D)}(h:DkRel G kvs kds)(k:Int){v:V}{d:D}(dv:Dt G v d):DkRel G (kvs++[(Sum.inl k,v)]) (kds++[(k,d)]):=by
 induction h with
 | nil=>exact .cons dv .nil
 | cons h _ ih=>exact .cons h ih
theorem DkRel.put {G:Hp}{kvs:List (Key×V)}{kds:List (Int×D)}(h:DkRel G kvs kds)(k:Int){v:V}{d:D}(dv:Dt G v d):DkRel G (putK kvs (Sum.inl k:Key) v) (sU kds k d):=by
 unfold putK sU;rw[pQ,h.isSome k]
 by_cases z:(v4 kds k).isSome=true
 ·rw[if_pos z,if_pos z]; exact h.repl k dv
 ·rw[if_neg z,if_neg z]; exact h.snoc k dv
theorem DkRel.drop {G:Hp}{kvs:List (Key×V)}{kds:List (Int×D)}(h:DkRel G kvs kds)(k:Int):DkRel G (qQ kvs (Sum.inl k:Key)) (lL kds k):=by
 induction h with
 | nil=>exact .nil
 | @cons n u e kvs kds h r ih=>
  unfold lL
  by_cases z:n=k
  ·rw[if_pos z,a98 (congrArg Sum.inl z)]; exact ih
  ·rw[if_neg z,a6Z (fun y=>z (Sum.inl.inj y))]; exact .cons h ih
theorem hu1 {a:Nat}(h:a+64<cLine):a+1<cLine:=Nat.lt_of_le_of_lt (Nat.add_le_add_left (by decide) _) h
end
end L2.VS
namespace L2
open PySem PySem.Calls PyProof.Rows PySem.W
section
variable {prog:Program}{w:World}{A:Around}{E:Value→Shared→Prop}{s:Shared}
end
end L2
namespace L2
open PySem PySem.Spec PyProof.Rows
section
variable {X:Cx}
end
end L2
namespace L2.VS
open PySem PySem.Spec PyProof.Rows
section
variable {P0:Addr→Hp→Prop}{ta:TE}{ma:ME}{K:Fg}
end
end L2.VS
namespace L2
open PySem PySem.Spec PyProof.Rows
section
variable {X:Cx}
end
end L2
namespace L2.VS
open PySem PySem.Spec PyProof.Rows
section
variable {P0:Addr→Hp→Prop}
end
end L2.VS
namespace L2
open PySem PySem.Spec PyProof.Rows
def aFI:List V→Hp→VK→Prop:=fun xs H Q=>∃(p:Addr) (kvs:List (Key×V)),xs=[.ref p]∧H p=some (.dK kvs)∧Q (.int kvs.length) H
theorem a7S {X:Cx}:rF X (.builtin "len") aFI:=by
 intro pins s σ H xs us Q I r h;obtain⟨p,kvs,rfl,hp,q⟩:=h;obtain⟨u,rfl,rx⟩:=vals1 r
 cases rx
 exact aKI I (.inl hp) fun t s' I'=>⟨.int kvs.length,H,I',⟨t,rfl⟩,q⟩
end L2
namespace L2.VS
open PySem PySem.Spec PyProof.Rows
section
variable {P0:Addr→Hp→Prop}
end
section
variable {P0:Addr→Hp→Prop}{A:Nat→Bool}
structure FS where
 d:Addr
 p:Addr
 kds:List (Int×D)
 jn:Int
 la:D
def aLB (s:FS)(vl:V):List (Str×V):=[("running", .ref s.p),("joined", .int s.jn),("last", vl)]
structure FdAt (C w:Addr)(s:FS)(kvs:List (Key×V))(vl:V)(H:Hp):Prop where
 i:H w=some (.ins C s.d (aLB s vl))
 d:H s.d=some (.own w)
 k:H s.p=some (.dK kvs)
structure FdDt (s:FS)(kvs:List (Key×V))(vl:V)(G:Hp):Prop where
 k:DkRel G kvs s.kds
 l:Dt G vl s.la
theorem FdAt.at {C w:Addr}{s:FS}{kvs:List (Key×V)}{vl:V}{H H':Hp}(h:FdAt C w s kvs vl H)(k:∀ b∈[w,s.d,s.p],H' b=H b):FdAt C w s kvs vl H':=
 ⟨(k w (by simp)).trans h.i,(k s.d (by simp)).trans h.d,(k s.p (by simp)).trans h.k⟩
theorem FdAt.same {C w:Addr}{s:FS}{kvs:List (Key×V)}{vl:V}{H H':Hp}(h:FdAt C w s kvs vl H)(g:Same H H'):FdAt C w s kvs vl H':=⟨g _ _ h.i,g _ _ h.d,g _ _ h.k⟩
theorem FdDt.same {s:FS}{kvs:List (Key×V)}{vl:V}{G G':Hp}(h:FdDt s kvs vl G)(g:Same G G'):FdDt s kvs vl G':=⟨h.k.same g,Dt.same g _ _ h.l⟩
theorem FdAt.dom {C w:Addr}{s:FS}{kvs:List (Key×V)}{vl:V}{H:Hp}(h:FdAt C w s kvs vl H):∀ y∈[w,s.d,s.p],∃ o,H y=some o∧∀ xs,o≠.tup xs:=fun y hy=>by
 simp only[List.mem_cons,List.not_mem_nil,or_false] at hy;rcases hy with rfl|rfl|rfl
 ·exact⟨_,h.i,fun _ z=>nomatch z⟩
 ·exact⟨_,h.d,fun _ z=>nomatch z⟩
 ·exact⟨_,h.k,fun _ z=>nomatch z⟩
def aC4 (C w:Addr)(s:FS):Pb where
 P:=fun v G=>v=.ref w∧∃ kvs vl,FdAt C w s kvs vl G∧FdDt s kvs vl G
 mono:=fun g ⟨a,kvs,vl,b,c⟩=>⟨a,kvs,vl,b.same g,c.same g⟩
def bG (C:Addr):Fam FS where
  box:=fun w s=>
    { P:=fun v fp G H=>v=.ref w∧fp=[w,s.d,s.p]∧∃ kvs vl,FdAt C w s kvs vl H∧FdDt s kvs vl G
      mono:=fun g ⟨a,b,kvs,vl,c,e⟩=>⟨a,b,kvs,vl,c,e.same g⟩
      loc:=fun k ⟨a,b,kvs,vl,c,e⟩=>⟨a,b,kvs,vl,c.at (fun y hy=>k y (by rw[b]; exact hy)),e⟩
      dom:=fun⟨a,b,kvs,vl,c,e⟩ y hy=>by
        rw[b] at hy;obtain⟨o,ho,_⟩:=c.dom y hy;exact⟨o,ho⟩
      uniq:=fun h g=>h.2.1.trans g.2.1.symm
      nt:=fun⟨a,b,kvs,vl,c,e⟩ y hy xs q=>by
        rw[b] at hy;obtain⟨o,ho,hn⟩:=c.dom y hy;rw[ho] at q;exact absurd (Option.some.inj q) (hn xs)
      view:=none
      vok:=fun _ z=>nomatch z
      pv:=some (aC4 C w s)
      pok:=fun⟨a,b,kvs,vl,c,e⟩ y g k=>by
        cases y
        exact⟨a,kvs,vl,c.at (fun y hy=>k y (by rw[b]; exact hy)),e.same g⟩ }
  pin:=fun h=>h.1
def InF (C w:Addr)(s:FS)(sl:Sl):Prop:=sl=.box ((bG C).box w s)∨sl=.pub (aC4 C w s)
section
variable {C:Addr}{i:Nat}
theorem R.fd {F:Fra P0}{Γ:En}{σ:St}{G H:Hp}{w:Addr}{s:FS}{sl:Sl}(r:R F Γ σ G H)(e:Γ[i]?=some sl)(h:InF C w s sl):∃ kvs vl,σ[i]?=some (some (.ref w))∧FdAt C w s kvs vl H∧FdDt s kvs vl G:=by
 rcases h with rfl|rfl
 ·obtain⟨v,fp,e1,⟨rfl,_,kvs,vl,b,c⟩,_⟩:=r.sl i _ e;exact⟨kvs,vl,e1,b,c⟩
 ·obtain⟨v,e1,rfl,kvs,vl,b,c⟩:=r.sl i _ e;exact⟨kvs,vl,e1,b.same r.fr.sub,c⟩
def uB (C:Addr)(i:Nat):ME:=fun Γ Q=>∃ w s sl,Γ[i]?=some sl∧InF C w s sl∧Q (.int s.jn) Γ
theorem a1B {K:Fg}(cl:Cls K C)(na:NoAttr K C "joined"):VT P0 (aC2 K (v5 i) "joined") (uB C i):=by
 intro F Γ σ G H Q Qm r hm k;obtain⟨w,s,sl,e,h,q⟩:=hm;obtain⟨kvs,vl,ew,a,b⟩:=r.fd e h;exact⟨.ref w,ew,w,C,s.d,_,.int s.jn,rfl,a.i,cl,na,rfl,k _ _ _ _ _ q (Same.refl _) r (.int _)⟩
def xU (C:Addr)(i:Nat):ME:=fun Γ Q=>∃ w s sl,Γ[i]?=some sl∧InF C w s sl∧Q s.la Γ
theorem zZ {K:Fg}(cl:Cls K C)(na:NoAttr K C "last"):VT P0 (aC2 K (v5 i) "last") (xU C i):=by
 intro F Γ σ G H Q Qm r hm k;obtain⟨w,s,sl,e,h,q⟩:=hm;obtain⟨kvs,vl,ew,a,b⟩:=r.fd e h;exact⟨.ref w,ew,w,C,s.d,_,vl,rfl,a.i,cl,na,rfl,k _ _ _ _ _ q (Same.refl _) r b.l⟩
def aCV (C:Addr)(i:Nat)(mj:ME):ME:=fun Γ Q=>∃ w s,(∃ sl,Γ[i]?=some sl∧InF C w s sl)∧mj Γ fun x Γ1=>(∃ sl,Γ1[i]?=some sl∧InF C w s sl)∧∃ k d,x=.int k∧v4 s.kds k=some d∧Q d Γ1
theorem aE0 {K:Fg}{tj:TE}{mj:ME}(cl:Cls K C)(na:NoAttr K C "running")(hj:VT P0 tj mj):VT P0 (aH9 (aC2 K (v5 i) "running") tj) (aCV C i mj):=by
 intro F Γ σ G H Q Qm r hm k;obtain⟨w,s,⟨sl,e,h⟩,hm⟩:=hm;obtain⟨kvs,vl,ew,a,b⟩:=r.fd e h;refine⟨.ref w,ew,w,C,s.d,_,.ref s.p,rfl,a.i,cl,na,rfl,hj F Γ σ G H _ _ r hm fun x Γ1 y G1 H1 m1 g1 r1 d1=>?_⟩;obtain⟨⟨sl1,e1,h1⟩,n,d,rfl,hd,q⟩:=m1;obtain⟨kvs1,vl1,_,a1,b1⟩:=r1.fd e1 h1
 cases d1
 obtain⟨v,hv,dv⟩:=b1.k.some hd;refine⟨s.p,v,rfl,?_,k _ _ _ _ _ q g1 r1 dv⟩;have z:=DGet.k (k:=Sum.inl n) a1.k;rw[hv] at z;exact z
def aCY (C:Addr)(i:Nat)(mj:ME):ME:=fun Γ Q=>mj Γ fun x Γ1=>∃ w s sl k,Γ1[i]?=some sl∧InF C w s sl∧x=.int k∧Q (.bool (v4 s.kds k).isSome) Γ1
theorem aDZ {K:Fg}{tj:TE}{mj:ME}(cl:Cls K C)(na:NoAttr K C "running")(hj:VT P0 tj mj):VT P0 (aLP tj (aC2 K (v5 i) "running")) (aCY C i mj):=by
 intro F Γ σ G H Q Qm r hm k;refine hj F Γ σ G H _ _ r hm fun x Γ1 y G1 H1 m1 g1 r1 d1=>?_;obtain⟨w,s,sl,n,e,h,rfl,q⟩:=m1;obtain⟨kvs,vl,ew,a,b⟩:=r1.fd e h
 cases d1
 refine⟨.ref w,ew,w,C,s.d,_,.ref s.p,rfl,a.i,cl,na,rfl,s.p,_,rfl,DGet.k (k:=Sum.inl n) a.k,?_⟩;rw[b.k.isSome n];exact k _ _ _ _ _ q g1 r1 (.bl _)
def a94 (C:Addr)(i:Nat):ME:=fun Γ Q=>∃ w s sl,Γ[i]?=some sl∧InF C w s sl∧Q (.int (s.kds.length:Int)) Γ
theorem aAE {K:Fg}(cl:Cls K C)(na:NoAttr K C "running"):VT P0 (tCB aFI (dN (aC2 K (v5 i) "running") pW)) (a94 C i):=by
 intro F Γ σ G H Q Qm r hm k;obtain⟨w,s,sl,e,h,q⟩:=hm;obtain⟨kvs,vl,ew,a,b⟩:=r.fd e h;exact⟨.ref w,ew,w,C,s.d,_,.ref s.p,rfl,a.i,cl,na,rfl,s.p,kvs,rfl,a.k,by rw[b.k.len]; exact k _ _ _ _ _ q (Same.refl _) r (.int _)⟩
theorem R.fdI {F:Fra P0}{Γ:En}{σ:St}{G H:Hp}{w:Addr}{s:FS}(r:R F Γ σ G H)(e:Γ[i]?=some (.box ((bG C).box w s))){n:Int}{y:V}{d:D}(dy:Dt G y d):R F (Γ.set i (.box ((bG C).box w { s with jn:=n,la:=d }))) σ G (upd H w (.ins C s.d (aLB { s with jn:=n } y))):=by
 obtain⟨v,fp,ev,⟨rfl,rfl,kvs,vl,a,b⟩,nf⟩:=r.sl i _ e;have hw:=nf w (by simp);refine r.writeF e (r.fr.priv hw.1 hw.2) fun fp h=>?_;obtain⟨u,eu2,⟨rfl,rfl,_⟩,nf2⟩:=h;have ed:s.d≠w:=a8T a.d a.i (by intro z; cases z);have ek:s.p≠w:=a8T a.k a.i (by intro z; cases z);refine⟨[w,s.d,s.p],⟨.ref w,ev,⟨rfl,rfl,kvs,y,⟨?_,?_,?_⟩,⟨b.k,dy⟩⟩,nf2⟩,fun b hb _=>?_⟩
 ·rw[bA]; rfl
 ·show upd H w _ s.d=_;rw[aZ ed]; exact a.d
 ·show upd H w _ s.p=_;rw[aZ ek]; exact a.k
 ·exact⟨aZ fun y=>hb (by rw[y]; simp),hb⟩
theorem R.fdK {F:Fra P0}{Γ:En}{σ:St}{G H:Hp}{w:Addr}{s:FS}(r:R F Γ σ G H)(e:Γ[i]?=some (.box ((bG C).box w s))){kvs':List (Key×V)}{kds':List (Int×D)}(rel:DkRel G kvs' kds'):R F (Γ.set i (.box ((bG C).box w { s with kds:=kds' }))) σ G (upd H s.p (.dK kvs')):=by
 obtain⟨v,fp,ev,⟨rfl,rfl,kvs,vl,a,b⟩,nf⟩:=r.sl i _ e;have hw:=nf s.p (by simp);refine r.writeF e (r.fr.priv hw.1 hw.2) fun fp h=>?_;obtain⟨u,eu2,⟨rfl,rfl,_⟩,nf2⟩:=h;have ed:s.d≠s.p:=a8T a.d a.k (by intro z; cases z);have ew:w≠s.p:=a8T a.i a.k (by intro z; cases z);refine⟨[w,s.d,s.p],⟨.ref w,ev,⟨rfl,rfl,kvs',vl,⟨?_,?_,?_⟩,⟨rel,b.l⟩⟩,nf2⟩,fun b hb _=>?_⟩
 ·show upd H s.p _ w=_;rw[aZ ew]; exact a.i
 ·show upd H s.p _ s.d=_;rw[aZ ed]; exact a.d
 ·show upd H s.p _ s.p=_;rw[bA]
 ·exact⟨aZ fun y=>hb (by rw[y]; simp),hb⟩
def wV (C:Addr)(i:Nat)(m:ME):MS:=fun Γ Q=>m Γ fun d Γ1=>∃ w s,Γ1[i]?=some (.box ((bG C).box w s))∧Q (.nx (Γ1.set i (.box ((bG C).box w { s with la:=d }))))
theorem a69 {K:Fg}{t:TE}{m:ME}(cl:Cls K C)(na:NoAttr K C "last")(h:VT P0 t m):VSA P0 A (aLO K (v5 i) t "last") (wV C i m):=by
 intro F Γ σ G H E Qm r hm k;refine h F Γ σ G H _ _ r hm fun d Γ1 y G1 H1 m1 g1 r1 d1=>?_;obtain⟨w,s,e,q⟩:=m1;obtain⟨kvs,vl,ev,a,b⟩:=r1.fd e (.inl rfl);refine⟨.ref w,ev,w,C,s.d,_,rfl,a.i,cl,na,(by show 3<1000; decide),?_⟩;exact k _ q σ G1 _ g1 (r1.fdI (n:=s.jn) e d1) fun _ _=>rfl
def xK (C:Addr)(i:Nat)(n:Int):MS:=fun Γ Q=>∃ w s,Γ[i]?=some (.box ((bG C).box w s))∧Q (.nx (Γ.set i (.box ((bG C).box w { s with jn:=s.jn+n }))))
theorem a5B {K:Fg}{n:Int}(cl:Cls K C)(na:NoAttr K C "joined"):VSA P0 A (a7H K (v5 i) (tC (.int n)) aM0 "joined") (xK C i n):=by
 intro F Γ σ G H E Qm r hm k;obtain⟨w,s,e,q⟩:=hm;obtain⟨kvs,vl,ev,a,b⟩:=r.fd e (.inl rfl);refine⟨.ref w,ev,w,C,s.d,_,.int s.jn,rfl,a.i,cl,na,rfl,?_⟩;refine⟨s.jn,n,rfl,rfl,s.d,_,a.i,(by show 3<1000; decide),?_⟩;exact k _ q σ G _ (Same.refl _) (r.fdI (n:=s.jn+n) e b.l) fun _ _=>rfl
def a3V (C:Addr)(i:Nat)(m mj:ME):MS:=fun Γ Q=>m Γ fun d Γ1=>∃ w s,Γ1[i]?=some (.box ((bG C).box w s))∧mj Γ1 fun x Γ2=>∃ k,Γ2[i]?=some (.box ((bG C).box w s))∧x=.int k∧s.kds.length<1000∧Q (.nx (Γ2.set i (.box ((bG C).box w { s with kds:=sU s.kds k d }))))
theorem a3O {K:Fg}{t tj:TE}{m mj:ME}(cl:Cls K C)(na:NoAttr K C "running")(h:VT P0 t m)(hj:VT P0 tj mj):VSA P0 A (aIB (aC2 K (v5 i) "running") tj t) (a3V C i m mj):=by
 intro F Γ σ G H E Qm r hm k;refine h F Γ σ G H _ _ r hm fun d Γ1 v G1 H1 m1 g1 r1 d1=>?_;obtain⟨w,s,e,m1⟩:=m1;obtain⟨kvs,vl,ev,a,b⟩:=r1.fd e (.inl rfl);refine⟨.ref w,ev,w,C,s.d,_,.ref s.p,rfl,a.i,cl,na,rfl,hj F Γ1 σ G1 H1 _ _ r1 m1 fun x Γ2 u G2 H2 m2 g2 r2 d2=>?_⟩;obtain⟨n,e2,rfl,hl,q⟩:=m2;obtain⟨kvs2,vl2,ev2,a2,b2⟩:=r2.fd e2 (.inl rfl)
 cases d2
 refine⟨s.p,_,rfl,DPut.k (k:=Sum.inl n) a2.k (by rw[b2.k.len]; exact Nat.lt_of_lt_of_le hl (by decide)),?_⟩;exact k _ q σ G2 _ (g1.trans g2) (r2.fdK e2 (b2.k.put n (Dt.same g2 _ _ d1))) fun _ _=>rfl
def a7V (C:Addr)(i:Nat)(mj:ME):ME:=fun Γ Q=>∃ w s,Γ[i]?=some (.box ((bG C).box w s))∧mj Γ fun x Γ1=>∃ k d,Γ1[i]?=some (.box ((bG C).box w s))∧x=.int k∧v4 s.kds k=some d∧Q d (Γ1.set i (.box ((bG C).box w { s with kds:=lL s.kds k })))
theorem aB7 {K:Fg}{tj:TE}{mj:ME}(cl:Cls K C)(na:NoAttr K C "running")(hj:VT P0 tj mj):VT P0 (aBZ (aC2 K (v5 i) "running") tj) (a7V C i mj):=by
 intro F Γ σ G H Q Qm r hm k;obtain⟨w,s,e,hm⟩:=hm;obtain⟨kvs,vl,ev,a,b⟩:=r.fd e (.inl rfl);refine⟨.ref w,ev,w,C,s.d,_,.ref s.p,rfl,a.i,cl,na,rfl,s.p,rfl,.inl ⟨kvs,.inl a.k⟩,hj F Γ σ G H _ _ r hm fun x Γ1 y G1 H1 m1 g1 r1 d1=>?_⟩;obtain⟨n,d,e1,rfl,hd,q⟩:=m1;obtain⟨kvs1,vl1,ev1,a1,b1⟩:=r1.fd e1 (.inl rfl)
 cases d1
 obtain⟨v,hv,dv⟩:=b1.k.some hd;exact⟨kvs1,Sum.inl n,v,a1.k,rfl,hv,k _ _ _ _ _ q g1 (r1.fdK e1 (b1.k.drop n)) dv⟩
theorem a7I {m:Str}(hm:∀ s vl,(aLB s vl).lookup m=none){p:Addr}{s:FS}{v:V}{fp:List Addr}{G H:Hp}(h:((bG C).box p s).P v fp G H):∃ dx fs,H p=some (.ins C dx fs)∧fs.lookup m=none:=by
 obtain⟨_,_,kvs,vl,a,_⟩:=h;exact⟨_,_,a.i,hm s vl⟩
def xV (C:Addr):Sp:=fun vs H Q _=>∃(w d:Addr),vs=[.ref w]∧H w=some (.ins C d [])∧∀ p,H p=none→Q .non (upd (upd H p (.dK [])) w (.ins C d [("running", .ref p),("joined", .int 0),("last", .non)]))
def a6M (C:Addr):MO:=fun Γ Q=>∀ w d p,Q (.box ((bG C).box w ⟨d,p,[],0,.none⟩)) Γ
theorem a9K {E:XK}:VO P0 (aHB C (xV C) [] E pW) (a6M C):=by
 intro F Γ σ G H Q Qm r hm k w d hw hd hdw;refine⟨w,d,rfl,bA,fun p hp=>⟨rfl,?_⟩⟩;have pw:p≠w:=fun z=>by rw[z,bA] at hp; cases hp
 have pd:p≠d:=fun z=>by rw[z,aZ hdw,bA] at hp; cases hp
 have hp0:H p=none:=by rw[aZ pw,aZ pd] at hp; exact hp
 have g3:∀ b o,H b=some o→upd (upd (upd (upd H d (.own w)) w (.ins C d [])) p (.dK [])) w (.ins C d [("running", .ref p),("joined", .int 0),("last", .non)]) b=some o:=fun b o e=>by
  rw[aZ (bJ e hw),aZ (bJ e hp0),aZ (bJ e hw),aZ (bJ e hd)];exact e
 have r1:=(((r.newP (o:=.own w) hd).newP (p:=w) (o:=.ins C d []) (by rw[aZ (Ne.symm hdw)]; exact hw)).newP (o:=.dK []) hp);have rf:Rf F G (upd (upd (upd (upd H d (.own w)) w (.ins C d [])) p (.dK [])) w (.ins C d [("running", .ref p),("joined", .int 0),("last", .non)])):=r1.fr.priv (r.fr.fresh hw) (r.fr.gfresh hw);have r2:R F Γ σ G (upd (upd (upd (upd H d (.own w)) w (.ins C d [])) p (.dK [])) w (.ins C d [("running", .ref p),("joined", .int 0),("last", .non)])):=r.keep rf (Same.refl _) fun q u _ _ g h=>⟨g,g3 q u h⟩;have hP:((bG C).box w ⟨d,p,[],0,.none⟩).P (.ref w) [w,d,p] G (upd (upd (upd (upd H d (.own w)) w (.ins C d [])) p (.dK [])) w (.ins C d [("running", .ref p),("joined", .int 0),("last", .non)])):=
  ⟨rfl,rfl,[],.non,⟨bA,(by show upd _ w _ d=_; rw[aZ hdw,aZ (Ne.symm pd),aZ hdw,bA]),(by show upd _ w _ p=_; rw[aZ pw,bA])⟩,⟨.nil,.non⟩⟩
 have fr:∀ b∈[w,d,p],H b=none:=fun b hb=>by
  simp only[List.mem_cons,List.not_mem_nil,or_false] at hb;rcases hb with rfl|rfl|rfl
  ·exact hw
  ·exact hd
  ·exact hp0
 refine k _ _ _ _ _ (hm w d p) (Same.refl _) r2 ⟨[w,d,p],hP,fun b hb=>⟨r.fr.fresh (fr b hb),r.fr.gfresh (fr b hb)⟩⟩ (Apart.newB r (fun fp h b hb=>?_) (Same.refl _) fun b o _ g e=>⟨g,g3 b o e⟩);rw[Bx.uniq _ h hP] at hb;exact fr b hb
end
end
section
variable {P0:Addr→Hp→Prop}{A:Nat→Bool}
end
section
section
variable {i j:Nat}{Γ Γ1:En}{Q:D→En→Prop}{Qf:Fl→Prop}{Qo:Rv→En→Prop}{m ma mj:ME}{kds:List (Int×D)}{d:D}{n:Int}{C w:Addr}{s:FS}{sl:Sl}{mo:MO}
theorem a5Y (h0:Γ[i]?=some (.box ((bG C).box w s)))(h:Q (.int s.jn) Γ):uB C i Γ Q:=⟨w,s,_,h0,.inl rfl,h⟩
theorem aAP (h0:Γ[i]?=some (.box ((bG C).box w s)))(h:Q s.la Γ):xU C i Γ Q:=⟨w,s,_,h0,.inl rfl,h⟩
def fxK (C:Addr)(i:Nat)(w:Addr)(s:FS)(Q:D→En→Prop)(x:D)(Γ1:En):Prop:=(∃ sl,Γ1[i]?=some sl∧InF C w s sl)∧∃ k d,x=.int k∧v4 s.kds k=some d∧Q d Γ1
theorem aHC (h0:Γ[i]?=some (.box ((bG C).box w s)))(h:mj Γ (fxK C i w s Q)):aCV C i mj Γ Q:=⟨w,s,⟨_,h0,.inl rfl⟩,h⟩
theorem aKQ (h0:Γ1[i]?=some (.box ((bG C).box w s)))(hd:v4 s.kds n=some d)(h:Q d Γ1):fxK C i w s Q (.int n) Γ1:=⟨⟨_,h0,.inl rfl⟩,n,d,rfl,hd,h⟩
def fiK (C:Addr)(i:Nat)(Q:D→En→Prop)(x:D)(Γ1:En):Prop:=∃ w s sl k,Γ1[i]?=some sl∧InF C w s sl∧x=.int k∧Q (.bool (v4 s.kds k).isSome) Γ1
theorem aG8 (h:mj Γ (fiK C i Q)):aCY C i mj Γ Q:=h
theorem aIY (h0:Γ1[i]?=some (.box ((bG C).box w s)))(h:Q (.bool (v4 s.kds n).isSome) Γ1):fiK C i Q (.int n) Γ1:=⟨w,s,_,n,h0,.inl rfl,rfl,h⟩
theorem aDJ (h0:Γ[i]?=some (.box ((bG C).box w s)))(h:Q (.int (s.kds.length:Int)) Γ):a94 C i Γ Q:=⟨w,s,_,h0,.inl rfl,h⟩
def aLM (C:Addr)(i:Nat)(Q:Fl→Prop)(d:D)(Γ1:En):Prop:=∃ w s,Γ1[i]?=some (.box ((bG C).box w s))∧Q (.nx (Γ1.set i (.box ((bG C).box w { s with la:=d }))))
theorem a7M (h:m Γ (aLM C i Qf)):wV C i m Γ Qf:=h
theorem aHX (h0:Γ1[i]?=some (.box ((bG C).box w s)))(h:Qf (.nx (Γ1.set i (.box ((bG C).box w { s with la:=d }))))):aLM C i Qf d Γ1:=⟨w,s,h0,h⟩
theorem a6K (h0:Γ[i]?=some (.box ((bG C).box w s)))(h:Qf (.nx (Γ.set i (.box ((bG C).box w { s with jn:=s.jn+n }))))):xK C i n Γ Qf:=⟨w,s,h0,h⟩
def fpK (C:Addr)(i:Nat)(d:D)(w:Addr)(s:FS)(Q:Fl→Prop)(x:D)(Γ2:En):Prop:=∃ k,Γ2[i]?=some (.box ((bG C).box w s))∧x=.int k∧s.kds.length<1000∧Q (.nx (Γ2.set i (.box ((bG C).box w { s with kds:=sU s.kds k d }))))
def fpJ (C:Addr)(i:Nat)(mj:ME)(Q:Fl→Prop)(d:D)(Γ1:En):Prop:=∃ w s,Γ1[i]?=some (.box ((bG C).box w s))∧mj Γ1 (fpK C i d w s Q)
theorem aEK (h:m Γ (fpJ C i mj Qf)):a3V C i m mj Γ Qf:=h
theorem aK6 (h0:Γ1[i]?=some (.box ((bG C).box w s)))(h:mj Γ1 (fpK C i d w s Qf)):fpJ C i mj Qf d Γ1:=⟨w,s,h0,h⟩
theorem aGB (h0:Γ1[i]?=some (.box ((bG C).box w s)))(hl:s.kds.length<1000)(h:Qf (.nx (Γ1.set i (.box ((bG C).box w { s with kds:=sU s.kds n d }))))):fpK C i d w s Qf (.int n) Γ1:=⟨n,h0,rfl,hl,h⟩
def fqK (C:Addr)(i:Nat)(w:Addr)(s:FS)(Q:D→En→Prop)(x:D)(Γ1:En):Prop:=∃ k d,Γ1[i]?=some (.box ((bG C).box w s))∧x=.int k∧v4 s.kds k=some d∧Q d (Γ1.set i (.box ((bG C).box w { s with kds:=lL s.kds k })))
theorem aCO (h0:Γ[i]?=some (.box ((bG C).box w s)))(h:mj Γ (fqK C i w s Q)):a7V C i mj Γ Q:=⟨w,s,h0,h⟩
theorem aIW (h0:Γ1[i]?=some (.box ((bG C).box w s)))(hd:v4 s.kds n=some d)(h:Q d (Γ1.set i (.box ((bG C).box w { s with kds:=lL s.kds n })))):fqK C i w s Q (.int n) Γ1:=⟨n,d,h0,rfl,hd,h⟩
theorem aDB (h:∀ w d p,Qo (.box ((bG C).box w ⟨d,p,[],0,.none⟩)) Γ):a6M C Γ Qo:=h
end
end
end L2.VS
namespace L2
open PySem PySem.Spec PyProof.Rows
theorem a5S {X:Cx}{pins:List (Addr×Obj)}{σ:St}{H:Hp}{s:Shared}{A:Around}{E:Value→Shared→Prop}{Q:Value→Shared→Prop}{b:Bool}{x:V}{u:Value}{n:String}{tp:Addr}{dd:Option Addr}{its:List Value}{m:Nat}{sl:Array (Option Value)}
  (I:Inv X pins σ H s) (rx:RelV x u) (ty:TyOf X.K H x (.type n)) (ht:s.heap.get? tp=some ⟨.type "tuple", dd,.seq its.toArray m,sl⟩) (e:PySem.W.kitAny X.K (.type n) its=some b) (h:∀ tk,Q (.bool b) { s with toks:=tk }) :
  wpAny (model X.prog X.w) A (call (.builtin "isinstance") [u,.ref tp]) Q E s:=by
 generalize hT:Value.type n=t at *
 cases ty with
 | non=>cases(show u=Value.none from rx); exact PySem.W.kia_tup PySem.W.kitx_none I.kIn True.intro ht e (fun z=>nomatch z) h
 | bl y=>cases(show u=Value.bool y from rx); exact PySem.W.kia_tup PySem.W.kitx_bool I.kIn True.intro ht e (fun z=>nomatch z) h
 | int i=>obtain⟨t,q⟩:=(show ∃ t,u=Value.int i t from rx); cases q; exact PySem.W.kia_tup PySem.W.kitx_int I.kIn True.intro ht e (fun z=>nomatch z) h
 | str y=>obtain⟨t,q⟩:=(show ∃ t,u=Value.str y t from rx); cases q; exact PySem.W.kia_tup PySem.W.kitx_str I.kIn True.intro ht e (fun z=>nomatch z) h
 | flt y=>obtain⟨t,q⟩:=(show ∃ t,u=Value.float y t from rx); cases q; exact PySem.W.kia_tup PySem.W.kitx_float I.kIn True.intro ht e (fun z=>nomatch z) h
 | @lst a xs ea=>
  cases(show u=Value.ref a from rx)
  obtain⟨_,_,n,_,h1⟩:=(show ObjOk X.prog X.w H s.heap a (.lst xs) from I.hok a _ ea);exact PySem.W.kia_tup PySem.W.kitx_list I.kIn ⟨_,h1,rfl⟩ ht e (fun z=>nomatch z) h
 | @frz a ob xs ea=>
  cases(show u=Value.ref a from rx)
  obtain⟨_,_,_,n,_,h1⟩:=(show ObjOk X.prog X.w H s.heap a (.frz ob (.lst xs)) from I.hok a _ ea);exact PySem.W.kia_tup PySem.W.kitx_list I.kIn ⟨_,h1,rfl⟩ ht e (fun z=>nomatch z) h
 | @tup a xs ea=>
  cases(show u=Value.ref a from rx)
  obtain⟨_,_,_,p⟩:=(show ObjOk X.prog X.w H s.heap a (.tup xs) from I.hok a _ ea);obtain⟨o,h1,h2,_⟩:=p;exact PySem.W.kia_tup PySem.W.kitx_tuple I.kIn ⟨o,h1,h2⟩ ht e (fun z=>nomatch z) h
 | @dK a kvs ea=>
  cases(show u=Value.ref a from rx)
  obtain⟨_,_,vs,_,p⟩:=(show ObjOk X.prog X.w H s.heap a (.dK kvs) from I.hok a _ ea);obtain⟨o,es,ep,h1,h2,_⟩:=p;exact PySem.W.kia_tup PySem.W.kitx_dict I.kIn ⟨o,h1,h2.1⟩ ht e (fun z=>nomatch z) h
 | @fdK a ob kvs ea=>
  cases(show u=Value.ref a from rx)
  obtain⟨_,_,_,vs,_,p⟩:=(show ObjOk X.prog X.w H s.heap a (.frz ob (.dK kvs)) from I.hok a _ ea);obtain⟨o,es,ep,h1,h2,_⟩:=p;exact PySem.W.kia_tup PySem.W.kitx_dict I.kIn ⟨o,h1,h2.1⟩ ht e (fun z=>nomatch z) h
 | @dT a kvs ea=>
  cases(show u=Value.ref a from rx)
  obtain⟨_,_,xs,_,o,es,ep,h1,h2,_⟩:=(show ObjOk X.prog X.w H s.heap a (.dT kvs) from I.hok a _ ea);exact PySem.W.kia_tup PySem.W.kitx_dict I.kIn ⟨o,h1,h2.1⟩ ht e (fun z=>nomatch z) h
 | ins=>cases hT
theorem aDM {K:Fg}{t c d:Value}{a b:Bool}(h1:PySem.W.kitOne K t c=some a)(h2:PySem.W.kitOne K t d=some b):PySem.W.kitAny K t [c,d]=some (a||b):=by
 unfold PySem.W.kitAny;rw[h1]
 cases a with
 | true=>rfl
 | false=>
  unfold PySem.W.kitAny;rw[h2]
  cases b<;>rfl
def aFS (K:Fg)(a b:String):List V→Hp→VK→Prop:=fun xs H Q=>∃(x:V) (tp:Addr) (n:String) (i j:Bool),xs=[x,.ref tp]∧TyOf K H x (.type n)∧H tp=some (.tup [.ty a,.ty b])∧PySem.W.kitOne K (.type n) (.type a)=some i∧PySem.W.kitOne K (.type n) (.type b)=some j∧Q (.bl (i||j)) H
theorem pK {X:Cx}{a b:String}:rF X (.builtin "isinstance") (aFS X.K a b):=by
 intro pins s σ H xs us Q I r h;obtain⟨x,tp,n,i,j,rfl,ty,ht,h1,h2,q⟩:=h
 cases r with
 | cons r1 r=>
  cases r with
  | cons r2 r=>
   cases r
   have e2:=(show _=Value.ref tp from r2);subst e2;obtain⟨_,its,rv,o,g1,g2,m,g3⟩:=(show ObjOk X.prog X.w H s.heap tp (.tup [.ty a,.ty b]) from I.hok tp _ ht);have ei:its=[Value.type a,Value.type b]:=by
    cases rv with
    | cons a0 r0=>
     cases r0 with
     | cons a1 r1=>
      cases r1
      cases(show _=Value.type a from a0)
      cases(show _=Value.type b from a1)
      rfl
   subst ei;obtain⟨oc,od,dt,sl⟩:=o;dsimp only at g2 g3;subst g2 g3;exact a5S I r1 ty g1 (aDM h1 h2) fun tk=>⟨.bl (i||j),H,I.tok _,rfl,q⟩
end L2
namespace L2.VS
open PySem PySem.Spec PyProof.Rows
section
variable {P0:Addr→Hp→Prop}
def aDS (a b:String)(ma:ME):ME:=fun Γ Q=>ma Γ fun x Γ1=>Q (.bool (qX (eO x) a||qX (eO x) b)) Γ1
theorem xT {K:Fg}{a b:String}{ta:TE}{ma:ME}(hk:Kit K)(ha:a∈tyL)(hb:b∈tyL)(h:VT P0 ta ma):VT P0 (tCB (aFS K a b) (dN ta (dN (aIH (dN (tC (.ty a)) (dN (tC (.ty b)) pW))) pW))) (aDS a b ma):=by
 intro F Γ σ G H Q Qm r m k;refine h F Γ σ G H _ _ r m fun d Γ1 x G1 H1 m1 s1 r1 d1=>?_;obtain⟨h1,h2⟩:=a0Y (K:=K) (Dt.same r1.fr.sub _ _ d1);refine⟨a2W rfl,fun tp htp=>?_⟩;have g:=gB htp (.tup [.ty a,.ty b]);obtain⟨h3,_⟩:=a0Y (K:=K) (Dt.same g _ _ (Dt.same r1.fr.sub _ _ d1));exact⟨x,tp,_,_,_,rfl,h3,bA,hk _ h2 _ ha,hk _ h2 _ hb,k _ _ _ _ _ m1 s1 (r1.newP htp) (.bl _)⟩
theorem a07 {a b:String}{ma:ME}{Γ:En}{Q:D→En→Prop}(h:ma Γ fun x Γ1=>Q (.bool (qX (eO x) a||qX (eO x) b)) Γ1):aDS a b ma Γ Q:=h
def mNo:Fm:=fun _ _=>False
theorem aG2 {P:Program}{w:World}{K:Fg}{mg:Mg}{base:Heap}{k n:Nat}{x:Str}{ps:List Str}{f:Addr}{fd:FuncData}(hm:mg x=some (.ref f))(kp:PySem.W.keepIn K (.ref f)=true)(b:Binds K fd ps []):Cal P w K mg base k x ps (spM P0 n mNo):=
 ⟨f,fd,⟨fun vs H Q E h=>by obtain⟨_,_,_,_,_,_,_,hm,_⟩:=h; exact hm.elim,fun _ _ _ _ _ _ _ _ _ _ _ _ _ h=>by obtain⟨_,_,_,_,_,_,_,hm,_⟩:=h; exact hm.elim⟩,hm,kp,b⟩
end
section
variable {P0:Addr→Hp→Prop}{K:Fg}
end
section
variable {P0:Addr→Hp→Prop}{A:Nat→Bool}{S:Type}
def Fra.hold (F:Fra P0){G H:Hp}(rf:Rf F G H)(fp:List Addr)(hF:∀ b∈fp,F.H0 b=none):Fra P0 where
 H0:=fun b=>if b∈fp then H b else F.H0 b
 G0:=fun b=>if b∈fp then none else F.G0 b
 pen:=F.pen
 stab:=fun p e H1 H2 h=>F.stab p e H1 H2 fun b o z=>h b o (by rw[if_neg (fun hb=>by rw[hF b hb] at z; cases z)]; exact z)
 pin:=F.pin
 pin0:=fun p e=>by
  obtain⟨o,z⟩:=F.pin0 p e;exact⟨o,by rw[if_neg (fun hb=>by rw[hF p hb] at z; cases z)]; exact z⟩
 pg:=fun p e=>by
  split
  ·rfl
  ·exact F.pg p e
section
variable {F:Fra P0}{Γ:En}{σ:St}{G H:Hp}{fp:List Addr}
theorem SlF.frame {F F':Fra P0}{G H:Hp}{x:Option (Option V)}{fp:List Addr}(hp:F'.pen=F.pen)(k:∀ b∈fp,F.H0 b=none→F'.H0 b=none):∀{s:Sl},SlF F G H x fp s→SlF F' G H x fp s
 | .no,h=>h
 | .val _,h=>h
 | .own _,h=>by
  obtain⟨p,vs,e,e1,e2,r⟩:=h;exact⟨p,vs,e,e1,k p (by rw[e]; exact List.mem_singleton.mpr rfl) e2,r⟩
 | .pen,h=>by
  obtain⟨e,p,e1,e2⟩:=h;exact⟨e,p,e1,hp.trans e2⟩
 | .con _,h=>h
 | .pub _,h=>h
 | .box B,h=>by
  obtain⟨v,h1,h2,h3⟩:=h;exact⟨v,h1,h2,fun b hb=>⟨k b hb (h3 b hb).1,(h3 b hb).2⟩⟩
theorem R.hold (r:R F Γ σ G H)(hF:∀ b∈fp,F.H0 b=none∧G b=none)(ap:∀(i:Nat) s f,Γ[i]?=some s→SlF F G H σ[i]? f s→∀ b∈fp,b∉f):R (F.hold r.fr fp fun b hb=>(hF b hb).1) Γ σ G H:=by
 obtain⟨fps,h1,h2⟩:=r.fps;refine⟨⟨r.fr.sub,fun b o z=>?_,fun b o z hb=>?_,r.fr.pn⟩,r.len,fps,fun i s e=>SlF.frame (F:=F) (F':=F.hold r.fr fp fun b hb=>(hF b hb).1) rfl (fun b hb z=>?_) (h1 i s e),h2⟩
 ·have z:(if b∈fp then H b else F.H0 b)=some o:=z;show G b=if b∈fp then none else F.G0 b
  split at z
  ·rename_i h; rw[if_pos h]; exact(hF b h).2
  ·rename_i h; rw[if_neg h]; exact r.fr.g0 b o z
 ·have z:(if b∈fp then H b else F.H0 b)=some o:=z
  split at z
  ·exact z
  ·exact r.fr.h0 b o z hb
 ·show(if b∈fp then H b else F.H0 b)=none
  rw[if_neg (fun h=>ap i s _ e (h1 i s e) b h hb)];exact z
theorem R.unhold {rf:Rf F G H}{hF:∀ b∈fp,F.H0 b=none}{Γ':En}{σ':St}{G' H':Hp}(hH:∀ b∈fp,∃ o,H b=some o)(r:R (F.hold rf fp hF) Γ' σ' G' H') :
  R F Γ' σ' G' H'∧(∀ b∈fp,H' b=H b∧G' b=none)∧∀(i:Nat) s f,Γ'[i]?=some s→SlF F G' H' σ'[i]? f s→∀ b∈fp,b∉f:=by
 obtain⟨fps,h1,h2⟩:=r.fps;have in_:∀ b∈fp,∃ o,(F.hold rf fp hF).H0 b=some o∧H b=some o:=fun b hb=>by
  obtain⟨o,ho⟩:=hH b hb;exact⟨o,by show(if b∈fp then H b else F.H0 b)=_; rw[if_pos hb]; exact ho,ho⟩
 have out:∀ b o,F.H0 b=some o→b∉fp∧(F.hold rf fp hF).H0 b=some o:=fun b o z=>by
  have hb:b∉fp:=fun h=>by rw[hF b h] at z; cases z
  exact⟨hb,by show(if b∈fp then H b else F.H0 b)=_; rw[if_neg hb]; exact z⟩
 have nF:∀ b,(F.hold rf fp hF).H0 b=none→F.H0 b=none:=fun b z=>by
  cases y:F.H0 b with
  | none=>rfl
  | some o=>rw[(out b o y).2] at z; cases z
 have sl:∀(i:Nat) s,Γ'[i]?=some s→SlF F G' H' σ'[i]? (fps i) s:=fun i s e=>SlF.frame (F:=F.hold rf fp hF) (F':=F) rfl (fun b _ z=>nF b z) (h1 i s e);refine⟨⟨⟨r.fr.sub,fun b o z=>?_,fun b o z hb=>r.fr.h0 b o (out b o z).2 hb,r.fr.pn⟩,r.len,fps,sl,h2⟩,fun b hb=>?_,fun i s f e hf b hb hc=>?_⟩
 ·have y:=r.fr.g0 b o (out b o z).2;rw[y]
  show(if b∈fp then none else F.G0 b)=_
  rw[if_neg (out b o z).1]
 ·obtain⟨o,ho,hH'⟩:=in_ b hb;refine⟨?_,?_⟩
  ·rw[hH'];refine r.fr.h0 b o ho fun z=>?_;obtain⟨o',z'⟩:=F.pin0 b z;rw[hF b hb] at z'; cases z'
  ·rw[r.fr.g0 b o ho]
   show(if b∈fp then none else F.G0 b)=none
   rw[if_pos hb]
 ·rw[SlF.det hf (sl i s e)] at hc;obtain⟨z,_⟩:=(h1 i s e).mine hc;obtain⟨o,ho,_⟩:=in_ b hb;rw[ho] at z; cases z
end
end
end L2.VS
namespace L2
open PySem PySem.Spec PyProof.Rows
section
variable {X:Cx}
theorem lQ {a b:PySem.Str}(h:a.cps.toList=b.cps.toList):a=b:=by
 obtain⟨a⟩:=a;obtain⟨b⟩:=b;have:a=b:=Array.toList_inj.mp h;rw[this]
theorem xN (a b:PySem.Str):(a++b).cps.toList=a.cps.toList++b.cps.toList:=Array.toList_append
theorem a3X {a:PySem.Str}(h:(a.length==0)=true):a.cps.toList=[]:=by
 have h:a.cps.size=0:=beq_iff_eq.mp h;exact List.eq_nil_of_length_eq_zero (by rw[Array.length_toList]; exact h)
def aI9:R2:=fun x y H Q=>∃ a b:PySem.Str,x=.str a∧y=.str b∧(a++b).length≤sizeLine∧Q (.str (a++b)) H
theorem a8X:OpR X (binaryOp .Add) aI9:=by
 intro pins s σ H x y v u Q I rx ry h;obtain⟨a,b,rfl,rfl,hz,q⟩:=h;obtain⟨t,rfl⟩:=rx;obtain⟨t',rfl⟩:=ry;refine P.add_str ?_
 by_cases c:(a.length==0)=true
 ·rw[if_pos c];have e:a++b=b:=lQ (by rw[xN,a3X c,List.nil_append]);rw[e] at q;exact⟨.str b,H,I,⟨_,rfl⟩,q⟩
 ·rw[if_neg c]
  by_cases d:(b.length==0)=true
  ·rw[if_pos d];have e:a++b=a:=lQ (by rw[xN,a3X d,List.append_nil]);rw[e] at q;exact⟨.str a,H,I,⟨_,rfl⟩,q⟩
  ·rw[if_neg d];exact⟨hz,.str (a++b),H,I.tok _,⟨_,rfl⟩,q⟩
def txI (i:Int):PySem.Str:=PySem.Str.ofString (toString i)
def aGA:List V→Hp→VK→Prop:=fun xs H Q=>(∃ i:Int,xs=[.int i]∧i.natAbs.log2<1920∧Q (.str (txI i)) H)∨∃ a,xs=[.str a]∧Q (.str a) H
theorem jR:rF X (.type "str") aGA:=by
 intro pins s σ H xs us Q I r h;rcases h with⟨i,rfl,hi,q⟩|⟨a,rfl,q⟩
 ·obtain⟨u,rfl,t,rfl⟩:=vals1 r;exact P.str_of_int hi ⟨.str (txI i),H,I.tok _,⟨_,rfl⟩,q⟩
 ·obtain⟨u,rfl,t,rfl⟩:=vals1 r;exact P.str_of_str ⟨.str a,H,I,⟨_,rfl⟩,q⟩
def aHM:List V→Hp→VK→Prop:=fun xs H Q=>∃ a:PySem.Str,xs=[.str a]∧a.length≤sizeLine∧Q (.int (a.length:Int)) H
theorem a83:rF X (.builtin "len") aHM:=by
 intro pins s σ H xs us Q I r h;obtain⟨a,rfl,hl,q⟩:=h;obtain⟨u,rfl,t,rfl⟩:=vals1 r;have h63:=wD;exact P.len_str (by omega) ⟨.int (a.length:Int),H,I.tok _,⟨_,rfl⟩,q⟩
def inS (a b:PySem.Str):Bool := !(Builtin.Str.occurrences b a 0 b.length 1).isEmpty
def aLK:R2:=fun x y H Q=>∃ a b:PySem.Str,x=.str a∧y=.str b∧Q (.bl (inS a b)) H
theorem aHN:OpR X (compareOp .In) aLK:=by
 intro pins s σ H x y v u Q I rx ry h;obtain⟨a,b,rfl,rfl,q⟩:=h;obtain⟨t,rfl⟩:=rx;obtain⟨t',rfl⟩:=ry;exact P.in_str ⟨.bl (inS a b),H,I,rfl,q⟩
def a6Q:V→List V→Hp→VK→Prop:=fun x vs H Q=>∃ a b:PySem.Str,x=.str a∧vs=[.str b]∧Q (.bl (Txt.startswith a b)) H
theorem a92:MtR X "str.startswith" a6Q:=by
 intro pins s σ H x vs v us Q I rx rv h;obtain⟨a,b,rfl,rfl,q⟩:=h;obtain⟨t,rfl⟩:=rx;obtain⟨u,rfl,t',rfl⟩:=rv.one;exact SC.startswith ⟨.bl (Txt.startswith a b),H,I,rfl,q⟩
def aHY:List V→Hp→VK→Prop:=fun xs H Q=>∃(a:PySem.Str) (n:Int),xs=[.str a]∧PySem.intText? a=some n∧a.length≤640∧Q (.int n) H
theorem a73:rF X (.type "int") aHY:=by
 intro pins s σ H xs us Q I r h;obtain⟨a,n,rfl,hn,hl,q⟩:=h;obtain⟨u,rfl,t,rfl⟩:=vals1 r;exact PySem.W.KIN.call_text hn hl ⟨.int n,H,I.tok _,⟨_,rfl⟩,q⟩
theorem zW:∀{ts:List PySem.Str} {its:List Value},Vals (ts.map V.str) its→∃ l:List (PySem.Str×Tok),its=strValues l∧l.map (·.1)=ts
 | [],its,h=>by cases h; exact⟨[],rfl,rfl⟩
 | a::ts,its,h=>by
  cases h with
  | cons r t=>
   obtain⟨tk,rfl⟩:=r;obtain⟨l,rfl,e⟩:=zW t;exact⟨(a,tk)::l,rfl,by rw[List.map_cons,e]⟩
theorem s8:∀(l:List (PySem.Str×Tok)),Vals ((l.map (·.1)).map V.str) (strValues l)
 | []=>.nil
 | p::l=>.cons ⟨p.2,rfl⟩ (s8 l)
def rJoin (K:Fg):V→List V→Hp→VK→Prop:=fun x vs H Q=>∃(a:PySem.Str) (p:Addr) (ts:List PySem.Str),x=.str a∧vs=[.ref p]∧SqL K H p (ts.map V.str)∧JoinOk a ts=true∧Q (.str (Txt.join a ts)) H
theorem yG:MtR X "str.join" (rJoin X.K):=by
 intro pins s σ H x vs v us Q I rx rv h;obtain⟨a,p,ts,rfl,rfl,hq,hok,q⟩:=h;obtain⟨t,rfl⟩:=rx;obtain⟨u,rfl,ru⟩:=rv.one
 cases ru
 obtain⟨its,r',pl,hz⟩:=I.list hq;obtain⟨l,rfl,e⟩:=zW r';exact SC.join pl.isList e hok fun t' k=>⟨.str (Txt.join a ts),H,I.tok k,⟨_,rfl⟩,q⟩
def aBH:V→List V→Hp→VK→Prop:=fun x vs H Q=>∃ a b:PySem.Str,x=.str a∧vs=[.str b]∧(b.length==0)=false∧a.length≤sizeLine∧(Txt.split a b).length≤sizeLine∧∀ q,H q=none→Q (.ref q) (upd H q (.lst ((Txt.split a b).map V.str)))
theorem wR:MtR X "str.split" aBH:=by
 intro pins s σ H x vs v us Q I rx rv h;obtain⟨a,b,rfl,rfl,hy,hz,hz2,q⟩:=h;obtain⟨t,rfl⟩:=rx;obtain⟨u,rfl,t',rfl⟩:=rv.one;have fin:∀(l:List (PySem.Str×Tok)) (k:Nat),l.map (·.1)=Txt.split a b→EP X pins σ Q (.ref s.heap.objs.size) { s with heap:=s.heap.push { cls:=.type "list", data:=.seq (strValues l).toArray },toks:=k }:=fun l k e=>by
  have vs:=s8 l;rw[e] at vs;exact⟨.ref _,_,I.lnew (t':=k) vs (by rw[List.length_map]; exact hz2),rfl,q _ I.fresh⟩
 cases h1:(decide (a.length<b.length)||decide (Builtin.Str.strKind a<Builtin.Str.strKind b)) with
 | false=>
  cases hf:(Builtin.Str.occurrences a b 0 a.length (a.length+1)).isEmpty with
  | false=>
   have es:Txt.split a b=Builtin.Str.partsBetween a (Builtin.Str.occurrences a b 0 a.length (a.length+1)) b.length:=(if_neg (ne_true_of_eq_false h1)).trans (if_neg (ne_true_of_eq_false hf));rw[es] at hz2;refine call_meets F.slot_str_split (typeIs_str _ _ _) F.entry_str_split (F.args_str_split_2 _ _) (meets_str_split_sep a b _ _ h1 hy hf hz hz2) ?_;show wants _ X.xe _ { s with toks:=_,heap:=s.heap.push { cls:=.type "list", data:=.seq (strsFrom s.toks (Builtin.Str.partsBetween a (Builtin.Str.occurrences a b 0 a.length (a.length+1)) b.length)).toArray } };rw[strsFrom_eq];exact fin _ _ ((numbered_texts _ _).trans es.symm)
  | true=>exact call_meets F.slot_str_split (typeIs_str _ _ _) F.entry_str_split (F.args_str_split_2 _ _) (meets_str_split_not_found a b _ _ h1 hy hf) (fin [(a,t)] s.toks ((if_neg (ne_true_of_eq_false h1)).trans (if_pos hf)).symm)
 | true=>exact call_meets F.slot_str_split (typeIs_str _ _ _) F.entry_str_split (F.args_str_split_2 _ _) (meets_str_split_cannot_occur a b _ _ h1) (fin [(a,t)] s.toks (if_pos h1).symm)
def ItS (x:PySem.Str):It:=⟨fun i _=>i<x.cps.size,fun i H v H'=>H'=H∧∃ c,x.cps[i]?=some c∧v=.str ⟨#[c]⟩,fun i _=>i=x.cps.size⟩
theorem a3L {P:Program}{w:World}{K:Fg}{tg:Expr}{x:PySem.Str}{t:Tok}{it:Addr}{ty:String}(W:∀ A':Around,A'.handled=none→Walks P w A' it [it] [it] x.cps.size (SignAt x) (fun i h=>h.IsStrIter it ty x t i))
  (hs:∀(A:Around) (i:Nat) (s:Shared) (Q:Value→Shared→Prop) (E:Value→Shared→Prop),s.heap.IsStrIter it ty x t i→Q (.ref it) s→wpAny (model P w) A (pyIter (.ref it)) Q E s)
  (hn:["enumerate", "zip", "dict_itemiterator", "dict_reverseitemiterator", "odict_iterator", "itertools.zip_longest", "itertools.pairwise"].contains ty=false) :
  Turn P w K tg (ItS x) [it] it (fun i h=>h.IsStrIter it ty x t i) where
 mem:=by simp
 obj:=fun i h st b hb=>by
  have e:b=it:=by simpa using hb
  subst e;obtain⟨o,e,c,d⟩:=st;exact⟨o,e,fun v z=>by rw[d] at z; cases z⟩
 keep:=fun i h h' st k=>let ⟨o,ho,r⟩:=st; ⟨o,k it (by simp) o ho,r⟩
 item:=by
  intro X hP hw hK hc i pins s σ H E I hf st hg;subst hP hw hK;obtain⟨f0,f1,f2,f3,f4,f5⟩:=hf it (by simp);refine(W X.A (I.ok.hd hc)).item i s _ _ hg st fun v h' tk hv st' kk=>?_;obtain⟨c,u,hc',rfl⟩:=hv;have I1:Inv X pins σ H { s with heap:=h',toks:=tk }:=I.turned (fun b o hb e=>kk b o (by simpa using hb) e) f0 f1 f3 f4 f5;obtain⟨o,e,cl,d⟩:=id st';exact⟨_,rfl,a9I (s:={ s with heap:=h',toks:=tk }) e cl d hn ⟨.str ⟨#[c]⟩,H,I1,⟨u,rfl⟩,⟨rfl,c,hc',rfl⟩,st',fun b hb=>(hf b hb).1⟩⟩
 done:=by
  intro X hP hw hK hc i pins s σ H E I hf st hg;subst hP hw hK;obtain⟨f0,f1,f2,f3,f4,f5⟩:=hf it (by simp);have hg:i=x.cps.size:=hg;subst hg;exact(W X.A (I.ok.hd hc)).done s _ _ st fun h' tk kk=>⟨rfl,I.turned (fun b o hb e=>kk b o (by simpa using hb) e) f0 f1 f3 f4 f5⟩
 self:=hs
def aLR (tl:TE):TI:=fun σ H R=>tl σ H fun v H1=>∃ x,v=.str x∧R (ItS x) H1
theorem aIC {tg:Expr}{l:Expr}{tl:TE}(hl:PE X l tl):PI X tg l (aLR tl):=by
 intro pins s σ H R I h;refine thn (hl pins s σ H _ I h) fun v s1 ⟨y,H1,I1,r1,x,e,q⟩=>?_;subst e;obtain⟨t,rfl⟩:=r1;have fp:∀ b∈[s1.heap.objs.size],a4Q X pins H1 b:=fun b hb=>by
  have e:b=s1.heap.objs.size:=by simpa using hb
  subst e;exact I1.fpOk (Nat.le_refl _) (I1.hok.fresh (Nat.le_refl _))
 cases ha:x.cps.all (·<128) with
 | false=>exact wpAny_pyIter_wide ha ⟨s1.heap.objs.size,[s1.heap.objs.size],_,_,H1,rfl,I1.kept (t':=s1.toks) fun b o e=>Heap.get?_push_of_some _ e,a3L (fun A' hA=>Walks.strWide hA _ x t) (fun A i s Q E st h=>wpAny_pyIter_striter_wide st h) (by decide),⟨_,Heap.get?_push_size _ rfl,rfl,rfl⟩,fp,q⟩
 | true=>exact wpAny_pyIter_ascii ha ⟨s1.heap.objs.size,[s1.heap.objs.size],_,_,H1,rfl,I1.kept (t':=s1.toks) fun b o e=>Heap.get?_push_of_some _ e,a3L (fun A' hA=>Walks.strAscii hA _ x t) (fun A i s Q E st h=>wpAny_pyIter_striter_ascii st h) (by decide),⟨_,Heap.get?_push_size _ rfl,rfl,rfl⟩,fp,q⟩
def aEW (x:PySem.Str)(lo hi:Option Int):PySem.Str:=if ((Builtin.Str.strSliceIndices lo hi 1 x.length).length==x.length)=true then x else⟨((Builtin.Str.strSliceIndices lo hi 1 x.length).filterMap (x.cps[·]?)).toArray⟩
def aLI:V→Option Int→Option Int→Hp→VK→Prop:=fun v lo hi H Q=>∃ x:PySem.Str,v=.str x∧x.length≤sizeLine∧Q (.str (aEW x lo hi)) H
theorem aFU:SlR X aLI:=by
 intro pins s σ H y v vl vu lo hi sl Q I rx hs pl pu h;obtain⟨x,rfl,hz,q⟩:=h;obtain⟨t,rfl⟩:=rx;have part:∀{v:Value} {o:Option Int},IsPart v o→∃ p:Option (Int×Tok),v=partValue p∧p.map (·.1)=o:=fun{v o} h=>by
  cases h with
  | none=>exact⟨none,rfl,rfl⟩
  | int i t=>exact⟨some (i,t),rfl,rfl⟩
 obtain⟨l,rfl,el⟩:=part pl;obtain⟨u,rfl,eu⟩:=part pu;refine⟨"str", _,F.slot_str_getitem.lookup,typeIs_str _ _ _,?_⟩;refine wpAny_getItem_str_slice (l:=l) (u:=u) (st:=none) hs rfl ?_;have hle:(Builtin.Str.strSliceIndices lo hi 1 x.length).length≤x.length:=sliceIndices_le lo hi x.length;unfold sliceMade slicePicked;rw[el,eu];unfold aEW at q
 show(if (true&&((Builtin.Str.strSliceIndices lo hi 1 x.length).length==x.length))=true then _ else _:Made).post _ s
 rw[Bool.true_and]
 by_cases c:((Builtin.Str.strSliceIndices lo hi 1 x.length).length==x.length)=true
 ·rw[if_pos c];rw[if_pos c] at q;exact⟨.str x,H,I,⟨_,rfl⟩,q⟩
 ·rw[if_neg c];rw[if_neg c] at q;refine⟨?_,.str _,H,I.tok _,⟨_,rfl⟩,q⟩
  show(List.toArray _).size≤sizeLine
  rw[List.size_toArray];exact Nat.le_trans (List.length_filterMap_le _ _) (Nat.le_trans hle hz)
end
end L2
namespace L2.VS
open PySem PySem.Spec PyProof.Rows
section
variable {P0:Addr→Hp→Prop}
def saK (x:D)(Q:D→En→Prop)(y:D)(Γ:En):Prop:=∃ a b:PySem.Str,x=.str a∧y=.str b∧(a++b).length≤1000000∧Q (.str (a++b)) Γ
def saJ (mb:ME)(Q:D→En→Prop)(x:D)(Γ:En):Prop:=mb Γ (saK x Q)
def aAD (ma mb:ME):ME:=fun Γ Q=>ma Γ (saJ mb Q)
theorem aC9 {n:Nat}(h:n≤1000000):n≤sizeLine:=Nat.le_trans h (by rw[sizeLine_eq]; decide)
theorem a7N {ta tb:TE}{ma mb:ME}(ha:VT P0 ta ma)(hb:VT P0 tb mb):VT P0 (tOp aI9 ta tb) (aAD ma mb):=by
 intro F Γ σ G H Q Qm r m k;refine ha F Γ σ G H _ _ r m fun d Γ1 x G1 H1 m1 s1 r1 d1=>?_;refine hb F Γ1 σ G1 H1 _ _ r1 m1 fun e Γ2 y G2 H2 m2 s2 r2 d2=>?_;obtain⟨a,b,rfl,rfl,hz,q⟩:=m2
 cases d1
 cases d2
 exact⟨a,b,rfl,rfl,aC9 hz,k _ _ _ _ _ q (s1.trans s2) r2 (.str _)⟩
def txK (Q:D→En→Prop)(x:D)(Γ:En):Prop:=(∃ i:Int,x=.int i∧i.natAbs.log2<1920∧Q (.str (txI i)) Γ)∨∃ a,x=.str a∧Q (.str a) Γ
def aBV (ma:ME):ME:=fun Γ Q=>ma Γ (txK Q)
theorem rH {ta:TE}{ma:ME}(ha:VT P0 ta ma):VT P0 (tCB aGA (dN ta pW)) (aBV ma):=by
 intro F Γ σ G H Q Qm r m k;refine ha F Γ σ G H _ _ r m fun d Γ1 x G1 H1 m1 s1 r1 d1=>?_;rcases m1 with⟨i,rfl,hi,q⟩|⟨a,rfl,q⟩
 ·cases d1
  exact .inl ⟨i,rfl,hi,k _ _ _ _ _ q s1 r1 (.str _)⟩
 ·cases d1
  exact .inr ⟨a,rfl,k _ _ _ _ _ q s1 r1 (.str _)⟩
def lsK (Q:D→En→Prop)(x:D)(Γ:En):Prop:=∃ a:PySem.Str,x=.str a∧a.length≤1000000∧Q (.int (a.length:Int)) Γ
def aCT (ma:ME):ME:=fun Γ Q=>ma Γ (lsK Q)
theorem aCB {ta:TE}{ma:ME}(ha:VT P0 ta ma):VT P0 (tCB aHM (dN ta pW)) (aCT ma):=by
 intro F Γ σ G H Q Qm r m k;refine ha F Γ σ G H _ _ r m fun d Γ1 x G1 H1 m1 s1 r1 d1=>?_;obtain⟨a,rfl,hl,q⟩:=m1
 cases d1
 exact⟨a,rfl,aC9 hl,k _ _ _ _ _ q s1 r1 (.int _)⟩
def siK (x:D)(Q:D→En→Prop)(y:D)(Γ:En):Prop:=∃ a b:PySem.Str,x=.str a∧y=.str b∧Q (.bool (inS a b)) Γ
def siJ (mb:ME)(Q:D→En→Prop)(x:D)(Γ:En):Prop:=mb Γ (siK x Q)
def aJX (ma mb:ME):ME:=fun Γ Q=>ma Γ (siJ mb Q)
theorem aH2 {ta tb:TE}{ma mb:ME}(ha:VT P0 ta ma)(hb:VT P0 tb mb):VT P0 (tOp aLK ta tb) (aJX ma mb):=by
 intro F Γ σ G H Q Qm r m k;refine ha F Γ σ G H _ _ r m fun d Γ1 x G1 H1 m1 s1 r1 d1=>?_;refine hb F Γ1 σ G1 H1 _ _ r1 m1 fun e Γ2 y G2 H2 m2 s2 r2 d2=>?_;obtain⟨a,b,rfl,rfl,q⟩:=m2
 cases d1
 cases d2
 exact⟨a,b,rfl,rfl,k _ _ _ _ _ q (s1.trans s2) r2 (.bl _)⟩
def swK (x:D)(Q:D→En→Prop)(y:D)(Γ:En):Prop:=∃ a b:PySem.Str,x=.str a∧y=.str b∧Q (.bool (Txt.startswith a b)) Γ
def swJ (mb:ME)(Q:D→En→Prop)(x:D)(Γ:En):Prop:=(∃ a,x=.str a)∧mb Γ (swK x Q)
def a2E (ma mb:ME):ME:=fun Γ Q=>ma Γ (swJ mb Q)
theorem a9A {K:Fg}{ta tb:TE}{ma mb:ME}(ha:VT P0 ta ma)(hb:VT P0 tb mb):VT P0 (tBM K "str" a6Q ta (dN tb pW)) (a2E ma mb):=by
 intro F Γ σ G H Q Qm r m k;refine ha F Γ σ G H _ _ r m fun d Γ1 x G1 H1 m1 s1 r1 d1=>?_;obtain⟨⟨a,rfl⟩,m1⟩:=m1
 cases d1
 refine⟨rfl,hb F Γ1 σ G1 H1 _ _ r1 m1 fun e Γ2 y G2 H2 m2 s2 r2 d2=>?_⟩;obtain⟨a',b,e1,rfl,q⟩:=m2
 cases e1
 cases d2
 exact⟨a,b,rfl,rfl,k _ _ _ _ _ q (s1.trans s2) r2 (.bl _)⟩
def inK (Q:D→En→Prop)(x:D)(Γ:En):Prop:=∃(a:PySem.Str) (n:Int),x=.str a∧PySem.intText? a=some n∧a.length≤640∧Q (.int n) Γ
def aCD (ma:ME):ME:=fun Γ Q=>ma Γ (inK Q)
theorem aEG {ta:TE}{ma:ME}(ha:VT P0 ta ma):VT P0 (tCB aHY (dN ta pW)) (aCD ma):=by
 intro F Γ σ G H Q Qm r m k;refine ha F Γ σ G H _ _ r m fun d Γ1 x G1 H1 m1 s1 r1 d1=>?_;obtain⟨a,n,rfl,hn,hl,q⟩:=m1
 cases d1
 exact⟨a,n,rfl,hn,hl,k _ _ _ _ _ q s1 r1 (.int _)⟩
theorem a4G {G:Hp}:∀{ts:List PySem.Str} {xs:List V},Dts G xs (ts.map PyData.str)→xs=ts.map V.str
 | [],_,h=>by cases h; rfl
 | a::ts,_,h=>by
  cases h with
  | cons h1 h2=>
   cases h1
   rw[a4G h2];rfl
theorem a4C {G:Hp}:∀ ts:List PySem.Str,Dts G (ts.map V.str) (ts.map PyData.str)
 | []=>.nil
 | a::ts=>.cons (.str a) (a4C ts)
def jnK (x:D)(Q:D→En→Prop)(y:D)(Γ:En):Prop:=∃(a:PySem.Str) (ts:List PySem.Str),x=.str a∧y=.list (ts.map PyData.str)∧JoinOk a ts=true∧Q (.str (Txt.join a ts)) Γ
def jnJ (mb:ME)(Q:D→En→Prop)(x:D)(Γ:En):Prop:=(∃ a,x=.str a)∧mb Γ (jnK x Q)
def a5F (ma mb:ME):ME:=fun Γ Q=>ma Γ (jnJ mb Q)
theorem wU {K:Fg}{ta tb:TE}{ma mb:ME}(ha:VT P0 ta ma)(hb:VT P0 tb mb):VT P0 (tBM K "str" (rJoin K) ta (dN tb pW)) (a5F ma mb):=by
 intro F Γ σ G H Q Qm r m k;refine ha F Γ σ G H _ _ r m fun d Γ1 x G1 H1 m1 s1 r1 d1=>?_;obtain⟨⟨a,rfl⟩,m1⟩:=m1
 cases d1
 refine⟨rfl,hb F Γ1 σ G1 H1 _ _ r1 m1 fun e Γ2 y G2 H2 m2 s2 r2 d2=>?_⟩;obtain⟨a',ts,e1,rfl,hok,q⟩:=m2
 cases e1
 cases d2 with
 | @lst p xs _ hp rs=>
  rw[a4G rs] at hp;exact⟨a,p,ts,rfl,rfl,SqL.of (r2.fr.sub _ _ hp),hok,k _ _ _ _ _ q (s1.trans s2) r2 (.str _)⟩
def spK (x:D)(Q:Rv→En→Prop)(y:D)(Γ:En):Prop:=∃ a b:PySem.Str,x=.str a∧y=.str b∧(b.length==0)=false∧a.length≤1000000∧(Txt.split a b).length≤1000000∧Q (.own ((Txt.split a b).map PyData.str)) Γ
def spJ (mb:ME)(Q:Rv→En→Prop)(x:D)(Γ:En):Prop:=(∃ a,x=.str a)∧mb Γ (spK x Q)
def a01 (ma mb:ME):MO:=fun Γ Q=>ma Γ (spJ mb Q)
theorem xH {K:Fg}{ta tb:TE}{ma mb:ME}(ha:VT P0 ta ma)(hb:VT P0 tb mb):VO P0 (tBM K "str" aBH ta (dN tb pW)) (a01 ma mb):=by
 intro F Γ σ G H Q Qm r m k;refine ha F Γ σ G H _ _ r m fun d Γ1 x G1 H1 m1 s1 r1 d1=>?_;obtain⟨⟨a,rfl⟩,m1⟩:=m1
 cases d1
 refine⟨rfl,hb F Γ1 σ G1 H1 _ _ r1 m1 fun e Γ2 y G2 H2 m2 s2 r2 d2=>?_⟩;obtain⟨a',b,e1,rfl,h1,h2,h3,q⟩:=m2
 cases e1
 cases d2
 refine⟨a,b,rfl,rfl,h1,aC9 h2,aC9 h3,fun l hl=>?_⟩;obtain⟨x1,x2,x3⟩:=qT r2 hl (a4C (Txt.split a b));exact k _ _ _ _ _ q (s1.trans s2) x1 x2 x3
def xsK (x:D)(Q:D→En→Prop)(y:D)(Γ:En):Prop:=∃(a:PySem.Str) (i:Int) (c:Nat),x=.str a∧y=.int i∧a.length≤1000000∧atI a.cps.toList i=some c∧Q (.str ⟨#[c]⟩) Γ
def xsJ (mb:ME)(Q:D→En→Prop)(x:D)(Γ:En):Prop:=mb Γ (xsK x Q)
def aKR (ma mb:ME):ME:=fun Γ Q=>ma Γ (xsJ mb Q)
theorem aHQ {K:Fg}{ta tb:TE}{ma mb:ME}(ha:VT P0 ta ma)(hb:VT P0 tb mb):VT P0 (tOp (rIx K) ta tb) (aKR ma mb):=by
 intro F Γ σ G H Q Qm r m k;refine ha F Γ σ G H _ _ r m fun d Γ1 x G1 H1 m1 s1 r1 d1=>?_;refine hb F Γ1 σ G1 H1 _ _ r1 m1 fun e Γ2 y G2 H2 m2 s2 r2 d2=>?_;obtain⟨a,i,c,rfl,rfl,hl,hc,q⟩:=m2
 cases d1
 cases d2
 exact .inr (.inr ⟨a,i,c,rfl,rfl,aC9 hl,hc,k _ _ _ _ _ q (s1.trans s2) r2 (.str _)⟩)
def signs (a:PySem.Str):List D:=a.cps.toList.map fun c=>.str ⟨#[c]⟩
def isK (Q:List D→En→Prop)(x:D)(Γ:En):Prop:=∃ a:PySem.Str,x=.str a∧Q (signs a) Γ
def aJ0 (ma:ME):MD:=fun Γ Q=>ma Γ (isK Q)
theorem aGI {ta:TE}{ma:ME}(ha:VT P0 ta ma):VI P0 (aLR ta) (aJ0 ma):=by
 intro F Γ σ G H Q Qm r m k;refine ha F Γ σ G H _ _ r m fun d Γ1 x G1 H1 m1 s1 r1 d1=>?_;obtain⟨a,rfl,m1⟩:=m1
 cases d1
 have hl:(signs a).length=a.cps.size:=by unfold signs; rw[List.length_map,Array.length_toList]
 refine⟨a,rfl,k _ _ _ _ _ m1 s1 r1 fun F2 Γ2 σ2 G2 H2 s2 r2=>⟨fun i d e=>?_,hl⟩⟩;have hi:i<a.cps.size:=by rw[← hl]; exact(List.getElem?_eq_some_iff.mp e).1
 refine⟨hi,fun x H' hy=>⟨G2,Same.refl _,?_⟩⟩;obtain⟨rfl,c,hc,rfl⟩:=hy;unfold signs at e;rw[List.getElem?_map,Array.getElem?_toList,hc] at e
 cases e
 exact⟨r2,.str _⟩
def aK2 (x:D)(lo:Option Int)(Q:D→En→Prop)(hi:Option Int)(Γ:En):Prop:=∃ a:PySem.Str,x=.str a∧a.length≤1000000∧Q (.str (aEW a lo hi)) Γ
def aJ2 (ma:ME)(ml mh:MP):ME:=fun Γ Q=>ma Γ fun x Γ1=>ml Γ1 fun lo Γ2=>mh Γ2 (aK2 x lo Q)
theorem aFM {te:TE}{tl th:TO}{ma:ME}{ml mh:MP}(ha:VT P0 te ma)(hl:VP P0 tl ml)(hh:VP P0 th mh):VT P0 (tSl aLI te tl th) (aJ2 ma ml mh):=by
 intro F Γ σ G H Q Qm r m k;refine ha F Γ σ G H _ _ r m fun d Γ1 x G1 H1 m1 s1 r1 d1=>?_;refine hl F Γ1 σ G1 H1 _ _ r1 m1 fun lo Γ2 G2 H2 m2 s2 r2=>?_;refine hh F Γ2 σ G2 H2 _ _ r2 m2 fun hi Γ3 G3 H3 m3 s3 r3=>?_;obtain⟨a,rfl,hz,q⟩:=m3
 cases d1
 exact⟨a,rfl,aC9 hz,k _ _ _ _ _ q ((s1.trans s2).trans s3) r3 (.str _)⟩
section
variable {ma mb:ME}{ml mh:MP}{Γ:En}{Q:D→En→Prop}{Qo:Rv→En→Prop}{Qd:List D→En→Prop}{a b:PySem.Str}
theorem aH1 (h:ma Γ (saJ mb Q)):aAD ma mb Γ Q:=h
theorem aKG {x:D}(h:mb Γ (saK x Q)):saJ mb Q x Γ:=h
theorem aF5 (hz:(a++b).length≤1000000)(h:Q (.str (a++b)) Γ):saK (.str a) Q (.str b) Γ:=⟨a,b,rfl,rfl,hz,h⟩
theorem aHK (h:ma Γ (txK Q)):aBV ma Γ Q:=h
theorem a5M {i:Int}(hi:i.natAbs.log2<1920)(h:Q (.str (txI i)) Γ):txK Q (.int i) Γ:=.inl ⟨i,rfl,hi,h⟩
theorem aK3 (h:Q (.str a) Γ):txK Q (.str a) Γ:=.inr ⟨a,rfl,h⟩
theorem aGS (h:ma Γ (lsK Q)):aCT ma Γ Q:=h
theorem aL2 (hl:a.length≤1000000)(h:Q (.int (a.length:Int)) Γ):lsK Q (.str a) Γ:=⟨a,rfl,hl,h⟩
theorem aK0 (h:ma Γ (siJ mb Q)):aJX ma mb Γ Q:=h
theorem aL5 {x:D}(h:mb Γ (siK x Q)):siJ mb Q x Γ:=h
theorem aK9 (h:Q (.bool (inS a b)) Γ):siK (.str a) Q (.str b) Γ:=⟨a,b,rfl,rfl,h⟩
theorem aA9 (h:ma Γ (swJ mb Q)):a2E ma mb Γ Q:=h
theorem aIZ (h:mb Γ (swK (.str a) Q)):swJ mb Q (.str a) Γ:=⟨⟨a,rfl⟩,h⟩
theorem aJ9 (h:Q (.bool (Txt.startswith a b)) Γ):swK (.str a) Q (.str b) Γ:=⟨a,b,rfl,rfl,h⟩
theorem aGN (h:ma Γ (inK Q)):aCD ma Γ Q:=h
theorem aJM {n:Int}(hn:PySem.intText? a=some n)(hl:a.length≤640)(h:Q (.int n) Γ):inK Q (.str a) Γ:=⟨a,n,rfl,hn,hl,h⟩
theorem aGG (h:ma Γ (jnJ mb Q)):a5F ma mb Γ Q:=h
theorem aJC (h:mb Γ (jnK (.str a) Q)):jnJ mb Q (.str a) Γ:=⟨⟨a,rfl⟩,h⟩
theorem aBD {ts:List PySem.Str}(hok:JoinOk a ts=true)(h:Q (.str (Txt.join a ts)) Γ):jnK (.str a) Q (.list (ts.map PyData.str)) Γ:=⟨a,ts,rfl,rfl,hok,h⟩
theorem aE6 (h:ma Γ (spJ mb Qo)):a01 ma mb Γ Qo:=h
theorem aKU (h:mb Γ (spK (.str a) Qo)):spJ mb Qo (.str a) Γ:=⟨⟨a,rfl⟩,h⟩
theorem a9T (h1:(b.length==0)=false)(h2:a.length≤1000000)(h3:(Txt.split a b).length≤1000000)(h:Qo (.own ((Txt.split a b).map PyData.str)) Γ):spK (.str a) Qo (.str b) Γ:=⟨a,b,rfl,rfl,h1,h2,h3,h⟩
theorem aJT (h:ma Γ (xsJ mb Q)):aKR ma mb Γ Q:=h
theorem aJP {x:D}(h:mb Γ (xsK x Q)):xsJ mb Q x Γ:=h
theorem aKA {i:Int}{c:Nat}(hl:a.length≤1000000)(hc:atI a.cps.toList i=some c)(h:Q (.str ⟨#[c]⟩) Γ):xsK (.str a) Q (.int i) Γ:=⟨a,i,c,rfl,rfl,hl,hc,h⟩
theorem aJA (h:ma Γ (isK Qd)):aJ0 ma Γ Qd:=h
theorem aL0 (h:Qd (signs a) Γ):isK Qd (.str a) Γ:=⟨a,rfl,h⟩
theorem aJB (h:ma Γ fun x Γ1=>ml Γ1 fun lo Γ2=>mh Γ2 (aK2 x lo Q)):aJ2 ma ml mh Γ Q:=h
theorem aFE {lo hi:Option Int}(hl:a.length≤1000000)(h:Q (.str (aEW a lo hi)) Γ):aK2 (.str a) lo Q hi Γ:=⟨a,rfl,hl,h⟩
end
end
end L2.VS
namespace L2
open PySem PySem.Spec PyProof.Rows
section
variable {X:Cx}
def tFs (m:PySem.Str)(ta tb:TE):TE:=fun σ H Q=>ta σ H fun x H1=>∃ i:Int,x=.int i∧i.natAbs.log2<1920∧(txI i++m).length≤sizeLine∧tb σ H1 fun y H2=>∃ j:Int,y=.int j∧j.natAbs.log2<1920∧((txI i++m)++txI j).length≤sizeLine∧Q (.str ((txI i++m)++txI j)) H2
theorem len_app (a b:PySem.Str):(a++b).length=a.length+b.length:=by
 show(a++b).cps.size=a.cps.size+b.cps.size
 rw[← Array.length_toList,xN,List.length_append,Array.length_toList,Array.length_toList]
theorem empty_app (a:PySem.Str):PySem.Str.empty++a=a:=lQ (by rw[xN]; rfl)
theorem aA5 {a b:Expr}{ta tb:TE}{m:PySem.Str}{k:Nat}{p1 p2 p3 pos:Pos}(ha:PE X a ta)(hb:PE X b tb):PE X (.JoinedStr [.FormattedValue a (-1) none p1,.Constant (.str m) k p2,.FormattedValue b (-1) none p3] pos) (tFs m ta tb):=by
 intro pins s σ H Q I h;refine wpAny_JoinedStr ?_;show wpAny _ _ (eval (.FormattedValue a (-1) none p1) X.env) _ _ _;refine wpAny_FormattedValue_plain (thn (ha pins s σ H _ I h) fun v s1 ⟨x,H1,I1,r1,i,e,hi,hm,q1⟩=>?_);subst e;obtain⟨t,rfl⟩:=r1;refine wpAny_formatField_int hi ⟨txI i,_,rfl,?_,?_⟩
 ·rw[empty_app];rw[len_app] at hm;omega
 show wpAny _ _ (eval (.Constant (.str m) k p2) X.env) _ _ _;refine Calls.Constant_str ⟨m,_,rfl,?_,?_⟩
 ·rw[empty_app];exact hm
 show wpAny _ _ (eval (.FormattedValue b (-1) none p3) X.env) _ _ _;refine wpAny_FormattedValue_plain (thn (hb pins _ σ H1 _ (I1.tok _) q1) fun v s2 ⟨y,H2,I2,r2,j,e,hj,hz,q2⟩=>?_);subst e;obtain⟨t2,rfl⟩:=r2;refine wpAny_formatField_int hj ⟨txI j,_,rfl,?_,?_⟩
 ·rw[empty_app]; exact hz
 ·rw[empty_app];exact⟨hz,.str _,H2,I2.tok _,⟨_,rfl⟩,q2⟩
def aGF (K:Fg):List V→Hp→VK→Prop:=fun xs H Q=>∃(p:Addr) (ys:List V),xs=[.ref p]∧SqL K H p ys∧∀ q,H q=none→Q (.ref q) (upd H q (.tup ys))
theorem a8F:rF X (.type "tuple") (aGF X.K):=by
 intro pins s σ H xs us Q I r h;obtain⟨p,ys,rfl,hq,q⟩:=h;obtain⟨u,rfl,rx⟩:=vals1 r
 cases rx
 obtain⟨its,r',pl,hz⟩:=I.list hq;refine call_tuple_list pl.isList (fun h' hk=>?_) (by rw[List.size_toArray,←r'.length]; exact hz);have I1:Inv X pins σ H { s with heap:=h' }:=I.kept (t':=s.toks) hk;refine⟨.ref h'.objs.size,_,I1.laid (t':=s.toks) (o:=.tup ys) (fun b ob q=>Heap.get?_push_of_some _ q) (Nat.le_refl _) ?_,rfl,q _ (I1.hok.fresh (Nat.le_refl _))⟩;exact⟨hz,its,r',IsTup.new _ _⟩
end
end L2
namespace L2.VS
open PySem PySem.Spec PyProof.Rows
section
variable {P0:Addr→Hp→Prop}
def f3J (m:PySem.Str)(i:Int)(Q:D→En→Prop)(y:D)(Γ:En):Prop:=∃ j:Int,y=.int j∧j.natAbs.log2<1920∧((txI i++m)++txI j).length≤1000000∧Q (.str ((txI i++m)++txI j)) Γ
def f3K (m:PySem.Str)(mb:ME)(Q:D→En→Prop)(x:D)(Γ:En):Prop:=∃ i:Int,x=.int i∧i.natAbs.log2<1920∧(txI i++m).length≤1000000∧mb Γ (f3J m i Q)
def mFs (m:PySem.Str)(ma mb:ME):ME:=fun Γ Q=>ma Γ (f3K m mb Q)
theorem aJ6 {m:PySem.Str}{ta tb:TE}{ma mb:ME}(ha:VT P0 ta ma)(hb:VT P0 tb mb):VT P0 (tFs m ta tb) (mFs m ma mb):=by
 intro F Γ σ G H Q Qm r hm k;refine ha F Γ σ G H _ _ r hm fun d Γ1 x G1 H1 m1 s1 r1 d1=>?_;obtain⟨i,rfl,hi,hz,m1⟩:=m1
 cases d1
 refine⟨i,rfl,hi,aC9 hz,hb F Γ1 σ G1 H1 _ _ r1 m1 fun e Γ2 y G2 H2 m2 s2 r2 d2=>?_⟩;obtain⟨j,rfl,hj,hz2,q⟩:=m2
 cases d2
 exact⟨j,rfl,hj,aC9 hz2,k _ _ _ _ _ q (s1.trans s2) r2 (.str _)⟩
def tlK (Q:D→En→Prop)(x:D)(Γ:En):Prop:=∃ ds,x=.list ds∧Q (.tuple ds) Γ
def aDQ (ma:ME):ME:=fun Γ Q=>ma Γ (tlK Q)
theorem aCC {K:Fg}{ta:TE}{ma:ME}(ha:VT P0 ta ma):VT P0 (tCB (aGF K) (dN ta pW)) (aDQ ma):=by
 intro F Γ σ G H Q Qm r m k;refine ha F Γ σ G H _ _ r m fun d Γ1 x G1 H1 m1 s1 r1 d1=>?_;obtain⟨ds,rfl,q⟩:=m1
 cases d1 with
 | @lst p xs _ hp rs=>
  refine⟨p,xs,rfl,SqL.of (r1.fr.sub _ _ hp),fun l hl=>?_⟩;have g:=gB (r1.fr.gfresh hl) (.tup xs);exact k _ _ _ _ _ q (s1.trans g) (r1.new hl) (.tup bA (Dts.same g _ _ rs))
inductive FmRel (G:Hp):List (Key×V)→List (PySem.Str×D)→Prop
 | nil:FmRel G [] []
 | cons {a:PySem.Str} {v:V} {d:D} {kvs:List (Key×V)} {fs:List (PySem.Str×D)} (h:Dt G v d) (r:FmRel G kvs fs):FmRel G ((Sum.inr a,v)::kvs) ((a,d)::fs)
theorem FmRel.same {G G':Hp}(g:Same G G'){kvs:List (Key×V)}{fs:List (PySem.Str×D)}(h:FmRel G kvs fs):FmRel G' kvs fs:=by
 induction h with
 | nil=>exact .nil
 | cons h _ ih=>exact .cons (Dt.same g _ _ h) ih
def pFm (fs:List (PySem.Str×D)):Pb where
 P v G:=∃ p kvs,v=.ref p∧G p=some (.dK kvs)∧FmRel G kvs fs
 mono g h:=by
  obtain⟨p,kvs,h1,h2,h3⟩:=h;exact⟨p,kvs,h1,g _ _ h2,h3.same g⟩
abbrev MPs:=En→(List (PySem.Str×D)→En→Prop)→Prop
def VPs (P0:Addr→Hp→Prop)(trs:List (TE×TE))(m:MPs):Prop:=∀(F:Fra P0) (Γ:En) (σ:St) (G H:Hp) (Q:List (V×V)→Hp→Prop) (Qm:List (PySem.Str×D)→En→Prop),R F Γ σ G H→m Γ Qm →
 (∀ fs Γ' kvs G' H',Qm fs Γ'→Same G G'→R F Γ' σ G' H'→FmRel G' kvs fs→Q (kvs.map fun kv=>(kV kv.1,kv.2)) H')→a3D trs σ H Q
def aJG:MPs:=fun Γ Q=>Q [] Γ
def aFP (a:PySem.Str)(m:ME)(r:MPs):MPs:=fun Γ Q=>m Γ fun d Γ1=>r Γ1 fun fs Γ2=>Q ((a,d)::fs) Γ2
theorem aCZ:VPs P0 [] aJG:=fun _ _ _ _ _ _ _ r m k=>k [] _ [] _ _ m (Same.refl _) r .nil
theorem yH {a:PySem.Str}{te:TE}{m:ME}{trs:List (TE×TE)}{mr:MPs}(h:VT P0 te m)(hr:VPs P0 trs mr):VPs P0 ((tC (.str a),te)::trs) (aFP a m mr):=by
 intro F Γ σ G H Q Qm r hm k;refine h F Γ σ G H _ _ r hm fun d Γ1 v G1 H1 m1 s1 r1 d1=>?_;refine hr F Γ1 σ G1 H1 _ _ r1 m1 fun fs Γ2 kvs G2 H2 m2 s2 r2 rel=>?_;exact k _ _ ((Sum.inr a,v)::kvs) _ _ m2 (s1.trans s2) r2 (.cons (Dt.same s2 _ _ d1) rel)
theorem a0G:∀(more acc:List (Key×V)),((acc++more).map (·.1)).Nodup→rW acc more=acc++more
 | [],acc,_=>(List.append_nil acc).symm
 | p::more,acc,h=>by
  have hn:tH acc p.1=none:=by
   cases e:tH acc p.1 with
   | none=>rfl
   | some v=>
    have h1:=aCS e;rw[List.map_append,List.map_cons] at h;exact absurd rfl ((List.nodup_append.mp h).2.2 _ h1 _ List.mem_cons_self)
  show rW (putK acc p.1 p.2) more=_;rw[a9W p.2 hn,a0G more _ (by rw[List.append_assoc]; exact h),List.append_assoc];rfl
theorem FmRel.keys {G:Hp}{kvs:List (Key×V)}{fs:List (PySem.Str×D)}(h:FmRel G kvs fs):kvs.map (·.1)=fs.map fun f=>Sum.inr f.1:=by
 induction h with
 | nil=>rfl
 | cons _ _ ih=>rw[List.map_cons,List.map_cons,ih]
theorem FmRel.len {G:Hp}{kvs:List (Key×V)}{fs:List (PySem.Str×D)}(h:FmRel G kvs fs):kvs.length=fs.length:=by
 induction h with
 | nil=>rfl
 | cons _ _ ih=>rw[List.length_cons,List.length_cons,ih]
def aE3 (mp:MPs)(mr:MA):MA:=fun Γ Q=>mp Γ fun fs Γ1=>fs.length≤15∧(fs.map fun f=>f.1).Nodup∧mr Γ1 fun xs Γ2=>Q (.pub (pFm fs)::xs) Γ2
theorem aCE {trs:List (TE×TE)}{mp:MPs}{tr:TA}{mr:MA}(hp:VPs P0 trs mp)(hr:VA P0 tr mr):VA P0 (dN (aE5 trs) tr) (aE3 mp mr):=by
 intro F Γ σ G H Q Qm r m k p hn;have r0:R F Γ σ G (upd H p (.dK [])):=r.newP hn;have hF:∀ b∈[p],F.H0 b=none∧G b=none:=fun b hb=>by
  rw[List.mem_singleton.mp hb];exact⟨r.fr.fresh hn,r.fr.gfresh hn⟩
 have ap:∀(i:Nat) s f,Γ[i]?=some s→SlF F G (upd H p (.dK [])) σ[i]? f s→∀ b∈[p],b∉f:=fun i s f e hf b hb hc=>by
  rw[List.mem_singleton.mp hb] at hc;obtain⟨fps,h1,_⟩:=r.fps;obtain⟨fps0,g1,_⟩:=r0.fps;have e1:f=fps i:=by
   have h3:SlF F G (upd H p (.dK [])) σ[i]? (fps i) s:=(h1 i s e).go (Same.refl _) fun b hb=>by
    obtain⟨_,m2,o,m3⟩:=(h1 i s e).mine hb;exact⟨m2,aZ (bJ m3 hn)⟩
   exact hf.det h3
  rw[e1] at hc;obtain⟨_,_,o,m3⟩:=(h1 i s e).mine hc;rw[hn] at m3
  cases m3
 have rh:=r0.hold hF ap;refine hp _ Γ σ G _ _ _ rh m fun fs Γ1 kvs G1 H1 m1 s1 r1 rel=>?_;obtain⟨h15,nd,m1⟩:=m1;obtain⟨ru,cells,apu⟩:=R.unhold (fun b hb=>by rw[List.mem_singleton.mp hb]; exact⟨_,bA⟩) r1;obtain⟨c1,c2⟩:=cells p (List.mem_singleton.mpr rfl);rw[bA] at c1;have hm:rW [] kvs=kvs:=a0G kvs [] (by
  rw[List.nil_append,rel.keys];have:(fs.map fun f=>(Sum.inr f.1:Key))=(fs.map fun f=>f.1).map Sum.inr:=by rw[List.map_map]; rfl
  rw[this];exact nd.map Sum.inr fun a b hab z=>hab (Sum.inr.inj z))
 refine⟨c1,kvs,rfl,by rw[rel.len]; exact h15,?_⟩;rw[hm];have p1:=(hF p (List.mem_singleton.mpr rfl)).1;have g:=gB c2 (.dK kvs);have fr:Rf F (upd G1 p (.dK kvs)) (upd H1 p (.dK kvs)):=(ru.fr.priv (o:=.dK kvs) p1 c2).give p1 bA;have r2:R F Γ1 σ (upd G1 p (.dK kvs)) (upd H1 p (.dK kvs)):=ru.keep fr g fun b o hb _ gb hb2=>by
  have hbp:b≠p:=fun z=>by
   obtain⟨i,s,f,a1,a2,a3⟩:=hb;exact apu i s f a1 a2 p (List.mem_singleton.mpr rfl) (z▸a3)
  rw[aZ hbp,aZ hbp];exact⟨gb,hb2⟩
 refine hr F Γ1 σ _ _ _ _ r2 m1 fun as Γ2 rs G3 H3 m3 s3 r3 d3=>k _ _ _ _ _ m3 ((s1.trans g).trans s3) r3 (.cons ?_ d3);exact(pFm fs).mono s3 ⟨p,kvs,rfl,bA,rel.same g⟩
def aA1:List (PySem.Str×D)→PySem.Str→Option D
 | [],_=>none
 | (a,d)::r,k=>if a=k then some d else aA1 r k
theorem FmRel.val {G:Hp}{kvs:List (Key×V)}{fs:List (PySem.Str×D)}(h:FmRel G kvs fs)(k:PySem.Str):(tH kvs (Sum.inr k:Key)=none∧aA1 fs k=none)∨∃ v d,tH kvs (Sum.inr k:Key)=some v∧aA1 fs k=some d∧Dt G v d:=by
 induction h with
 | nil=>exact .inl ⟨rfl,rfl⟩
 | @cons a v d kvs fs h r ih=>
  by_cases e:a=k
  ·refine .inr ⟨v,d,pG (by rw[e]),?_,h⟩;unfold aA1; rw[if_pos e]
  ·rw[pI (fun z=>e (Sum.inr.inj z))];unfold aA1; rw[if_neg e]; exact ih
def a6G (i:Nat)(mj:ME):ME:=fun Γ Q=>(∃ fs,Γ[i]?=some (.pub (pFm fs)))∧mj Γ fun x Γ1=>∃ fs a,Γ1[i]?=some (.pub (pFm fs))∧x=.str a∧Q ((aA1 fs a).getD .none) Γ1
theorem aAG {i:Nat}{tj:TE}{mj:ME}(hj:VT P0 tj mj):VT P0 (aBT (v5 i) tj) (a6G i mj):=by
 intro F Γ σ G H Q Qm r hm k;obtain⟨⟨fs0,e0⟩,hm⟩:=hm;obtain⟨v,ev,p,kvs,rfl,h2,h3⟩:=r.sl i _ e0;refine⟨.ref p,ev,p,rfl,.inl ⟨kvs,.inl (r.fr.sub _ _ h2)⟩,hj F Γ σ G H _ _ r hm fun x Γ1 y G1 H1 m1 g1 r1 d1=>?_⟩;obtain⟨fs,a,e1,rfl,q⟩:=m1;obtain⟨v',ev',p',kvs',e2,h2',h3'⟩:=r1.sl i _ e1;rw[ev] at ev'
 cases ev'
 cases e2
 cases d1
 refine⟨_,DGet.k (k:=Sum.inr a) (r1.fr.sub _ _ h2'),?_⟩;rcases h3'.val a with⟨x1,x2⟩|⟨w,d,x1,x2,x3⟩
 ·rw[x2] at q;rw[x1];exact k _ _ _ _ _ q g1 r1 .non
 ·rw[x2] at q;rw[x1];exact k _ _ _ _ _ q g1 r1 x3
end
end L2.VS
namespace L2
open PySem PySem.Spec PyProof.Rows
def aHG (N:List Str)(scope:Scope)(nt:Nat):Bool:=
 scope.kind==.function&&scope.names.all (fun y=>y.2 != .cell)&&scope.names.all (fun y=>y.2 != .local||scope.names.lookup y.1==some .local)&&scope.names.all (fun y=>y.2 != .free)&&N.length==nt
theorem aD8 {X:Cx}{N:List Str}{scope:Scope}{nt:Nat}(h:aHG N scope nt=true):BlkOk X N scope nt []:=by
 unfold aHG at h;simp only[Bool.and_eq_true,List.all_eq_true,Bool.or_eq_true,bne_iff_ne,ne_eq,beq_iff_eq] at h;obtain⟨⟨⟨⟨h1,h2⟩,h3⟩,h4⟩,h5⟩:=h;refine⟨h1,h2,fun y hy e=>?_,fun y hy e=>absurd e (h4 y hy),h5,fun i x e=>?_⟩
 ·rcases h3 y hy with z|z
  ·exact absurd e z
  ·exact z
 ·have:=(List.getElem?_eq_some_iff.mp e).1;omega
end L2
namespace L2
open PySem PySem.Spec PyProof.Rows
section
variable {prog:Program}{w:World}{A:Around}{E:Value→Shared→Prop}{s:Shared}
theorem a3N {it t:Addr}{i:Nat}{items:Array Value}{x:Value}{Q:Value→Shared→Prop}(hit:s.heap.IsTupleIter it t i)(ht:s.heap.IsTuple t items)(hx:items[i]?=some x)
  (hQ:∀ h',h'.IsTupleIter it t (i+1)→Heap.SameBut it s.heap h'→Q x { s with heap:=h' }):wpAny (model prog w) A (Builtin.SmallTypes.nextOf (.ref it)) Q E s:=by
 obtain⟨o,ho,hc,hd⟩:=id hit;obtain⟨ol,hol,_,nl,hdl⟩:=ht;unfold Builtin.SmallTypes.nextOf;refine wpAny_bind (wpAny_callSpecial?_slot (name:=Str.ofString "__next__") hit.typeIs F.slot_tuple_iterator_next (wpAny_call_entry F.slot_tuple_iterator_next hit.typeIs entry_tupleiter_next ?_ (args_tupleiter_next _)));refine wpAny_bind (m:=field (.ref it) 0) (wpAny_field ho hd (x:=.ref t) rfl ?_);show wpAny _ _ (if (Value.ref t==Value.none)=true then _ else _) _ _ s;rw[if_neg (show ¬((Value.ref t==Value.none)=true) from Bool.false_ne_true)];refine wpAny_bind (m:=field (.ref it) 1) (wpAny_field ho hd (x:=.int i 0) rfl ?_);refine wpAny_bind (m:=seqItems? (.ref t)) (wpAny_seqItems hol hdl ?_);simp only[Int.toNat_natCast,hx];refine wpAny_bind (wpAny_setField ho hd (by simp) (wpAny_pure ⟨x,rfl,wpAny_pure (hQ _ ⟨_,Heap.get?_update_self _ ho (Obj.isFreed_of_fields (Obj.data_mapFields hd _)),(Obj.cls_mapFields ..).trans hc,?_⟩ (Heap.SameBut.update ..))⟩));rw[Obj.data_mapFields hd]; simp[rawInt]
theorem aDY {it t:Addr}{i:Nat}{items:Array Value}{Q:Value→Shared→Prop}(hh:A.handled=none)(hit:s.heap.IsTupleIter it t i)(ht:s.heap.IsTuple t items)(hx:items[i]?=none)
  (hE:∀ h' e,Heap.ExtBut it s.heap h'→(∃ o,h'.get? e=some o∧o.cls=.type "StopIteration")→E (.ref e) { s with heap:=h' }):wpAny (model prog w) A (Builtin.SmallTypes.nextOf (.ref it)) Q E s:=by
 obtain⟨o,ho,hc,hd⟩:=id hit;obtain⟨ol,hol,_,nl,hdl⟩:=ht;unfold Builtin.SmallTypes.nextOf;refine wpAny_bind (wpAny_callSpecial?_slot (name:=Str.ofString "__next__") hit.typeIs F.slot_tuple_iterator_next (wpAny_call_entry F.slot_tuple_iterator_next hit.typeIs entry_tupleiter_next ?_ (args_tupleiter_next _)));refine wpAny_bind (m:=field (.ref it) 0) (wpAny_field ho hd (x:=.ref t) rfl ?_);show wpAny _ _ (if (Value.ref t==Value.none)=true then _ else _) _ _ s;rw[if_neg (show ¬((Value.ref t==Value.none)=true) from Bool.false_ne_true)];refine wpAny_bind (m:=field (.ref it) 1) (wpAny_field ho hd (x:=.int i 0) rfl ?_);refine wpAny_bind (m:=seqItems? (.ref t)) (wpAny_seqItems hol hdl ?_);simp only[Int.toNat_natCast,hx];refine wpAny_bind (wpAny_rule (wpAny_bind (wpAny_setField ho hd (by simp) (wpAny_bind (m:=newExc (.type "StopIteration") []) ?_))));simp only[newExc,newTuple];refine wpAny_bind (wpAny_newObj_type ?_ (by size_fits));refine wpAny_bind (m:=firstArgMember _ _) (wpAny_of_eq (a:=Value.none) (by first|rfl|(simp only[firstArgMember]; rfl)) ?_);refine wpAny_newObj_type ?_ (by size_fits);simp only[raiseNew];refine wpAny_bind (wpAny_handled ?_)
 first|rw[show A.in1.handled=none from hh]|rw[hh]
 exact wpAny_bind (wpAny_pure (wpAny_throw (hE _ _ (((Heap.SameBut.update ..).extBut.push _).push _) ⟨_,Heap.get?_push_size _ rfl,rfl⟩)))
def On2 (S:Heap→Prop)(a b:Addr):Prop:=∀ h h':Heap,S h→(∀ c o,c=a∨c=b→h.get? c=some o→h'.get? c=some o)→S h'
theorem On2.but {S:Heap→Prop}{a b z:Addr}(k:On2 S a b){h h':Heap}(st:S h)(hs:Heap.ExtBut z h h')(ha:a≠z)(hb:b≠z):S h':=
 k h h' st fun c o hc e=>hs c o (by rcases hc with rfl|rfl<;>assumption) e
theorem aDU {z TI TO i1 i2 l1 l2:Addr}{x y a b:Value}{S1 S1' S2 S2':Heap→Prop}{Q:Value→Shared→Prop}(D:ZipApart z TI TO i1 i2 l1 l2)
  (hz:IsZip s.heap z TI TO .none) (hTI:IsPair s.heap TI (.ref i1) (.ref i2)) (hTO:IsPair s.heap TO a b) (o1':On2 S1' i1 l1) (o2:On2 S2 i2 l2) (o2':On2 S2' i2 l2) (o1:On2 S1 i1 l1)
  (n1:∀(A:Around) (E:Value→Shared→Prop) (s:Shared) (Q:Value→Shared→Prop),S1 s.heap→(∀ h',S1' h'→Heap.SameBut i1 s.heap h'→Q x { s with heap:=h' })→wpAny (model prog w) A (Builtin.SmallTypes.nextOf (.ref i1)) Q E s)
  (n2:∀(A:Around) (E:Value→Shared→Prop) (s:Shared) (Q:Value→Shared→Prop),S2 s.heap→(∀ h',S2' h'→Heap.SameBut i2 s.heap h'→Q y { s with heap:=h' })→wpAny (model prog w) A (Builtin.SmallTypes.nextOf (.ref i2)) Q E s)
  (h1:S1 s.heap) (h2:S2 s.heap) (li1:i1<s.heap.objs.size) (li2:i2<s.heap.objs.size)
  (hQ:∀ h',IsZip h' z TI TO (rawInt s.heap.objs.size)→IsPair h' TO x y→S1' h'→S2' h'→IsPair h' s.heap.objs.size x y →
   (∀ c o,c≠z→c≠TO→c≠i1→c≠i2→s.heap.get? c=some o→h'.get? c=some o)→Q (.ref s.heap.objs.size) { s with heap:=h' }) :
  wpAny (model prog w) A (Builtin.«zip.__next__» ⟨[.ref z],[]⟩) (fun fin s'=>∃ v,fin=.done (.ret v)∧Q v s') E s:=by
 refine wpAny_bind (m:=field (.ref z) 2) (wpAny_field hz rfl (x:=.bool false) rfl ?_);refine wpAny_bind (m:=field (.ref z) 3) (wpAny_field hz rfl (x:=.ref TI) rfl ?_);refine wpAny_bind (wpAny_seqItems hTI rfl (wpAny_bind (m:=Builtin.SmallTypes.ownedTupleIsFree (.ref z)) ?_));unfold Builtin.SmallTypes.ownedTupleIsFree;refine wpAny_bind (wpAny_field hz rfl (x:=.none) rfl (wpAny_pure ?_));simp only[if_true];refine wpAny_bind (wpAny_rule (wpAny_bind (wpAny_field hz rfl (x:=.ref TO) rfl (wpAny_bind (wpAny_setField_rec hz (by simp) fun g1 (z1:IsZip g1 z TI TO .ellipsis) k1=>wpAny_bind ?_)))));simp only[List.zipIdx_cons,List.zipIdx_nil,List.forIn_cons,List.forIn_nil];refine wpAny_bind (wpAny_bind (wpAny_onRaise (wpAny_bind (m:=Builtin.SmallTypes.nextOf (.ref i1)) (n1 _ _ _ _ (o1.but h1 k1.extBut D.i1z D.l1z) fun g2 s2 k2=>wpAny_pure ?_))));have t2:IsPair g2 TO a b:=k2.extBut _ _ D.TOi1 (k1.extBut _ _ D.TOz hTO);refine wpAny_bind (wpAny_seqItems t2 rfl (wpAny_bind (wpAny_updateSeq_pair t2 fun g3 (t3:IsPair g3 TO x b) k3=>wpAny_bind (wpAny_letGo (wpAny_pure ?_)))));refine wpAny_bind (wpAny_bind (wpAny_onRaise (wpAny_bind (m:=Builtin.SmallTypes.nextOf (.ref i2)) (n2 _ _ _ _ (o2.but (o2.but (o2.but h2 k1.extBut D.i2z D.l2z) k2.extBut D.i12.symm D.l2i1) k3.extBut D.TOi2.symm D.l2TO) fun g4 s4 k4=>wpAny_pure ?_))));have t4:IsPair g4 TO x b:=k4.extBut _ _ D.TOi2 t3;refine wpAny_bind (wpAny_seqItems t4 rfl (wpAny_bind (wpAny_updateSeq_pair t4 fun g5 (t5:IsPair g5 TO x y) k5=>wpAny_bind (wpAny_letGo (wpAny_pure (wpAny_pure ?_))))));refine wpAny_bind (wpAny_seqItems t5 rfl (wpAny_bind (wpAny_newTuple ?_)));have sz:g5.objs.size=s.heap.objs.size:=by rw[k5.1,k4.1,k3.1,k2.1,k1.1]
 have z5:IsZip g5 z TI TO .ellipsis:=k5.extBut _ _ D.TOz.symm (k4.extBut _ _ D.i2z.symm (k3.extBut _ _ D.TOz.symm (k2.extBut _ _ D.i1z.symm z1)));have kk:∀ c o,c≠z→c≠TO→c≠i1→c≠i2→s.heap.get? c=some o→g5.get? c=some o:=fun c o c1 c2 c3 c4 e=>k5.extBut _ _ c2 (k4.extBut _ _ c4 (k3.extBut _ _ c2 (k2.extBut _ _ c3 (k1.extBut _ _ c1 e))));have s5:S1' g5:=o1'.but (o1'.but (o1'.but s2 k3.extBut D.TOi1.symm D.l1TO) k4.extBut D.i12 D.l1i2) k5.extBut D.TOi1.symm D.l1TO;have r5:S2' g5:=o2'.but s4 k5.extBut D.TOi2.symm D.l2TO;have lz:z<g5.objs.size:=Heap.lt_size z5;show wpAny _ _ (Builtin.SmallTypes.ownedTupleHandOut (.ref z) (.ref g5.objs.size) >>= _) _ _ _;refine wpAny_bind ?_;unfold Builtin.SmallTypes.ownedTupleHandOut;refine wpAny_bind (wpAny_setField_rec (show IsZip (g5.push { cls:=.type "tuple", data:=.seq #[x,y] }) z TI TO .ellipsis from Heap.get?_push_of_some _ z5) (by simp) fun g7 (z7:IsZip g7 z TI TO (rawInt g5.objs.size)) k7=>?_);refine wpAny_setField_rec z7 (by simp) fun g8 (z8:IsZip g8 z TI TO (rawInt g5.objs.size)) k8=>?_;have up:∀ c o,c≠z→g5.get? c=some o→g8.get? c=some o:=fun c o c1 e=>k8.extBut _ _ c1 (k7.extBut _ _ c1 (Heap.get?_push_of_some _ e));have t8:IsPair g8 g5.objs.size x y:=k8.extBut _ _ (Nat.ne_of_gt lz) (k7.extBut _ _ (Nat.ne_of_gt lz) (Heap.get?_push_size _ rfl));refine wpAny_pure ⟨_,rfl,?_⟩;show Q (.ref g5.objs.size) _;rw[sz] at z8 t8 ⊢;exact hQ g8 z8 (up _ _ D.TOz t5) (o1' g5 g8 s5 fun c o hc e=>up c o (by rcases hc with rfl|rfl; exact D.i1z; exact D.l1z) e) (o2' g5 g8 r5 fun c o hc e=>up c o (by rcases hc with rfl|rfl; exact D.i2z; exact D.l2z) e) t8 fun c o c1 c2 c3 c4 e=>up c o c1 (kk c o c1 c2 c3 c4 e)
def aGO (S:Heap→Prop)(i:Addr)(prog:Program)(w:World):Prop:=∀(A:Around) (E:Value→Shared→Prop) (s:Shared) (Q:Value→Shared→Prop),A.handled=none→S s.heap →
 (∀ h' e,Heap.ExtBut i s.heap h'→(∃ o,h'.get? e=some o∧o.cls=.type "StopIteration")→E (.ref e) { s with heap:=h' })→wpAny (model prog w) A (Builtin.SmallTypes.nextOf (.ref i)) Q E s
theorem aG1 {z TI TO i1 i2 l1 l2:Addr}{a b:Value}{S1 S2:Heap→Prop}{Q:Fin→Shared→Prop}(hh:A.handled=none)(D:ZipApart z TI TO i1 i2 l1 l2)
  (hz:IsZip s.heap z TI TO .none) (hTI:IsPair s.heap TI (.ref i1) (.ref i2)) (hTO:IsPair s.heap TO a b) (o1:On2 S1 i1 l1) (o2:On2 S2 i2 l2) (h1:S1 s.heap) (h2:S2 s.heap)
  (n:aGO S1 i1 prog w∨(∃ x,∀(A:Around) (E:Value→Shared→Prop) (s:Shared) (Q:Value→Shared→Prop),S1 s.heap→(∀ h',Heap.SameBut i1 s.heap h'→Q x { s with heap:=h' })→wpAny (model prog w) A (Builtin.SmallTypes.nextOf (.ref i1)) Q E s)∧aGO S2 i2 prog w)
  (hE:∀ h' e,(∀ c o,c≠z→c≠TO→c≠i1→c≠i2→s.heap.get? c=some o→h'.get? c=some o)→(∃ o,h'.get? e=some o∧o.cls=.type "StopIteration")→E (.ref e) { s with heap:=h' }) :
  wpAny (model prog w) A (Builtin.«zip.__next__» ⟨[.ref z],[]⟩) Q E s:=by
 refine wpAny_bind (m:=field (.ref z) 2) (wpAny_field hz rfl (x:=.bool false) rfl ?_);refine wpAny_bind (m:=field (.ref z) 3) (wpAny_field hz rfl (x:=.ref TI) rfl ?_);refine wpAny_bind (wpAny_seqItems hTI rfl (wpAny_bind (m:=Builtin.SmallTypes.ownedTupleIsFree (.ref z)) ?_));unfold Builtin.SmallTypes.ownedTupleIsFree;refine wpAny_bind (wpAny_field hz rfl (x:=.none) rfl (wpAny_pure ?_));simp only[if_true];refine wpAny_bind (wpAny_rule (wpAny_bind (wpAny_field hz rfl (x:=.ref TO) rfl (wpAny_bind (wpAny_setField_rec hz (by simp) fun g1 (z1:IsZip g1 z TI TO .ellipsis) k1=>wpAny_bind ?_)))));simp only[List.zipIdx_cons,List.zipIdx_nil,List.forIn_cons,List.forIn_nil];rcases n with n|⟨⟨x,nx⟩,n⟩
 ·refine wpAny_bind (wpAny_bind (wpAny_onRaise (wpAny_bind (m:=Builtin.SmallTypes.nextOf (.ref i1)) (n _ _ _ _ hh (o1.but h1 k1.extBut D.i1z D.l1z) fun g2 e k2 ⟨oe,he,ce⟩=>?_))));have z2:IsZip g2 z TI TO .ellipsis:=k2 _ _ D.i1z.symm z1;have ez:e≠z:=fun q=>by subst q; rw[z2] at he; cases he; simp at ce
  exact wpAny_setField_rec z2 (by simp) fun g3 _ k3=>hE g3 e (fun c o c1 _ c3 _ q=>k3.extBut _ _ c1 (k2 _ _ c3 (k1.extBut _ _ c1 q))) ⟨oe,k3.extBut _ _ ez he,ce⟩
 ·refine wpAny_bind (wpAny_bind (wpAny_onRaise (wpAny_bind (m:=Builtin.SmallTypes.nextOf (.ref i1)) (nx _ _ _ _ (o1.but h1 k1.extBut D.i1z D.l1z) fun g2 k2=>wpAny_pure ?_))));have t2:IsPair g2 TO a b:=k2.extBut _ _ D.TOi1 (k1.extBut _ _ D.TOz hTO);refine wpAny_bind (wpAny_seqItems t2 rfl (wpAny_bind (wpAny_updateSeq_pair t2 fun g3 t3 k3=>wpAny_bind (wpAny_letGo (wpAny_pure ?_)))));refine wpAny_bind (wpAny_bind (wpAny_onRaise (wpAny_bind (m:=Builtin.SmallTypes.nextOf (.ref i2)) (n _ _ _ _ hh (o2.but (o2.but (o2.but h2 k1.extBut D.i2z D.l2z) k2.extBut D.i12.symm D.l2i1) k3.extBut D.TOi2.symm D.l2TO) fun g4 e k4 ⟨oe,he,ce⟩=>?_))));have z4:IsZip g4 z TI TO .ellipsis:=k4 _ _ D.i2z.symm (k3.extBut _ _ D.TOz.symm (k2.extBut _ _ D.i1z.symm z1));have ez:e≠z:=fun q=>by subst q; rw[z4] at he; cases he; simp at ce
  exact wpAny_setField_rec z4 (by simp) fun g5 _ k5=>hE g5 e (fun c o c1 c2 c3 c4 q=>k5.extBut _ _ c1 (k4 _ _ c4 (k3.extBut _ _ c2 (k2.extBut _ _ c3 (k1.extBut _ _ c1 q))))) ⟨oe,k5.extBut _ _ ez he,ce⟩
theorem aFY {z TI TO:Addr}{f0:Value}{Q:Option Value→Shared→Prop}(hz:IsZip s.heap z TI TO f0)
  (h:wpAny (model prog w) A.in1 (Builtin.«zip.__next__» ⟨[.ref z],[]⟩) (fun fin s'=>∃ v,fin=.done (.ret v)∧Q (some v) s') (fun e s'=>(∃ a o,e=.ref a∧s'.heap.get? a=some o∧o.cls=.type "StopIteration")∧Q none s') s) :
  wpAny (model prog w) A (pyNext (.ref z)) Q E s:=by
 have hT:s.TypeIs (.ref z) "zip" := ⟨_,hz,rfl⟩;unfold pyNext;refine wpAny_bind (wpAny_attempt (wpAny_callSpecial?_slot (name:=Str.ofString "__next__") hT F.slot_zip_next (wpAny_call_entry F.slot_zip_next hT F.entry_zip_next ?_ (F.args_zip_next_1 _))));refine wpAny_mono h (fun fin s' ⟨v,e,q⟩=>⟨v,e,wpAny_pure q⟩) fun e s' ⟨⟨a,o,ea,ho,hc⟩,q⟩=>?_;subst ea;exact wpAny_bind (wpAny_isInstance (T := "StopIteration") (b:=true) ⟨o,ho,hc⟩ isSubtype_stop (wpAny_pure q))
abbrev zT1 (h:Heap)(l1:Addr):Heap:=h.push { cls:=.type "tuple_iterator", data:=.fields #[.ref l1,.int 0 0] }
abbrev zT2 (h:Heap)(l1 l2:Addr):Heap:=(zT1 h l1).push { cls:=.type "list_iterator", data:=.fields #[.ref l2,.int 0 0] }
abbrev zT3 (h:Heap)(l1 l2:Addr):Heap:=(zT2 h l1 l2).push { cls:=.type "tuple", data:=.seq #[.ref h.objs.size,.ref (zT1 h l1).objs.size] }
abbrev zT4 (h:Heap)(l1 l2:Addr):Heap:=(zT3 h l1 l2).push { cls:=.type "tuple", data:=.seq #[.none,.none] }
abbrev zT5 (h:Heap)(l1 l2:Addr):Heap:=(zT4 h l1 l2).push { cls:=.type "zip", data:=.fields #[.none,.bool false,.bool false,.ref (zT2 h l1 l2).objs.size,.ref (zT3 h l1 l2).objs.size] }
theorem aAO (l1 l2:Addr)(xs ys:Array Value):Meets (Builtin.«zip.__new__» ⟨[.type "zip", .ref l1,.ref l2],[]⟩) (fun _ R s=>s.heap.IsTuple l1 xs∧s.heap.IsList l2 ys∧R (.ok (.ret (.ref (zT4 s.heap l1 l2).objs.size))) { s with heap:=zT5 s.heap l1 l2 }):=
 .of_wp fun prog w A R s h=>by
  obtain⟨hp,g,d,tk,os⟩:=s;obtain⟨q1,q2,h⟩:=h;have hsub:=sub_zip;have hL1:Heap.IsTuple (Shared.heap ⟨hp,g,d,tk,os⟩) l1 xs:=q1;have hL2:Heap.IsList (Shared.heap ⟨hp.push { cls:=.type "tuple_iterator", data:=.fields #[.ref l1,.int 0 0] },g,d,tk,os⟩) l2 ys:=Heap.IsList.push q2 _
  wp_walk using wpAny_pyIter_tuple hL1,wpAny_pyIter_list hL2
  exact⟨_,rfl,h⟩
theorem aEC {l1 l2:Addr}{xs ys:Array Value}{Q:Value→Shared→Prop}(q1:s.heap.IsTuple l1 xs)(q2:s.heap.IsList l2 ys)
  (h:∀ h',IsZip h' (s.heap.objs.size+4) (s.heap.objs.size+2) (s.heap.objs.size+3) .none→IsPair h' (s.heap.objs.size+2) (.ref (s.heap.objs.size+0)) (.ref (s.heap.objs.size+1)) →
   IsPair h' (s.heap.objs.size+3) .none .none→h'.IsTupleIter (s.heap.objs.size+0) l1 0→h'.IsListIter (s.heap.objs.size+1) l2 0 →
   (∀ c o,s.heap.get? c=some o→h'.get? c=some o)→Q (.ref (s.heap.objs.size+4)) { s with heap:=h' }):wpAny (model prog w) A (call (.type "zip") [.ref l1,.ref l2]) Q E s:=by
 refine callType_new F.called_zip (by decide) (F.typeCall_zip_2 _ _) (F.newCall_zip_2 _ _) (fun obj=>F.args_object_init_3 obj _ _) F.entry_zip_new (aAO l1 l2 xs ys) ⟨q1,q2,?_⟩;have e1:(zT1 s.heap l1).objs.size=s.heap.objs.size+1:=Heap.size_push ..;have e2:(zT2 s.heap l1 l2).objs.size=s.heap.objs.size+2:=by rw[Heap.size_push,e1]
 have e3:(zT3 s.heap l1 l2).objs.size=s.heap.objs.size+3:=by rw[Heap.size_push,e2]
 have e4:(zT4 s.heap l1 l2).objs.size=s.heap.objs.size+4:=by rw[Heap.size_push,e3]
 have g5:(zT5 s.heap l1 l2).get? (zT4 s.heap l1 l2).objs.size=some _:=Heap.get?_push_size _ rfl;have g4:(zT5 s.heap l1 l2).get? (zT3 s.heap l1 l2).objs.size=some _:=Heap.get?_push_of_some _ (Heap.get?_push_size _ rfl);have g3:(zT5 s.heap l1 l2).get? (zT2 s.heap l1 l2).objs.size=some _:=Heap.get?_push_of_some _ (Heap.get?_push_of_some _ (Heap.get?_push_size _ rfl));have g2:(zT5 s.heap l1 l2).get? (zT1 s.heap l1).objs.size=some _:=Heap.get?_push_of_some _ (Heap.get?_push_of_some _ (Heap.get?_push_of_some _ (Heap.get?_push_size _ rfl)));have g1:(zT5 s.heap l1 l2).get? s.heap.objs.size=some _:=Heap.get?_push_of_some _ (Heap.get?_push_of_some _ (Heap.get?_push_of_some _ (Heap.get?_push_of_some _ (Heap.get?_push_size _ rfl))));show _∧_;rw[e2,e3,e4] at g5;rw[e1,e2] at g3;rw[e3] at g4;rw[e1] at g2;rw[e4];exact⟨⟨_,g5,rfl⟩,h _ g5 g3 g4 ⟨_,g1,rfl,rfl⟩ ⟨_,g2,rfl,rfl⟩ fun c o x=>Heap.get?_push_of_some _ (Heap.get?_push_of_some _ (Heap.get?_push_of_some _ (Heap.get?_push_of_some _ (Heap.get?_push_of_some _ x))))⟩
end
def aM6 (K:Fg)(a b:Addr):It:=
  ⟨fun i H=>∃ xs ys x y,SqT K H a xs∧SqL K H b ys∧xs[i]?=some x∧ys[i]?=some y,
   fun i H v H'=>∃ T x y,v=.ref T∧H T=none∧H'=upd H T (.tup [x,y])∧∀ xs ys,SqT K H a xs→SqL K H b ys→xs[i]?=some x∧ys[i]?=some y,
   fun i H=>∃ xs ys,SqT K H a xs∧SqL K H b ys∧(xs.length≤i∨ys.length≤i)⟩
theorem a84 {i a:Addr}{k:Nat}{xs:Array Value}:On2 (fun h=>h.IsTupleIter i a k∧h.IsTuple a xs) i a:=fun h h' st k=>⟨st.1.at fun o e=>k i o (.inl rfl) e,st.2.at fun o e=>k a o (.inr rfl) e⟩
theorem a8S {i a:Addr}{k:Nat}{xs:Array Value}:On2 (fun h=>h.IsListIter i a k∧h.IsList a xs) i a:=fun h h' st k=>⟨st.1.at fun o e=>k i o (.inl rfl) e,st.2.at fun o e=>k a o (.inr rfl) e⟩
theorem a93 {P:Program}{w:World}{K:Fg}{elts:List Expr}{cx}{tp:Pos}{z TI TO i1 i2 a b:Addr}(D:ZipApart z TI TO i1 i2 a b):Turn P w K (.Tuple elts cx tp) (aM6 K a b) [z,TI,TO,i1,i2] z
  (fun i h=>IsZip h z TI TO .none∧IsPair h TI (.ref i1) (.ref i2)∧(∃ u v,IsPair h TO u v)∧h.IsTupleIter i1 a i∧h.IsListIter i2 b i) where
 mem:=by simp
 obj:=fun i h st c hc=>by
  obtain⟨hz,hTI,⟨u,v,hTO⟩,⟨o1,e1,c1,d1⟩,⟨o2,e2,c2,d2⟩⟩:=st;simp only[List.mem_cons,List.not_mem_nil,or_false] at hc;rcases hc with rfl|rfl|rfl|rfl|rfl
  ·exact⟨_,hz,fun v z=>by cases z⟩
  ·exact⟨_,hTI,fun v z=>by cases z⟩
  ·exact⟨_,hTO,fun v z=>by cases z⟩
  ·exact⟨o1,e1,fun v z=>by rw[d1] at z; cases z⟩
  ·exact⟨o2,e2,fun v z=>by rw[d2] at z; cases z⟩
 keep:=fun i h h' st k=>by
  obtain⟨hz,hTI,⟨u,v,hTO⟩,h1,h2⟩:=st;exact⟨k z (by simp) _ hz,k TI (by simp) _ hTI,⟨u,v,k TO (by simp) _ hTO⟩,h1.at fun o e=>k i1 (by simp) o e,h2.at fun o e=>k i2 (by simp) o e⟩
 item:=by
  intro X hP hw hK hc i pins s σ H E I hf st hg;subst hP hw hK;obtain⟨xs,ys,x,y,qx,qy,ex,ey⟩:=hg;obtain⟨ix,rx,px,zx⟩:=I.tuple qx;obtain⟨iy,ry,py,zy⟩:=I.list qy;obtain⟨ux,gx,rux⟩:=rx.get ex;obtain⟨uy,gy,ruy⟩:=ry.get ey;obtain⟨hz,hTI,⟨u,v,hTO⟩,h1,h2⟩:=st;have l1:i1<s.heap.objs.size:=by obtain⟨_,e,_⟩:=h1; exact Heap.lt_size e
  have l2:i2<s.heap.objs.size:=by obtain⟨_,e,_⟩:=h2; exact Heap.lt_size e
  refine aFY hz (aDU (x:=ux) (y:=uy) (S1:=fun h=>h.IsTupleIter i1 a i∧h.IsTuple a ix.toArray) (S1':=fun h=>h.IsTupleIter i1 a (i+1)∧h.IsTuple a ix.toArray)
   (S2:=fun h=>h.IsListIter i2 b i∧h.IsList b iy.toArray) (S2':=fun h=>h.IsListIter i2 b (i+1)∧h.IsList b iy.toArray) D hz hTI hTO a84 a8S a8S a84
   (fun A E s Q st hQ=>a3N st.1 st.2 (by simpa using gx) fun h' q k=>hQ h' ⟨q,st.2.extBut k.extBut D.l1i1⟩ k)
   (fun A E s Q st hQ=>wpAny_nextOf_list_item st.1 st.2 (by simpa using gy) fun h' q k=>hQ h' ⟨q,st.2.extBut k.extBut D.l2i2⟩ k)
   ⟨h1,px⟩ ⟨h2,py.isList⟩ l1 l2 fun h' a1 a2 a3 a4 a5 kp=>?_)
  refine⟨_,rfl,wpAny_letOwnedTupleGo_zip a1 fun h'' hz' hs'=>?_⟩;have hs':Heap.SameBut z h' h'':=hs';have nT:s.heap.objs.size≠z:=Nat.ne_of_gt (Heap.lt_size hz);have hT:IsPair h'' s.heap.objs.size ux uy:=hs'.extBut _ _ nT a5;have I2:Inv X pins σ (upd H s.heap.objs.size (.tup [x,y])) { s with heap:=h'' }:=I.turnedL (t':=s.toks) (ch:=[z,TI,TO,i1,i2])
   (fun c o hc e=>hs'.extBut _ _ (fun q=>hc (by simp[q])) (kp c o (fun q=>hc (by simp[q])) (fun q=>hc (by simp[q])) (fun q=>hc (by simp[q])) (fun q=>hc (by simp[q])) e))
   hf (Nat.le_refl _) ⟨nM (by show 2≤1000; decide),[ux,uy],.cons rux (.cons ruy .nil),⟨_,hT,rfl,_,rfl⟩⟩
  have fr:=I.hok.fresh (Nat.le_refl s.heap.objs.size);refine⟨.ref s.heap.objs.size,_,I2,rfl,⟨_,x,y,rfl,fr,rfl,fun xs' ys' q1 q2=>⟨by rw[I.tuple_inj q1 qx]; exact ex,by rw[I.list_inj q2 qy]; exact ey⟩⟩,⟨hz',hs'.extBut _ _ D.TIz (kp _ _ D.TIz D.TITO D.TIi1 D.TIi2 hTI),⟨_,_,hs'.extBut _ _ D.TOz a2⟩,a3.1.extBut hs'.extBut D.i1z,a4.1.extBut hs'.extBut D.i2z⟩,fun c hc=>?_⟩;have lt:c<s.heap.objs.size:=by
   simp only[List.mem_cons,List.not_mem_nil,or_false] at hc;rcases hc with rfl|rfl|rfl|rfl|rfl
   ·exact Heap.lt_size hz
   ·exact Heap.lt_size hTI
   ·exact Heap.lt_size hTO
   ·exact l1
   ·exact l2
  rw[aZ (Nat.ne_of_lt lt)];exact(hf c hc).1
 done:=by
  intro X hP hw hK hc i pins s σ H E I hf st hg;subst hP hw hK;obtain⟨xs,ys,qx,qy,hle⟩:=hg;obtain⟨ix,rx,px,zx⟩:=I.tuple qx;obtain⟨iy,ry,py,zy⟩:=I.list qy;obtain⟨hz,hTI,⟨u,v,hTO⟩,h1,h2⟩:=st;have lx:=rx.length;have ly:=ry.length;refine aFY hz (aG1 (S1:=fun h=>h.IsTupleIter i1 a i∧h.IsTuple a ix.toArray) (S2:=fun h=>h.IsListIter i2 b i∧h.IsList b iy.toArray) (I.ok.hd hc) D hz hTI hTO a84 a8S ⟨h1,px⟩ ⟨h2,py.isList⟩ ?_ fun h' e kp ⟨o,he,ce⟩=>⟨⟨e,o,rfl,he,ce⟩,rfl,I.turnedC (t':=s.toks) (ch:=[z,TI,TO,i1,i2]) (fun c o hc e=>?_) hf⟩)
  ·by_cases q:xs.length≤i
   ·exact .inl fun A E s Q hh st hE=>aDY hh st.1 st.2 (by simp; omega) hE
   ·obtain⟨ux,gx⟩:∃ u,ix[i]?=some u:=⟨ix[i]'(by omega),List.getElem?_eq_getElem _⟩;exact .inr ⟨⟨ux,fun A E s Q st hQ=>a3N st.1 st.2 (by simpa using gx) fun h' q k=>hQ h' k⟩,fun A E s Q hh st hE=>wpAny_nextOf_list_end hh st.1 st.2 (by simp; omega) hE⟩
  ·exact kp c o (fun q=>hc (by simp[q])) (fun q=>hc (by simp[q])) (fun q=>hc (by simp[q])) (fun q=>hc (by simp[q])) e
 self:=fun _ _ _ _ _ st h=>wpAny_pyIter_zip st.1 h
section
variable {X:Cx}
def aGK (K:Fg)(ta:TA):TI:=fun σ H R=>ta σ H fun vs H1=>∃ p q xs ys,vs=[.ref p,.ref q]∧SqT K H1 p xs∧SqL K H1 q ys∧R (aM6 K p q) H1
theorem aEM {a b:Expr}{ta:TA}{p pos tp:Pos}{elts:List Expr}{cx}(hg:Gl X "zip")(hm:X.mg "zip" = none)(ha:PA X [a,b] ta)
  (he2:starEach [a,b] X.env=(false,eval a X.env)::starEach [b] X.env:=by rfl) (hpl2:(backTo pos (starEach [b] X.env)).any (·.1)=false:=by rfl) :
  PI X (.Tuple elts cx tp) (.Call (.Name "zip" p) [a,b] [] pos) (aGK X.K ta):=by
 intro pins s σ H R I h;refine wpAny_Call_Name_kw (wA I hg hm boot_zip ?_ (by decide) (by decide));refine PyProof.Rows.callWith_type1 (thn (ha pos pins s σ H _ I h) fun us s1 ⟨vs,H1,I1,r1,p,q,xs,ys,e,hp,hq,k⟩=>?_) he2 hpl2;subst e
 cases r1 with
 | cons ra rb=>
  cases rb with
  | cons rb rc=>
   cases rc
   cases ra
   cases rb
   obtain⟨ix,rx,px,zx⟩:=I1.tuple hp;obtain⟨iy,ry,py,zy⟩:=I1.list hq;refine aEC (show s1.heap.IsTuple p ix.toArray from px) py.isList fun h' hz hTI hTO i1 i2 kp=>?_;have lp:p<s1.heap.objs.size:=px.lt;have lq:q<s1.heap.objs.size:=by obtain⟨o,e,_⟩:=py.isList; exact Heap.lt_size e
   have ap:∀{b:Addr} (n:Nat),b<s1.heap.objs.size→b≠s1.heap.objs.size+n:=fun n hb=>Nat.ne_of_lt (Nat.lt_of_lt_of_le hb (Nat.le_add_right _ _));have ne:∀(m n:Nat),m≠n→s1.heap.objs.size+m≠s1.heap.objs.size+n:=fun m n h e=>h (Nat.add_left_cancel e);have D:ZipApart (s1.heap.objs.size+4) (s1.heap.objs.size+2) (s1.heap.objs.size+3) (s1.heap.objs.size+0) (s1.heap.objs.size+1) p q:=
    ⟨ne _ _ (by decide),ne _ _ (by decide),ne _ _ (by decide),ne _ _ (by decide),ne _ _ (by decide),ne _ _ (by decide),ne _ _ (by decide),ne _ _ (by decide),ne _ _ (by decide),ne _ _ (by decide),ap _ lp,ap _ lp,ap _ lp,ap _ lp,ap _ lq,ap _ lq,ap _ lq,ap _ lq⟩
   refine wpAny_pyIter_zip hz ?_;have I2:Inv X pins σ H1 { s1 with heap:=h' }:=I1.kept (t':=s1.toks) kp;refine⟨_,[s1.heap.objs.size+4,s1.heap.objs.size+2,s1.heap.objs.size+3,s1.heap.objs.size+0,s1.heap.objs.size+1],_,_,H1,rfl,I2,a93 D,⟨hz,hTI,⟨_,_,hTO⟩,i1,i2⟩,fun c hc=>?_,k⟩;have hle:s1.heap.objs.size≤c:=by
    simp only[List.mem_cons,List.not_mem_nil,or_false] at hc;rcases hc with rfl|rfl|rfl|rfl|rfl<;>exact Nat.le_add_right _ _
   exact I1.fpOk hle (I1.hok.fresh hle)
end
end L2
namespace L2.VS
open PySem PySem.Spec PyProof.Rows
section
variable {P0:Addr→Hp→Prop}{K:Fg}
def aEJ (ma mb:ME):MD:=fun Γ Q=>ma Γ fun x Γ1=>mb Γ1 fun y Γ2=>match x,y with
 | .tuple ds,.list es=>Q (aDV ds es) Γ2
 | _,_=>False
theorem aE9 {ta tb:TE}{ma mb:ME}(ha:VT P0 ta ma)(hb:VT P0 tb mb):VI P0 (aGK K (dN ta (dN tb pW))) (aEJ ma mb):=by
 intro F Γ σ G H Q Qm r m k;refine ha F Γ σ G H _ _ r m fun d Γ1 x G1 H1 m1 s1 r1 d1=>?_;refine hb F Γ1 σ G1 H1 _ _ r1 m1 fun e Γ2 y G2 H2 m2 s2 r2 d2=>?_;have d1:=Dt.same s2 _ _ d1
 split at m2
 ·rename_i ds es _
  cases d1 with
  | @tup p xs _ hp rs=>
   cases d2 with
   | @lst q ys _ hq ss=>
    refine⟨p,q,xs,ys,rfl,SqT.of (r2.fr.sub _ _ hp),SqL.of (r2.fr.sub _ _ hq),k _ _ _ _ _ m2 (s1.trans s2) r2 fun F3 Γ3 σ3 G3 H3 s3 r3=>⟨fun i d e=>?_,?_⟩⟩
    ·have hp3:=SqT.of (K:=K) (r3.fr.sub _ _ (s3 _ _ hp));have hq3:=SqL.of (K:=K) (r3.fr.sub _ _ (s3 _ _ hq));unfold aDV at e;rw[List.getElem?_map] at e
     cases ez:(ds.zip es)[i]? with
     | none=>rw[ez] at e; cases e
     | some z=>
      rw[ez] at e
      cases e
      obtain⟨f1,f2⟩:=List.getElem?_zip_eq_some.mp ez;obtain⟨v1,g1,dv1⟩:=Dts.get rs f1;obtain⟨v2,g2,dv2⟩:=Dts.get ss f2;refine⟨⟨xs,ys,v1,v2,hp3,hq3,g1,g2⟩,fun v H4 hy=>?_⟩;obtain⟨T,x',y',rfl,hT,rfl,hxy⟩:=hy;obtain⟨h1,h2⟩:=hxy xs ys hp3 hq3;rw[g1] at h1; cases h1;rw[g2] at h2; cases h2;have g:=gB (r3.fr.gfresh hT) (.tup [v1,v2]);exact⟨_,g,r3.new hT,.tup bA (.cons (Dt.same (s3.trans g) _ _ dv1) (.cons (Dt.same (s3.trans g) _ _ dv2) .nil))⟩
    ·refine⟨xs,ys,SqT.of (r3.fr.sub _ _ (s3 _ _ hp)),SqL.of (r3.fr.sub _ _ (s3 _ _ hq)),?_⟩;have l1:=rs.len;have l2:=ss.len;have l3:(aDV ds es).length=min ds.length es.length:=by unfold aDV; rw[List.length_map,List.length_zip]
     rw[l3,l1,l2];omega
 ·exact m2.elim
theorem aI6 {ma mb:ME}{Γ:En}{Q:List D→En→Prop}(h:ma Γ fun x Γ1=>mb Γ1 fun y Γ2=>match x,y with|.tuple ds,.list es=>Q (aDV ds es) Γ2|_,_=>False):aEJ ma mb Γ Q:=h
end
end L2.VS
namespace L2
open PySem PySem.Spec PyProof.Rows
@[irreducible] def PPd (X:Cx) (pos:Pos) (ks:List (Option Expr)) (vs:List Expr) (trs:List (TE×TE)):Prop:=PPs X pos ks vs trs
section
variable {X:Cx}{pos:Pos}{ks:List (Option Expr)}{vs:List Expr}{trs:List (TE×TE)}{k v e:Expr}{es:List Expr}{tk tv te:TE}{tl:TA}
theorem aDC:PPd X pos [] [] []:=by unfold PPd; exact aDX
theorem xM (hk:PE X k tk)(hv:PEd X v tv)(hr:PPd X pos ks vs trs):PPd X pos (some k::ks) (v::vs) ((tk,tv)::trs):=by
 unfold PPd PEd at *;exact aAH hk hv hr
theorem a2Q {x1}(h:PAd X es tl):PEd X (.Tuple es x1 pos) (aIH tl):=by
 unfold PEd PAd at *;exact fV h
theorem yF:PAd X [] pW:=by unfold PAd; exact aC
theorem aB0 (h:PPd X pos ks vs trs)(ha:ks.all (·.isSome)=true)(hl:ks.length=vs.length)(h0:ks≠[])(hf:ks.length≤15):PEd X (.Dict ks vs pos) (aE5 trs):=by
 unfold PEd PPd at *;exact aDE h ha hl h0 hf
theorem a6I (ha:PEd X e te)(hr:PAd X es tl)(hs:starEach (e::es) X.env=(false,eval e X.env)::starEach es X.env:=by rfl):PAd X (e::es) (dN te tl):=by
 unfold PEd PAd at *;exact aA ha hr hs
theorem aHH (h:PAd X es tl):PA X es tl:=by unfold PAd at h; exact h
end
end L2
namespace My
open PySem PySem.Spec PyProof.Rows L2 L2.VS LT
def top (i:Nat):Stmt:=PySem.Challenge.pw_leadtimes_k42_logs_written.main.body.getD i (.Pass ⟨0,0,0,0⟩)
set_option hygiene false in
local macro_rules|`(tactic| walk_at "vn")=>`(tactic| dsimp only[List.set_cons_zero,List.set_cons_succ,List.set_nil,Rv.sl,Rv.d,nbQ,List.replicate,List.cons_append,List.nil_append,a7C,List.map_cons,List.map_nil])
set_option hygiene false in
local macro_rules|`(tactic| walk_at "v1")=>`(tactic| first
 | (with_reducible first
  | apply aL8|apply aIQ|apply aKD|apply aKP|apply aMR|apply aIT
  | refine aKJ (by with_unfolding_all rfl) ?_
  | apply i_c|apply aJV|apply aF6|apply aI5
  | refine aG3 (by with_unfolding_all rfl) ?_
  | apply aIF|apply aL1|apply aH4|apply aKN|apply aLD|apply aML|apply aMO|apply i_I|apply i_U|apply aMU|apply aMT
  | apply aL4|apply aMP|apply aJF|apply aFT|apply aFJ|apply aJL|apply aHJ|apply aIO|apply aL9|apply aJD|apply aK7
  | apply aKL|apply aJ7|apply aKC|apply aFO|apply aN0
  | refine aMQ (by with_unfolding_all rfl) ?_
  | apply aB4|apply aEO|apply aJI|apply aMX|apply aF4|apply aDR|apply aAV|apply aIM|apply aKW|apply aKF|apply aMK
  | refine a9Y (by with_unfolding_all rfl) ?_
  | refine i_clear (by with_unfolding_all rfl) ?_
  | refine aGR (by with_unfolding_all rfl) ?_
  | refine i_pubS0 (by with_unfolding_all rfl) ?_
  | refine aGW (by with_unfolding_all rfl) ?_
  | refine i_moveV (by with_unfolding_all rfl) ?_
  | apply dM (aE1 _)|apply dM (aCP _)|apply dM (a9R _)|apply dM (aAX _)
  | apply a1F|apply a0Q
  | refine isT (by with_unfolding_all rfl) ?_
  | refine isF (by with_unfolding_all rfl) ?_
  | refine aN1 (by with_unfolding_all rfl) ?_
  | refine isNF (by with_unfolding_all rfl) ?_
  | apply aIP|apply aL7
  | refine And.intro rfl ?_
  | refine And.intro (Nat.le_of_ble_eq_true (by with_unfolding_all rfl)) ?_
  | refine And.intro (aKK (by assumption) (by assumption)) ?_
  | (refine And.intro (good_int _) (And.intro (good_int _) ?_); rw[aCJ])
  | (refine And.intro (good_num _) (And.intro (good_num _) ?_); rw[eqv_num])
  | (refine And.intro (good_line _) (And.intro (good_line _) ?_); rw[eqv_line])
  | (refine And.intro (good_bool _) (And.intro (good_bool _) ?_); rw[aAJ]))
 | dsimp only[Rv.d,Rv.sl,nbQ,Bool.not_true,Bool.not_false,isN,rT])
set_option hygiene false in
local macro_rules|`(tactic| walk_at "vs")=>`(tactic| repeat (walk_at "v1"))
set_option hygiene false in
local macro_rules|`(tactic| walk_at "w1")=>`(tactic| first
 | walk_at "v1"
 | with_reducible apply aHL
 | with_reducible apply aMZ
 | with_reducible apply aKS
 | with_reducible apply aJ4
 | with_reducible refine i_ixC (by with_unfolding_all rfl) ?_)
set_option hygiene false in
local macro_rules|`(tactic| walk_at "ws")=>`(tactic| repeat (walk_at "w1"))
set_option hygiene false in
local macro_rules|`(tactic| walk_at "l1")=>`(tactic| first
 | walk_at "w1"
 | with_reducible refine aF3 (by with_unfolding_all rfl) ?_
 | with_reducible refine aJQ (by with_unfolding_all rfl) rfl ?_
 | with_reducible apply aFN
 | with_reducible refine aJY (by with_unfolding_all rfl) ?_
 | with_reducible apply aFB
 | with_reducible refine aA4 (by with_unfolding_all rfl) ?_
 | with_reducible refine aIR (by with_unfolding_all rfl) ?_
 | with_reducible apply i_compLn)
set_option hygiene false in
local macro_rules|`(tactic| walk_at "ls")=>`(tactic| repeat (walk_at "l1"))
set_option hygiene false in
local macro_rules|`(tactic| walk_at "kp")=>`(tactic| repeat (with_unfolding_all first
 | exact kept_n
 | apply kept_f
 | refine kept_t cut_pen ?_
 | refine kept_t cut_walk ?_
 | refine kept_t cut_lst ?_))
set_option hygiene false in
local macro_rules|`(tactic| walk_at "m1")=>`(tactic| first
 | walk_at "l1"
 | with_reducible refine i_slJ (by with_unfolding_all rfl) ?_)
set_option hygiene false in
local macro_rules|`(tactic| walk_at "ms")=>`(tactic| repeat (walk_at "m1"))
set_option hygiene false in
local macro_rules|`(tactic| walk_at "f1")=>`(tactic| first
 | walk_at "m1"
 | with_reducible refine aDT (by with_unfolding_all rfl) ?_
 | with_reducible refine aHR (by with_unfolding_all rfl) ?_
 | with_reducible refine aGJ (by with_unfolding_all rfl) ?_
 | with_reducible refine a5Y (by with_unfolding_all rfl) ?_
 | with_reducible refine aAP (by with_unfolding_all rfl) ?_
 | with_reducible refine aHC (by with_unfolding_all rfl) ?_
 | with_reducible apply a7M
 | with_reducible refine aHX (by with_unfolding_all rfl) ?_
 | with_reducible refine a6K (by with_unfolding_all rfl) ?_
 | with_reducible apply aEK
 | with_reducible refine aK6 (by with_unfolding_all rfl) ?_
 | with_reducible refine aCO (by with_unfolding_all rfl) ?_
 | with_reducible refine i_rev (by with_unfolding_all rfl) ?_)
set_option hygiene false in
local macro_rules|`(tactic| walk_at "fs")=>`(tactic| repeat (walk_at "f1"))
set_option hygiene false in
local macro_rules|`(tactic| walk_at "g1")=>`(tactic| first
 | walk_at "f1"
 | with_reducible apply a07
 | with_reducible apply aG8
 | with_reducible refine aIY (by with_unfolding_all rfl) ?_
 | with_reducible refine aDJ (by with_unfolding_all rfl) ?_)
set_option hygiene false in
local macro_rules|`(tactic| walk_at "gs")=>`(tactic| repeat (walk_at "g1"))
set_option hygiene false in
local macro_rules|`(tactic| walk_at "t1")=>`(tactic| first
 | walk_at "w1"
 | with_reducible apply aH1
 | with_reducible apply aKG
 | with_reducible apply aHK
 | with_reducible apply aK3
 | with_reducible apply aGS
 | with_reducible apply aK0
 | with_reducible apply aL5
 | with_reducible apply aK9
 | with_reducible apply aA9
 | with_reducible apply aIZ
 | with_reducible apply aJ9
 | with_reducible apply aGN
 | with_reducible apply aGG
 | with_reducible apply aJC
 | with_reducible apply aE6
 | with_reducible apply aKU
 | with_reducible apply aJT
 | with_reducible apply aJP
 | with_reducible apply aJA
 | with_reducible apply aL0
 | with_reducible apply aJB
 | with_reducible apply aI6
 | with_reducible apply aF1)
set_option hygiene false in
local macro_rules|`(tactic| walk_at "ts")=>`(tactic| repeat (walk_at "t1"))
def bL:Fm:=a9M
def qI:MS:=
 (fQ (cQ (qN (wW "int" (aX 0)) (aCF (wW "bool" (aX 0))))))
def cG:Fm:=mFn 0 qI
def gF:MS:=
 (fQ (cQ (aX 2)))
def gG:MS:=
 (cU (jX 4 (cQ (aKZ (aX 2) (aX 3))))
  (cU (jX 2 (cQ (aX 3)))
  (jX 3 (cQ (aX 4)))))
def fJ:MS:=
 (cU (jX 2 (cQ (aEV (aX 0))))
  (cU (jX 3 (cQ (aEV (aX 1))))
  (cU (a2Z (dY (mNe (aX 3) (mC (.int 0))))
  gG)
  gF)))
def bR:Fm:=mFn 3 fJ
def oF:MS:=
 (fQ (cQ (yU (bW (a5K (aX 0) (aX 2)) (bW (a5K (aX 1) (aX 2)) lO)))))
def o7:MS:=
 (cU (jX 2 (cQ (cV (bO 2 bR (cD (aX 0) (cD (aX 1) cX))))))
  (cU (mIf (dY (mLt (aX 1) (mC (.int 0))))
  (jX 2 (cQ (aIK (aX 2))))
  mNx)
  oF))
def oR:MS:=
 (cU (mIf (mOr (yV (dY (cV (bO 1 cG (cD (aX 0) cX))))) (mOr (yV (dY (cV (bO 1 cG (cD (aX 1) cX))))) (dY (mEq (aX 1) (mC (.int 0))))))
  vP
  mNx)
  o7)
def cN:Fm:=mFn 1 oR
def xJ:MS:=
 (fQ (bO 2 cN (cD (a7K (a1V (mIx (aX 0) (mC (.int 0))) (mIx (aX 1) (mC (.int 1)))) (a1V (mIx (aX 1) (mC (.int 0))) (mIx (aX 0) (mC (.int 1))))) (cD (a1V (mIx (aX 0) (mC (.int 1))) (mIx (aX 1) (mC (.int 1)))) cX))))
def nD:Fm:=mFn 0 xJ
def iU:MS:=
 (fQ (bO 2 cN (cD (aEU (a1V (mIx (aX 0) (mC (.int 0))) (mIx (aX 1) (mC (.int 1)))) (a1V (mIx (aX 1) (mC (.int 0))) (mIx (aX 0) (mC (.int 1))))) (cD (a1V (mIx (aX 0) (mC (.int 1))) (mIx (aX 1) (mC (.int 1)))) cX))))
def cP:Fm:=mFn 0 iU
def lR:MS:=
 (fQ (bO 2 cN (cD (a1V (mIx (aX 0) (mC (.int 0))) (mIx (aX 1) (mC (.int 0)))) (cD (a1V (mIx (aX 0) (mC (.int 1))) (mIx (aX 1) (mC (.int 1)))) cX))))
def cY:Fm:=mFn 0 lR
def tZ:MS:=
 (fQ (cQ (mLt (a1V (mIx (aX 0) (mC (.int 0))) (mIx (aX 1) (mC (.int 1)))) (a1V (mIx (aX 1) (mC (.int 0))) (mIx (aX 0) (mC (.int 1)))))))
def m7:Fm:=mFn 0 tZ
def qY:MS:=
 (fQ (bO 2 nD (cD (mIx (aX 0) (mC (.int 0))) (cD (cV (bO 2 cY (cD (mIx (aX 0) (mC (.int 1))) (cD (aX 1) cX)))) cX))))
def jY:Fm:=mFn 0 qY
def jJ:MS:=
 (fQ (cQ (yU (bW (cV (bO 2 cP (cD (aX 1) (cD (cV (bO 2 cY (cD (aX 2) (cD (aX 0) cX)))) cX)))) (bW (aX 2) lO)))))
def dC:Fm:=mFn 0 jJ
def o8:MS:=
 (fQ (cQ (qN (mGe (mIx (aX 0) (mC (.int 1))) (mC (.int 1))) (mEq (cV (bO 2 bR (cD (mIx (aX 0) (mC (.int 0))) (cD (mIx (aX 0) (mC (.int 1))) cX)))) (mC (.int 1))))))
def o6:MS:=
 (cU (mIf (mOr (yV (dY (cV (bO 1 cG (cD (mIx (aX 0) (mC (.int 0))) cX))))) (yV (dY (cV (bO 1 cG (cD (mIx (aX 0) (mC (.int 1))) cX))))))
  (fQ (cQ (mC (.bool false))))
  mNx)
  o8)
def oY:MS:=
 (cU (mIf (mOr (yV (dY (wW "tuple" (aX 0)))) (dY (mNe (a3E (aX 0)) (mC (.int 2)))))
  (fQ (cQ (mC (.bool false))))
  mNx)
  o6)
def eZ:Fm:=mFn 0 oY
def lF:MS:=
 (fQ (cQ (aCD (aX 0))))
def pY:MS:=
 (cU (mIf (aEX (dY (mEq (aKR (aX 0) (mC (.int 0))) (mC (.str "0")))) (dY (mNe (aX 0) (mC (.str "0")))))
  (fQ (cQ (mC .none)))
  mNx)
  lF)
def qJ:MS:=
 (cU (mIf (mOr (dY (mEq (aX 0) (mC (.str "")))) (mOr (dY (mGt (aCT (aX 0)) (mC (.int 60)))) (yV (dY (aIL (cV (a0F 1 [] (aJ0 (aX 0)) (gN 0) yE (aJX (aX 0) (mC (.str "0123456789"))))))))))
  (fQ (cQ (mC .none)))
  mNx)
  pY)
def cT:Fm:=mFn 1 qJ
def uD:MS:=
 (cU (jX 1 (cQ (cV (bO 1 cT (cD (aJ2 (aX 0) (pSo (mC (.int 1))) pNo) cX)))))
  (fQ (a9F (mOr (dY (aH5 (aX 1))) (dY (mEq (aX 1) (mC (.int 0))))) (cQ (mC .none)) (cQ (aIK (aX 1))))))
def xQ:MS:=
 (cU (mIf (yV (dY (a2E (aX 0) (mC (.str "-")))))
  (fQ (bO 1 cT (cD (aX 0) cX)))
  mNx)
  uD)
def mW:Fm:=mFn 1 xQ
def o4:MS:=
 (cU (jX 3 (cQ (cV (bO 1 cT (cD (mIx (aX 1) (mC (.int 1))) cX)))))
  (fQ (a9F (aEX (dY (mNe (aX 3) (mC (.int 1)))) (dY (cV (bO 1 eZ (cD (yU (bW (aX 2) (bW (aX 3) lO))) cX))))) (cQ (yU (bW (aX 2) (bW (aX 3) lO)))) (cQ (mC .none)))))
def jG:MS:=
 (cU (jX 2 (cQ (cV (bO 1 mW (cD (mIx (aX 1) (mC (.int 0))) cX)))))
  (cU (mIf (dY (mEq (a3E (aX 1)) (mC (.int 1))))
  (fQ (a9F (dY (aH5 (aX 2))) (cQ (mC .none)) (cQ (yU (bW (aX 2) (bW (mC (.int 1)) lO))))))
  mNx)
  o4))
def p7:MS:=
 (cU (jX 1 (cQ (cV (a01 (aX 0) (mC (.str "/"))))))
  (cU (mIf (dY (mGt (a3E (aX 1)) (mC (.int 2))))
  (fQ (cQ (mC .none)))
  mNx)
  jG))
def fX:Fm:=mFn 3 p7
def nA:MS:=
 (fQ (a9F (dY (mEq (aX 0) (mC (.str "number")))) (bO 1 fX (cD (aX 1) cX)) (bO 1 cT (cD (aX 1) cX))))
def fB:Fm:=mFn 0 nA
def pO:MS:=
 (a2D 4 (fQ (a9F (dY (mIn false (mC .none) (aX 4))) (cQ (mC .none)) (cQ (aDQ (aX 4))))))
def pP:MS:=
 (fY 4 (cV (bO 2 fB (cD (aX 5) (cD (aX 6) cX)))))
def pL:MS:=
 (cU (jX 4 (a2A (bW (mIx (aX 2) (mC (.int 0))) lO)))
  (cU (aB5 (aEJ (aX 3) (cV (aJN (aX 2) (pSo (mC (.int 1))) pNo))) (gT 2 (vX (gN 5) (vX (gN 6) aAM)))
  pP)
  pO))
def qK:MS:=
 (cU (jX 2 (cQ (cV (a01 (aX 0) (mC (.str " "))))))
  (cU (jX 3 (cQ (a6G 1 (mIx (aX 2) (mC (.int 0))))))
  (cU (mIf (mOr (dY (aH5 (aX 3))) (dY (mNe (a3E (aX 2)) (a7K (a3E (aX 3)) (mC (.int 1))))))
  (fQ (cQ (mC .none)))
  mNx)
  pL)))
def iR:Fm:=mFn 5 qK
def uG:MS:=
 (fQ (bO 2 iR (cD (aX 0) (aE3 (aFP "join" (yU (bW (mC (.str "number")) (bW (mC (.str "number")) (bW (mC (.str "number")) lO)))) (aFP "leave" (yU (bW (mC (.str "number")) (bW (mC (.str "whole")) lO))) (aFP "turn" (yU (bW (mC (.str "number")) (bW (mC (.str "whole")) (bW (mC (.str "number")) lO)))) aJG))) cX))))
def mQ:Fm:=mFn 0 uG
def pN:MS:=
 (fQ (a9F (dY (mNe (aX 0) (mC (.str "")))) (a01 (aX 0) (mC (.str "\n"))) (a2A lO)))
def qW:MS:=
 (cU (mIf (yV (dY (wW "str" (aX 0))))
  vP
  mNx)
  pN)
def kE:Fm:=mFn 0 qW
def f9:MS:=
 (mIf (dY (mIn false (mC .none) (aX 0)))
  vP
  mNx)
def cZ:Fm:=mFn 0 f9
def lE:MS:=
 (cU (jX 1 (cQ (mIx (aX 0) (mC (.int 0)))))
  (cU (jX 2 (cQ (mIx (aX 0) (mC (.int 1)))))
  (fQ (a9F (dY (mEq (aX 2) (mC (.int 1)))) (cQ (aBV (aX 1))) (cQ (mFs "/" (aX 1) (aX 2)))))))
def dW:Fm:=mFn 2 lE
def p6:MS:=
 (fQ (a9F (dY (wW "tuple" (aX 0))) (bO 1 dW (cD (aX 0) cX)) (cQ (aBV (aX 0)))))
def fW:Fm:=mFn 0 p6
def mJ:MS:=
 (fQ (cQ (a5F (mC (.str "\n")) (cV (a0F 1 [] (aIE (aX 0)) (gN 0) yE (a5F (mC (.str " ")) (cV (a0F 1 [] (aHI (aX 0)) (gN 0) yE (cV (bO 1 fW (cD (aX 0) cX)))))))))))
def fD:Fm:=mFn 2 mJ
def qO:MS:=
 (fQ (bO 1 fD (cD (aX 0) cX)))
def iQ:Fm:=mFn 0 qO
def jM (c:Addr):MS:=
 (cU (jX 2 (cQ (uB c 0)))
  (cU (a3V c 0 (aX 1) (aX 2))
  (cU (xK c 0 1)
  (zH (bG c) (cQ (aX 2))))))
def gA (c:Addr):Lm FS:=aEZ (bG c) 1 (jM c)
def uT (c:Addr):MS:=
 (zH (bG c) (cQ (mC .none)))
def tW (c:Addr):MS:=
 (cU (mIf (dY (mEq (mIx (aX 1) (mC (.int 0))) (mC (.str "leave"))))
  (a75 (a7V c 0 (mIx (aX 1) (mC (.int 2)))))
  (cU (jX 2 (cQ (cV (bO 2 jY (cD (aCV c 0 (mIx (aX 1) (mC (.int 2)))) (cD (mIx (aX 1) (mC (.int 1))) cX))))))
  (a3V c 0 (cV (bO 3 dC (cD (mIx (aX 1) (mC (.int 1))) (cD (aX 2) (cD (mIx (aX 1) (mC (.int 3))) cX))))) (mIx (aX 1) (mC (.int 2))))))
  (uT c))
def a8M (c:Addr):MS:=
 (cU (wV c 0 (mIx (aX 1) (mC (.int 1))))
  (cU (mIf (dY (mEq (mIx (aX 1) (mC (.int 0))) (mC (.str "join"))))
  (zH (bG c) (a08 (bG c) 2 (gA c) 0 (cD (cV (bO 3 dC (cD (mIx (aX 1) (mC (.int 1))) (cD (mIx (aX 1) (mC (.int 2))) (cD (mIx (aX 1) (mC (.int 3))) cX))))) cX)))
  mNx)
  (tW c)))
def a3T (c:Addr):Lm FS:=aEZ (bG c) 1 (a8M c)
def lJ (c:Addr):MS:=
 (zH (bG c) (cQ (aCY c 0 (mIx (aX 1) (mC (.int 2))))))
def lB (c:Addr):MS:=
 (cU (mIf (dY (mEq (mIx (aX 1) (mC (.int 0))) (mC (.str "join"))))
  (zH (bG c) (cQ (mLt (a94 c 0) (mC (.int 8)))))
  mNx)
  (lJ c))
def rA (c:Addr):MS:=
 (cU (mIf (aEX (dY (aD0 (xU c 0))) (dY (cV (bO 2 m7 (cD (mIx (aX 1) (mC (.int 1))) (cD (xU c 0) cX))))))
  (zH (bG c) (cQ (mC (.bool false))))
  mNx)
  (lB c))
def mV (c:Addr):Lm FS:=aEZ (bG c) 0 (rA c)
def iT:MS:=
 (fQ (cQ (qN (mLe (aEV (mIx (aX 0) (mC (.int 0)))) (mC (.int 999999999))) (mLe (mIx (aX 0) (mC (.int 1))) (mC (.int 12))))))
def gM:MS:=
 (cU (mIf (yV (dY (cV (bO 1 eZ (cD (aX 0) cX)))))
  (fQ (cQ (mC (.bool false))))
  mNx)
  iT)
def bU:Fm:=mFn 0 gM
def a0K:MS:=
 (fQ (cQ (mC (.bool false))))
def rQ:MS:=
 (cU (mIf (dY (mEq (mIx (aX 0) (mC (.int 0))) (mC (.str "turn"))))
  (fQ (cQ (qN (mEq (a3E (aX 0)) (mC (.int 4))) (qN (cV (bO 1 cG (cD (mIx (aX 0) (mC (.int 2))) cX))) (qN (cV (bO 1 bU (cD (mIx (aX 0) (mC (.int 1))) cX))) (cV (bO 1 bU (cD (mIx (aX 0) (mC (.int 3))) cX))))))))
  mNx)
  a0K)
def m9:MS:=
 (cU (mIf (dY (mEq (mIx (aX 0) (mC (.int 0))) (mC (.str "leave"))))
  (fQ (cQ (qN (mEq (a3E (aX 0)) (mC (.int 3))) (qN (cV (bO 1 bU (cD (mIx (aX 0) (mC (.int 1))) cX))) (cV (bO 1 cG (cD (mIx (aX 0) (mC (.int 2))) cX)))))))
  mNx)
  rQ)
def jB:MS:=
 (cU (mIf (dY (mEq (mIx (aX 0) (mC (.int 0))) (mC (.str "join"))))
  (fQ (cQ (qN (mEq (a3E (aX 0)) (mC (.int 4))) (aIL (cV (a0F 1 [] (aHI (aIJ (aX 0) (pSo (mC (.int 1))) pNo)) (gN 0) yE (cV (bO 1 bU (cD (aX 0) cX)))))))))
  mNx)
  m9)
def uL:MS:=
 (cU (mIf (mOr (yV (dY (wW "tuple" (aX 0)))) (mOr (dY (mLt (a3E (aX 0)) (mC (.int 3)))) (yV (dY (wW "str" (mIx (aX 0) (mC (.int 0))))))))
  (fQ (cQ (mC (.bool false))))
  mNx)
  jB)
def lX:Fm:=mFn 1 uL
def pU (c:Addr):MS:=
 (fQ (yR (aX 0)))
def qH (c:Addr):MS:=
 (a75 (cV (a08 (bG c) 2 (a3T c) 1 (cD (aX 3) cX))))
def pC (c:Addr):MS:=
 (cU (mIf (mOr (dY (mEq (aX 2) (mC (.int 40)))) (mOr (yV (dY (cV (bO 1 lX (cD (aX 3) cX))))) (yV (dY (cV (a08 (bG c) 2 (mV c) 1 (cD (aX 3) cX)))))))
  vP
  mNx)
  (qH c))
def qF (c:Addr):MS:=
 (cU (jX 1 (a6M c))
  (cU (aB5 (aK1 (aX 0)) (gT 2 (vX (gN 2) (vX (gN 3) aAM)))
  (pC c))
  (pU c)))
def yM (c:Addr):MS:=
 (cU (mIf (yV (dY (wW "list" (aX 0))))
  vP
  mNx)
  (qF c))
def pJ (c:Addr):Fm:=mFn 3 (yM c)
def rD (c:Addr):MS:=
 (cU (jX 1 (cQ (cV (a0F 1 [] (aIE (cV (bO 1 kE (cD (aX 0) cX)))) (gN 0) yE (cV (bO 1 mQ (cD (aX 0) cX)))))))
  (cU (a75 (cV (bO 1 cZ (cD (aX 1) cX))))
  (fQ (bO 1 (pJ c) (cD (aX 1) cX)))))
def iM (c:Addr):Fm:=mFn 2 (rD c)
def mG:MS:=
 (fQ (cQ (yU (bW (a5K (aX 0) (aX 2)) (bW (a5K (aX 1) (aX 2)) lO)))))
def lY:MS:=
 (aL6 2 3 (bW (aX 3) (bW (aKZ (aX 2) (aX 3)) lO)))
def lW:MS:=
 (cU (jX 2 (cQ (aEV (aX 0))))
  (cU (jX 3 (cQ (aX 1)))
  (cU (a2Z (dY (mGt (aX 3) (mC (.int 0))))
  lY)
  mG)))
def bY:Fm:=mFn 2 lW
def kZ:MS:=
 (cU (jX 2 (cQ (cV (bO 2 bY (cD (cV (bO 2 bL (rN 0 (cD (mC (.int 13)) cX)))) (cD (mIx (cV (a2A (bW (mC (.int 1)) (bW (mC (.int 1)) (bW (mC (.int 2)) (bW (mC (.int 3)) lO)))))) (cV (bO 2 bL (rN 0 (cD (mC (.int 4)) cX))))) cX))))))
  (cU (jX 2 (cQ (mIx (cV (a2A (bW (yU (bW (mC (.int 0)) (bW (mC (.int 1)) lO))) (bW (aX 2) (bW (aX 2) lO))))) (cV (bO 2 bL (rN 0 (cD (mC (.int 3)) cX)))))))
  (fQ (bO 2 bY (cD (a7K (a1V (mIx (aX 1) (mC (.int 0))) (mIx (aX 2) (mC (.int 1)))) (a1V (mIx (aX 2) (mC (.int 0))) (mIx (aX 1) (mC (.int 1))))) (cD (a1V (mIx (aX 1) (mC (.int 1))) (mIx (aX 2) (mC (.int 1)))) cX))))))
def eE:Fm:=mFn 1 kZ
def oA:MS:=
 (fQ (bO 2 bY (cD (a1V (a7K (cV (bO 2 bL (rN 0 (cD (aEU (mC (.int 1000000000)) (mC (.int 1))) cX)))) (mC (.int 1))) (mIx (cV (a2A (bW (mC (.int 1)) (bW (aIK (mC (.int 1))) lO)))) (cV (bO 2 bL (rN 0 (cD (mC (.int 2)) cX)))))) (cD (a7K (mC (.int 1)) (cV (bO 2 bL (rN 0 (cD (mC (.int 12)) cX))))) cX))))
def o9:MS:=
 (cU (mIf (dY (mEq (aX 1) (mC (.int 4))))
  (fQ (bO 2 bY (cD (aEU (cV (bO 2 bL (rN 0 (cD (mC (.int 13)) cX)))) (mC (.int 6))) (cD (a7K (mC (.int 1)) (cV (bO 2 bL (rN 0 (cD (mC (.int 12)) cX))))) cX))))
  mNx)
  oA)
def oN:MS:=
 (cU (jX 1 (cQ (cV (bO 2 bL (rN 0 (cD (mC (.int 6)) cX))))))
  (cU (mIf (dY (mLt (aX 1) (mC (.int 4))))
  (fQ (cQ (yU (bW (aEU (cV (bO 2 bL (rN 0 (cD (mC (.int 7)) cX)))) (mC (.int 3))) (bW (mC (.int 1)) lO)))))
  mNx)
  o9))
def dO:Fm:=mFn 1 oN
def rR:MS:=
 (fQ (a7J 2))
def rP:MS:=
 (cU (jX 7 (cQ (cV (bO 2 bL (rN 0 (cD (mC (.int 6)) cX))))))
  (mIf (a3M (mOr (dY (mEq (aX 3) (cV (a2A lO)))) (aEX (dY (mLt (aX 7) (mC (.int 3)))) (dY (mLt (a5H 3) (mC (.int 8)))))))
  (cU (fY 2 (yU (bW (mC (.str "join")) (bW (aX 5) (bW (cV (bO 1 dO (rN 0 cX))) (bW (cV (bO 1 dO (rN 0 cX))) lO))))))
  (cU (fY 3 (aX 4))
  (jX 4 (cQ (a7K (aX 4) (mC (.int 1)))))))
  (mIf (dY (mEq (aX 7) (mC (.int 5))))
  (fY 2 (yU (bW (mC (.str "leave")) (bW (aX 5) (bW (a8Q 3 (cV (bO 2 bL (rN 0 (cD (a5H 3) cX))))) lO)))))
  (fY 2 (yU (bW (mC (.str "turn")) (bW (aX 5) (bW (a6Y 3 (cV (bO 2 bL (rN 0 (cD (a5H 3) cX))))) (bW (cV (bO 1 dO (rN 0 cX))) lO)))))))))
def rY:MS:=
 (cU (jX 5 (cQ (cV (bO 2 eE (rN 0 (cD (aX 5) cX))))))
  (cU (mIf (dY (mGt (mIx (aX 5) (mC (.int 1))) (mC (.int 12))))
  (jX 5 (cQ (yU (bW (a7K (a5K (mIx (aX 5) (mC (.int 0))) (mIx (aX 5) (mC (.int 1)))) (mC (.int 1))) (bW (mC (.int 1)) lO)))))
  mNx)
  rP))
def uA:MS:=
 (cU (jX 2 (a2A lO))
  (cU (jX 3 (a2A lO))
  (cU (jX 4 (cQ (mC (.int 0))))
  (cU (jX 5 (cQ (cV (bO 2 bY (cD (aEU (cV (bO 2 bL (rN 0 (cD (mC (.int 41)) cX)))) (mC (.int 20))) (cD (a7K (mC (.int 1)) (cV (bO 2 bL (rN 0 (cD (mC (.int 2)) cX))))) cX))))))
  (cU (aB5 (a5X (bW (cV (bO 2 bL (rN 0 (cD (a7K (aX 1) (mC (.int 1))) cX)))) lO)) (gN 6)
  rY)
  rR)))))
def mH:Fm:=mFn 6 uA
def q9:MS:=
 (fQ (cQ (aAD (aAD (aBV (mIx (aX 0) (mC (.int 0)))) (mC (.str "/"))) (aBV (mIx (aX 0) (mC (.int 1)))))))
def qR:MS:=
 (cU (mIf (dY (mEq (mIx (aX 0) (mC (.int 1))) (mC (.int 1))))
  (fQ (cQ (aBV (mIx (aX 0) (mC (.int 0))))))
  mNx)
  q9)
def iK:Fm:=mFn 0 qR
def jP:MS:=
 (a2D 1 (fQ (cQ (a5F (mC (.str "\n")) (aX 1)))))
def jT:MS:=
 (a2D 3 (fY 1 (a5F (mC (.str " ")) (aX 3))))
def kI:MS:=
 (mIf (dY (wW "tuple" (aX 4)))
  (fY 3 (cV (bO 1 iK (cD (aX 4) cX))))
  (fY 3 (aBV (aX 4))))
def jO:MS:=
 (cU (jX 3 (a2A (bW (mIx (aX 2) (mC (.int 0))) lO)))
  (cU (aB5 (aHI (aIJ (aX 2) (pSo (mC (.int 1))) pNo)) (gN 4)
  kI)
  jT))
def jN:MS:=
 (cU (jX 1 (a2A lO))
  (cU (aB5 (aIE (aX 0)) (gN 2)
  jO)
  jP))
def eU:Fm:=mFn 4 jN
def gP (c:Fm):MS:=
 (fQ (cQ (mEq (aX 0) (aX 1))))
def gQ (c:Fm):MS:=
 (cU (mIf (mOr (dY (wW "bool" (aX 0))) (dY (mNe (wW "str" (aX 0)) (wW "str" (aX 1)))))
  (fQ (cQ (mC (.bool false))))
  mNx)
  (gP c))
def gU (c:Fm):MS:=
 (fQ (cQ (qN (mEq (a3E (aX 0)) (a3E (aX 1))) (aIL (cV (a0F 1 [0,1] (a5X (bW (a3E (aX 1)) lO)) (gN 0) yE (cV (bO 2 c (cD (mIx (aX 1) (aX 0)) (cD (mIx (aX 2) (aX 0)) cX))))))))))
def bQ (c:Fm):MS:=
 (cU (mIf (dY (aDS "list" "tuple" (aX 1)))
  (cU (mIf (mOr (dY (mNe (wW "list" (aX 0)) (wW "list" (aX 1)))) (dY (mNe (wW "tuple" (aX 0)) (wW "tuple" (aX 1)))))
  (fQ (cQ (mC (.bool false))))
  mNx)
  (gU c))
  mNx)
  (gQ c))
def iG:Fm:=mNo
def eF:Fm:=mFn 1 (bQ iG)
def dZ:Fm:=mFn 1 (bQ eF)
def dX:Fm:=mFn 1 (bQ dZ)
def iI:Fm:=mFn 1 (bQ dX)
def iZ:Fm:=iI
def wK (c:Addr):MS:=
 (fQ (cQ (qN (mEq (cV (bO 1 iQ (cD (cV (a2A lO)) cX))) (mC (.str ""))) (mEq (cV (bO 1 (iM c) (cD (mC (.str "")) cX))) (cV (a2A lO))))))
def vV (c:Addr):MS:=
 (fY 7 (yU lO))
def vU (c:Addr):MS:=
 (cU (jX 7 (bO 1 (iM c) (cD (aX 5) cX)))
  (cU (mIf (a3M (yV (dY (cV (bO 2 iZ (cD (aX 7) (cD (aX 3) cX)))))))
  (fQ (cQ (mC (.bool false))))
  mNx)
  (vV c)))
def wC (c:Addr):MS:=
 (aB5 (a5X (bW (mC (.int 2)) lO)) (gN 6)
  (vU c))
def vY (c:Addr):MS:=
 (cU (jX 3 (cQ (cV (bO 2 mH (rN 1 (cD (mIx (cV (a2A (bW (mC (.int 12)) (bW (mC (.int 12)) (bW (mC (.int 40)) lO))))) (cV (bO 2 bL (rN 1 (cD (mC (.int 3)) cX))))) cX))))))
  (cU (jX 4 (cQ (cV (yR (aX 3)))))
  (cU (jX 5 (cQ (cV (bO 1 iQ (cD (aX 4) cX)))))
  (cU (mIf (mOr (yV (dY (wW "str" (aX 5)))) (mOr (dY (mNe (aX 5) (cV (bO 1 eU (cD (aX 3) cX))))) (dY (mNe (aX 4) (aX 3)))))
  (fQ (cQ (mC (.bool false))))
  mNx)
  (wC c)))))
def uE (c:Addr):MS:=
 (cU (aB5 (a5X (bW (mC (.int 3)) lO)) (gN 2)
  (vY c))
  (wK c))
local macro_rules|`(tactic| walk_at "rd1")=>`(tactic| first
 | refine⟨_,rfl,?_⟩
 | refine⟨_,_,rfl,rfl,?_⟩
 | refine And.intro rfl ?_
 | refine And.intro (a2W rfl) ?_
 | refine⟨_,_,_,_,rfl,rfl,SqT.of (by assumption),rfl,?_⟩
 | refine⟨_,_,_,_,rfl,rfl,SqL.of (by assumption),rfl,?_⟩
 | refine⟨_,_,_,_,rfl,rfl,SqL.of bA,rfl,?_⟩
 | refine⟨_,_,_,_,rfl,rfl,(by assumption),rfl,?_⟩
 | refine⟨_,_,_,_,rfl,rfl,bA,rfl,?_⟩
 | refine⟨_,_,by assumption,by assumption,good_num _,good_num _,?_⟩
 | refine⟨_,_,by assumption,by assumption,good_line _,good_line _,?_⟩
 | refine And.intro (aKK (by assumption) (by assumption)) ?_
 | refine And.intro (.inl (by decide)) ?_
 | refine And.intro (aA3 (by decide) (by decide)) ?_
 | refine And.intro (.inr (by decide)) ?_
 | refine⟨_,_,rfl,.inl (by assumption),?_⟩
 | refine⟨_,_,rfl,.inr (SqT.of (by assumption)),?_⟩
 | refine And.intro (by assumption) ?_
 | refine And.intro ⟨by decide,by decide⟩ ?_
 | refine And.intro ⟨by decide,by decide,by decide⟩ ?_
 | refine And.intro (show(0:Int)<_ by decide) ?_
 | refine And.intro (by decide) ?_
 | refine⟨_,_,rfl,?_⟩)
local macro_rules|`(tactic| walk_at "rd")=>`(tactic| repeat walk_at "rd1")
section
variable (P0:Addr→Hp→Prop)(P:Program)(w:World)(K:Fg)(mg:Mg)(base:Heap)
abbrev j9:Prop:=Cal P w K mg base 1 "greatest_divisor" ["one", "other"] (spM P0 2 bR)
abbrev rC:Prop:=Cal P w K mg base 1 "is_whole" ["thing"] (spM P0 1 cG)
abbrev oX:Prop:=Cal P w K mg base 2 "number_of" ["top", "bottom"] (spM P0 2 cN)
abbrev aAL:Prop:=Cal P w K mg base 3 "sum_of" ["a", "b"] (spM P0 2 nD)
abbrev sI:Prop:=Cal P w K mg base 3 "product_of" ["a", "b"] (spM P0 2 cY)
abbrev uO:Prop:=Cal P w K mg base 3 "difference_of" ["a", "b"] (spM P0 2 cP)
abbrev qM:Prop:=Cal P w K mg base 1 "whole_in" ["word"] (spM P0 1 cT)
abbrev uF:Prop:=Cal P w K mg base 2 "is_number" ["thing"] (spM P0 1 eZ)
abbrev aAS:Prop:=Cal P w K mg base 2 "top_in" ["word"] (spM P0 1 mW)
abbrev a2X:Prop:=Cal P w K mg base 3 "number_in" ["word"] (spM P0 1 fX)
abbrev a6B:Prop:=Cal P w K mg base 4 "thing_in" ["kind", "word"] (spM P0 2 fB)
abbrev a4S:Prop:=Cal P w K mg base 5 "parts_in" ["line", "forms"] (spM P0 2 iR)
abbrev xR:Prop:=Cal P w K mg base 1 "show_number" ["number"] (spM P0 1 dW)
abbrev a0U:Prop:=Cal P w K mg base 2 "show_part" ["part"] (spM P0 1 fW)
abbrev zF:Prop:=Cal P w K mg base 3 "show_lines" ["things"] (spM P0 1 fD)
abbrev vD:Prop:=Cal P w K mg base 4 "line_through" ["time", "place", "slope"] (spM P0 3 dC)
abbrev a5J:Prop:=Cal P w K mg base 4 "place_at" ["line", "time"] (spM P0 2 jY)
abbrev a6R:Prop:=Cal P w K mg base 1 "is_less" ["a", "b"] (spM P0 2 m7)
abbrev sS:Prop:=Cal P w K mg base 3 "is_deed_number" ["thing"] (spM P0 1 bU)
abbrev a8C:Prop:=Cal P w K mg base 4 "is_deed" ["thing"] (spM P0 1 lX)
abbrev aAQ (c:Addr):Prop:=Cal P w K mg base 6 "log_of" ["thing"] (spM P0 1 (pJ c))
abbrev oM:Prop:=Cal P w K mg base 1 "refuse_first_none" ["parts"] (spM P0 1 cZ)
abbrev a4W:Prop:=Cal P w K mg base 1 "lines_in" ["text"] (spM P0 1 kE)
abbrev a9D:Prop:=Cal P w K mg base 6 "deed_in" ["line"] (spM P0 1 mQ)
abbrev lA:Prop:=Cal P w K mg base 1 "_law_lowest" ["_law_top", "_law_bottom"] (spM P0 2 bY)
abbrev oW:Prop:=Cal P w K mg base 1 "_law_take" ["_law_pen", "_law_many"] (spM P0 2 bL)
abbrev a0J:Prop:=Cal P w K mg base 2 "_law_small" ["_law_pen"] (spM P0 1 dO)
abbrev vL:Prop:=Cal P w K mg base 2 "_law_time_on" ["_law_pen", "_law_time"] (spM P0 2 eE)
abbrev a2H:Prop:=Cal P w K mg base 1 "_law_told" ["_law_number"] (spM P0 1 iK)
abbrev a02:Prop:=Cal P w K mg base 1 "_law_alike" ["_law_told_here", "_law_due"] (spM P0 2 iG)
abbrev vH:Prop:=Cal P w K mg base 2 "_law_alike" ["_law_told_here", "_law_due"] (spM P0 2 eF)
abbrev vA:Prop:=Cal P w K mg base 3 "_law_alike" ["_law_told_here", "_law_due"] (spM P0 2 dZ)
abbrev v9:Prop:=Cal P w K mg base 4 "_law_alike" ["_law_told_here", "_law_due"] (spM P0 2 dX)
end
theorem scM {N ps:List Str}{sc:Scope}(a:sc.kind=.function:=by rfl)(b:sc.isCoroutine=false:=by rfl)(c:sc.isGenerator=false:=by rfl)(d:N.Nodup:=by decide +kernel)(e:N.take ps.length=ps:=by rfl)(f:∀ x∈ps,sc.names.lookup x=some .local∨sc.names.lookup x=some .cell:=by decide +kernel)(g:∀ y∈sc.names,y.2≠.free:=by decide +kernel):FnScope N ps sc:=⟨a,b,c,d,e,f,g⟩
set_option hygiene false in
local macro_rules|`(tactic| walk_at "lc")=>`(tactic| first|exact Or.inl rfl|exact Or.inr rfl)
section
variable {P0:Addr→Hp→Prop}{P:Program}{w:World}{K:Fg}{mg:Mg}{base:Heap}{f:Addr}{fd:FuncData}
abbrev jQ:Stmt:=top 45
theorem sc_law_take:FnScope ["_law_pen", "_law_many", "_law_cell", "_law_digit"] ["_law_pen", "_law_many"] (aL jQ):=scM
theorem a2T  (F:Fun K "_law_take" "_law_take" jQ f fd)(B:Bl K mg) :
  FnOk P w K mg base CX0 1 f fd ["_law_pen", "_law_many"] (a70 K):=by
 refine F.ok sc_law_take (fun vs H Q E h=>?_) (fun cdv A outer s H vs Q E hr h=>?_)
 ·obtain⟨pen,a,ns,m,rfl,⟨z,k,hz,hk,hp,hS⟩,hm,hm2,q⟩:=h;rfl
 have hu:=hr.units;obtain⟨pen,a,ns,m,rfl,⟨z,k,hz,hk,hp,hS⟩,hm,hm2,q⟩:=h;refine⟨_,(aF (cH (aY aJ5 (bC ix_list (pv 0) aD (fun _ _=>rfl)) aD (b7 _)) (aF (a7Z (cA iY (bC ix_list (pv 0) aD (fun _ _=>rfl)) aD) (a90 (pv 0) aD set_list))
   (aF (bT (i:=2) sc_law_take.nd rfl (Or.inl rfl) aD)
   (aF (cH (aY a82 (aH aU rfl B.len_ boot_len (aA (bC ix_list (pv 0) aD (fun _ _=>rfl)) aC)) aD (b7 _)) (aJ (bT (i:=2) sc_law_take.nd rfl (Or.inl rfl) (bC ix_list (bC ix_list (pv 0) aD (fun _ _=>rfl)) (cA pD (bC ix_list (pv 0) aD (fun _ _=>rfl)) (aH aU rfl B.len_ boot_len (aA (bC ix_list (pv 0) aD (fun _ _=>rfl)) aC))) (fun _ _=>rfl)))) bM)
   (aJ (cH (PW.pt (a0B (aY z9 (bC ix_list (pv 0) aD (fun _ _=>rfl)) (aH aU rfl B.len_ boot_len (aA (bC ix_list (pv 0) aD (fun _ _=>rfl)) aC)) (b7 _)) (u9 (aY aI8 (aH nP rfl B.abs_ boot_abs (aA (pv 2) aC)) (a97 (v:=1000000000000000000) (by decide) ⟨by decide,by decide,by decide⟩) (b7 _))))) (aJ (a7Z (aH nP rfl B.abs_ boot_abs (aA (pv 2) aC)) (a90 (pv 0) aD set_list))) (aF (bT (i:=2) sc_law_take.nd rfl (Or.inl rfl) (cA pD (cA a8O (cA iY (cA iY (cA pD (pv 2) aD) (cA a8O aD (bC ix_list (pv 0) aD (fun _ _=>rfl)))) aD) aD) aD))
   (aJ (b8 (cA pD (cA a8L (cA pD (cA a8O (pv 2) (cA iY (cA iY (cA pD (pv 2) aD) (bC ix_list (pv 0) aD (fun _ _=>rfl))) aD)) aD) aD) (pv 1)))))))))) bM)
   (aF (bT (i:=3) sc_law_take.nd rfl (Or.inl rfl) (cA pD (bC ix_list (pv 0) aD (fun _ _=>rfl)) (pv 1)))
   (aF (a7Z (cA a8L (bC ix_list (pv 0) aD (fun _ _=>rfl)) (pv 1)) (a90 (pv 0) aD set_list))
   (aJ (b8 (pv 3)))))),?_⟩
 have hl:(ns.map V.int).length=ns.length:=List.length_map _;have hS3:∀ o,SqL K (upd H pen o) a (ns.map V.int):=fun o=>aEQ hp hS (fL o);have fin:∀(z k:Int) (H2:Hp),0≤z→0≤k→H2 pen=some (.lst [.int z,.int k,.ref a])→SqL K H2 a (ns.map V.int)→SameX pen H H2→Q (.int (z%m)) (upd H2 pen (.lst [.int (z/m),.int k,.ref a])):=fun z k H2 hz hk hp2 hS2 hX=>
  q _ _ (Int.emod_nonneg _ (by omega)) (Int.emod_lt_of_pos _ hm) ⟨z/m,k,Int.ediv_nonneg hz (by omega),hk,bA,aEQ hp2 hS2 (fL _)⟩ (hX.trans (fL _))
 walk_at "rd";refine lH (fun e=>?_) (fun e=>?_)
 ·have e0:z=0:=a7B e;subst e0;have hS4:=hS3 (.lst [.int 0,.int (k+1),.ref a]);walk_at "rd";refine lH (fun e1=>?a) (fun e1=>?b)
  case' a=>
   have e1':0<(ns.length:Int):=by
    rw[hl] at e1;exact e1
   have h1:=Int.emod_nonneg (k+1) (b:=(ns.length:Int)) (by omega);have h2:=Int.emod_lt_of_pos (k+1) e1';obtain⟨j,hj⟩:∃ j:Nat,(k+1)%(ns.length:Int)=(j:Int):=⟨((k+1)%(ns.length:Int)).toNat,by omega⟩;have hi:j<ns.length:=by omega
   have hv:atI (ns.map V.int) ((k+1)%((ns.map V.int).length:Int))=some (.int ns[j]):=by
    rw[hl,hj];refine a8R ?_;rw[List.getElem?_map,List.getElem?_eq_getElem hi];rfl
   have hpos:0<((ns.map V.int).length:Int):=by rw[hl]; exact e1'
   walk_at "rd";refine⟨_,_,_,_,rfl,rfl,hS4,hv,?_⟩
  case' b=>
   have e2:¬k+1<((ns.map V.int).length:Int):=fun c=>e1 (by omega);walk_at "rd";refine aCM e2 ?_;walk_at "rd";exact q _ _ (Int.emod_nonneg _ (by omega)) (Int.emod_lt_of_pos _ hm) ⟨0,k+1,by omega,by omega,bA,hS4⟩ (fL _)
  case' a=>
   walk_at "rd";refine lH (fun e2=>?_) (fun e2=>?_)
   ·walk_at "rd";refine lH (fun e3=>?_) (fun e3=>?_)
    ·have hcd:∀ z,aJ1 z m:=fun z=>⟨hm,hm2⟩;walk_at "rd";refine And.intro (hcd _) ?_;walk_at "rd";exact fin _ (k+1) _ (a3G _) (by omega) bA (aEQ bA hS4 (fL _)) ((fL _).trans (fL _))
    ·walk_at "rd";exact q _ _ (Int.emod_nonneg _ (by omega)) (Int.emod_lt_of_pos _ hm) ⟨0,k+1,by omega,by omega,bA,hS4⟩ (fL _)
   ·walk_at "rd";exact q _ _ (Int.emod_nonneg _ (by omega)) (Int.emod_lt_of_pos _ hm) ⟨0,k+1,by omega,by omega,bA,hS4⟩ (fL _)
 ·have hcd:aJ1 z m:=⟨hm,hm2⟩;walk_at "rd";exact fin z k H hz hk hp hS (SameX.refl _ _)
theorem a0M {a:Addr}{ns:List Int}  (F:Fun K "_law_take" "_law_take" jQ f fd)(B:Bl K mg) :
  FnOk P w K mg base CX0 1 f fd ["_law_pen", "_law_many"] (spM (bK K a ns) 2 bL):=(a2T F B).imp aAA
abbrev mX:Stmt:=top 7
theorem a2L:FnScope ["thing"] ["thing"] (aL mX):=scM
theorem a1O  (F:Fun K "is_whole" "is_whole" mX f fd)(B:Bl K mg)(Kt:Kit K) :
  FnOk P w K mg base CX0 1 f fd ["thing"] (spM P0 1 cG):=
 F.okV a2L rfl rfl fun cdv A outer s H E hr=>
 have hu:=hr.units
 ⟨_,(aJ (b8 (j8 (aH bF rfl B.isinstance_ boot_isinstance (aA (pv 0) (aA (bH (v:=.ty "int") rfl B.int_ boot_int rfl) aC))) (lU (aG7 (aH bF rfl B.isinstance_ boot_isinstance (aA (pv 0) (aA (bH (v:=.ty "bool") rfl B.bool_ boot_bool rfl) aC)))))))),
  ((bD (aO (jF (bZ Kt (by decide) aB) (aGM (bZ Kt (by decide) aB))))):VS P0 _ qI)⟩
abbrev dJ:Stmt:=top 8
theorem sc_greatest_divisor:FnScope ["one", "other", "divisor", "rest", "left_over"] ["one", "other"] (aL dJ):=scM
theorem oH  (F:Fun K "greatest_divisor" "greatest_divisor" dJ f fd)(B:Bl K mg)(Kt:Kit K) :
  FnOk P w K mg base CX0 1 f fd ["one", "other"] (spM P0 2 bR):=
 F.okV sc_greatest_divisor rfl rfl fun cdv A outer s H E hr=>
 have hu:=hr.units
 ⟨_,(aF (bT (i:=2) sc_greatest_divisor.nd rfl (by walk_at "lc") (aH nP rfl B.abs_ boot_abs (aA (pv 0) aC)))
   (aF (bT (i:=3) sc_greatest_divisor.nd rfl (by walk_at "lc") (aH nP rfl B.abs_ boot_abs (aA (pv 1) aC)))
   (aF (a2Y PassesOwn.never (aY (fC hu) (pv 3) aD (b7 _)) (aF (bT (i:=4) sc_greatest_divisor.nd rfl (by walk_at "lc") (cA pD (pv 2) (pv 3)))
   (aF (bT (i:=2) sc_greatest_divisor.nd rfl (by walk_at "lc") (pv 3))
   (aJ (bT (i:=3) sc_greatest_divisor.nd rfl (by walk_at "lc") (pv 4))))))
   (aJ (b8 (pv 2)))))),
  ((aP (bV (aO (a4D aB)))
   (aP (bV (aO (a4D aB)))
   (aP (a4E (bB (jV aB aG)) (aP (bV (aO (aC3 aB aB)))
   (aP (bV (aO aB))
   (bV (aO aB)))))
   (bD (aO aB))))):VS P0 _ fJ)⟩
abbrev kO:Stmt:=top 10
theorem sc_number_of:FnScope ["top", "bottom", "divisor"] ["top", "bottom"] (aL kO):=scM
theorem zM  (F:Fun K "number_of" "number_of" kO f fd)(B:Bl K mg)(Kt:Kit K)
  (c_greatest_divisor:j9 P0 P w K mg base)
  (c_is_whole:rC P0 P w K mg base) :
  FnOk P w K mg base CX0 2 f fd ["top", "bottom"] (spM P0 2 cN):=
 F.okV sc_number_of rfl rfl fun cdv A outer s H E hr=>
 have hu:=hr.units
 ⟨_,(aF (cH (PW.pt (iW (iB (cO (aK c_is_whole hr rfl (aA (pv 0) aC)))) (iW (iB (cO (aK c_is_whole hr rfl (aA (pv 1) aC)))) (fU (aY (cF hu) (pv 1) aD (b7 _)))))) (aJ q8) bM)
   (aF (bT (i:=2) sc_number_of.nd rfl (by walk_at "lc") (aK c_greatest_divisor hr rfl (aA (pv 0) (aA (pv 1) aC))))
   (aF (cH (aY z9 (pv 1) aD (b7 _)) (aJ (bT (i:=2) sc_number_of.nd rfl (by walk_at "lc") (aEP a71 (pv 2)))) bM)
   (aJ (b8 (fV (aA (cA pF (pv 0) (pv 2)) (aA (cA pF (pv 1) (pv 2)) aC)))))))),
  ((aP (cI (dU (eN (fP (aR (aM (aN aB aV))))) (dU (eN (fP (aR (aM (aN aB aV))))) (bB (eQ aB aG)))) pX cW)
   (aP (bV (aO (aR (aM (aN aB (aN aB aV))))))
   (aP (cI (bB (a2O aB aG)) (bV (aO (a6S aB))) cW)
   (bD (aO (gZ (aW (tX aB aB) (aW (tX aB aB) c7)))))))):VS P0 _ oR)⟩
abbrev tL:Stmt:=top 11
theorem a6O:FnScope ["a", "b"] ["a", "b"] (aL tL):=scM
theorem a7X  (F:Fun K "sum_of" "sum_of" tL f fd)(B:Bl K mg)(Kt:Kit K)
  (c_number_of:oX P0 P w K mg base) :
  FnOk P w K mg base CX0 3 f fd ["a", "b"] (spM P0 2 nD):=
 F.okV a6O rfl rfl fun cdv A outer s H E hr=>
 have hu:=hr.units
 ⟨_,(aJ (b8 (aK c_number_of hr rfl (aA (cA iY (cA fH (bC aQ (pv 0) aD (fun _ _=>rfl)) (bC aQ (pv 1) aD (fun _ _=>rfl))) (cA fH (bC aQ (pv 1) aD (fun _ _=>rfl)) (bC aQ (pv 0) aD (fun _ _=>rfl)))) (aA (cA fH (bC aQ (pv 0) aD (fun _ _=>rfl)) (bC aQ (pv 1) aD (fun _ _=>rfl))) aC))))),
  ((bD (aM (aN (oG (j7 (bN aB aG) (bN aB aG)) (j7 (bN aB aG) (bN aB aG))) (aN (j7 (bN aB aG) (bN aB aG)) aV)))):VS P0 _ xJ)⟩
abbrev fK:Stmt:=top 12
theorem sX:FnScope ["a", "b"] ["a", "b"] (aL fK):=scM
theorem sY  (F:Fun K "difference_of" "difference_of" fK f fd)(B:Bl K mg)(Kt:Kit K)
  (c_number_of:oX P0 P w K mg base) :
  FnOk P w K mg base CX0 3 f fd ["a", "b"] (spM P0 2 cP):=
 F.okV sX rfl rfl fun cdv A outer s H E hr=>
 have hu:=hr.units
 ⟨_,(aJ (b8 (aK c_number_of hr rfl (aA (cA a0C (cA fH (bC aQ (pv 0) aD (fun _ _=>rfl)) (bC aQ (pv 1) aD (fun _ _=>rfl))) (cA fH (bC aQ (pv 1) aD (fun _ _=>rfl)) (bC aQ (pv 0) aD (fun _ _=>rfl)))) (aA (cA fH (bC aQ (pv 0) aD (fun _ _=>rfl)) (bC aQ (pv 1) aD (fun _ _=>rfl))) aC))))),
  ((bD (aM (aN (a0I (j7 (bN aB aG) (bN aB aG)) (j7 (bN aB aG) (bN aB aG))) (aN (j7 (bN aB aG) (bN aB aG)) aV)))):VS P0 _ iU)⟩
abbrev j4:Stmt:=top 13
theorem yL:FnScope ["a", "b"] ["a", "b"] (aL j4):=scM
theorem xX  (F:Fun K "product_of" "product_of" j4 f fd)(B:Bl K mg)(Kt:Kit K)
  (c_number_of:oX P0 P w K mg base) :
  FnOk P w K mg base CX0 3 f fd ["a", "b"] (spM P0 2 cY):=
 F.okV yL rfl rfl fun cdv A outer s H E hr=>
 have hu:=hr.units
 ⟨_,(aJ (b8 (aK c_number_of hr rfl (aA (cA fH (bC aQ (pv 0) aD (fun _ _=>rfl)) (bC aQ (pv 1) aD (fun _ _=>rfl))) (aA (cA fH (bC aQ (pv 0) aD (fun _ _=>rfl)) (bC aQ (pv 1) aD (fun _ _=>rfl))) aC))))),
  ((bD (aM (aN (j7 (bN aB aG) (bN aB aG)) (aN (j7 (bN aB aG) (bN aB aG)) aV)))):VS P0 _ lR)⟩
abbrev pH:Stmt:=top 14
theorem a4X:FnScope ["a", "b"] ["a", "b"] (aL pH):=scM
theorem a68  (F:Fun K "is_less" "is_less" pH f fd)(B:Bl K mg)(Kt:Kit K) :
  FnOk P w K mg base CX0 1 f fd ["a", "b"] (spM P0 2 m7):=
 F.okV a4X rfl rfl fun cdv A outer s H E hr=>
 have hu:=hr.units
 ⟨_,(aJ (b8 (cR z9 (cA fH (bC aQ (pv 0) aD (fun _ _=>rfl)) (bC aQ (pv 1) aD (fun _ _=>rfl))) (cA fH (bC aQ (pv 1) aD (fun _ _=>rfl)) (bC aQ (pv 0) aD (fun _ _=>rfl))) (b7 _)))),
  ((bD (aO (a2O (j7 (bN aB aG) (bN aB aG)) (j7 (bN aB aG) (bN aB aG))))):VS P0 _ tZ)⟩
abbrev nH:Stmt:=top 16
theorem a1P:FnScope ["line", "time"] ["line", "time"] (aL nH):=scM
theorem a2R  (F:Fun K "place_at" "place_at" nH f fd)(B:Bl K mg)(Kt:Kit K)
  (c_sum_of:aAL P0 P w K mg base)
  (c_product_of:sI P0 P w K mg base) :
  FnOk P w K mg base CX0 4 f fd ["line", "time"] (spM P0 2 jY):=
 F.okV a1P rfl rfl fun cdv A outer s H E hr=>
 have hu:=hr.units
 ⟨_,(aJ (b8 (aK c_sum_of hr rfl (aA (bC aQ (pv 0) aD (fun _ _=>rfl)) (aA (aK c_product_of hr rfl (aA (bC aQ (pv 0) aD (fun _ _=>rfl)) (aA (pv 1) aC))) aC))))),
  ((bD (aM (aN (bN aB aG) (aN (aR (aM (aN (bN aB aG) (aN aB aV)))) aV)))):VS P0 _ qY)⟩
abbrev gC:Stmt:=top 17
theorem uH:FnScope ["time", "place", "slope"] ["time", "place", "slope"] (aL gC):=scM
theorem uU  (F:Fun K "line_through" "line_through" gC f fd)(B:Bl K mg)(Kt:Kit K)
  (c_difference_of:uO P0 P w K mg base)
  (c_product_of:sI P0 P w K mg base) :
  FnOk P w K mg base CX0 4 f fd ["time", "place", "slope"] (spM P0 3 dC):=
 F.okV uH rfl rfl fun cdv A outer s H E hr=>
 have hu:=hr.units
 ⟨_,(aJ (b8 (fV (aA (aK c_difference_of hr rfl (aA (pv 1) (aA (aK c_product_of hr rfl (aA (pv 2) (aA (pv 0) aC))) aC))) (aA (pv 2) aC))))),
  ((bD (aO (gZ (aW (aR (aM (aN aB (aN (aR (aM (aN aB (aN aB aV)))) aV)))) (aW aB c7))))):VS P0 _ jJ)⟩
abbrev lC:Stmt:=top 9
theorem a09:FnScope ["thing"] ["thing"] (aL lC):=scM
theorem zY  (F:Fun K "is_number" "is_number" lC f fd)(B:Bl K mg)(Kt:Kit K)
  (c_greatest_divisor:j9 P0 P w K mg base)
  (c_is_whole:rC P0 P w K mg base) :
  FnOk P w K mg base CX0 2 f fd ["thing"] (spM P0 1 eZ):=
 F.okV a09 rfl rfl fun cdv A outer s H E hr=>
 have hu:=hr.units
 ⟨_,(aF (cH (PW.pt (iW (iB (cO (aH bF rfl B.isinstance_ boot_isinstance (aA (pv 0) (aA (bH (v:=.ty "tuple") rfl B.tuple_ boot_tuple rfl) aC))))) (fU (aY (fC hu) (aH aU rfl B.len_ boot_len (aA (pv 0) aC)) aD (b7 _))))) (aJ (b8 nW)) bM)
   (aF (cH (PW.pt (iW (iB (cO (aK c_is_whole hr rfl (aA (bC aQ (pv 0) aD (fun _ _=>rfl)) aC)))) (fU (iB (cO (aK c_is_whole hr rfl (aA (bC aQ (pv 0) aD (fun _ _=>rfl)) aC))))))) (aJ (b8 nW)) bM)
   (aJ (b8 (j8 (cR aI8 (bC aQ (pv 0) aD (fun _ _=>rfl)) aD (b7 _)) (lU (cR (cF hu) (aK c_greatest_divisor hr rfl (aA (bC aQ (pv 0) aD (fun _ _=>rfl)) (aA (bC aQ (pv 0) aD (fun _ _=>rfl)) aC))) aD (b7 _)))))))),
  ((aP (cI (dU (eN (fP (bZ Kt (by decide) aB))) (bB (jV (eV aB) aG))) (bD (aO nU)) cW)
   (aP (cI (dU (eN (fP (aR (aM (aN (bN aB aG) aV))))) (eN (fP (aR (aM (aN (bN aB aG) aV)))))) (bD (aO nU)) cW)
   (bD (aO (jF (aKO (bN aB aG) aG) (eQ (aR (aM (aN (bN aB aG) (aN (bN aB aG) aV)))) aG)))))):VS P0 _ oY)⟩
abbrev mY:Stmt:=top 31
theorem a2V:FnScope ["word", "sign"] ["word"] (aL mY):=scM
theorem a2G  {tk_FIGURES:Tok}(hg_FIGURES:mg "FIGURES" = some (.str "0123456789" tk_FIGURES)){tk_MOST_FIGURES:Tok}(hg_MOST_FIGURES:mg "MOST_FIGURES" = some (.int 60 tk_MOST_FIGURES))(F:Fun K "whole_in" "whole_in" mY f fd)(B:Bl K mg)(Kt:Kit K) :
  FnOk P w K mg base CX0 1 f fd ["word"] (spM P0 1 cT):=
 F.okV a2V rfl rfl fun cdv A outer s H E hr=>
 have hu:=hr.units
 ⟨_,(aF (cH (PW.pt (iW (aY (cF hu) (pv 0) cB (b7 _)) (iW (aY a82 (aH a83 rfl B.len_ boot_len (aA (pv 0) aC)) (qL (v:=.int 60) rfl hg_MOST_FIGURES ⟨_,rfl⟩) (b7 _)) (fU (iB (cO (aH (jZ rfl) rfl B.all_ boot_all (aA (jD (N:=["sign"]) (nt:=1) (fv:=[]) rfl (sH (osc:=aL mY) (ON:=["word", "sign"]) (by decide +kernel)) (aIC (pv 0)) (fun _ _ _ _=>(dG (i:=0) (show(["sign"]:List Str).Nodup by decide +kernel) rfl (by walk_at "lc"))) (fun _ _ _ _=>kW) (fun _ _ _ _=>(cR aHN (pv 0) (qL (v:=.str "0123456789") rfl hg_FIGURES ⟨_,rfl⟩) (by with_unfolding_all rfl)))) aC)))))))) (aJ (b8 gY)) bM)
   (aF (cH (PW.pt (a0B (aY (cF hu) (bC aQ (pv 0) aD (fun _ _=>rfl)) cB (b7 _)) (u9 (aY (fC hu) (pv 0) cB (b7 _))))) (aJ (b8 gY)) bM)
   (aJ (b8 (eX a73 rfl B.int_ boot_int (aA (pv 0) aC)))))),
  ((aP (cI (dU (bB (eQ aB cC)) (dU (bB (aB2 (aCB aB) aG)) (eN (fP (w5 (aR (lG (aGI aB) dH iD (aH2 aB cC)))))))) (bD (aO mK)) cW)
   (aP (cI (yQ (bB (eQ (aHQ aB aG) cC)) (bB (jV aB cC))) (bD (aO mK)) cW)
   (bD (aO (aEG aB))))):VS P0 _ qJ)⟩
abbrev t7:Stmt:=top 32
theorem sc_top_in:FnScope ["word", "top"] ["word"] (aL t7):=scM
theorem a7P  (F:Fun K "top_in" "top_in" t7 f fd)(B:Bl K mg)(Kt:Kit K)
  (c_whole_in:qM P0 P w K mg base) :
  FnOk P w K mg base CX0 2 f fd ["word"] (spM P0 1 mW):=
 F.okV sc_top_in rfl rfl fun cdv A outer s H E hr=>
 have hu:=hr.units
 ⟨_,(aF (cH (iB (cO (lN PySem.F.plainAttrs_str PySem.F.slot_str_startswith PySem.F.type_str_startswith a92 (pv 0) (aA cB aC)))) (aJ (b8 (aK c_whole_in hr rfl (aA (pv 0) aC)))) bM)
   (aF (bT (i:=1) sc_top_in.nd rfl (by walk_at "lc") (aK c_whole_in hr rfl (aA (tM aFU (pv 0) (yC aD) xZ) aC)))
   (aJ (b8 (jC (PW.pt (iW (aY a7L (pv 1) gY (b7 _)) (fU (aY (cF hu) (pv 1) aD (b7 _))))) gY (aEP a71 (pv 1))))))),
  ((aP (cI (eN (fP (a9A aB cC))) (bD (aM (aN aB aV))) cW)
   (aP (bV (aO (aR (aM (aN (aFM aB (a9N aG) aAI) aV)))))
   (bD (rZ (dU (bB (a8I aB)) (bB (eQ aB aG))) (aO mK) (aO (a6S aB)))))):VS P0 _ xQ)⟩
abbrev kJ:Stmt:=top 33
theorem sc_number_in:FnScope ["word", "parts", "top", "bottom"] ["word"] (aL kJ):=scM
theorem a0O  (F:Fun K "number_in" "number_in" kJ f fd)(B:Bl K mg)(Kt:Kit K)
  (c_is_number:uF P0 P w K mg base)
  (c_whole_in:qM P0 P w K mg base)
  (c_top_in:aAS P0 P w K mg base) :
  FnOk P w K mg base CX0 3 f fd ["word"] (spM P0 1 fX):=
 F.okV sc_number_in rfl rfl fun cdv A outer s H E hr=>
 have hu:=hr.units
 ⟨_,(aF (bT (i:=1) sc_number_in.nd rfl (by walk_at "lc") (lN PySem.F.plainAttrs_str PySem.F.slot_str_split PySem.F.type_str_split wR (pv 0) (aA cB aC)))
   (aF (cH (aY a82 (aH aU rfl B.len_ boot_len (aA (pv 1) aC)) aD (b7 _)) (aJ (b8 gY)) bM)
   (aF (bT (i:=2) sc_number_in.nd rfl (by walk_at "lc") (aK c_top_in hr rfl (aA (bC aQ (pv 1) aD (fun _ _=>rfl)) aC)))
   (aF (cH (aY (cF hu) (aH aU rfl B.len_ boot_len (aA (pv 1) aC)) aD (b7 _)) (aJ (b8 (jC (aY a7L (pv 2) gY (b7 _)) gY (fV (aA (pv 2) (aA aD aC)))))) bM)
   (aF (bT (i:=3) sc_number_in.nd rfl (by walk_at "lc") (aK c_whole_in hr rfl (aA (bC aQ (pv 1) aD (fun _ _=>rfl)) aC)))
   (aJ (b8 (jC (PW.pt (a0B (aY (fC hu) (pv 3) aD (b7 _)) (u9 (cO (aK c_is_number hr rfl (aA (fV (aA (pv 2) (aA (pv 3) aC))) aC)))))) (fV (aA (pv 2) (aA (pv 3) aC))) gY)))))))),
  ((aP (bV (aO (aR (xH aB cC))))
   (aP (cI (bB (aB2 (eV aB) aG)) (bD (aO mK)) cW)
   (aP (bV (aO (aR (aM (aN (bN aB aG) aV)))))
   (aP (cI (bB (eQ (eV aB) aG)) (bD (rZ (bB (a8I aB)) (aO mK) (aO (gZ (aW aB (aW aG c7)))))) cW)
   (aP (bV (aO (aR (aM (aN (bN aB aG) aV)))))
   (bD (rZ (yQ (bB (jV aB aG)) (fP (aR (aM (aN (gZ (aW aB (aW aB c7))) aV))))) (aO (gZ (aW aB (aW aB c7)))) (aO mK)))))))):VS P0 _ p7)⟩
abbrev nC:Stmt:=top 34
theorem a1A:FnScope ["kind", "word"] ["kind", "word"] (aL nC):=scM
theorem a0R  (F:Fun K "thing_in" "thing_in" nC f fd)(B:Bl K mg)(Kt:Kit K)
  (c_number_in:a2X P0 P w K mg base)
  (c_whole_in:qM P0 P w K mg base) :
  FnOk P w K mg base CX0 4 f fd ["kind", "word"] (spM P0 2 fB):=
 F.okV a1A rfl rfl fun cdv A outer s H E hr=>
 have hu:=hr.units
 ⟨_,(aJ (b8 (jC (aY (cF hu) (pv 0) cB (b7 _)) (aK c_number_in hr rfl (aA (pv 1) aC)) (aK c_whole_in hr rfl (aA (pv 1) aC))))),
  ((bD (rZ (bB (eQ aB cC)) (aM (aN aB aV)) (aM (aN aB aV)))):VS P0 _ nA)⟩
abbrev nJ:Stmt:=top 35
theorem sc_parts_in:FnScope ["line", "forms", "words", "form", "parts", "kind", "word"] ["line", "forms"] (aL nJ):=scM
theorem a2M  (F:Fun K "parts_in" "parts_in" nJ f fd)(B:Bl K mg)(Kt:Kit K)
  (c_thing_in:a6B P0 P w K mg base) :
  FnOk P w K mg base CX0 5 f fd ["line", "forms"] (spM P0 2 iR):=
 F.okV sc_parts_in rfl rfl fun cdv A outer s H E hr=>
 have hu:=hr.units
 ⟨_,(aF (bT (i:=2) sc_parts_in.nd rfl (by walk_at "lc") (lN PySem.F.plainAttrs_str PySem.F.slot_str_split PySem.F.type_str_split wR (pv 0) (aA cB aC)))
   (aF (bT (i:=3) sc_parts_in.nd rfl (by walk_at "lc") (a9S (hu1 hu) (pv 1) (bC aQ (pv 2) aD (fun _ _=>rfl)) ⟨rfl,rfl,rfl,rfl⟩))
   (aF (cH (PW.pt (iW (aY a7L (pv 3) gY (b7 _)) (fU (aY (fC hu) (aH aU rfl B.len_ boot_len (aA (pv 2) aC)) (cA iY (aH aU rfl B.len_ boot_len (aA (pv 3) aC)) aD) (b7 _))))) (aJ (b8 gY)) bM)
   (aF (bT (i:=4) sc_parts_in.nd rfl (by walk_at "lc") (j6 (aA (bC aQ (pv 2) aD (fun _ _=>rfl)) aC)))
   (aF (tQ PassesOwn.never rfl (aEM rfl B.zip_ (aA (pv 3) (aA (tM aER (pv 2) (yC aD) xZ) aC))) (aC7 rfl (tG (dG (i:=5) sc_parts_in.nd rfl (by walk_at "lc")) (tG (dG (i:=6) sc_parts_in.nd rfl (by walk_at "lc")) a6P))) (aJ (gR (lN PySem.F.plainAttrs_list PySem.F.slot_list_append PySem.F.type_list_append fO (pv 4) (aA (aK c_thing_in hr rfl (aA (pv 5) (aA (pv 6) aC))) aC)))))
   (aJ (b8 (jC (aY (aBP hu) gY (pv 4) (by with_unfolding_all rfl)) gY (eX a8F rfl B.tuple_ boot_tuple (aA (pv 4) aC)))))))))),
  ((aP (bV (aO (aR (xH aB cC))))
   (aP (bV (aO (aAG (bN aB aG))))
   (aP (cI (dU (bB (a8I aB)) (bB (jV (eV aB) (oG (eV aB) aG)))) (bD (aO mK)) cW)
   (aP (bV (jU (aW (bN aB aG) c7)))
   (aP (uK (aE9 aB (aR (aFX aB (a9N aG) aAI))) (aBR (tK dH (tK dH a7W))) (fM (aR (aM (aN aB (aN aB aV))))))
   (a6E (bD (rZ (bB (aFD mK aB)) (aO mK) (aO (aCC aB)))))))))):VS P0 _ qK)⟩
abbrev qC:Stmt:=top 36
theorem a4Y:FnScope ["line"] ["line"] (aL qC):=scM
theorem a5G  (F:Fun K "deed_in" "deed_in" qC f fd)(B:Bl K mg)(Kt:Kit K)
  (c_parts_in:a4S P0 P w K mg base) :
  FnOk P w K mg base CX0 6 f fd ["line"] (spM P0 1 mQ):=
 F.okV a4Y rfl rfl fun cdv A outer s H E hr=>
 have hu:=hr.units
 ⟨_,(aJ (b8 (aK c_parts_in hr rfl (aHH (iC (pv 0) (a6I (aB0 (xM cB (a2Q (iC cB (iC cB (iC cB yF)))) (xM cB (a2Q (iC cB (iC cB yF))) (xM cB (a2Q (iC cB (iC cB (iC cB yF)))) aDC))) rfl rfl (by simp) (by decide)) yF)))))),
  ((bD (aM (aN aB (aCE (yH (gZ (aW cC (aW cC (aW cC c7)))) (yH (gZ (aW cC (aW cC c7))) (yH (gZ (aW cC (aW cC (aW cC c7)))) aCZ))) aV)))):VS P0 _ uG)⟩
abbrev nO:Stmt:=top 37
theorem a1T:FnScope ["text"] ["text"] (aL nO):=scM
theorem a1W  (F:Fun K "lines_in" "lines_in" nO f fd)(B:Bl K mg)(Kt:Kit K) :
  FnOk P w K mg base CX0 1 f fd ["text"] (spM P0 1 kE):=
 F.okV a1T rfl rfl fun cdv A outer s H E hr=>
 have hu:=hr.units
 ⟨_,(aF (cH (iB (cO (aH bF rfl B.isinstance_ boot_isinstance (aA (pv 0) (aA (bH (v:=.ty "str") rfl B.str_ boot_str rfl) aC))))) (aJ q8) bM)
   (aJ (b8 (jC (aY (fC hu) (pv 0) cB (b7 _)) (lN PySem.F.plainAttrs_str PySem.F.slot_str_split PySem.F.type_str_split wR (pv 0) (aA cB aC)) (j6 aC))))),
  ((aP (cI (eN (fP (bZ Kt (by decide) aB))) pX cW)
   (bD (rZ (bB (jV aB cC)) (xH aB cC) (jU c7)))):VS P0 _ qW)⟩
abbrev dB:Stmt:=top 38
theorem nZ:FnScope ["parts"] ["parts"] (aL dB):=scM
theorem nR  (F:Fun K "refuse_first_none" "refuse_first_none" dB f fd)(B:Bl K mg)(Kt:Kit K) :
  FnOk P w K mg base CX0 1 f fd ["parts"] (spM P0 1 cZ):=
 F.okV nZ rfl rfl fun cdv A outer s H E hr=>
 have hu:=hr.units
 ⟨_,(aJ (cH (aY (aBP hu) gY (pv 0) (by with_unfolding_all rfl)) (aJ q8) bM)),
  ((cI (bB (aFD mK aB)) pX cW):VS P0 _ f9)⟩
abbrev iJ:Stmt:=top 40
theorem sc_show_number:FnScope ["number", "top", "bottom"] ["number"] (aL iJ):=scM
theorem vG  (F:Fun K "show_number" "show_number" iJ f fd)(B:Bl K mg)(Kt:Kit K) :
  FnOk P w K mg base CX0 1 f fd ["number"] (spM P0 1 dW):=
 F.okV sc_show_number rfl rfl fun cdv A outer s H E hr=>
 have hu:=hr.units
 ⟨_,(aF (bT (i:=1) sc_show_number.nd rfl (by walk_at "lc") (bC aQ (pv 0) aD (fun _ _=>rfl)))
   (aF (bT (i:=2) sc_show_number.nd rfl (by walk_at "lc") (bC aQ (pv 0) aD (fun _ _=>rfl)))
   (aJ (b8 (jC (aY (cF hu) (pv 2) aD (b7 _)) (eX jR rfl B.str_ boot_str (aA (pv 1) aC)) (aA5 (pv 1) (pv 2))))))),
  ((aP (bV (aO (bN aB aG)))
   (aP (bV (aO (bN aB aG)))
   (bD (rZ (bB (eQ aB aG)) (aO (rH aB)) (aO (aJ6 aB aB)))))):VS P0 _ lE)⟩
abbrev lD:Stmt:=top 41
theorem zJ:FnScope ["part"] ["part"] (aL lD):=scM
theorem yW  (F:Fun K "show_part" "show_part" lD f fd)(B:Bl K mg)(Kt:Kit K)
  (c_show_number:xR P0 P w K mg base) :
  FnOk P w K mg base CX0 2 f fd ["part"] (spM P0 1 fW):=
 F.okV zJ rfl rfl fun cdv A outer s H E hr=>
 have hu:=hr.units
 ⟨_,(aJ (b8 (jC (cO (aH bF rfl B.isinstance_ boot_isinstance (aA (pv 0) (aA (bH (v:=.ty "tuple") rfl B.tuple_ boot_tuple rfl) aC)))) (aK c_show_number hr rfl (aA (pv 0) aC)) (eX jR rfl B.str_ boot_str (aA (pv 0) aC))))),
  ((bD (rZ (fP (bZ Kt (by decide) aB)) (aM (aN aB aV)) (aO (rH aB)))):VS P0 _ p6)⟩
abbrev gD:Stmt:=top 42
theorem xW:FnScope ["things", "part", "thing"] ["things"] (aL gD):=scM
theorem xO  (F:Fun K "show_lines" "show_lines" gD f fd)(B:Bl K mg)(Kt:Kit K)
  (c_show_part:a0U P0 P w K mg base) :
  FnOk P w K mg base CX0 3 f fd ["things"] (spM P0 1 fD):=
 F.okV xW rfl rfl fun cdv A outer s H E hr=>
 have hu:=hr.units
 ⟨_,(aJ (b8 (lN (hbase:=rfl) (hfew:=rfl) (hline:=rfl) (hs:=rfl) (hplain:=rfl) PySem.F.plainAttrs_str PySem.F.slot_str_join PySem.F.type_str_join yG cB (aA (jD (N:=["thing"]) (nt:=1) (fv:=[]) (hs:=fun _=>rfl) rfl (sH (osc:=aL gD) (ON:=["things", "part", "thing"]) (by decide +kernel)) (a1K (pv 0)) (fun _ _ _ _=>(dG (i:=0) (show(["thing"]:List Str).Nodup by decide +kernel) rfl (by walk_at "lc"))) (fun _ _ _ _=>kW) (fun _ _ _ _=>(by exact(lN (hbase:=rfl) (hfew:=rfl) (hline:=rfl) (hs:=rfl) (hplain:=rfl) PySem.F.plainAttrs_str PySem.F.slot_str_join PySem.F.type_str_join yG cB (aA (jD (N:=["part"]) (nt:=1) (fv:=[]) (hs:=fun _=>rfl) rfl (aD8 (by decide +kernel)) (a76 (pv 0)) (fun _ _ _ _=>(dG (i:=0) (show(["part"]:List Str).Nodup by decide +kernel) rfl (by walk_at "lc"))) (fun _ _ _ _=>kW) (fun _ _ _ _=>(aK c_show_part hr rfl (aA (pv 0) aC)))) aC))))) aC)))),
  ((bD (aO (wU cC (aR (lG (a2I aB) dH iD (wU cC (aR (lG (a86 aB) dH iD (aR (aM (aN aB aV))))))))))):VS P0 _ mJ)⟩
abbrev n6:Stmt:=top 43
theorem a1Y:FnScope ["log"] ["log"] (aL n6):=scM
theorem a2B  (F:Fun K "show_log" "show_log" n6 f fd)(B:Bl K mg)(Kt:Kit K)
  (c_show_lines:zF P0 P w K mg base) :
  FnOk P w K mg base CX0 4 f fd ["log"] (spM P0 1 iQ):=
 F.okV a1Y rfl rfl fun cdv A outer s H E hr=>
 have hu:=hr.units
 ⟨_,(aJ (b8 (aK c_show_lines hr rfl (aA (pv 0) aC)))),
  ((bD (aM (aN aB aV))):VS P0 _ qO)⟩
abbrev xY:Stmt:=inClass (top 20) 0
theorem a99:FnScope ["self"] ["self"] (aL xY):=scM
theorem aLE {H:Hp}{w:Addr}{o o':HO}:upd (upd H w o) w o'=upd H w o':=by
 funext b
 by_cases h:b=w
 ·rw[h,bA,bA]
 ·rw[aZ h,aZ h,aZ h]
theorem a66  {c:Addr}(cl:Cls K c)(n_running:NoAttr K c "running")(n_joined:NoAttr K c "joined")(n_last:NoAttr K c "last")(F:Fun K "__init__" "Field.__init__" xY f fd)(B:Bl K mg):FnOk P w K mg base CX0 1 f fd ["self"] (xV c):=by
 refine F.ok a99 (fun vs H Q E h=>?_) (fun cdv A outer s H vs Q E hr h=>?_)
 ·obtain⟨w,d,rfl,_⟩:=h;rfl
 have hu:=hr.units;obtain⟨w,d,rfl,hw,q⟩:=h;refine⟨_,(aF (a3H (pv 0) a9H rfl) (aF (a3H (pv 0) aD rfl) (aJ (a3H (pv 0) gY rfl)))),?_⟩;intro p hp;have pw:w≠p:=fun z=>by rw[z,hp] at hw; cases hw
 refine⟨_,rfl,w,c,d,[],rfl,by rw[aZ pw]; exact hw,cl,n_running,by decide,?_⟩;refine⟨_,rfl,w,c,d,_,rfl,bA,cl,n_joined,(by show 1<1000; decide),?_⟩;refine⟨_,rfl,w,c,d,_,rfl,bA,cl,n_last,(by show 2<1000; decide),?_⟩;have z:=q p hp;rw[aLE,aLE];exact z
abbrev jK:Stmt:=inClass (top 20) 3
theorem sc_f_add_runner:FnScope ["self", "line", "runner"] ["self", "line"] (aL jK):=scM
theorem tO  {c:Addr}(cl:Cls K c)(n_running:NoAttr K c "running")(n_joined:NoAttr K c "joined")(n_last:NoAttr K c "last")(F:Fun K "add_runner" "Field.add_runner" jK f fd)(B:Bl K mg)(Kt:Kit K) :
  FnOk P w K mg base CX0 1 f fd ["self", "line"] (spL P0 (bG c) 2 (gA c)):=
 F.okL sc_f_add_runner rfl rfl fun cdv A outer s H E hr=>
 have hu:=hr.units
 ⟨_,(aF (bT (i:=2) sc_f_add_runner.nd rfl (by walk_at "lc") (qG (pv 0) rfl))
   (aF (a7E (hu1 hu) (qG (pv 0) rfl) (pv 2) (pv 1) rfl)
   (aF (a9C (pv 0) aD aH8)
   (aJ (b8 (pv 2)))))),
  ((aP (bV (aO (a1B cl n_joined)))
   (aP (a3O cl n_running aB aB)
   (aP (a5B cl n_joined)
   (qP (aO aB))))):VS P0 _ (jM c))⟩
abbrev a7O:Stmt:=inClass (top 20) 2
theorem sc_f_do:FnScope ["self", "deed", "place"] ["self", "deed"] (aL a7O):=scM
theorem aEE  {c:Addr}(cl:Cls K c)(n_running:NoAttr K c "running")(n_joined:NoAttr K c "joined")(n_last:NoAttr K c "last"){f_add_runner:Addr}{fd_add_runner:FuncData}(M_add_runner:Meth K c "add_runner" f_add_runner)(F_add_runner:FnOk P w K mg base CX0 1 f_add_runner fd_add_runner ["self", "line"] (spL P0 (bG c) 2 (gA c)))(b_add_runner:Binds K fd_add_runner ["self", "line"] [])(F:Fun K "do" "Field.do" a7O f fd)(B:Bl K mg)(Kt:Kit K)
  (c_line_through:vD P0 P w K mg base)
  (c_place_at:a5J P0 P w K mg base) :
  FnOk P w K mg base CX0 5 f fd ["self", "deed"] (spL P0 (bG c) 2 (a3T c)):=
 F.okL sc_f_do rfl rfl fun cdv A outer s H E hr=>
 have hu:=hr.units
 ⟨_,(aF (a3H (pv 0) (bC aQ (pv 1) aD (fun _ _=>rfl)) rfl)
   (aF (cH (aY (cF hu) (bC aQ (pv 1) aD (fun _ _=>rfl)) cB (b7 _)) (aJ (b8 (a2F (pv 0) cl M_add_runner F_add_runner (hr.mono (by decide)) b_add_runner .nil a7G (aA (aK c_line_through hr rfl (aA (bC aQ (pv 1) aD (fun _ _=>rfl)) (aA (bC aQ (pv 1) aD (fun _ _=>rfl)) (aA (bC aQ (pv 1) aD (fun _ _=>rfl)) aC)))) aC)))) bM)
   (aF (cH (aY (cF hu) (bC aQ (pv 1) aD (fun _ _=>rfl)) cB (b7 _)) (aJ (gR (aAF (qG (pv 0) rfl) (bC aQ (pv 1) aD (fun _ _=>rfl)) ⟨rfl,rfl,rfl,rfl⟩))) (aF (bT (i:=2) sc_f_do.nd rfl (by walk_at "lc") (aK c_place_at hr rfl (aA (aEN (hu1 hu) (qG (pv 0) rfl) (bC aQ (pv 1) aD (fun _ _=>rfl)) (fun _ _=>rfl)) (aA (bC aQ (pv 1) aD (fun _ _=>rfl)) aC))))
   (aJ (a7E (hu1 hu) (qG (pv 0) rfl) (bC aQ (pv 1) aD (fun _ _=>rfl)) (aK c_line_through hr rfl (aA (bC aQ (pv 1) aD (fun _ _=>rfl)) (aA (pv 2) (aA (bC aQ (pv 1) aD (fun _ _=>rfl)) aC)))) rfl))))
   (aJ (b8 gY))))),
  ((aP (a69 cl n_last (bN aB aG))
   (aP (cI (bB (eQ (bN aB aG) cC)) (qP (wQ (a7I (fun _ _=>rfl)) (aN (aR (aM (aN (bN aB aG) (aN (bN aB aG) (aN (bN aB aG) aV))))) aV))) cW)
   (aP (cI (bB (eQ (bN aB aG) cC)) (a1I (aB7 cl n_running (bN aB aG))) (aP (bV (aO (aR (aM (aN (aE0 cl n_running (bN aB aG)) (aN (bN aB aG) aV))))))
   (a3O cl n_running (aR (aM (aN (bN aB aG) (aN aB (aN (bN aB aG) aV))))) (bN aB aG))))
   (qP (aO mK))))):VS P0 _ (a8M c))⟩
abbrev rG:Stmt:=inClass (top 20) 1
theorem a0X:FnScope ["self", "deed"] ["self", "deed"] (aL rG):=scM
theorem a1G  {c:Addr}(cl:Cls K c)(n_running:NoAttr K c "running")(n_joined:NoAttr K c "joined")(n_last:NoAttr K c "last"){tk_MOST_RUNNERS:Tok}(hg_MOST_RUNNERS:mg "MOST_RUNNERS" = some (.int 8 tk_MOST_RUNNERS))(F:Fun K "allows" "Field.allows" rG f fd)(B:Bl K mg)(Kt:Kit K)
  (c_is_less:a6R P0 P w K mg base) :
  FnOk P w K mg base CX0 2 f fd ["self", "deed"] (spL P0 (bG c) 2 (mV c)):=
 F.okL a0X rfl rfl fun cdv A outer s H E hr=>
 have hu:=hr.units
 ⟨_,(aF (cH (PW.pt (a0B (aY aCU (qG (pv 0) rfl) gY (b7 _)) (u9 (cO (aK c_is_less hr rfl (aA (bC aQ (pv 1) aD (fun _ _=>rfl)) (aA (qG (pv 0) rfl) aC))))))) (aJ (b8 nW)) bM)
   (aF (cH (aY (cF hu) (bC aQ (pv 1) aD (fun _ _=>rfl)) cB (b7 _)) (aJ (b8 (cR z9 (aH a7S rfl B.len_ boot_len (aA (qG (pv 0) rfl) aC)) (qL (v:=.int 8) rfl hg_MOST_RUNNERS ⟨_,rfl⟩) (b7 _)))) bM)
   (aJ (b8 (aH6 (aI7 (hu1 hu) (bC aQ (pv 1) aD (fun _ _=>rfl)) (qG (pv 0) rfl))))))),
  ((aP (cI (yQ (bB (aDI (zZ cl n_last))) (fP (aR (aM (aN (bN aB aG) (aN (zZ cl n_last) aV)))))) (qP (aO nU)) cW)
   (aP (cI (bB (eQ (bN aB aG) cC)) (qP (aO (a2O (aAE cl n_running) aG))) cW)
   (qP (aO (aDZ cl n_running (bN aB aG)))))):VS P0 _ (rA c))⟩
abbrev gO:Stmt:=top 25
theorem rE:FnScope ["thing"] ["thing"] (aL gO):=scM
theorem qZ  {tk_GREATEST_TOP:Tok}(hg_GREATEST_TOP:mg "GREATEST_TOP" = some (.int 999999999 tk_GREATEST_TOP)){tk_GREATEST_BOTTOM:Tok}(hg_GREATEST_BOTTOM:mg "GREATEST_BOTTOM" = some (.int 12 tk_GREATEST_BOTTOM))(F:Fun K "is_deed_number" "is_deed_number" gO f fd)(B:Bl K mg)(Kt:Kit K)
  (c_is_number:uF P0 P w K mg base) :
  FnOk P w K mg base CX0 3 f fd ["thing"] (spM P0 1 bU):=
 F.okV rE rfl rfl fun cdv A outer s H E hr=>
 have hu:=hr.units
 ⟨_,(aF (cH (iB (cO (aK c_is_number hr rfl (aA (pv 0) aC)))) (aJ (b8 nW)) bM)
   (aJ (b8 (j8 (cR aF9 (aH nP rfl B.abs_ boot_abs (aA (bC aQ (pv 0) aD (fun _ _=>rfl)) aC)) (qL (v:=.int 999999999) rfl hg_GREATEST_TOP ⟨_,rfl⟩) (b7 _)) (lU (cR aF9 (bC aQ (pv 0) aD (fun _ _=>rfl)) (qL (v:=.int 12) rfl hg_GREATEST_BOTTOM ⟨_,rfl⟩) (b7 _))))))),
  ((aP (cI (eN (fP (aR (aM (aN aB aV))))) (bD (aO nU)) cW)
   (bD (aO (jF (aGY (a4D (bN aB aG)) aG) (aGY (bN aB aG) aG))))):VS P0 _ gM)⟩
abbrev m8:Stmt:=top 26
theorem a5U:FnScope ["thing", "part"] ["thing"] (aL m8):=scM
theorem a5W  (F:Fun K "is_deed" "is_deed" m8 f fd)(B:Bl K mg)(Kt:Kit K)
  (c_is_deed_number:sS P0 P w K mg base)
  (c_is_whole:rC P0 P w K mg base) :
  FnOk P w K mg base CX0 4 f fd ["thing"] (spM P0 1 lX):=
 F.okV a5U rfl rfl fun cdv A outer s H E hr=>
 have hu:=hr.units
 ⟨_,(aF (cH (PW.pt (iW (iB (cO (aH bF rfl B.isinstance_ boot_isinstance (aA (pv 0) (aA (bH (v:=.ty "tuple") rfl B.tuple_ boot_tuple rfl) aC))))) (iW (aY z9 (aH aU rfl B.len_ boot_len (aA (pv 0) aC)) aD (b7 _)) (fU (iB (cO (aH bF rfl B.isinstance_ boot_isinstance (aA (bC aQ (pv 0) aD (fun _ _=>rfl)) (aA (bH (v:=.ty "str") rfl B.str_ boot_str rfl) aC))))))))) (aJ (b8 nW)) bM)
   (aF (cH (aY (cF hu) (bC aQ (pv 0) aD (fun _ _=>rfl)) cB (b7 _)) (aJ (b8 (j8 (cR (cF hu) (aH aU rfl B.len_ boot_len (aA (pv 0) aC)) aD (b7 _)) (lU (aH (jZ rfl) rfl B.all_ boot_all (aA (jD (N:=["part"]) (nt:=1) (fv:=[]) rfl (sH (osc:=aL m8) (ON:=["thing", "part"]) (by decide +kernel)) (a76 (tM aBG (pv 0) (yC aD) xZ)) (fun _ _ _ _=>(dG (i:=0) (show(["part"]:List Str).Nodup by decide +kernel) rfl (by walk_at "lc"))) (fun _ _ _ _=>kW) (fun _ _ _ _=>(aK c_is_deed_number hr rfl (aA (pv 0) aC)))) aC)))))) bM)
   (aF (cH (aY (cF hu) (bC aQ (pv 0) aD (fun _ _=>rfl)) cB (b7 _)) (aJ (b8 (j8 (cR (cF hu) (aH aU rfl B.len_ boot_len (aA (pv 0) aC)) aD (b7 _)) (j8 (aK c_is_deed_number hr rfl (aA (bC aQ (pv 0) aD (fun _ _=>rfl)) aC)) (lU (aK c_is_whole hr rfl (aA (bC aQ (pv 0) aD (fun _ _=>rfl)) aC))))))) bM)
   (aF (cH (aY (cF hu) (bC aQ (pv 0) aD (fun _ _=>rfl)) cB (b7 _)) (aJ (b8 (j8 (cR (cF hu) (aH aU rfl B.len_ boot_len (aA (pv 0) aC)) aD (b7 _)) (j8 (aK c_is_whole hr rfl (aA (bC aQ (pv 0) aD (fun _ _=>rfl)) aC)) (j8 (aK c_is_deed_number hr rfl (aA (bC aQ (pv 0) aD (fun _ _=>rfl)) aC)) (lU (aK c_is_deed_number hr rfl (aA (bC aQ (pv 0) aD (fun _ _=>rfl)) aC)))))))) bM)
   (aJ (b8 nW)))))),
  ((aP (cI (dU (eN (fP (bZ Kt (by decide) aB))) (dU (bB (a2O (eV aB) aG)) (eN (fP (bZ Kt (by decide) (bN aB aG)))))) (bD (aO nU)) cW)
   (aP (cI (bB (eQ (bN aB aG) cC)) (bD (aO (jF (eQ (eV aB) aG) (w5 (aR (lG (a86 (aC6 aB (a9N aG) aAI)) dH iD (aR (aM (aN aB aV))))))))) cW)
   (aP (cI (bB (eQ (bN aB aG) cC)) (bD (aO (jF (eQ (eV aB) aG) (jF (aR (aM (aN (bN aB aG) aV))) (aR (aM (aN (bN aB aG) aV))))))) cW)
   (aP (cI (bB (eQ (bN aB aG) cC)) (bD (aO (jF (eQ (eV aB) aG) (jF (aR (aM (aN (bN aB aG) aV))) (jF (aR (aM (aN (bN aB aG) aV))) (aR (aM (aN (bN aB aG) aV)))))))) cW)
   (bD (aO nU)))))):VS P0 _ uL)⟩
abbrev wX:Stmt:=top 27
theorem sc_log_of:FnScope ["thing", "field", "at", "deed"] ["thing"] (aL wX):=scM
theorem a8G  {c:Addr}(cl:Cls K c)(n_running:NoAttr K c "running")(n_joined:NoAttr K c "joined")(n_last:NoAttr K c "last"){fI:Addr}{fdI:FuncData}(hmF:mg "Field" = some (.ref c))(MI:Mk K c fI)(FI:FnOk P w K mg base CX0 1 fI fdI ["self"] (xV c))(bI:Binds K fdI ["self"] []){f_allows:Addr}{fd_allows:FuncData}(M_allows:Meth K c "allows" f_allows)(F_allows:FnOk P w K mg base CX0 2 f_allows fd_allows ["self", "deed"] (spL P0 (bG c) 2 (mV c)))(b_allows:Binds K fd_allows ["self", "deed"] []){f_do:Addr}{fd_do:FuncData}(M_do:Meth K c "do" f_do)(F_do:FnOk P w K mg base CX0 5 f_do fd_do ["self", "deed"] (spL P0 (bG c) 2 (a3T c)))(b_do:Binds K fd_do ["self", "deed"] []){tk_MOST_DEEDS:Tok}(hg_MOST_DEEDS:mg "MOST_DEEDS" = some (.int 40 tk_MOST_DEEDS))(F:Fun K "log_of" "log_of" wX f fd)(B:Bl K mg)(Kt:Kit K)
  (c_is_deed:a8C P0 P w K mg base) :
  FnOk P w K mg base CX0 6 f fd ["thing"] (spM P0 1 (pJ c)):=
 F.okV sc_log_of rfl rfl fun cdv A outer s H E hr=>
 have hu:=hr.units
 ⟨_,(aF (cH (iB (cO (aH bF rfl B.isinstance_ boot_isinstance (aA (pv 0) (aA (bH (v:=.ty "list") rfl B.list_ boot_list rfl) aC))))) (aJ q8) bM)
   (aF (bT (i:=1) sc_log_of.nd rfl (by walk_at "lc") (aAW MI FI (hr.mono (by decide)) rfl hmF bI .nil a7G))
   (aF (tQ PassesOwn.never rfl (aD2 rfl B.enumerate_ (aA (pv 0) aC)) (aC7 rfl (tG (dG (i:=2) sc_log_of.nd rfl (by walk_at "lc")) (tG (dG (i:=3) sc_log_of.nd rfl (by walk_at "lc")) a6P))) (aF (cH (PW.pt (iW (aY (cF hu) (pv 2) (qL (v:=.int 40) rfl hg_MOST_DEEDS ⟨_,rfl⟩) (b7 _)) (iW (iB (cO (aK c_is_deed hr rfl (aA (pv 3) aC)))) (fU (iB (cO (a2F (pv 1) cl M_allows F_allows (hr.mono (by decide)) b_allows .nil a7G (aA (pv 3) aC)))))))) (aJ q8) bM)
   (aJ (gR (a2F (pv 1) cl M_do F_do (hr.mono (by decide)) b_do .nil a7G (aA (pv 3) aC))))))
   (aJ (b8 (eX sO rfl B.list_ boot_list (aA (pv 0) aC))))))),
  ((aP (cI (eN (fP (bZ Kt (by decide) aB))) pX cW)
   (aP (bV a9K)
   (aP (uK (aD1 aB) (aBR (tK dH (tK dH a7W))) (aP (cI (dU (bB (eQ aB aG)) (dU (eN (fP (aR (aM (aN aB aV))))) (eN (fP (aR (wQ (a7I (fun _ _=>rfl)) (aN aB aV))))))) pX cW)
   (a1I (aR (wQ (a7I (fun _ _=>rfl)) (aN aB aV))))))
   (bD (a0A aB))))):VS P0 _ (yM c))⟩
abbrev nQ:Stmt:=top 39
theorem sc_read_log:FnScope ["text", "deeds", "line"] ["text"] (aL nQ):=scM
theorem a1Z  {c:Addr}(F:Fun K "read_log" "read_log" nQ f fd)(B:Bl K mg)(Kt:Kit K)
  (c_log_of:aAQ P0 P w K mg base c)
  (c_refuse_first_none:oM P0 P w K mg base)
  (c_lines_in:a4W P0 P w K mg base)
  (c_deed_in:a9D P0 P w K mg base) :
  FnOk P w K mg base CX0 7 f fd ["text"] (spM P0 1 (iM c)):=
 F.okV sc_read_log rfl rfl fun cdv A outer s H E hr=>
 have hu:=hr.units
 ⟨_,(aF (aEH (N:=["line"]) (nt:=1) (fv:=[]) (i:=1) sc_read_log.nd rfl rfl rfl (sH (osc:=aL nQ) (ON:=["text", "deeds", "line"]) (by decide +kernel)) (a1K (aK c_lines_in hr rfl (aA (pv 0) aC))) (fun _ _ _ _=>(dG (i:=0) (show(["line"]:List Str).Nodup by decide +kernel) rfl (by walk_at "lc"))) (fun _ _ _ _=>kW) (fun _ _ _ _=>(aK c_deed_in hr rfl (aA (pv 0) aC))))
   (aF (gR (aK c_refuse_first_none hr rfl (aA (pv 1) aC)))
   (aJ (b8 (aK c_log_of hr rfl (aA (pv 1) aC)))))),
  ((aP (bV (aO (aR (lG (a2I (aR (aM (aN aB aV)))) dH iD (aR (aM (aN aB aV)))))))
   (aP (a1I (aR (aM (aN aB aV))))
   (bD (aM (aN aB aV))))):VS P0 _ (rD c))⟩
abbrev jE:Stmt:=top 46
theorem sc_law_lowest:FnScope ["_law_top", "_law_bottom", "_law_one", "_law_other"] ["_law_top", "_law_bottom"] (aL jE):=scM
theorem wO  (F:Fun K "_law_lowest" "_law_lowest" jE f fd)(B:Bl K mg)(Kt:Kit K) :
  FnOk P w K mg base CX0 1 f fd ["_law_top", "_law_bottom"] (spM P0 2 bY):=
 F.okV sc_law_lowest rfl rfl fun cdv A outer s H E hr=>
 have hu:=hr.units
 ⟨_,(aF (bT (i:=2) sc_law_lowest.nd rfl (by walk_at "lc") (aH nP rfl B.abs_ boot_abs (aA (pv 0) aC)))
   (aF (bT (i:=3) sc_law_lowest.nd rfl (by walk_at "lc") (pv 1))
   (aF (a2Y PassesOwn.never (aY a82 (pv 3) aD (b7 _)) (aJ (aFH (i:=2) (j:=3) rfl sc_law_lowest.nd rfl rfl (by decide) rfl rfl (aA (pv 3) (aA (cA pD (pv 2) (pv 3)) aC)) rfl)))
   (aJ (b8 (fV (aA (cA pF (pv 0) (pv 2)) (aA (cA pF (pv 1) (pv 2)) aC)))))))),
  ((aP (bV (aO (a4D aB)))
   (aP (bV (aO aB))
   (aP (a4E (bB (aB2 aB aG)) (aFF (aW aB (aW (aC3 aB aB) c7))))
   (bD (aO (gZ (aW (tX aB aB) (aW (tX aB aB) c7)))))))):VS P0 _ lW)⟩
abbrev iH:Stmt:=top 47
theorem sc_law_time_on:FnScope ["_law_pen", "_law_time", "_law_more"] ["_law_pen", "_law_time"] (aL iH):=scM
theorem vK  (F:Fun K "_law_time_on" "_law_time_on" iH f fd)(B:Bl K mg)(Kt:Kit K)
  (c_law_lowest:lA P0 P w K mg base)
  (c_law_take:oW P0 P w K mg base) :
  FnOk P w K mg base CX0 2 f fd ["_law_pen", "_law_time"] (spM P0 2 eE):=
 F.okV sc_law_time_on rfl rfl fun cdv A outer s H E hr=>
 have hu:=hr.units
 ⟨_,(aF (bT (i:=2) sc_law_time_on.nd rfl (by walk_at "lc") (aK c_law_lowest hr rfl (aA (aK c_law_take hr rfl (aA (pv 0) (aA aD aC))) (aA (bC aQ (j6 (aA aD (aA aD (aA aD (aA aD aC))))) (aK c_law_take hr rfl (aA (pv 0) (aA aD aC))) (fun _ _=>rfl)) aC))))
   (aF (bT (i:=2) sc_law_time_on.nd rfl (by walk_at "lc") (bC aQ (j6 (aA (fV (aA aD (aA aD aC))) (aA (pv 2) (aA (pv 2) aC)))) (aK c_law_take hr rfl (aA (pv 0) (aA aD aC))) (fun _ _=>rfl)))
   (aJ (b8 (aK c_law_lowest hr rfl (aA (cA iY (cA fH (bC aQ (pv 1) aD (fun _ _=>rfl)) (bC aQ (pv 2) aD (fun _ _=>rfl))) (cA fH (bC aQ (pv 2) aD (fun _ _=>rfl)) (bC aQ (pv 1) aD (fun _ _=>rfl)))) (aA (cA fH (bC aQ (pv 1) aD (fun _ _=>rfl)) (bC aQ (pv 2) aD (fun _ _=>rfl))) aC))))))),
  ((aP (bV (aO (aR (aM (aN (aR (aM (eG (aN aG aV)))) (aN (bN (aR (jU (aW aG (aW aG (aW aG (aW aG c7)))))) (aR (aM (eG (aN aG aV))))) aV))))))
   (aP (bV (aO (bN (aR (jU (aW (gZ (aW aG (aW aG c7))) (aW aB (aW aB c7))))) (aR (aM (eG (aN aG aV)))))))
   (bD (aM (aN (oG (j7 (bN aB aG) (bN aB aG)) (j7 (bN aB aG) (bN aB aG))) (aN (j7 (bN aB aG) (bN aB aG)) aV)))))):VS P0 _ kZ)⟩
abbrev kY:Stmt:=top 48
theorem sc_law_small:FnScope ["_law_pen", "_law_way"] ["_law_pen"] (aL kY):=scM
theorem a0P  (F:Fun K "_law_small" "_law_small" kY f fd)(B:Bl K mg)(Kt:Kit K)
  (c_law_lowest:lA P0 P w K mg base)
  (c_law_take:oW P0 P w K mg base) :
  FnOk P w K mg base CX0 2 f fd ["_law_pen"] (spM P0 1 dO):=
 F.okV sc_law_small rfl rfl fun cdv A outer s H E hr=>
 have hu:=hr.units
 ⟨_,(aF (bT (i:=1) sc_law_small.nd rfl (by walk_at "lc") (aK c_law_take hr rfl (aA (pv 0) (aA aD aC))))
   (aF (cH (aY z9 (pv 1) aD (b7 _)) (aJ (b8 (fV (aA (cA a0C (aK c_law_take hr rfl (aA (pv 0) (aA aD aC))) aD) (aA aD aC))))) bM)
   (aF (cH (aY (cF hu) (pv 1) aD (b7 _)) (aJ (b8 (aK c_law_lowest hr rfl (aA (cA a0C (aK c_law_take hr rfl (aA (pv 0) (aA aD aC))) aD) (aA (cA iY aD (aK c_law_take hr rfl (aA (pv 0) (aA aD aC)))) aC))))) bM)
   (aJ (b8 (aK c_law_lowest hr rfl (aA (cA fH (cA iY (aK c_law_take hr rfl (aA (pv 0) (aA (cA a0C (a97 (v:=1000000000) (by decide) ⟨by decide,by decide,by decide⟩) aD) aC))) aD) (bC aQ (j6 (aA aD (aA (aEP a71 aD) aC))) (aK c_law_take hr rfl (aA (pv 0) (aA aD aC))) (fun _ _=>rfl))) (aA (cA iY aD (aK c_law_take hr rfl (aA (pv 0) (aA aD aC)))) aC)))))))),
  ((aP (bV (aO (aR (aM (eG (aN aG aV))))))
   (aP (cI (bB (a2O aB aG)) (bD (aO (gZ (aW (a0I (aR (aM (eG (aN aG aV)))) aG) (aW aG c7))))) cW)
   (aP (cI (bB (eQ aB aG)) (bD (aM (aN (a0I (aR (aM (eG (aN aG aV)))) aG) (aN (oG aG (aR (aM (eG (aN aG aV))))) aV)))) cW)
   (bD (aM (aN (j7 (oG (aR (aM (eG (aN (a0I aG aG) aV)))) aG) (bN (aR (jU (aW aG (aW (a6S aG) c7)))) (aR (aM (eG (aN aG aV)))))) (aN (oG aG (aR (aM (eG (aN aG aV))))) aV))))))):VS P0 _ oN)⟩
abbrev pM:Stmt:=top 49
theorem sc_law_log:FnScope ["_law_pen", "_law_most", "_law_log_here", "_law_running", "_law_joined", "_law_time", "_law_k", "_law_way"] ["_law_pen", "_law_most"] (aL pM):=scM
theorem a4V  (F:Fun K "_law_log" "_law_log" pM f fd)(B:Bl K mg)(Kt:Kit K)
  (c_law_take:oW P0 P w K mg base)
  (c_law_small:a0J P0 P w K mg base)
  (c_law_time_on:vL P0 P w K mg base)
  (c_law_lowest:lA P0 P w K mg base) :
  FnOk P w K mg base CX0 3 f fd ["_law_pen", "_law_most"] (spM P0 2 mH):=
 F.okV sc_law_log rfl rfl fun cdv A outer s H E hr=>
 have hu:=hr.units
 ⟨_,(aF (bT (i:=2) sc_law_log.nd rfl (by walk_at "lc") (j6 aC))
   (aF (bT (i:=3) sc_law_log.nd rfl (by walk_at "lc") (j6 aC))
   (aF (bT (i:=4) sc_law_log.nd rfl (by walk_at "lc") aD)
   (aF (bT (i:=5) sc_law_log.nd rfl (by walk_at "lc") (aK c_law_lowest hr rfl (aA (cA a0C (aK c_law_take hr rfl (aA (pv 0) (aA aD aC))) aD) (aA (cA iY aD (aK c_law_take hr rfl (aA (pv 0) (aA aD aC)))) aC))))
   (aF (tQ PassesOwn.never rfl (iV rfl B.range_ (aA (aK c_law_take hr rfl (aA (pv 0) (aA (cA iY (pv 1) aD) aC))) aC)) (dG (i:=6) sc_law_log.nd rfl (by walk_at "lc")) (aF (bT (i:=5) sc_law_log.nd rfl (by walk_at "lc") (aK c_law_time_on hr rfl (aA (pv 0) (aA (pv 5) aC))))
   (aF (cH (aY a82 (bC aQ (pv 5) aD (fun _ _=>rfl)) aD (b7 _)) (aJ (bT (i:=5) sc_law_log.nd rfl (by walk_at "lc") (fV (aA (cA iY (cA pF (bC aQ (pv 5) aD (fun _ _=>rfl)) (bC aQ (pv 5) aD (fun _ _=>rfl))) aD) (aA aD aC))))) bM)
   (aF (bT (i:=7) sc_law_log.nd rfl (by walk_at "lc") (aK c_law_take hr rfl (aA (pv 0) (aA aD aC))))
   (aJ (cH (PW.pt (iW (aY (cF hu) (pv 3) (j6 aC) (b7 _)) (fU (PW.pt (a0B (aY z9 (pv 7) aD (b7 _)) (u9 (aY z9 (aH aU rfl B.len_ boot_len (aA (pv 3) aC)) aD (b7 _)))))))) (aF (gR (lN PySem.F.plainAttrs_list PySem.F.slot_list_append PySem.F.type_list_append fO (pv 2) (aA (fV (aA cB (aA (pv 5) (aA (aK c_law_small hr rfl (aA (pv 0) aC)) (aA (aK c_law_small hr rfl (aA (pv 0) aC)) aC))))) aC)))
   (aF (gR (lN PySem.F.plainAttrs_list PySem.F.slot_list_append PySem.F.type_list_append fO (pv 3) (aA (pv 4) aC)))
   (aJ (bT (i:=4) sc_law_log.nd rfl (by walk_at "lc") (cA iY (pv 4) aD))))) (aJ (cH (aY (cF hu) (pv 7) aD (b7 _)) (aJ (gR (lN PySem.F.plainAttrs_list PySem.F.slot_list_append PySem.F.type_list_append fO (pv 2) (aA (fV (aA cB (aA (pv 5) (aA (lN PySem.F.plainAttrs_list PySem.F.slot_list_pop PySem.F.type_list_pop aB1 (pv 3) (aA (aK c_law_take hr rfl (aA (pv 0) (aA (aH aU rfl B.len_ boot_len (aA (pv 3) aC)) aC))) aC)) aC)))) aC)))) (aJ (gR (lN PySem.F.plainAttrs_list PySem.F.slot_list_append PySem.F.type_list_append fO (pv 2) (aA (fV (aA cB (aA (pv 5) (aA (bC aQ (pv 3) (aK c_law_take hr rfl (aA (pv 0) (aA (aH aU rfl B.len_ boot_len (aA (pv 3) aC)) aC))) (fun _ _=>rfl)) (aA (aK c_law_small hr rfl (aA (pv 0) aC)) aC))))) aC))))))))))))
   (aJ (b8 (pv 2)))))))),
  ((aP (bV (jU c7))
   (aP (bV (jU c7))
   (aP (bV (aO aG))
   (aP (bV (aO (aR (aM (aN (a0I (aR (aM (eG (aN aG aV)))) aG) (aN (oG aG (aR (aM (eG (aN aG aV))))) aV))))))
   (aP (uK (oV (aW (aR (aM (eG (aN (oG aB aG) aV)))) c7)) dH (aP (bV (aO (aR (aM (eG (aN aB aV))))))
   (aP (cI (bB (aB2 (bN aB aG) aG)) (bV (aO (gZ (aW (oG (tX (bN aB aG) (bN aB aG)) aG) (aW aG c7))))) cW)
   (aP (bV (aO (aR (aM (eG (aN aG aV))))))
   (cI (a4A (dU (bB (eQ aB (aR (jU c7)))) (yQ (bB (a2O aB aG)) (bB (a2O a1M aG))))) (aP (fM (gZ (aW cC (aW aB (aW (aR (aM (eG aV))) (aW (aR (aM (eG aV))) c7))))))
   (aP (fM aB)
   (bV (aO (oG aB aG))))) (cI (bB (eQ aB aG)) (fM (gZ (aW cC (aW aB (aW (aB6 (aR (aM (eG (aN a1M aV))))) c7))))) (fM (gZ (aW cC (aW aB (aW (aAB (aR (aM (eG (aN a1M aV))))) (aW (aR (aM (eG aV))) c7))))))))))))
   (bD aES)))))):VS P0 _ uA)⟩
abbrev n8:Stmt:=top 50
theorem a2U:FnScope ["_law_number"] ["_law_number"] (aL n8):=scM
theorem a1U  (F:Fun K "_law_told" "_law_told" n8 f fd)(B:Bl K mg)(Kt:Kit K) :
  FnOk P w K mg base CX0 1 f fd ["_law_number"] (spM P0 1 iK):=
 F.okV a2U rfl rfl fun cdv A outer s H E hr=>
 have hu:=hr.units
 ⟨_,(aF (cH (aY (cF hu) (bC aQ (pv 0) aD (fun _ _=>rfl)) aD (b7 _)) (aJ (b8 (eX jR rfl B.str_ boot_str (aA (bC aQ (pv 0) aD (fun _ _=>rfl)) aC)))) bM)
   (aJ (b8 (cA a8X (cA a8X (eX jR rfl B.str_ boot_str (aA (bC aQ (pv 0) aD (fun _ _=>rfl)) aC)) cB) (eX jR rfl B.str_ boot_str (aA (bC aQ (pv 0) aD (fun _ _=>rfl)) aC)))))),
  ((aP (cI (bB (eQ (bN aB aG) aG)) (bD (aO (rH (bN aB aG)))) cW)
   (bD (aO (a7N (a7N (rH (bN aB aG)) cC) (rH (bN aB aG)))))):VS P0 _ qR)⟩
abbrev fZ:Stmt:=top 51
theorem sc_law_lines_of:FnScope ["_law_rows", "_law_lines", "_law_row", "_law_words", "_law_part"] ["_law_rows"] (aL fZ):=scM
theorem uI  (F:Fun K "_law_lines_of" "_law_lines_of" fZ f fd)(B:Bl K mg)(Kt:Kit K)
  (c_law_told:a2H P0 P w K mg base) :
  FnOk P w K mg base CX0 2 f fd ["_law_rows"] (spM P0 1 eU):=
 F.okV sc_law_lines_of rfl rfl fun cdv A outer s H E hr=>
 have hu:=hr.units
 ⟨_,(aF (bT (i:=1) sc_law_lines_of.nd rfl (by walk_at "lc") (j6 aC))
   (aF (tQ PassesOwn.never rfl (a1K (pv 0)) (dG (i:=2) sc_law_lines_of.nd rfl (by walk_at "lc")) (aF (bT (i:=3) sc_law_lines_of.nd rfl (by walk_at "lc") (j6 (aA (bC aQ (pv 2) aD (fun _ _=>rfl)) aC)))
   (aF (tQ PassesOwn.never rfl (a76 (tM aBG (pv 2) (yC aD) xZ)) (dG (i:=4) sc_law_lines_of.nd rfl (by walk_at "lc")) (aJ (cH (cO (aH bF rfl B.isinstance_ boot_isinstance (aA (pv 4) (aA (bH (v:=.ty "tuple") rfl B.tuple_ boot_tuple rfl) aC)))) (aJ (gR (lN PySem.F.plainAttrs_list PySem.F.slot_list_append PySem.F.type_list_append fO (pv 3) (aA (aK c_law_told hr rfl (aA (pv 4) aC)) aC)))) (aJ (gR (lN PySem.F.plainAttrs_list PySem.F.slot_list_append PySem.F.type_list_append fO (pv 3) (aA (eX jR rfl B.str_ boot_str (aA (pv 4) aC)) aC)))))))
   (aJ (gR (lN PySem.F.plainAttrs_list PySem.F.slot_list_append PySem.F.type_list_append fO (pv 1) (aA (lN PySem.F.plainAttrs_str PySem.F.slot_str_join PySem.F.type_str_join yG cB (aA (pv 3) aC)) aC)))))))
   (aJ (b8 (lN PySem.F.plainAttrs_str PySem.F.slot_str_join PySem.F.type_str_join yG cB (aA (pv 1) aC)))))),
  ((aP (bV (jU c7))
   (aP (uK (a2I aB) dH (aP (bV (jU (aW (bN aB aG) c7)))
   (aP (uK (a86 (aC6 aB (a9N aG) aAI)) dH (cI (fP (bZ Kt (by decide) aB)) (fM (aR (aM (aN aB aV)))) (fM (rH aB))))
   (a6E (fM (wU cC aB))))))
   (a6E (bD (aO (wU cC aB)))))):VS P0 _ jN)⟩
abbrev cL:Stmt:=top 52
theorem jA:FnScope ["_law_told_here", "_law_due", "_law_k"] ["_law_told_here", "_law_due"] (aL cL):=scM
theorem vN  (F:Fun K "_law_alike" "_law_alike" cL f fd)(B:Bl K mg)(Kt:Kit K)
  (c_law_alike:a02 P0 P w K mg base) :
  FnOk P w K mg base CX0 2 f fd ["_law_told_here", "_law_due"] (spM P0 2 eF):=
 F.okV jA rfl rfl fun cdv A outer s H E hr=>
 have hu:=hr.units
 ⟨_,(aF (cH (cO (aH pK rfl B.isinstance_ boot_isinstance (aA (pv 1) (aA (fV (aA (bH (v:=.ty "list") rfl B.list_ boot_list rfl) (aA (bH (v:=.ty "tuple") rfl B.tuple_ boot_tuple rfl) aC))) aC)))) (aF (cH (PW.pt (iW (aY (fC hu) (aH bF rfl B.isinstance_ boot_isinstance (aA (pv 0) (aA (bH (v:=.ty "list") rfl B.list_ boot_list rfl) aC))) (aH bF rfl B.isinstance_ boot_isinstance (aA (pv 1) (aA (bH (v:=.ty "list") rfl B.list_ boot_list rfl) aC))) (b7 _)) (fU (aY (fC hu) (aH bF rfl B.isinstance_ boot_isinstance (aA (pv 0) (aA (bH (v:=.ty "tuple") rfl B.tuple_ boot_tuple rfl) aC))) (aH bF rfl B.isinstance_ boot_isinstance (aA (pv 1) (aA (bH (v:=.ty "tuple") rfl B.tuple_ boot_tuple rfl) aC))) (b7 _))))) (aJ (b8 nW)) bM)
   (aJ (b8 (j8 (cR (cF hu) (aH aU rfl B.len_ boot_len (aA (pv 0) aC)) (aH aU rfl B.len_ boot_len (aA (pv 1) aC)) (b7 _)) (lU (aH (jZ rfl) rfl B.all_ boot_all (aA (jD (N:=["_law_k", "_law_told_here", "_law_due"]) (nt:=1) (fv:=[0,1]) rfl (sH (osc:=aL cL) (ON:=["_law_told_here", "_law_due", "_law_k"]) (by decide +kernel)) (iV rfl B.range_ (aA (aH aU rfl B.len_ boot_len (aA (pv 1) aC)) aC)) (fun _ _ _ _=>(dG (i:=0) (show(["_law_k", "_law_told_here", "_law_due"]:List Str).Nodup by decide +kernel) rfl (by walk_at "lc"))) (fun _ _ _ _=>kW) (fun _ _ _ _=>(aK c_law_alike hr rfl (aA (bC aQ (pv 1) (pv 0) (fun _ _=>rfl)) (aA (bC aQ (pv 2) (pv 0) (fun _ _=>rfl)) aC))))) aC))))))) bM)
   (aF (cH (PW.pt (iW (cO (aH bF rfl B.isinstance_ boot_isinstance (aA (pv 0) (aA (bH (v:=.ty "bool") rfl B.bool_ boot_bool rfl) aC)))) (fU (aY (fC hu) (aH bF rfl B.isinstance_ boot_isinstance (aA (pv 0) (aA (bH (v:=.ty "str") rfl B.str_ boot_str rfl) aC))) (aH bF rfl B.isinstance_ boot_isinstance (aA (pv 1) (aA (bH (v:=.ty "str") rfl B.str_ boot_str rfl) aC))) (b7 _))))) (aJ (b8 nW)) bM)
   (aJ (b8 (cR (cF hu) (pv 0) (pv 1) (b7 _)))))),
  ((aP (cI (fP (xT Kt (by decide) (by decide) aB)) (aP (cI (dU (bB (jV (bZ Kt (by decide) aB) (bZ Kt (by decide) aB))) (bB (jV (bZ Kt (by decide) aB) (bZ Kt (by decide) aB)))) (bD (aO nU)) cW)
   (bD (aO (jF (eQ (eV aB) (eV aB)) (w5 (aR (lG (oV (aW (eV aB) c7)) dH iD (aR (aM (aN (bN aB aB) (aN (bN aB aB) aV))))))))))) cW)
   (aP (cI (dU (fP (bZ Kt (by decide) aB)) (bB (jV (bZ Kt (by decide) aB) (bZ Kt (by decide) aB)))) (bD (aO nU)) cW)
   (bD (aO (eQ aB aB))))):VS P0 _ (bQ iG))⟩
theorem vB  (F:Fun K "_law_alike" "_law_alike" cL f fd)(B:Bl K mg)(Kt:Kit K)
  (c_law_alike:vH P0 P w K mg base) :
  FnOk P w K mg base CX0 3 f fd ["_law_told_here", "_law_due"] (spM P0 2 dZ):=
 F.okV jA rfl rfl fun cdv A outer s H E hr=>
 have hu:=hr.units
 ⟨_,(aF (cH (cO (aH pK rfl B.isinstance_ boot_isinstance (aA (pv 1) (aA (fV (aA (bH (v:=.ty "list") rfl B.list_ boot_list rfl) (aA (bH (v:=.ty "tuple") rfl B.tuple_ boot_tuple rfl) aC))) aC)))) (aF (cH (PW.pt (iW (aY (fC hu) (aH bF rfl B.isinstance_ boot_isinstance (aA (pv 0) (aA (bH (v:=.ty "list") rfl B.list_ boot_list rfl) aC))) (aH bF rfl B.isinstance_ boot_isinstance (aA (pv 1) (aA (bH (v:=.ty "list") rfl B.list_ boot_list rfl) aC))) (b7 _)) (fU (aY (fC hu) (aH bF rfl B.isinstance_ boot_isinstance (aA (pv 0) (aA (bH (v:=.ty "tuple") rfl B.tuple_ boot_tuple rfl) aC))) (aH bF rfl B.isinstance_ boot_isinstance (aA (pv 1) (aA (bH (v:=.ty "tuple") rfl B.tuple_ boot_tuple rfl) aC))) (b7 _))))) (aJ (b8 nW)) bM)
   (aJ (b8 (j8 (cR (cF hu) (aH aU rfl B.len_ boot_len (aA (pv 0) aC)) (aH aU rfl B.len_ boot_len (aA (pv 1) aC)) (b7 _)) (lU (aH (jZ rfl) rfl B.all_ boot_all (aA (jD (N:=["_law_k", "_law_told_here", "_law_due"]) (nt:=1) (fv:=[0,1]) rfl (sH (osc:=aL cL) (ON:=["_law_told_here", "_law_due", "_law_k"]) (by decide +kernel)) (iV rfl B.range_ (aA (aH aU rfl B.len_ boot_len (aA (pv 1) aC)) aC)) (fun _ _ _ _=>(dG (i:=0) (show(["_law_k", "_law_told_here", "_law_due"]:List Str).Nodup by decide +kernel) rfl (by walk_at "lc"))) (fun _ _ _ _=>kW) (fun _ _ _ _=>(aK c_law_alike hr rfl (aA (bC aQ (pv 1) (pv 0) (fun _ _=>rfl)) (aA (bC aQ (pv 2) (pv 0) (fun _ _=>rfl)) aC))))) aC))))))) bM)
   (aF (cH (PW.pt (iW (cO (aH bF rfl B.isinstance_ boot_isinstance (aA (pv 0) (aA (bH (v:=.ty "bool") rfl B.bool_ boot_bool rfl) aC)))) (fU (aY (fC hu) (aH bF rfl B.isinstance_ boot_isinstance (aA (pv 0) (aA (bH (v:=.ty "str") rfl B.str_ boot_str rfl) aC))) (aH bF rfl B.isinstance_ boot_isinstance (aA (pv 1) (aA (bH (v:=.ty "str") rfl B.str_ boot_str rfl) aC))) (b7 _))))) (aJ (b8 nW)) bM)
   (aJ (b8 (cR (cF hu) (pv 0) (pv 1) (b7 _)))))),
  ((aP (cI (fP (xT Kt (by decide) (by decide) aB)) (aP (cI (dU (bB (jV (bZ Kt (by decide) aB) (bZ Kt (by decide) aB))) (bB (jV (bZ Kt (by decide) aB) (bZ Kt (by decide) aB)))) (bD (aO nU)) cW)
   (bD (aO (jF (eQ (eV aB) (eV aB)) (w5 (aR (lG (oV (aW (eV aB) c7)) dH iD (aR (aM (aN (bN aB aB) (aN (bN aB aB) aV))))))))))) cW)
   (aP (cI (dU (fP (bZ Kt (by decide) aB)) (bB (jV (bZ Kt (by decide) aB) (bZ Kt (by decide) aB)))) (bD (aO nU)) cW)
   (bD (aO (eQ aB aB))))):VS P0 _ (bQ eF))⟩
theorem v6  (F:Fun K "_law_alike" "_law_alike" cL f fd)(B:Bl K mg)(Kt:Kit K)
  (c_law_alike:vA P0 P w K mg base) :
  FnOk P w K mg base CX0 4 f fd ["_law_told_here", "_law_due"] (spM P0 2 dX):=
 F.okV jA rfl rfl fun cdv A outer s H E hr=>
 have hu:=hr.units
 ⟨_,(aF (cH (cO (aH pK rfl B.isinstance_ boot_isinstance (aA (pv 1) (aA (fV (aA (bH (v:=.ty "list") rfl B.list_ boot_list rfl) (aA (bH (v:=.ty "tuple") rfl B.tuple_ boot_tuple rfl) aC))) aC)))) (aF (cH (PW.pt (iW (aY (fC hu) (aH bF rfl B.isinstance_ boot_isinstance (aA (pv 0) (aA (bH (v:=.ty "list") rfl B.list_ boot_list rfl) aC))) (aH bF rfl B.isinstance_ boot_isinstance (aA (pv 1) (aA (bH (v:=.ty "list") rfl B.list_ boot_list rfl) aC))) (b7 _)) (fU (aY (fC hu) (aH bF rfl B.isinstance_ boot_isinstance (aA (pv 0) (aA (bH (v:=.ty "tuple") rfl B.tuple_ boot_tuple rfl) aC))) (aH bF rfl B.isinstance_ boot_isinstance (aA (pv 1) (aA (bH (v:=.ty "tuple") rfl B.tuple_ boot_tuple rfl) aC))) (b7 _))))) (aJ (b8 nW)) bM)
   (aJ (b8 (j8 (cR (cF hu) (aH aU rfl B.len_ boot_len (aA (pv 0) aC)) (aH aU rfl B.len_ boot_len (aA (pv 1) aC)) (b7 _)) (lU (aH (jZ rfl) rfl B.all_ boot_all (aA (jD (N:=["_law_k", "_law_told_here", "_law_due"]) (nt:=1) (fv:=[0,1]) rfl (sH (osc:=aL cL) (ON:=["_law_told_here", "_law_due", "_law_k"]) (by decide +kernel)) (iV rfl B.range_ (aA (aH aU rfl B.len_ boot_len (aA (pv 1) aC)) aC)) (fun _ _ _ _=>(dG (i:=0) (show(["_law_k", "_law_told_here", "_law_due"]:List Str).Nodup by decide +kernel) rfl (by walk_at "lc"))) (fun _ _ _ _=>kW) (fun _ _ _ _=>(aK c_law_alike hr rfl (aA (bC aQ (pv 1) (pv 0) (fun _ _=>rfl)) (aA (bC aQ (pv 2) (pv 0) (fun _ _=>rfl)) aC))))) aC))))))) bM)
   (aF (cH (PW.pt (iW (cO (aH bF rfl B.isinstance_ boot_isinstance (aA (pv 0) (aA (bH (v:=.ty "bool") rfl B.bool_ boot_bool rfl) aC)))) (fU (aY (fC hu) (aH bF rfl B.isinstance_ boot_isinstance (aA (pv 0) (aA (bH (v:=.ty "str") rfl B.str_ boot_str rfl) aC))) (aH bF rfl B.isinstance_ boot_isinstance (aA (pv 1) (aA (bH (v:=.ty "str") rfl B.str_ boot_str rfl) aC))) (b7 _))))) (aJ (b8 nW)) bM)
   (aJ (b8 (cR (cF hu) (pv 0) (pv 1) (b7 _)))))),
  ((aP (cI (fP (xT Kt (by decide) (by decide) aB)) (aP (cI (dU (bB (jV (bZ Kt (by decide) aB) (bZ Kt (by decide) aB))) (bB (jV (bZ Kt (by decide) aB) (bZ Kt (by decide) aB)))) (bD (aO nU)) cW)
   (bD (aO (jF (eQ (eV aB) (eV aB)) (w5 (aR (lG (oV (aW (eV aB) c7)) dH iD (aR (aM (aN (bN aB aB) (aN (bN aB aB) aV))))))))))) cW)
   (aP (cI (dU (fP (bZ Kt (by decide) aB)) (bB (jV (bZ Kt (by decide) aB) (bZ Kt (by decide) aB)))) (bD (aO nU)) cW)
   (bD (aO (eQ aB aB))))):VS P0 _ (bQ dZ))⟩
theorem vC  (F:Fun K "_law_alike" "_law_alike" cL f fd)(B:Bl K mg)(Kt:Kit K)
  (c_law_alike:v9 P0 P w K mg base) :
  FnOk P w K mg base CX0 5 f fd ["_law_told_here", "_law_due"] (spM P0 2 iI):=
 F.okV jA rfl rfl fun cdv A outer s H E hr=>
 have hu:=hr.units
 ⟨_,(aF (cH (cO (aH pK rfl B.isinstance_ boot_isinstance (aA (pv 1) (aA (fV (aA (bH (v:=.ty "list") rfl B.list_ boot_list rfl) (aA (bH (v:=.ty "tuple") rfl B.tuple_ boot_tuple rfl) aC))) aC)))) (aF (cH (PW.pt (iW (aY (fC hu) (aH bF rfl B.isinstance_ boot_isinstance (aA (pv 0) (aA (bH (v:=.ty "list") rfl B.list_ boot_list rfl) aC))) (aH bF rfl B.isinstance_ boot_isinstance (aA (pv 1) (aA (bH (v:=.ty "list") rfl B.list_ boot_list rfl) aC))) (b7 _)) (fU (aY (fC hu) (aH bF rfl B.isinstance_ boot_isinstance (aA (pv 0) (aA (bH (v:=.ty "tuple") rfl B.tuple_ boot_tuple rfl) aC))) (aH bF rfl B.isinstance_ boot_isinstance (aA (pv 1) (aA (bH (v:=.ty "tuple") rfl B.tuple_ boot_tuple rfl) aC))) (b7 _))))) (aJ (b8 nW)) bM)
   (aJ (b8 (j8 (cR (cF hu) (aH aU rfl B.len_ boot_len (aA (pv 0) aC)) (aH aU rfl B.len_ boot_len (aA (pv 1) aC)) (b7 _)) (lU (aH (jZ rfl) rfl B.all_ boot_all (aA (jD (N:=["_law_k", "_law_told_here", "_law_due"]) (nt:=1) (fv:=[0,1]) rfl (sH (osc:=aL cL) (ON:=["_law_told_here", "_law_due", "_law_k"]) (by decide +kernel)) (iV rfl B.range_ (aA (aH aU rfl B.len_ boot_len (aA (pv 1) aC)) aC)) (fun _ _ _ _=>(dG (i:=0) (show(["_law_k", "_law_told_here", "_law_due"]:List Str).Nodup by decide +kernel) rfl (by walk_at "lc"))) (fun _ _ _ _=>kW) (fun _ _ _ _=>(aK c_law_alike hr rfl (aA (bC aQ (pv 1) (pv 0) (fun _ _=>rfl)) (aA (bC aQ (pv 2) (pv 0) (fun _ _=>rfl)) aC))))) aC))))))) bM)
   (aF (cH (PW.pt (iW (cO (aH bF rfl B.isinstance_ boot_isinstance (aA (pv 0) (aA (bH (v:=.ty "bool") rfl B.bool_ boot_bool rfl) aC)))) (fU (aY (fC hu) (aH bF rfl B.isinstance_ boot_isinstance (aA (pv 0) (aA (bH (v:=.ty "str") rfl B.str_ boot_str rfl) aC))) (aH bF rfl B.isinstance_ boot_isinstance (aA (pv 1) (aA (bH (v:=.ty "str") rfl B.str_ boot_str rfl) aC))) (b7 _))))) (aJ (b8 nW)) bM)
   (aJ (b8 (cR (cF hu) (pv 0) (pv 1) (b7 _)))))),
  ((aP (cI (fP (xT Kt (by decide) (by decide) aB)) (aP (cI (dU (bB (jV (bZ Kt (by decide) aB) (bZ Kt (by decide) aB))) (bB (jV (bZ Kt (by decide) aB) (bZ Kt (by decide) aB)))) (bD (aO nU)) cW)
   (bD (aO (jF (eQ (eV aB) (eV aB)) (w5 (aR (lG (oV (aW (eV aB) c7)) dH iD (aR (aM (aN (bN aB aB) (aN (bN aB aB) aV))))))))))) cW)
   (aP (cI (dU (fP (bZ Kt (by decide) aB)) (bB (jV (bZ Kt (by decide) aB) (bZ Kt (by decide) aB)))) (bD (aO nU)) cW)
   (bD (aO (eQ aB aB))))):VS P0 _ (bQ dX))⟩
abbrev aCH:Stmt:=top 53
theorem sc_law:FnScope ["_law_script", "_law_pen", "_law_k", "_law_log_here", "_law_handed", "_law_text", "_law_turn", "_law_found"] ["_law_script"] (aL aCH):=scM
theorem aFG  {c:Addr}(F:Fun K "law" "law" aCH f fd)(B:Bl K mg)(Kt:Kit K)
  (c_read_log:∀ a ns,Cal P w K mg base 7 "read_log" ["text"] (spM (bK K a ns) 1 (iM c)))
  (c_show_log:∀ a ns,Cal P w K mg base 4 "show_log" ["log"] (spM (bK K a ns) 1 iQ))
  (c_law_alike:∀ a ns,Cal P w K mg base 5 "_law_alike" ["_law_told_here", "_law_due"] (spM (bK K a ns) 2 iZ))
  (c_law_lines_of:∀ a ns,Cal P w K mg base 2 "_law_lines_of" ["_law_rows"] (spM (bK K a ns) 1 eU))
  (c_law_log:∀ a ns,Cal P w K mg base 3 "_law_log" ["_law_pen", "_law_most"] (spM (bK K a ns) 2 mH))
  (c_law_take:∀ a ns,Cal P w K mg base 1 "_law_take" ["_law_pen", "_law_many"] (spM (bK K a ns) 2 bL))
  (hL:uE c (.no::.pen::List.replicate 6 .no) oJ) :
  FnOk P w K mg base CX0 8 f fd ["_law_script"] (aA6 K):=by
 refine F.ok sc_law (fun vs H Q E h=>?_) (fun cdv A outer s H vs Q E hr h=>?_)
 ·obtain⟨a,ns,rfl,hS,h63,q⟩:=h;rfl
 have hu:=hr.units;obtain⟨a,ns,rfl,hS,h63,q⟩:=h;have c_read_log:=c_read_log a ns;have c_show_log:=c_show_log a ns;have c_law_alike:=c_law_alike a ns;have c_law_lines_of:=c_law_lines_of a ns;have c_law_log:=c_law_log a ns;have c_law_take:=c_law_take a ns;exact law_body2 (k:=6) (bT (i:=1) sc_law.nd rfl (by walk_at "lc") (j6 (aA aD (aA aD (aA (pv 0) aC))))) ⟨_,(aF (tQ PassesOwn.never rfl (iV rfl B.range_ (aA aD aC)) (dG (i:=2) sc_law.nd rfl (by walk_at "lc")) (aF (bT (i:=3) sc_law.nd rfl (by walk_at "lc") (aK c_law_log hr rfl (aA (pv 1) (aA (bC aQ (j6 (aA aD (aA aD (aA aD aC)))) (aK c_law_take hr rfl (aA (pv 1) (aA aD aC))) (fun _ _=>rfl)) aC))))
   (aF (bT (i:=4) sc_law.nd rfl (by walk_at "lc") (eX sO rfl B.list_ boot_list (aA (pv 3) aC)))
   (aF (bT (i:=5) sc_law.nd rfl (by walk_at "lc") (aK c_show_log hr rfl (aA (pv 4) aC)))
   (aF (cH (PW.pt (iW (iB (cO (aH bF rfl B.isinstance_ boot_isinstance (aA (pv 5) (aA (bH (v:=.ty "str") rfl B.str_ boot_str rfl) aC))))) (iW (aY (fC hu) (pv 5) (aK c_law_lines_of hr rfl (aA (pv 3) aC)) (b7 _)) (fU (aY (fC hu) (pv 4) (pv 3) (b7 _)))))) (aJ (b8 nW)) bM)
   (aJ (tQ PassesOwn.never rfl (iV rfl B.range_ (aA aD aC)) (dG (i:=6) sc_law.nd rfl (by walk_at "lc")) (aF (bT (i:=7) sc_law.nd rfl (by walk_at "lc") (aK c_read_log hr rfl (aA (pv 5) aC)))
   (aF (cH (iB (cO (aK c_law_alike hr rfl (aA (pv 7) (aA (pv 3) aC))))) (aJ (b8 nW)) bM)
   (aJ (gR (lN PySem.F.plainAttrs_list PySem.F.slot_list_append PySem.F.type_list_append fO (pv 7) (aA (fV aC) aC)))))))))))))
   (aJ (b8 (j8 (cR (cF hu) (aK c_show_log hr rfl (aA (j6 aC) aC)) cB (b7 _)) (lU (cR (cF hu) (aK c_read_log hr rfl (aA cB aC)) (j6 aC) (b7 _))))))),
  ((aP (uK (oV (aW aG c7)) dH (aP (bV (aO (aR (aM (eG (aN (bN (aR (jU (aW aG (aW aG (aW aG c7))))) (aR (aM (eG (aN aG aV))))) aV))))))
   (aP (bV (aO (aR (a0A aB))))
   (aP (bV (aO (aR (aM (aN aB aV)))))
   (aP (cI (dU (eN (fP (bZ Kt (by decide) aB))) (dU (bB (jV aB (aR (aM (aN aB aV))))) (bB (jV aB aB)))) (bD (aO nU)) cW)
   (uK (oV (aW aG c7)) dH (aP (bV (aM (aN aB aV)))
   (aP (cI (a4A (eN (fP (aR (aM (aN aB (aN aB aV))))))) (bD (aO nU)) cW)
   (fM (gZ c7))))))))))
   (bD (aO (jF (eQ (aR (aM (aN (aR (jU c7)) aV))) cC) (eQ (aR (aM (aN cC aV))) (aR (jU c7))))))):VS (bK K a ns) _ (uE c))⟩ rfl hS hL q
end
section
variable {Q:Rv→Prop}
theorem qU {i:Int}(q:Q (.val (.bool true))):cG [.val (.int i)] Q:=by
 refine lM ?_;unfold qI;walk_at "vs";exact q
theorem aF2 {a b:Int}(q:Q (.val (.int (Int.gcd a b:Nat)))):bR [.val (.int a),.val (.int b)] Q:=by
 refine lM ?_;unfold fJ gF gG;walk_at "vs";refine zV (fun n Γ=>∃ d r x,Γ=[.val (.int a),.val (.int b),.val (.int d),.val (.int r),x]∧0≤d∧0≤r∧Int.gcd d r=Int.gcd a b∧n=r.toNat) _ ⟨_,_,.no,rfl,a3G a,a3G b,a8N a b,rfl⟩ ?_;rintro m Γ ⟨d,r,x,rfl,hd,hr,hg,rfl⟩;walk_at "vs";refine aKT (fun c=>?_) (fun c=>?_)
 ·have hp:0<r:=by omega
  walk_at "vs";refine⟨hp,?_⟩;walk_at "vs";have h1:=Int.emod_nonneg d (b:=r) (by omega);have h2:=Int.emod_lt_of_pos d hp;exact⟨_,by omega,_,_,_,rfl,hr,h1,(a4K hd hp).trans hg,rfl⟩
 ·subst c;have e:=a6W hd;rw[hg] at e;walk_at "vs";rw[e] at q;exact q
theorem oU {t b:Int}(h0:b≠0)(hb:Bt 9000 b)(q:Q (.val (dD (Rat.divInt t b)))):cN [.val (.int t),.val (.int b)] Q:=by
 have g0:=aBN (t:=t) h0;have g1:=aBE (t:=t) hb h0;refine lM ?_;unfold oR o7 oF;walk_at "vs";refine qU ?_;walk_at "vs";refine qU ?_;walk_at "vs";refine aCM h0 ?_;walk_at "vs";refine aF2 ?_;walk_at "vs";refine lH (fun c=>?_) (fun c=>?_)
 ·have n:=a9P (t:=t) c;walk_at "vs";refine⟨⟨by omega,g1.neg⟩,?_⟩;walk_at "vs";refine⟨⟨by omega,g1.neg⟩,?_⟩;walk_at "vs";rw[n.1,n.2];exact q
 ·have n:=nG (t:=t) (b:=b) (by omega);walk_at "vs";refine⟨⟨g0,g1⟩,?_⟩;walk_at "vs";refine⟨⟨g0,g1⟩,?_⟩;walk_at "vs";rw[n.1,n.2];exact q
theorem aAC {a b:Rat}(ha:Sz 4000 a)(hb:Sz 4000 b)(q:Q (.val (dD (a+b)))):nD [.val (dD a),.val (dD b)] Q:=by
 obtain⟨a0,a1⟩:=id ha;obtain⟨b0,b1⟩:=id hb;refine lM ?_;unfold xJ;walk_at "vs";refine oU (Int.mul_ne_zero (lK a) (lK b)) ((a1.mul b1).mono (by decide)) ?_;rw[a4I];exact q
theorem uY {a b:Rat}(ha:Sz 4000 a)(hb:Sz 4000 b)(q:Q (.val (dD (a-b)))):cP [.val (dD a),.val (dD b)] Q:=by
 obtain⟨a0,a1⟩:=id ha;obtain⟨b0,b1⟩:=id hb;refine lM ?_;unfold iU;walk_at "vs";refine oU (Int.mul_ne_zero (lK a) (lK b)) ((a1.mul b1).mono (by decide)) ?_;rw[aGL];exact q
theorem rM {a b:Rat}(ha:Sz 4000 a)(hb:Sz 4000 b)(q:Q (.val (dD (a*b)))):cY [.val (dD a),.val (dD b)] Q:=by
 obtain⟨a0,a1⟩:=id ha;obtain⟨b0,b1⟩:=id hb;refine lM ?_;unfold lR;walk_at "vs";refine oU (Int.mul_ne_zero (lK a) (lK b)) ((a1.mul b1).mono (by decide)) ?_;rw[aBF];exact q
theorem a8Z {a b:Rat}(ha:Sz 9000 a)(hb:Sz 9000 b)(q:Q (.val (.bool (decide (a<b))))):m7 [.val (dD a),.val (dD b)] Q:=by
 obtain⟨a0,a1⟩:=id ha;obtain⟨b0,b1⟩:=id hb;refine lM ?_;unfold tZ;walk_at "vs";rw[aKM];exact q
theorem a4Z {l:Rat×Rat}{t:Rat}(h1:Sz 900 l.1)(h2:Sz 900 l.2)(h3:Sz 2900 t)(q:Q (.val (dD (l.1+l.2*t)))):jY [.val (mL l),.val (dD t)] Q:=by
 refine lM ?_;unfold qY;walk_at "vs";refine rM (h2.mono (by decide)) (h3.mono (by decide)) ?_;walk_at "vs";exact aAC (h1.mono (by decide)) ((h2.mul h3).mono (by decide)) q
end
theorem aB9 (i:Int):PyData.tuple [.int i,.int 1]=dD (i:Rat):=by
 unfold dD;rw[Rat.num_intCast,Rat.den_intCast];rfl
theorem a9G {k:Nat}{i:Int}(h1 : -2147483648<i)(h2:i<2147483648)(hk:31≤k:=by decide):Bt k i:=by
 refine Bt.mono (k:=31) ?_ hk;show i.natAbs<2^31;have:(2:Nat)^31=2147483648:=by decide
 omega
def LinesOk (k:Nat)(ls:List (Rat×Rat)):Prop:=∀ l∈ls,Sz k l.1∧Sz k l.2
theorem LinesOk.get {k:Nat}{ls:List (Rat×Rat)}(h:LinesOk k ls){i:Nat}{l:Rat×Rat}(e:ls[i]?=some l):Sz k l.1∧Sz k l.2:=h l (List.mem_of_getElem? e)
theorem aGX {ds:List D}{i:Nat}{d:D}(h:ds[i]?=some d):ixD (.list ds) (.int (i:Int))=some d:=a8R h
section
variable {Q:Rv→Prop}
end
section
variable {p:Addr}{n:Nat}{Q:Rv→Nat→Prop}
theorem mD {Q:Rv→Prop}{t b:Int}(h0:0<b)(hb:Bt 9000 b)(q:Q (.val (dD (Rat.divInt t b)))):bY [.val (.int t),.val (.int b)] Q:=by
 have g0:=aBN (t:=t) (b:=b) (by omega);have g1:=aBE (t:=t) hb (by omega);refine lM ?_;unfold lW lY mG;walk_at "vs";refine zV (fun n Γ=>∃ d r,Γ=[.val (.int t),.val (.int b),.val (.int d),.val (.int r)]∧0≤d∧0≤r∧Int.gcd d r=Int.gcd t b∧n=r.toNat) _ ⟨_,_,rfl,a3G t,by omega,by
  have:=a8N t b;rwa[if_neg (c:=b<0) (by omega)] at this,rfl⟩ ?_
 rintro m Γ ⟨d,r,rfl,hd,hr,hg,rfl⟩;walk_at "vs";refine lH (fun c=>?_) (fun c=>?_)
 ·walk_at "vs";refine⟨c,?_⟩;walk_at "vs";have h1:=Int.emod_nonneg d (b:=r) (by omega);have h2:=Int.emod_lt_of_pos d c;exact⟨_,by omega,_,_,rfl,hr,h1,(a4K hd c).trans hg,rfl⟩
 ·have c':r=0:=by omega
  subst c';have e:=a6W hd;rw[hg] at e;subst e;have n:=nG (t:=t) (b:=b) h0;walk_at "vs";refine⟨⟨g0,g1⟩,?_⟩;walk_at "vs";refine⟨⟨g0,g1⟩,?_⟩;walk_at "vs";rw[n.1,n.2];exact q
end
def pA (xs:List Nat):List D:=xs.map fun i:Nat=>PyData.int (i:Int)
theorem fG (xs:List Nat):(pA xs).length=xs.length:=by simp[pA]
theorem a6V (xs:List Nat):Good (.list (pA xs)):=(a7U (n:=0) fun d h=>by
 obtain⟨t,_,rfl⟩:=List.mem_map.mp h;exact wJ _).good
section
variable {Q:Rv→Prop}
end
inductive Deed where
 | join (t p m:Rat)
 | leave (t:Rat) (r:Nat)
 | turn (t:Rat) (r:Nat) (m:Rat)
def Deed.t:Deed→Rat
 | .join t _ _=>t
 | .leave t _=>t
 | .turn t _ _=>t
def gW:Deed→D
 | .join t p m=>.tuple [.str "join", dD t,dD p,dD m]
 | .leave t r=>.tuple [.str "leave", dD t,.int (r:Int)]
 | .turn t r m=>.tuple [.str "turn", dD t,.int (r:Int),dD m]
structure Rn where
 ls:List Ln
 rs:List Nat
def Rn.at (s:Rn)(r:Nat):Ln:=s.ls.getD r (0,0)
def stp (s:Rn):Deed→Rn
 | .join t p m=>⟨s.ls++[(p-m*t,m)],s.rs++[s.ls.length]⟩
 | .leave _ r=>⟨s.ls,s.rs.filter fun x=>decide (x≠r)⟩
 | .turn t r m=>⟨s.ls.set r (pl (s.at r) t-m*t,m),s.rs⟩
def Deed.ok (s:Rn):Deed→Prop
 | .join _ _ _=>True
 | .leave _ r=>r∈s.rs
 | .turn _ r _=>r∈s.rs
def run (ds:List Deed):Rn:=ds.foldl stp ⟨[],[]⟩
theorem yN (ds:List Deed)(d:Deed):run (ds++[d])=stp (run ds) d:=by unfold run; rw[List.foldl_append]; rfl
def LogP (P:Rn→Deed→Prop)(ds:List Deed):Prop:=∀(n:Nat) d,ds[n]?=some d→P (run (ds.take n)) d
def LogOk (ds:List Deed):Prop:=LogP (fun s d=>d.ok s) ds
theorem LogP.snoc {P:Rn→Deed→Prop}{ds:List Deed}{d:Deed}(h:LogP P ds)(hd:P (run ds) d):LogP P (ds++[d]):=fun n e he=>by
 by_cases hn:n<ds.length
 ·rw[List.getElem?_append_left hn] at he;rw[List.take_append_of_le_length (Nat.le_of_lt hn)];exact h n e he
 ·have hn2:n=ds.length:=by
   have:=(List.getElem?_eq_some_iff.mp he).1;rw[List.length_append,List.length_singleton] at this;omega
  subst hn2;rw[List.getElem?_append_right (Nat.le_refl _),Nat.sub_self] at he
  cases he
  rw[List.take_append_of_le_length (Nat.le_refl _),List.take_length];exact hd
theorem LogP.take {P:Rn→Deed→Prop}{ds:List Deed}(h:LogP P ds)(k:Nat):LogP P (ds.take k):=fun n e he=>by
 rw[List.getElem?_take] at he
 split at he
 ·rename_i hn
  rw[List.take_take,Nat.min_eq_left (Nat.le_of_lt hn)];exact h n e he
 ·cases he
theorem LogOk.snoc {ds:List Deed}{d:Deed}(h:LogOk ds)(hd:d.ok (run ds)):LogOk (ds++[d]):=LogP.snoc h hd
theorem LogOk.take {ds:List Deed}(h:LogOk ds)(k:Nat):LogOk (ds.take k):=LogP.take h k
def Deed.few (s:Rn):Deed→Prop
 | .join _ _ _=>s.rs.length<8
 | _=>True
def Few (ds:List Deed):Prop:=LogP (fun s d=>d.few s) ds
structure RnOk (s:Rn):Prop where
 up:s.rs.Pairwise (·<·)
 lt:∀ r∈s.rs,r<s.ls.length
theorem aHW {s:Rn}(h:RnOk s)(d:Deed):RnOk (stp s d):=by
 cases d with
 | join t p m=>
  refine⟨List.pairwise_append.mpr ⟨h.up,List.pairwise_singleton _ _,fun a ha b hb=>?_⟩,fun r hr=>?_⟩
  ·rw[List.mem_singleton.mp hb]; exact h.lt a ha
  ·show r<(s.ls++[_]).length;rw[List.length_append,List.length_singleton];rcases List.mem_append.mp hr with z|z
   ·have:=h.lt r z; omega
   ·rw[List.mem_singleton.mp z]; omega
 | leave t r=>exact⟨h.up.sublist List.filter_sublist,fun x hx=>h.lt x (List.mem_filter.mp hx).1⟩
 | turn t r m=>
  refine⟨h.up,fun x hx=>?_⟩;show x<(s.ls.set r _).length;rw[List.length_set];exact h.lt x hx
theorem a3Z:∀(ds:List Deed) {s:Rn},RnOk s→RnOk (ds.foldl stp s)
 | [],_,h=>h
 | d::ds,_,h=>a3Z ds (aHW h d)
theorem a03 (ds:List Deed):RnOk (run ds):=a3Z ds ⟨List.Pairwise.nil,fun _ h=>nomatch h⟩
theorem RnOk.nd {s:Rn}(h:RnOk s):s.rs.Nodup:=h.up.imp fun h=>Nat.ne_of_lt h
theorem a6A (s:Rn)(d:Deed):(stp s d).rs.length≤s.rs.length+1:=by
 cases d with
 | join t p m=>show(s.rs++[_]).length≤_; rw[List.length_append,List.length_singleton]; exact Nat.le_refl _
 | leave t r=>exact Nat.le_succ_of_le (List.length_filter_le _ _)
 | turn t r m=>exact Nat.le_succ _
theorem sE:∀(ds:List Deed) (s:Rn),(ds.foldl stp s).rs.length≤s.rs.length+ds.length
 | [],s=>Nat.le_refl _
 | d::ds,s=>by
  have h1:=sE ds (stp s d);have h2:=a6A s d
  show(ds.foldl stp (stp s d)).rs.length≤_
  rw[List.length_cons]; omega
theorem wI (ds:List Deed):(run ds).rs.length≤ds.length:=by
 have h:(run ds).rs.length≤([]:List Nat).length+ds.length:=sE ds ⟨[],[]⟩;rw[List.length_nil] at h;omega
theorem a77 (s:Rn)(d:Deed):(stp s d).ls.length≤s.ls.length+1:=by
 cases d with
 | join t p m=>show(s.ls++[_]).length≤_; rw[List.length_append,List.length_singleton]; exact Nat.le_refl _
 | leave t r=>exact Nat.le_succ _
 | turn t r m=>show(s.ls.set r _).length≤_; rw[List.length_set]; exact Nat.le_succ _
def a3Q (ls:List Ln)(rs:List Nat):List (Int×D):=rs.map fun r:Nat=>((r:Int),mL (ls.getD r (0,0)))
def jL (s:Rn):List (Int×D):=a3Q s.ls s.rs
theorem kds_len (s:Rn):(jL s).length=s.rs.length:=List.length_map _
theorem aDA (ls:List Ln):∀(rs:List Nat) (r:Nat),v4 (a3Q ls rs) (r:Int)=if r∈rs then some (mL (ls.getD r (0,0))) else none
 | [],r=>by rw[if_neg (by exact fun h=>nomatch h)]; rfl
 | x::rs,r=>by
  show(if (x:Int)=(r:Int) then _ else v4 (a3Q ls rs) (r:Int))=_
  by_cases e:x=r
  ·subst e;rw[if_pos rfl,if_pos List.mem_cons_self]
  ·rw[if_neg (by omega),aDA ls rs r]
   by_cases h:r∈rs
   ·rw[if_pos h,if_pos (List.mem_cons_of_mem _ h)]
   ·rw[if_neg h,if_neg (fun z=>(List.mem_cons.mp z).elim (fun y=>e y.symm) h)]
theorem a7F {s:Rn}{r:Nat}(h:r∈s.rs):v4 (jL s) (r:Int)=some (mL (s.at r)):=by
 unfold jL;rw[aDA,if_pos h];rfl
theorem a9O {s:Rn}(h:RnOk s)(t p m:Rat):sU (jL s) (s.ls.length:Int) (mL (p-m*t,m))=jL (stp s (.join t p m)):=by
 have hn:v4 (jL s) (s.ls.length:Int)=none:=by
  unfold jL;rw[aDA,if_neg (fun z=>Nat.lt_irrefl _ (h.lt _ z))]
 unfold sU;rw[hn,if_neg (by decide)];show a3Q s.ls s.rs++_=a3Q (s.ls++[(p-m*t,m)]) (s.rs++[s.ls.length]);unfold a3Q;rw[List.map_append]
 congr 1
 ·refine List.map_congr_left fun r hr=>?_;have:=h.lt r hr;rw[List.getD_eq_getElem?_getD,List.getD_eq_getElem?_getD,List.getElem?_append_left this]
 ·rw[List.map_singleton,List.getD_eq_getElem?_getD,List.getElem?_append_right (Nat.le_refl _),Nat.sub_self];rfl
theorem a8V (s:Rn)(t:Rat)(r:Nat):lL (jL s) (r:Int)=jL (stp s (.leave t r)):=by
 show lL (a3Q s.ls s.rs) _=a3Q s.ls (s.rs.filter _)
 induction s.rs with
 | nil=>rfl
 | cons x rs ih=>
  show(if (x:Int)=(r:Int) then lL (a3Q s.ls rs) (r:Int) else((x:Int),mL (s.ls.getD x (0,0)))::lL (a3Q s.ls rs) (r:Int))=_
  by_cases e:x=r
  ·rw[if_pos (by omega),ih,List.filter_cons_of_neg (by simpa using e)]
  ·rw[if_neg (by omega),ih,List.filter_cons_of_pos (by simpa using e)];rfl
theorem aA7 {s:Rn}(h:RnOk s){t m:Rat}{r:Nat}(hr:r∈s.rs):sU (jL s) (r:Int) (mL (pl (s.at r) t-m*t,m))=jL (stp s (.turn t r m)):=by
 have hl:=h.lt r hr;unfold sU;rw[a7F hr,if_pos (show(some (mL (s.at r))).isSome=true from rfl)];show vR (a3Q s.ls s.rs) _ _=a3Q (s.ls.set r _) s.rs;generalize (pl (s.at r) t-m*t,m)=l;clear hr
 induction s.rs with
 | nil=>rfl
 | cons x rs ih=>
  show(if (x:Int)=(r:Int) then((x:Int),mL l) else((x:Int),mL (s.ls.getD x (0,0))))::vR (a3Q s.ls rs) (r:Int) (mL l)=((x:Int),mL ((s.ls.set r l).getD x (0,0)))::a3Q (s.ls.set r l) rs
  rw[ih]
  congr 1
  by_cases e:x=r
  ·subst e;rw[if_pos rfl,List.getD_eq_getElem?_getD,List.getElem?_set_self hl];rfl
  ·rw[if_neg (by omega),List.getD_eq_getElem?_getD,List.getD_eq_getElem?_getD,List.getElem?_set_ne (Ne.symm e)]
theorem aBM {s:Rn}(h:RnOk s){r:Nat}(hr:r∈s.rs):s.ls[r]?=some (s.at r):=by
 have:=h.lt r hr;unfold Rn.at;rw[List.getD_eq_getElem?_getD,List.getElem?_eq_getElem this];rfl
def Rising (ds:List Deed):Prop:=ds.Pairwise fun a b=>a.t≤b.t
theorem Rising.snoc {ds:List Deed}{d:Deed}(h:Rising ds)(hd:∀ e∈ds,e.t≤d.t):Rising (ds++[d]):=
 List.pairwise_append.mpr ⟨h,List.pairwise_singleton _ _,fun a ha b hb=>by rw[List.mem_singleton.mp hb]; exact hd a ha⟩
def G1 (B:Nat)(q:Rat):Prop:=∃ z:Int,q*27720=(z:Rat)∧z.natAbs≤B
def G2 (B:Nat)(q:Rat):Prop:=∃ z:Int,q*768398400=(z:Rat)∧z.natAbs≤B
theorem G1.mul {A B:Nat}{a b:Rat}(h:G1 A a)(g:G1 B b):G2 (A*B) (a*b):=by
 obtain⟨x,hx,bx⟩:=h;obtain⟨y,hy,dy⟩:=g;refine⟨x*y,?_,by rw[Int.natAbs_mul]; exact Nat.mul_le_mul bx dy⟩;rw[Rat.intCast_mul,←hx,←hy];grind
theorem G1.up {A:Nat}{a:Rat}(h:G1 A a):G2 (A*27720) a:=by
 obtain⟨x,hx,bx⟩:=h;refine⟨x*27720,?_,by rw[Int.natAbs_mul]; exact Nat.mul_le_mul bx (Nat.le_refl _)⟩;rw[Rat.intCast_mul,←hx];show a*768398400=a*27720*((27720:Int):Rat);rw[show((27720:Int):Rat)=27720 from rfl];grind
theorem G2.mono {A B:Nat}{a:Rat}(h:G2 A a)(l:A≤B):G2 B a:=let ⟨x,hx,bx⟩:=h; ⟨x,hx,Nat.le_trans bx l⟩
theorem G2.add {A B:Nat}{a b:Rat}(h:G2 A a)(g:G2 B b):G2 (A+B) (a+b):=by
 obtain⟨x,hx,bx⟩:=h;obtain⟨y,hy,dy⟩:=g;refine⟨x+y,?_,Nat.le_trans (Int.natAbs_add_le _ _) (Nat.add_le_add bx dy)⟩;rw[Rat.intCast_add,←hx,←hy];grind
theorem G2.sub {A B:Nat}{a b:Rat}(h:G2 A a)(g:G2 B b):G2 (A+B) (a-b):=by
 obtain⟨x,hx,bx⟩:=h;obtain⟨y,hy,dy⟩:=g;refine⟨x-y,?_,?_⟩
 ·rw[Rat.intCast_sub,←hx,←hy];grind
 ·omega
theorem G2.sz {B k:Nat}{q:Rat}(h:G2 B q)(hB:B<2^k)(hk:30≤k):Sz k q:=by
 obtain⟨z,hz,bz⟩:=h;rw[← dI (t:=z) (b:=768398400) (q:=q) (by decide) hz.symm];refine Sz.divInt (Nat.lt_of_le_of_lt bz hB) (Bt.mono (k:=30) (by show Int.natAbs 768398400<2^30; decide) hk) (by decide)
theorem G1.sz {B k:Nat}{q:Rat}(h:G1 B q)(hB:B<2^k)(hk:30≤k):Sz k q:=by
 obtain⟨z,hz,bz⟩:=h;rw[← dI (t:=z) (b:=27720) (q:=q) (by decide) hz.symm];refine Sz.divInt (Nat.lt_of_le_of_lt bz hB) (Bt.mono (k:=30) (by show Int.natAbs 27720<2^30; decide) hk) (by decide)
theorem a3Y {a b:Int}{B:Nat}(ha:a.natAbs*27720≤B)(b0:1≤b)(b1:b≤12):G1 B (Rat.divInt a b):=by
 obtain⟨c,hc,c0,c1⟩:∃ c:Int,b*c=27720∧0≤c∧c≤27720:=by
  have:b=1∨b=2∨b=3∨b=4∨b=5∨b=6∨b=7∨b=8∨b=9∨b=10∨b=11∨b=12:=by omega
  rcases this with rfl|rfl|rfl|rfl|rfl|rfl|rfl|rfl|rfl|rfl|rfl|rfl
  ·exact⟨27720,by decide⟩
  ·exact⟨13860,by decide⟩
  ·exact⟨9240,by decide⟩
  ·exact⟨6930,by decide⟩
  ·exact⟨5544,by decide⟩
  ·exact⟨4620,by decide⟩
  ·exact⟨3960,by decide⟩
  ·exact⟨3465,by decide⟩
  ·exact⟨3080,by decide⟩
  ·exact⟨2772,by decide⟩
  ·exact⟨2520,by decide⟩
  ·exact⟨2310,by decide⟩
 refine⟨a*c,?_,Nat.le_trans ?_ ha⟩
 ·have hb:(b:Rat)≠0:=fun z=>by
   have:b=0:=by exact_mod_cast z
   omega
  have hc':(b:Rat)*(c:Rat)=27720:=by
   rw[← Rat.intCast_mul,hc]; rfl
  rw[Rat.divInt_eq_div,Rat.intCast_mul,←hc'];grind
 ·rw[Int.natAbs_mul];exact Nat.mul_le_mul (Nat.le_refl _) (by omega)
def DeedZ:Deed→Prop
 | .join t p m=>G1 (2^45) t∧G1 (2^45) p∧G1 (2^45) m
 | .leave t _=>G1 (2^45) t
 | .turn t _ m=>G1 (2^45) t∧G1 (2^45) m
theorem DeedZ.tz {d:Deed}(h:DeedZ d):Sz 60 d.t:=by
 cases d with
 | join t p m=>exact G1.sz (q:=t) h.1 (by decide) (by decide)
 | leave t r=>exact G1.sz (q:=t) h (by decide) (by decide)
 | turn t r m=>exact G1.sz (q:=t) h.1 (by decide) (by decide)
def RnZ (n:Nat)(s:Rn):Prop:=∀ l∈s.ls,G2 ((n+1)*2^91) l.1∧G1 (2^45) l.2
theorem aKX {n:Nat}{s:Rn}{d:Deed}(h:RnZ n s)(hs:RnOk s)(hd:d.ok s)(hz:DeedZ d):RnZ (n+1) (stp s d):=by
 have old:∀ l∈s.ls,G2 ((n+1+1)*2^91) l.1∧G1 (2^45) l.2:=fun l hl=>⟨(h l hl).1.mono (Nat.mul_le_mul_right _ (by omega)),(h l hl).2⟩
 cases d with
 | join t p m=>
  obtain⟨h1,h2,h3⟩:=hz;intro l hl;rcases List.mem_append.mp hl with z|z
  ·exact old l z
  ·rw[List.mem_singleton.mp z];refine⟨(h2.up.sub (h3.mul h1)).mono ?_,h3⟩;refine Nat.le_trans (m:=1*2^91) (by decide) (Nat.mul_le_mul_right _ (by omega))
 | leave t r=>exact old
 | turn t r m=>
  obtain⟨h1,h3⟩:=hz;intro l hl;rcases List.mem_or_eq_of_mem_set hl with z|z
  ·exact old l z
  ·rw[z];have hm:s.at r∈s.ls:=List.mem_of_getElem? (aBM hs hd);obtain⟨a,b⟩:=h _ hm;refine⟨((a.add (b.mul h1)).sub (h3.mul h1)).mono ?_,h3⟩;have e:2^45*2^45+2^45*2^45=2^91:=by decide
   have:(n+1+1)*2^91=(n+1)*2^91+2^91:=Nat.succ_mul _ _;omega
theorem aIU {ds:List Deed}(hl:LogOk ds)(hz:∀ d∈ds,DeedZ d):RnZ ds.length (run ds):=by
 have aux:∀ n,n≤ds.length→RnZ n (run (ds.take n)):=by
  intro n
  induction n with
  | zero=>intro _ l hl; exact nomatch hl
  | succ n ih=>
   intro hn;have hn':n<ds.length:=by omega
   have e:ds[n]?=some ds[n]:=List.getElem?_eq_getElem hn';rw[List.take_succ,e];show RnZ (n+1) (run (ds.take n++[ds[n]]));rw[yN];exact aKX (ih (by omega)) (a03 _) (hl n _ e) (hz _ (List.getElem_mem hn'))
 have:=aux ds.length (Nat.le_refl _);rw[List.take_length] at this;exact this
theorem aI0 {ds:List Deed}(hl:LogOk ds)(hz:∀ d∈ds,DeedZ d)(h40:ds.length≤40):LinesOk 200 (run ds).ls:=fun l h=>by
 obtain⟨a,b⟩:=aIU hl hz l h;refine⟨a.sz ?_ (by decide),b.sz (by decide) (by decide)⟩;exact Nat.lt_of_le_of_lt (Nat.mul_le_mul_right _ (show ds.length+1≤41 by omega)) (by decide)
def a6C (q:Rat):Prop:=q.num.natAbs≤999999999∧q.den≤12
theorem aAK {a b:Int}(ha:a.natAbs≤999999999)(b0:1≤b)(b1:b≤12):a6C (Rat.divInt a b):=by
 obtain⟨h1,h2⟩:=nG (t:=a) (b:=b) (by omega);rw[fd] at h1 h2;refine⟨?_,?_⟩
 ·rw[← h1];exact Nat.le_trans (Int.natAbs_ediv_le_natAbs _ _) ha
 ·have h3:((Rat.divInt a b).den:Int).natAbs≤b.natAbs:=by
   rw[← h2];exact Int.natAbs_ediv_le_natAbs _ _
  omega
def aCQ:Deed→Prop
 | .join t p m=>a6C t∧a6C p∧a6C m
 | .leave t _=>a6C t
 | .turn t _ m=>a6C t∧a6C m
structure LogB (ds:List Deed):Prop where
 ok:LogOk ds
 up:Rising ds
 z:∀ d∈ds,DeedZ d
 nm:∀ d∈ds,aCQ d
 few:Few ds
section
variable {p:Addr}{n:Nat}{Q:Rv→Nat→Prop}
theorem a87 (xs:List Nat):PyData.eqv (.list (pA xs)) (.list [])=decide (xs=[]):=by
 cases xs with
 | nil=>rfl
 | cons x xs=>rw[decide_eq_false (fun h=>nomatch h)]; rfl
theorem a8H:Good (.list []):=(a7U (n:=0) (ds:=[]) fun _ h=>nomatch h).good
theorem rO:∀{rs:List Nat} {k:Nat} {r:Nat},rs.Nodup→rs[k]?=some r→rs.eraseIdx k=rs.filter fun x=>decide (x≠r)
 | [],k,r,_,h=>by cases k<;>cases h
 | x::rs,0,r,hn,h=>by
  cases h
  obtain⟨a,b⟩:=List.nodup_cons.mp hn;rw[List.filter_cons_of_neg (by simp),List.eraseIdx_cons_zero];exact(List.filter_eq_self.mpr fun y hy=>by simpa using fun(e:y=x)=>a (e▸hy)).symm
 | x::rs,k+1,r,hn,h=>by
  obtain⟨a,b⟩:=List.nodup_cons.mp hn;have h:rs[k]?=some r:=h;have hx:x≠r:=fun e=>a (e▸List.mem_of_getElem? h);rw[List.filter_cons_of_pos (by simpa using hx),List.eraseIdx_cons_succ,rO b h]
theorem a0N {α β:Type}(f:α→β):∀(xs:List α) (k:Nat),(xs.eraseIdx k).map f=(xs.map f).eraseIdx k
 | [],k=>by cases k<;>rfl
 | x::xs,0=>rfl
 | x::xs,k+1=>by
  show f x::(xs.eraseIdx k).map f=f x::(xs.map f).eraseIdx k;rw[a0N f xs k]
theorem a8B {xs:List Nat}{k r:Nat}(h:xs[k]?=some r):(pA xs)[k]?=some (.int (r:Int)):=by
 unfold pA;rw[List.getElem?_map,h];rfl
theorem a6N {a b c:Int}(hc:0<c)(h:a≤b):Rat.divInt a c≤Rat.divInt b c:=by
 rw[Rat.divInt_eq_div,Rat.divInt_eq_div];have hc':(0:Rat)<(c:Rat):=by exact_mod_cast hc
 have h':(a:Rat)≤(b:Rat):=by exact_mod_cast h
 rw[Rat.div_def,Rat.div_def];exact Rat.mul_le_mul_of_nonneg_right h' (Rat.le_of_lt (Rat.inv_pos.mpr hc'))
end
theorem sixth {m b c:Int}(hb:b*c=6)(h0:0<b):Rat.divInt m b=Rat.divInt (m*c) 6:=by
 refine(dI (t:=m*c) (b:=6) (by decide) ?_).symm;have hb':(b:Rat)≠0:=fun z=>by
  have:b=0:=by exact_mod_cast z
  omega
 have hc:(b:Rat)*(c:Rat)=((6:Int):Rat):=by rw[← Rat.intCast_mul,hb]
 rw[Rat.divInt_eq_div,Rat.intCast_mul,←hc];grind
theorem aF8 (z k:Int):Rat.divInt z 6+Rat.divInt k 6=Rat.divInt (z+k) 6:=by
 refine(dI (t:=z+k) (b:=6) (by decide) ?_).symm;rw[Rat.divInt_eq_div,Rat.divInt_eq_div,Rat.intCast_add,show((6:Int):Rat)=6 from rfl];grind
section
variable {Q:Rv→Prop}
theorem mF (q:∀ r:Rat,G1 (2^45) r∧a6C r→Q (.val (dD r))):dO [.pen] Q:=by
 refine lM ?_;unfold oN;walk_at "ws";refine gK (by decide) (by decide) fun w w0 w1=>?_;walk_at "ws";refine lH (fun c=>?_) (fun c=>?_)
 ·walk_at "ws";refine gK (by decide) (by decide) fun a a0 a1=>?_;walk_at "ws";rw[aB9];refine q _ ?_;have:=And.intro (a3Y (a:=a-3) (b:=1) (B:=2^45) (by omega) (by decide) (by decide)) (aAK (a:=a-3) (b:=1) (by omega) (by decide) (by decide));rwa[dI (t:=a-3) (b:=1) (q:=((a-3:Int):Rat)) (by decide) (by rw[show((1:Int):Rat)=1 from rfl]; grind)] at this
 ·walk_at "ws";unfold o9;walk_at "ws";refine lH (fun c=>?_) (fun c=>?_)
  ·walk_at "ws";refine gK (by decide) (by decide) fun a a0 a1=>?_;walk_at "ws";refine gK (by decide) (by decide) fun b b0 b1=>?_;walk_at "ws";refine mD (by omega) (a9G (by omega) (by omega)) ?_;walk_at "ws";exact q _ ⟨a3Y (by omega) (by omega) (by omega),aAK (by omega) (by omega) (by omega)⟩
  ·walk_at "ws";unfold oA;walk_at "ws";refine gK (by decide) (by decide) fun a a0 a1=>?_;walk_at "ws";refine gK (by decide) (by decide) fun s s0 s1=>?_;walk_at "ws";obtain⟨e,he,he'⟩:∃ e:Int,ixD (.list [.int 1,.int (-1)]) (.int s)=some (.int e)∧(e=1∨e = -1):=by
    have hd:s=0∨s=1:=by omega
    rcases hd with rfl|rfl
    ·exact⟨1,rfl,.inl rfl⟩
    ·exact⟨-1,rfl,.inr rfl⟩
   refine dM he ?_;walk_at "ws";refine⟨aKK (k:=31) (a9G (by omega) (by omega)) (m:=31) (a9G (by omega) (by omega)),?_⟩;walk_at "ws";refine gK (by decide) (by decide) fun b b0 b1=>?_;walk_at "ws";have hs:((a+1)*e).natAbs≤999999999:=by rcases he' with rfl|rfl<;>omega
   refine mD (by omega) (a9G (by omega) (by omega)) ?_;walk_at "ws";exact q _ ⟨a3Y (by omega) (by omega) (by omega),aAK (by omega) (by omega) (by omega)⟩
theorem a89 {T:Rat}(hT:Sz 100 T)(q:∀ k:Int,0≤k→k≤72→Q (.val (dD (T+Rat.divInt k 6)))):eE [.pen,.val (dD T)] Q:=by
 refine lM ?_;unfold kZ;walk_at "ws";refine gK (by decide) (by decide) fun m m0 m1=>?_;walk_at "ws";refine gK (by decide) (by decide) fun s s0 s1=>?_;walk_at "ws";obtain⟨b,hb,b1,b3⟩:∃ b:Int,ixD (.list [.int 1,.int 1,.int 2,.int 3]) (.int s)=some (.int b)∧1≤b∧b≤3:=by
  have hd:s=0∨s=1∨s=2∨s=3:=by omega
  rcases hd with rfl|rfl|rfl|rfl
  ·exact⟨1,rfl,by decide,by decide⟩
  ·exact⟨1,rfl,by decide,by decide⟩
  ·exact⟨2,rfl,by decide,by decide⟩
  ·exact⟨3,rfl,by decide,by decide⟩
 refine dM hb ?_;walk_at "ws";refine mD (by omega) (a9G (by omega) (by omega)) ?_;walk_at "ws";refine gK (by decide) (by decide) fun u u0 u1=>?_;walk_at "ws";obtain⟨r,hr,q'⟩:∃ r:Rat,ixD (.list [.tuple [.int 0,.int 1],dD (Rat.divInt m b),dD (Rat.divInt m b)]) (.int u)=some (dD r)∧(∃ m b:Int,0≤m∧m≤12∧1≤b∧b≤3∧r=Rat.divInt m b):=by
  have hd:u=0∨u=1∨u=2:=by omega
  rcases hd with rfl|rfl|rfl
  ·exact⟨0,rfl,0,1,by decide,by decide,by decide,by decide,by rw[Rat.zero_divInt]⟩
  ·exact⟨_,rfl,m,b,m0,by omega,b1,b3,rfl⟩
  ·exact⟨_,rfl,m,b,m0,by omega,b1,b3,rfl⟩
 obtain⟨m',b',x1,x2,x3,x4,rfl⟩:=q';have zr:Sz 31 (Rat.divInt m' b'):=Sz.divInt (a9G (by omega) (by omega)) (a9G (by omega) (by omega)) (by omega);have ft:Q (.val (dD (T+Rat.divInt m' b'))):=by
  have hb:b'=1∨b'=2∨b'=3:=by omega
  rcases hb with rfl|rfl|rfl
  ·rw[sixth (c:=6) (by decide) (by decide)]; exact q _ (by omega) (by omega)
  ·rw[sixth (c:=3) (by decide) (by decide)]; exact q _ (by omega) (by omega)
  ·rw[sixth (c:=2) (by decide) (by decide)]; exact q _ (by omega) (by omega)
 generalize Rat.divInt m' b'=r at *;obtain⟨z1,z2⟩:=zr;obtain⟨y1,y2⟩:=hT;refine dM hr ?_;walk_at "ws";refine mD (Int.mul_pos (den_pos T) (den_pos r)) ((y2.mul z2).mono (by decide)) ?_;rw[a4I];exact ft
theorem aDH {most:Nat}(hm:most≤40)(q:∀ ds:List Deed,ds.length≤40→LogB ds→Q (.own (ds.map gW))):mH [.pen,.val (.int (most:Int))] Q:=by
 refine lM ?_;unfold uA;walk_at "fs";refine gK (by decide) (by decide) fun a a0 a1=>?_;walk_at "fs";refine gK (by decide) (by decide) fun b b0 b1=>?_;walk_at "fs";refine mD (by omega) (a9G (by omega) (by omega)) ?_;obtain⟨z0,hz0,z1,z2⟩:∃ z:Int,Rat.divInt (a-20) (1+b)=Rat.divInt z 6 ∧ -120≤z∧z≤120:=by
  have hb:b=0∨b=1:=by omega
  rcases hb with rfl|rfl
  ·exact⟨_,sixth (c:=6) (by decide) (by decide),by omega,by omega⟩
  ·exact⟨_,sixth (c:=3) (by decide) (by decide),by omega,by omega⟩
 rw[hz0];walk_at "fs";refine gK (by omega) (by omega) fun many m0 m1=>?_;walk_at "fs";refine⟨by omega,by omega,?_⟩;refine uZ (fun j Γ=>∃(ds:List Deed) (tz:Int) (x y:Sl),Γ=[.pen,.val (.int (most:Int)),.own (ds.map gW),.own (pA (run ds).rs),.val (.int ((run ds).ls.length:Int)),.val (dD (Rat.divInt tz 6)),x,y] ∧
  ds.length=j∧LogB ds∧(∀ d∈ds,d.t≤Rat.divInt tz 6)∧tz.natAbs≤120+72*j) ⟨[],_,_,_,rfl,rfl,⟨fun n d h=>(by cases n<;>cases h),List.Pairwise.nil,fun d h=>absurd h List.not_mem_nil,fun d h=>absurd h List.not_mem_nil,fun n d h=>(by cases n<;>cases h)⟩,fun d h=>absurd h List.not_mem_nil,by omega⟩ ?_ ?_
 ·rintro j Γ K hj ⟨ds,tz,x,y,rfl,hl,lb,ts,ht⟩ hK;have hj:j<40:=by omega
  unfold rY;walk_at "fs";refine a89 ((Sz.divInt (k:=31) (a9G (by omega) (by omega)) (a9G (by decide) (by decide)) (by decide)).mono (by decide)) fun k k0 k1=>?_;rw[aF8];have zT:G1 (2^45) (Rat.divInt (tz+k) 6):=a3Y (by omega) (by decide) (by decide);have nT:a6C (Rat.divInt (tz+k) 6):=aAK (by omega) (by decide) (by decide);have tT:∀ d∈ds,d.t≤Rat.divInt (tz+k) 6:=fun d hd=>Rat.le_trans (ts d hd) (a6N (by omega) (by omega));have ht2:(tz+k).natAbs≤120+72*(j+1):=by omega
  revert zT nT tT ht2
  generalize tz+k=tn;intro zT nT tT ht2;generalize hT:Rat.divInt tn 6=T at *;walk_at "fs";refine lH (fun c=>absurd c (by have:=nT.2; omega)) (fun _=>?_);walk_at "fs";unfold rP;walk_at "fs";refine gK (by decide) (by decide) fun w w0 w1=>?_;walk_at "fs";have ro:=a03 ds;have rl:=wI ds;have e5:∀ d,(ds++[d]).map gW=ds.map gW++[gW d]:=fun d=>by rw[List.map_append]; rfl
  have done:∀(d:Deed) (x y:Sl),d.ok (run ds)→d.few (run ds)→DeedZ d→aCQ d→d.t=T→K (.nx [.pen,.val (.int (most:Int)),.own (ds.map gW++[gW d]),.own (pA (stp (run ds) d).rs),.val (.int ((stp (run ds) d).ls.length:Int)),.val (dD T),x,y]):=fun d x y h1 h5 h2 h6 h3=>by
   rw[← yN,←e5,←hT];have mem:∀{P:Deed→Prop},(∀ e∈ds,P e)→P d→∀ e∈ds++[d],P e:=fun ha hb e he=>by
    rcases List.mem_append.mp he with u|u
    ·exact ha e u
    ·rw[List.mem_singleton.mp u]; exact hb
   exact hK.nx _ ⟨ds++[d],tn,x,y,rfl,by rw[List.length_append,List.length_singleton,hl],⟨lb.ok.snoc h1,lb.up.snoc (fun e he=>by rw[h3]; exact tT e he),mem lb.z h2,mem lb.nm h6,LogP.snoc lb.few h5⟩,mem (fun e he=>by rw[hT]; exact tT e he) (by rw[h3,hT]; exact Rat.le_refl),ht2⟩
  have ll:(ds.map gW).length=ds.length:=List.length_map _;have e2:∀ t p m,pA (stp (run ds) (.join t p m)).rs=pA (run ds).rs++[.int ((run ds).ls.length:Int)]:=fun t p m=>by
   show pA ((run ds).rs++[_])=_;unfold pA;rw[List.map_append];rfl
  have e4:∀ t p m,(((stp (run ds) (.join t p m)).ls.length:Nat):Int)=((run ds).ls.length:Int)+1:=fun t p m=>by
   show((((run ds).ls++[_]).length:Nat):Int)=_
   rw[List.length_append,List.length_singleton];rfl
  refine⟨a6V _,a8H,?_⟩;rw[a87];refine lH (fun c=>?j1) (fun c=>?rest)
  case' rest=>
   walk_at "fs";refine lH (fun c2=>?w) (fun c2=>?no1)
  case' w=>
   walk_at "fs";refine lH (fun c3=>?j2) (fun c3=>?no2)
  case j1=>
   have hfew:(run ds).rs.length<8:=by rw[c]; decide
   walk_at "fs";refine mF fun pp g1=>?_;walk_at "fs";refine mF fun mm g2=>?_;walk_at "fs";refine⟨by omega,?_⟩;walk_at "fs";refine⟨by rw[fG]; omega,?_⟩;walk_at "fs";have dn:=done (.join T pp mm) (.val (.int (0+(j:Int)))) (.val (.int w)) trivial hfew ⟨zT,g1.1,g2.1⟩ ⟨nT,g1.2,g2.2⟩ rfl;rw[e2,e4] at dn;exact dn
  case j2=>
   have hfew:(run ds).rs.length<8:=by rw[fG] at c3; omega
   walk_at "fs";refine mF fun pp g1=>?_;walk_at "fs";refine mF fun mm g2=>?_;walk_at "fs";refine⟨by omega,?_⟩;walk_at "fs";refine⟨by rw[fG]; omega,?_⟩;walk_at "fs";have dn:=done (.join T pp mm) (.val (.int (0+(j:Int)))) (.val (.int w)) trivial hfew ⟨zT,g1.1,g2.1⟩ ⟨nT,g1.2,g2.2⟩ rfl;rw[e2,e4] at dn;exact dn
  all_goals
   have hpos:0<(run ds).rs.length:=List.length_pos_iff.mpr c;walk_at "fs";refine lH (fun c9=>?lv) (fun c9=>?tu)
   case lv=>
    walk_at "fs";refine gK (by rw[fG]; omega) (by rw[fG]; omega) fun u u0 u1=>?_;rw[fG] at u1;obtain⟨k,rfl⟩:∃ k:Nat,u=(k:Int):=⟨u.toNat,by omega⟩;have hk:k<(run ds).rs.length:=by omega
    have hr:(run ds).rs[k]?=some (run ds).rs[k]:=List.getElem?_eq_getElem hk;refine aIV (by with_unfolding_all rfl) (by omega) (a8B hr) ?_;walk_at "fs";refine⟨by omega,?_⟩;walk_at "fs";have dn:=done (.leave T (run ds).rs[k]) (.val (.int (0+(j:Int)))) (.val (.int w)) (List.mem_of_getElem? hr) trivial zT nT rfl;have e6:pA (stp (run ds) (.leave T (run ds).rs[k])).rs=(pA (run ds).rs).eraseIdx k:=by
     show pA (List.filter _ _)=_;rw[← rO ro.nd hr];exact a0N _ _ _
    rw[e6] at dn;exact dn
   case tu=>
    walk_at "fs";refine gK (by rw[fG]; omega) (by rw[fG]; omega) fun u u0 u1=>?_;rw[fG] at u1;obtain⟨k,rfl⟩:∃ k:Nat,u=(k:Int):=⟨u.toNat,by omega⟩;have hk:k<(run ds).rs.length:=by omega
    have hr:(run ds).rs[k]?=some (run ds).rs[k]:=List.getElem?_eq_getElem hk;walk_at "fs";refine dM (aGX (a8B hr)) ?_;walk_at "fs";refine mF fun mm g2=>?_;walk_at "fs";refine⟨by omega,?_⟩;walk_at "fs";have dn:=done (.turn T (run ds).rs[k] mm) (.val (.int (0+(j:Int)))) (.val (.int w)) (List.mem_of_getElem? hr) trivial ⟨zT,g2.1⟩ ⟨nT,g2.2⟩ rfl;have e7:(((stp (run ds) (.turn T (run ds).rs[k] mm)).ls.length:Nat):Int)=((run ds).ls.length:Int):=by
     show(((List.set _ _ _).length:Nat):Int)=_
     rw[List.length_set]
    rw[e7] at dn;exact dn
 ·rintro Γ ⟨ds,tz,x,y,rfl,hl,lb,ts,ht⟩;unfold rR;walk_at "fs";exact q _ (by omega) lb
end
theorem aEY {A B:Prop}{d:D}(g:Good d)(a:A):Good d∧Good d∧(if PyData.eqv d d=true then A else B):=⟨g,g,by rw[a3P g]; exact a1F a⟩
theorem aBK {A B:Prop}{d e:D}(g:Good d)(f:Good e)(h:PyData.eqv d e=false)(b:B):Good d∧Good e∧(if PyData.eqv d e=true then A else B):=⟨g,f,by rw[h]; exact a0Q b⟩
theorem gJ:Good (.str "join"):=good_str _
theorem gL:Good (.str "leave"):=good_str _
theorem gT':Good (.str "turn"):=good_str _
theorem aEF (d:Deed):Gd 2 (gW d):=by
 cases d with
 | join t p m=>
  refine yX (n:=1) fun x hx=>?_;simp only[List.mem_cons,List.not_mem_nil,or_false] at hx;rcases hx with rfl|rfl|rfl|rfl
  ·exact(z6 _).mono
  ·exact uQ _
  ·exact uQ _
  ·exact uQ _
 | leave t r=>
  refine yX (n:=1) fun x hx=>?_;simp only[List.mem_cons,List.not_mem_nil,or_false] at hx;rcases hx with rfl|rfl|rfl
  ·exact(z6 _).mono
  ·exact uQ _
  ·exact(wJ _).mono
 | turn t r m=>
  refine yX (n:=1) fun x hx=>?_;simp only[List.mem_cons,List.not_mem_nil,or_false] at hx;rcases hx with rfl|rfl|rfl|rfl
  ·exact(z6 _).mono
  ·exact uQ _
  ·exact(wJ _).mono
  ·exact uQ _
theorem rJ (ds:List Deed):Good (.list (ds.map gW)):=(a7U (n:=2) fun d h=>by
 obtain⟨e,_,rfl⟩:=List.mem_map.mp h;exact aEF e).good
section
variable {Q:Rv→Prop}{s:Rn}{t T:Rat}
theorem aGH (d:Deed):ixD (gW d) (.int 1)=some (dD d.t):=by cases d<;>rfl
end
section
theorem oE {Q:Rv→Prop}{t p m:Rat}(h1:Sz 900 t)(h2:Sz 4000 p)(h3:Sz 900 m)(q:Q (.val (mL (p-m*t,m)))):dC [.val (dD t),.val (dD p),.val (dD m)] Q:=by
 refine lM ?_;unfold jJ;walk_at "fs";refine rM (h3.mono (by decide)) (h1.mono (by decide)) ?_;walk_at "fs";refine uY h2 ((h3.mul h1).mono (by decide)) ?_;walk_at "fs";exact q
end
def fdS (a b:Addr)(s:Rn)(la:D):FS:=⟨a,b,jL s,(s.ls.length:Int),la⟩
section
variable {c w a b:Addr}{s:Rn}{la:D}{Q:Rv→FS→Prop}
theorem aEL {l:D}(hs:s.rs.length<1000)(q:Q (.val (.int (s.ls.length:Int))) ⟨a,b,sU (jL s) (s.ls.length:Int) l,(s.ls.length:Int)+1,la⟩):gA c w (fdS a b s la) [.val l] Q:=by
 refine aE4 ?_;unfold jM;walk_at "fs";refine aGB (by with_unfolding_all rfl) (by show(jL s).length<1000; rw[kds_len]; exact hs) ?_;walk_at "fs";exact q
def aIX (s:Rn):Deed→D
 | .join _ _ _=>.int (s.ls.length:Int)
 | _=>.none
theorem aFZ {d:Deed}(hs:RnOk s)(hd:d.ok s)(hz:DeedZ d)(lz:LinesOk 200 s.ls)(hl:s.rs.length<1000)(q:Q (.val (aIX s d)) (fdS a b (stp s d) (dD d.t))):a3T c w (fdS a b s la) [.val (gW d)] Q:=by
 refine aE4 ?_;unfold a8M;walk_at "fs";refine dM (aGH d) ?_;walk_at "fs"
 cases d with
 | join t p m=>
  obtain⟨z1,z2,z3⟩:=hz;have z1:=G1.sz (k:=60) z1 (by decide) (by decide);have z2:=G1.sz (k:=60) z2 (by decide) (by decide);have z3:=G1.sz (k:=60) z3 (by decide) (by decide);refine dM (d:=.str "join") rfl ?_;walk_at "fs";refine aEY gJ ?_;walk_at "fs";refine dM (d:=dD t) rfl ?_;walk_at "fs";refine dM (d:=dD p) rfl ?_;walk_at "fs";refine dM (d:=dD m) rfl ?_;walk_at "fs";refine oE (z1.mono (by decide)) (z2.mono (by decide)) (z3.mono (by decide)) ?_;walk_at "fs";refine aEL (s:=s) (la:=dD t) hl ?_;walk_at "fs";have e:(⟨a,b,sU (jL s) (s.ls.length:Int) (mL (p-m*t,m)),(s.ls.length:Int)+1,dD t⟩:FS)=fdS a b (stp s (.join t p m)) (dD t):=by
   rw[a9O hs];unfold fdS
   congr 1
   show _=(((s.ls++[_]).length:Nat):Int);rw[List.length_append,List.length_singleton];rfl
  have z:Q (.val (.int (s.ls.length:Int))) (fdS a b (stp s (.join t p m)) (dD t)):=q;rw[← e] at z;exact z
 | leave t r=>
  have e1:=a7F hd;refine dM (d:=.str "leave") rfl ?_;walk_at "fs";refine aBK gL gJ rfl ?_;unfold tW;walk_at "fs";refine dM (d:=.str "leave") rfl ?_;walk_at "fs";refine aEY gL ?_;walk_at "fs";refine dM (d:=.int (r:Int)) rfl ?_;refine aIW (by with_unfolding_all rfl) e1 ?_;unfold uT;walk_at "fs";have e:(⟨a,b,lL (jL s) (r:Int),(s.ls.length:Int),dD t⟩:FS)=fdS a b (stp s (.leave t r)) (dD t):=by
   rw[a8V s t r];rfl
  exact e▸q
 | turn t r m=>
  obtain⟨z1,z3⟩:=hz;have z1:=G1.sz (k:=60) z1 (by decide) (by decide);have z3:=G1.sz (k:=60) z3 (by decide) (by decide);have e1:=a7F hd;obtain⟨z4,z5⟩:=lz.get (aBM hs hd);refine dM (d:=.str "turn") rfl ?_;walk_at "fs";refine aBK gT' gJ rfl ?_;unfold tW;walk_at "fs";refine dM (d:=.str "turn") rfl ?_;walk_at "fs";refine aBK gT' gL rfl ?_;walk_at "fs";refine dM (d:=.int (r:Int)) rfl ?_;refine aKQ (by with_unfolding_all rfl) e1 ?_;walk_at "fs";refine dM (d:=dD t) rfl ?_;walk_at "fs";refine a4Z (z4.mono (by decide)) (z5.mono (by decide)) (z1.mono (by decide)) ?_;walk_at "fs";refine dM (d:=dD t) rfl ?_;walk_at "fs";refine dM (d:=dD m) rfl ?_;walk_at "fs";refine oE (z1.mono (by decide)) ((z4.add (z5.mul z1)).mono (by decide)) (z3.mono (by decide)) ?_;walk_at "fs";refine dM (d:=.int (r:Int)) rfl ?_;refine aGB (by with_unfolding_all rfl) (by show(jL s).length<1000; rw[kds_len]; exact hl) ?_;unfold uT;walk_at "fs";have e:(⟨a,b,sU (jL s) (r:Int) (mL (pl (s.at r) t-m*t,m)),(s.ls.length:Int),dD t⟩:FS)=fdS a b (stp s (.turn t r m)) (dD t):=by
   rw[aA7 hs hd];unfold fdS
   congr 1
   show _=(((s.ls.set r _).length:Nat):Int);rw[List.length_set]
  exact e▸q
end
section
variable {c:Addr}{ds:List Deed}{T:Rat}{Q:Rv→Prop}
structure LogG (ds:List Deed):Prop where
 ok:LogOk ds
 up:Rising ds
 z:∀ d∈ds,DeedZ d
 n:ds.length≤40
theorem LogG.take {ds:List Deed}(h:LogG ds)(k:Nat):LogG (ds.take k):=⟨h.ok.take k,h.up.sublist (List.take_sublist k ds),fun d hd=>h.z d (List.mem_of_mem_take hd),by rw[List.length_take]; have:=h.n; omega⟩
theorem LogG.sz {ds:List Deed}(h:LogG ds):LinesOk 200 (run ds).ls:=aI0 h.ok h.z h.n
theorem LogG.rs {ds:List Deed}(h:LogG ds):(run ds).rs.length≤40:=Nat.le_trans (wI ds) h.n
end
section
variable {Q:Rv→Prop}
theorem tU {t:Rat}(q:Q (.val (.bool true))):eZ [.val (dD t)] Q:=by
 refine lM ?_;unfold oY;walk_at "ws";refine dM (d:=.int 2) rfl ?_;walk_at "ws";rw[decide_eq_true rfl];walk_at "ws";unfold o6;walk_at "ws";refine qU ?_;walk_at "ws";refine qU ?_;walk_at "ws";unfold o8;walk_at "ws";have hd:=t.den_pos;rw[decide_eq_true (show(1:Int)≤(t.den:Int) by omega)];walk_at "ws";refine aF2 ?_;have e:Int.gcd t.num t.den=1:=t.reduced;rw[e];walk_at "ws";exact q
theorem eY {t:Rat}(h:a6C t)(q:Q (.val (.bool true))):bU [.val (dD t)] Q:=by
 obtain⟨h1,h2⟩:=h;refine lM ?_;unfold gM;walk_at "gs";refine tU ?_;walk_at "gs";unfold iT;walk_at "gs";rw[decide_eq_true (show(if t.num<0 then -t.num else t.num)≤999999999 by split<;>omega)];walk_at "gs";rw[decide_eq_true (show(t.den:Int)≤12 by omega)];exact q
theorem a6J {d:Deed}(h:aCQ d)(q:Q (.val (.bool true))):lX [.val (gW d)] Q:=by
 refine lM ?_;unfold uL
 cases d with
 | join t p m=>
  obtain⟨h1,h2,h3⟩:=h;walk_at "gs";refine dM (d:=.int 4) rfl ?_;walk_at "gs";refine lH (fun c=>absurd c (by decide)) (fun _=>?_);walk_at "gs";refine dM (d:=.str "join") rfl ?_;walk_at "gs";unfold jB;walk_at "gs";refine dM (d:=.str "join") rfl ?_;walk_at "gs";refine aEY gJ ?_;walk_at "gs";refine dM (d:=.int 4) rfl ?_;walk_at "gs";rw[decide_eq_true rfl];walk_at "gs";refine And.intro (fun z=>absurd z.1 (show ¬HT.sIx 4 0 (some 1)=0 by decide)) (And.intro (show(3:Nat)≤1000 by decide) ?_);show sZ _ _ _ _ ([t,p,m].map dD) [] _;refine lZ (α:=Rat) (fun _=>true) (fun _=>.bool true) dD [t,p,m] [] _ (fun x hx _ k k0 g1 g0=>?_) ?_
  ·have hx:a6C x:=by
    simp only[List.mem_cons,List.not_mem_nil,or_false] at hx;rcases hx with rfl|rfl|rfl
    ·exact h1
    ·exact h2
    ·exact h3
   walk_at "gs";unfold yE;walk_at "gs";refine eY hx ?_;walk_at "gs";exact g1 rfl
  ·exact q
 | leave t r=>
  walk_at "gs";refine dM (d:=.int 3) rfl ?_;walk_at "gs";refine lH (fun c=>absurd c (by decide)) (fun _=>?_);walk_at "gs";refine dM (d:=.str "leave") rfl ?_;walk_at "gs";unfold jB;walk_at "gs";refine dM (d:=.str "leave") rfl ?_;walk_at "gs";refine aBK gL gJ rfl ?_;unfold m9;walk_at "gs";refine dM (d:=.str "leave") rfl ?_;walk_at "gs";refine aEY gL ?_;walk_at "gs";refine dM (d:=.int 3) rfl ?_;walk_at "gs";rw[decide_eq_true rfl];walk_at "gs";refine dM (d:=dD t) rfl ?_;walk_at "gs";refine eY h ?_;walk_at "gs";refine dM (d:=.int (r:Int)) rfl ?_;walk_at "gs";refine qU ?_;walk_at "gs";exact q
 | turn t r m=>
  obtain⟨h1,h2⟩:=h;walk_at "gs";refine dM (d:=.int 4) rfl ?_;walk_at "gs";refine lH (fun c=>absurd c (by decide)) (fun _=>?_);walk_at "gs";refine dM (d:=.str "turn") rfl ?_;walk_at "gs";unfold jB;walk_at "gs";refine dM (d:=.str "turn") rfl ?_;walk_at "gs";refine aBK gT' gJ rfl ?_;unfold m9;walk_at "gs";refine dM (d:=.str "turn") rfl ?_;walk_at "gs";refine aBK gT' gL rfl ?_;unfold rQ;walk_at "gs";refine dM (d:=.str "turn") rfl ?_;walk_at "gs";refine aEY gT' ?_;walk_at "gs";refine dM (d:=.int 4) rfl ?_;walk_at "gs";rw[decide_eq_true rfl];walk_at "gs";refine dM (d:=.int (r:Int)) rfl ?_;walk_at "gs";refine qU ?_;walk_at "gs";refine dM (d:=dD t) rfl ?_;walk_at "gs";refine eY h1 ?_;walk_at "gs";refine dM (d:=dD m) rfl ?_;walk_at "gs";refine eY h2 ?_;walk_at "gs";exact q
end
section
variable {c w a b:Addr}{s:Rn}{la:D}{Q:Rv→FS→Prop}
def aLN (la:D)(T:Rat):Prop:=la=.none∨∃ q:Rat,la=dD q∧q≤T∧Sz 60 q
theorem a4T {d:Deed}(hs:RnOk s)(hd:d.ok s)(hf:d.few s)(hz:Sz 60 d.t)(hl:aLN la d.t)(q:Q (.val (.bool true)) (fdS a b s la)):mV c w (fdS a b s la) [.val (gW d)] Q:=by
 have r2:lB c (.box ((bG c).box w (fdS a b s la))::([.val (gW d)]++List.replicate 0 .no)) fun fl=>
   match fl with
   | .rt rv=>∃ rv0 s',rv=.box (bKp (bG c) rv0 w s')∧Q rv0 s'
   | .nx Γ=>∃ s',Γ[0]?=some (.box ((bG c).box w s'))∧Q (.val .none) s'
   | _=>False:=by
  unfold lB
  cases d with
  | join t p m=>
   walk_at "gs";refine dM (d:=.str "join") rfl ?_;walk_at "gs";refine aEY gJ ?_;walk_at "gs";rw[decide_eq_true (show(((fdS a b s la).kds.length:Nat):Int)<8 by show(((jL s).length:Nat):Int)<8; rw[kds_len]; have hf:s.rs.length<8:=hf; omega)];exact q
  | leave t r=>
   walk_at "gs";refine dM (d:=.str "leave") rfl ?_;walk_at "gs";refine aBK gL gJ rfl ?_;unfold lJ;walk_at "gs";refine dM (d:=.int (r:Int)) rfl ?_;walk_at "gs";rw[show(fdS a b s la).kds=jL s from rfl,a7F hd];exact q
  | turn t r m=>
   walk_at "gs";refine dM (d:=.str "turn") rfl ?_;walk_at "gs";refine aBK gT' gJ rfl ?_;unfold lJ;walk_at "gs";refine dM (d:=.int (r:Int)) rfl ?_;walk_at "gs";rw[show(fdS a b s la).kds=jL s from rfl,a7F hd];exact q
 refine aE4 ?_;unfold rA;rcases hl with rfl|⟨t0,rfl,ht,zt⟩
 ·walk_at "gs";exact r2
 ·walk_at "gs";refine dM (aGH d) ?_;walk_at "gs";refine a8Z (hz.mono (by decide)) (zt.mono (by decide)) ?_;rw[decide_eq_false (show ¬d.t<t0 by grind)];walk_at "gs";exact r2
end
section
variable {c:Addr}{ds:List Deed}{Q:Rv→Prop}
theorem a9J (h:LogB ds)(hl:ds.length≤40)(q:Q (.own (ds.map gW))):pJ c [.val (.list (ds.map gW))] Q:=by
 refine lM ?_;unfold yM;walk_at "gs";unfold qF;walk_at "gs";refine aDB fun w a b=>?_;walk_at "gs";have hle:(vJ (ds.map gW)).length=ds.length:=by unfold vJ; rw[List.length_map,List.length_range,List.length_map]
 have hen:∀(n:Nat) d,(vJ (ds.map gW))[n]?=some d→∃ e,ds[n]?=some e∧d=.tuple [.int (n:Int),gW e]:=fun n d hd=>by
  have hn:n<ds.length:=by have:=(List.getElem?_eq_some_iff.mp hd).1; omega
  unfold vJ at hd;rw[List.getElem?_map,List.getElem?_range (by rw[List.length_map]; exact hn)] at hd
  cases hd
  refine⟨ds[n],List.getElem?_eq_getElem hn,?_⟩;show PyData.tuple [.int (n:Int),(ds.map gW).getD n .none]=_;rw[List.getD_eq_getElem?_getD,List.getElem?_map,List.getElem?_eq_getElem hn];rfl
 refine uJ (fun n Γ=>∃ x y la,Γ=[.val (.list (ds.map gW)),.box ((bG c).box w (fdS a b (run (ds.take n)) la)),x,y]∧(la=.none∨∃(i:Nat) (e:Deed),i<n∧ds[i]?=some e∧la=dD e.t)) ⟨_,_,_,rfl,.inl rfl⟩ ?_ ?_
 ·rintro n d Γ K hd ⟨x,y,la,rfl,hla⟩ hK;obtain⟨e,he,rfl⟩:=hen n d hd;have hn:=(List.getElem?_eq_some_iff.mp he).1;have hem:e∈ds:=List.mem_of_getElem? he;have hk3:=hK.nx;have tk:ds.take (n+1)=ds.take n++[e]:=by rw[List.take_succ,he]; rfl
  rw[tk,yN] at hk3;have g:LogG ds:=⟨h.ok,h.up,h.z,hl⟩;have gn:=g.take n;have lo:aLN la e.t:=by
   rcases hla with z|⟨i,e',hi,he',z⟩
   ·exact .inl z
   ·refine .inr ⟨e'.t,z,?_,(h.z e' (List.mem_of_getElem? he')).tz⟩;have h1:=(List.getElem?_eq_some_iff.mp he');have h2:=(List.getElem?_eq_some_iff.mp he);have:=List.pairwise_iff_getElem.mp h.up i n h1.1 h2.1 hi;rw[h1.2,h2.2] at this;exact this
  unfold pC;walk_at "gs";refine lH (fun cc=>absurd cc (by omega)) (fun _=>?_);walk_at "gs";refine a6J (h.nm e hem) ?_;walk_at "gs";refine a4T (a03 _) (h.ok n e he) (h.few n e he) (h.z e hem).tz lo ?_;walk_at "gs";unfold qH;walk_at "gs";refine aFZ (a03 _) (h.ok n e he) (h.z e hem) gn.sz (Nat.lt_of_le_of_lt gn.rs (by decide)) ?_;walk_at "gs";exact hk3 _ ⟨_,_,_,rfl,.inr ⟨n,e,by omega,he,rfl⟩⟩
 ·rintro Γ ⟨x,y,la,rfl,hla⟩;unfold pU;walk_at "gs";exact q
end
section
open PySem.NumText
def dg (m:Nat):List Nat:=(Nat.toDigits 10 m).map Char.toNat
theorem tE {m:Nat}(h:m<10):dg m=[(Nat.digitChar m).toNat]:=by unfold dg; rw[Nat.toDigits_of_lt_base h]; rfl
theorem yK {m:Nat}(h:10≤m):dg m=dg (m/10)++[(Nat.digitChar (m%10)).toNat]:=by
 have hm:m%10<10:=Nat.mod_lt m (by decide);have t:Nat.toDigits 10 (m/10)++Nat.toDigits 10 (m%10)=Nat.toDigits 10 (10*(m/10)+m%10):=Nat.toDigits_append_toDigits (by decide) (by omega) hm;rw[Nat.div_add_mod] at t;unfold dg;rw[← t,List.map_append,Nat.toDigits_of_lt_base hm];rfl
theorem dg1:∀ d:Nat,d<10→48≤(Nat.digitChar d).toNat∧(Nat.digitChar d).toNat≤57:=by decide
theorem aMF:∀ d:Nat,d<10→(Nat.digitChar d).toNat=48→d=0:=by decide
theorem wM (m:Nat):AllDigits (dg m):=by
 induction m using Nat.strongRecOn with
 | _ m ih=>
  intro c hc
  by_cases h:m<10
  ·rw[tE h] at hc;rw[List.mem_singleton.mp hc];exact dg1 m h
  ·rw[yK (by omega)] at hc;rcases List.mem_append.mp hc with q|q
   ·exact ih (m/10) (by omega) c q
   ·rw[List.mem_singleton.mp q];exact dg1 _ (Nat.mod_lt m (by decide))
theorem aHT (m:Nat):digitsVal (dg m)=m:=PySem.W.KIN.val_back m
theorem aC0:∀{k m:Nat},1≤k→m<10^k→(dg m).length≤k
 | k,m,hk,h=>by
  by_cases q:m<10
  ·rw[tE q]; exact hk
  ·rw[yK (by omega),List.length_append]
   match k,hk,h with
   | 1,_,h=>exact absurd h (by omega)
   | k+2,_,h=>
    have:=aC0 (k:=k+1) (m:=m/10) (by omega) (by rw[Nat.pow_succ] at h; omega)
    show(dg (m/10)).length+1≤k+2
    omega
theorem aCX (m:Nat):dg m≠[]:=by
 by_cases h:m<10
 ·rw[tE h]; exact List.cons_ne_nil _ _
 ·rw[yK (by omega)]; exact List.append_ne_nil_of_right_ne_nil _ (List.cons_ne_nil _ _)
theorem aDO (m:Nat):(dg m)[0]?=some 48→m=0:=by
 induction m using Nat.strongRecOn with
 | _ m ih=>
  intro e
  by_cases h:m<10
  ·rw[tE h] at e;exact aMF m h (by simpa using e)
  ·rw[yK (by omega)] at e;have l:0<(dg (m/10)).length:=List.length_pos_iff.mpr (aCX _);rw[List.getElem?_append_left l] at e;have:=ih (m/10) (by omega) e;omega
theorem o5 (m:Nat):(txI (m:Int)).cps.toList=dg m:=PySem.W.KIN.signs_num m
theorem a3R {m:Nat}(h:0<m):(txI (-(m:Int))).cps.toList=45::dg m:=by
 obtain⟨k,rfl⟩:∃ k,m=k+1:=⟨m-1,by omega⟩
 show(PySem.Str.ofString (toString (Int.negSucc k))).cps.toList=_
 rw[Str.ofString_eq_toList]
 show("-" ++ Nat.repr (k+1)).toList.map Char.toNat=_
 rw[String.toList_append,List.map_append,Nat.toList_repr];rfl
theorem lQ {a b:PySem.Str}(h:a.cps.toList=b.cps.toList):a=b:=PySem.Str.ext' (Array.toList_inj.mp h)
theorem aDK {m:Nat}(h:0<m):txI (-(m:Int))=("-" : PySem.Str)++txI (m:Int):=lQ (by rw[a3R h,PySem.Str.cps_append,Array.toList_append,o5]; rfl)
theorem tx_len (m:Nat)(h:m<10^60):(txI (m:Int)).length≤60:=by
 have:=aC0 (k:=60) (by decide) h;rw[← o5] at this;simpa [PySem.Str.length] using this
theorem a9X (m:Nat)(h:m<10^60):PySem.intText? (txI (m:Int))=some (m:Int):=by
 have e:=intText_digits (x:=txI (m:Int)) (by rw[o5]; exact wM m) (by rw[o5]; exact aCX m) (Nat.le_trans (tx_len m h) (by decide));rw[o5,aHT] at e;exact e
theorem a3B (i:Int):∀ c∈(txI i).cps.toList,c=45∨(48≤c∧c≤57):=by
 intro c hc;rcases Int.eq_nat_or_neg i with⟨m,rfl|rfl⟩
 ·rw[o5] at hc;exact .inr (wM m c hc)
 ·by_cases z:0<m
  ·rw[a3R z] at hc;rcases List.mem_cons.mp hc with q|q
   ·exact .inl q
   ·exact .inr (wM m c q)
  ·have:m=0:=by omega
   subst this;exact .inr (wM 0 c (by rw[← o5]; exact hc))
theorem aMM {c:Nat}(h:48≤c∧c≤57):inS ⟨#[c]⟩ ("0123456789" : PySem.Str)=true:=by
 unfold inS;rw[StrLaws.found_one];obtain⟨h1,h2⟩:=h;have:c=48∨c=49∨c=50∨c=51∨c=52∨c=53∨c=54∨c=55∨c=56∨c=57:=by omega
 rcases this with rfl|rfl|rfl|rfl|rfl|rfl|rfl|rfl|rfl|rfl<;>decide +kernel
theorem xP (c:Nat)(x y:PySem.Str)(r:List PySem.Str):(PySem.Str.join ⟨#[c]⟩ (x::y::r)).cps.toList=x.cps.toList++c::(PySem.Str.join ⟨#[c]⟩ (y::r)).cps.toList:=by
 show(x++(⟨#[c]⟩:PySem.Str)++PySem.Str.join ⟨#[c]⟩ (y::r)).cps.toList=_
 rw[PySem.Str.cps_append,PySem.Str.cps_append,Array.toList_append,Array.toList_append,List.append_assoc];rfl
theorem aBS {c:Nat}:∀{a a' b b':List Nat},c∉a→c∉a'→a++c::b=a'++c::b'→a=a'∧b=b'
 | [],[],_,_,_,_,e=>⟨rfl,by simpa using e⟩
 | [],y::a',_,_,_,h',e=>by simp at e; exact absurd (List.mem_cons.mpr (.inl e.1)) h'
 | x::a,[],_,_,h,_,e=>by simp at e; exact absurd (List.mem_cons.mpr (.inl e.1.symm)) h
 | x::a,y::a',b,b',h,h',e=>by
  simp only[List.cons_append,List.cons.injEq] at e;obtain⟨q1,q2⟩:=aBS (fun z=>h (List.mem_cons_of_mem _ z)) (fun z=>h' (List.mem_cons_of_mem _ z)) e.2;exact⟨by rw[e.1,q1],q2⟩
theorem a4F {c:Nat}:∀{ps qs:List PySem.Str},ps≠[]→qs≠[]→(∀ p∈ps,c∉p.cps.toList)→(∀ p∈qs,c∉p.cps.toList)→PySem.Str.join ⟨#[c]⟩ ps=PySem.Str.join ⟨#[c]⟩ qs→ps=qs
 | [],_,h,_,_,_,_=>absurd rfl h
 | _,[],_,h,_,_,_=>absurd rfl h
 | [x],[y],_,_,_,_,e=>by rw[show x=y from e]
 | [x],y::z::r,_,_,hp,_,e=>by
  have e:=congrArg (fun s:PySem.Str=>s.cps.toList) e;simp only[xP] at e;exact absurd (show c∈x.cps.toList from by rw[show x.cps.toList=_ from e]; simp) (hp x (List.mem_cons_self ..))
 | x::w::r,[y],_,_,_,hq,e=>by
  have e:=congrArg (fun s:PySem.Str=>s.cps.toList) e;simp only[xP] at e;exact absurd (show c∈y.cps.toList from by rw[show y.cps.toList=_ from e.symm]; simp) (hq y (List.mem_cons_self ..))
 | x::w::r,y::z::r',_,_,hp,hq,e=>by
  have e:=congrArg (fun s:PySem.Str=>s.cps.toList) e;simp only[xP] at e;obtain⟨q1,q2⟩:=aBS (hp x (List.mem_cons_self ..)) (hq y (List.mem_cons_self ..)) e;rw[lQ q1,a4F (List.cons_ne_nil _ _) (List.cons_ne_nil _ _) (fun p h=>hp p (List.mem_cons_of_mem _ h)) (fun p h=>hq p (List.mem_cons_of_mem _ h)) (lQ q2)]
theorem aA0 (x y:PySem.Str):Txt.split x y≠[]:=by
 unfold Txt.split
 split
 ·exact List.cons_ne_nil _ _
 ·split
  ·exact List.cons_ne_nil _ _
  ·rw[StrLaws.partsBetween_eq];obtain⟨p,r,e⟩:=StrLaws.partsFrom_ne x y.length 0 (Builtin.Str.occurrences x y 0 x.length (x.length+1));rw[e];exact List.cons_ne_nil _ _
theorem mZ {c:Nat}{ps:List PySem.Str}(h:ps≠[])(hp:∀ p∈ps,c∉p.cps.toList):Txt.split (Txt.join ⟨#[c]⟩ ps) ⟨#[c]⟩=ps:=by
 refine a4F (aA0 _ _) h (StrLaws.split_free _ c) hp ?_;rw[StrLaws.join_split];exact StrLaws.glued_eq_join _ _
theorem tY {c d:Nat}(hcd:c≠d):∀{ps:List PySem.Str},(∀ p∈ps,c∉p.cps.toList)→c∉(PySem.Str.join ⟨#[d]⟩ ps).cps.toList
 | [],_=>by simp[PySem.Str.join,PySem.Str.empty]
 | [x],h=>h x (List.mem_cons_self ..)
 | x::y::r,h=>by
  rw[xP,List.mem_append,List.mem_cons]
  rintro(q|q|q)
  ·exact h x (List.mem_cons_self ..) q
  ·exact hcd q
  ·exact tY hcd (fun p hp=>h p (List.mem_cons_of_mem _ hp)) q
end
section
open PySem.NumText
def yS (r:Rat):PySem.Str:=if r.den=1 then txI r.num else txI r.num++("/" : PySem.Str)++txI (r.den:Int)
def a1D (r:Rat):Prop:=r.num.natAbs<10^60∧r.den<10^60
def Asc (a:PySem.Str):Prop:=∀ c∈a.cps.toList,c<128
theorem zU {a:PySem.Str}(h:(a.cps.toList.all fun c=>decide (c<128))=true):Asc a:=fun c hc=>of_decide_eq_true (List.all_eq_true.mp h c hc)
inductive Pk
 | whole (n:Nat)
 | num (r:Rat)
def Pk.d:Pk→D
 | .whole n=>.int (n:Int)
 | .num r=>dD r
def Pk.tx:Pk→PySem.Str
 | .whole n=>txI (n:Int)
 | .num r=>yS r
def Pk.k:Pk→PySem.Str
 | .whole _ => "whole"
 | .num _ => "number"
def Pk.Ok:Pk→Prop
 | .whole n=>n<10^60
 | .num r=>a1D r
structure Rw where
 w:PySem.Str
 ps:List Pk
def Rw.d (w:Rw):D:=.tuple (.str w.w::w.ps.map Pk.d)
def Rw.ws (w:Rw):List PySem.Str:=w.w::w.ps.map Pk.tx
def Rw.tx (w:Rw):PySem.Str:=Txt.join ⟨#[32]⟩ w.ws
def bkT (ws:List Rw):PySem.Str:=Txt.join ⟨#[10]⟩ (ws.map Rw.tx)
abbrev a2P:=List (PySem.Str×D)
structure Rw.Ok (fs:a2P)(w:Rw):Prop where
 f:aA1 fs w.w=some (.tuple (w.ps.map fun p=>.str p.k))
 p:∀ p∈w.ps,p.Ok
 l:w.ps.length≤3
 s:w.w.length≤10
 a:Asc w.w
 b:32∉w.w.cps.toList
 c:10∉w.w.cps.toList
 e:w.w ≠ ""
def a3C:a2P:=[("join", .tuple [.str "number", .str "number", .str "number"]),("leave", .tuple [.str "number", .str "whole"]),("turn", .tuple [.str "number", .str "whole", .str "number"])]
theorem Rw.mk_ok {fs:a2P}{a:PySem.Str}{ps:List Pk}(f:aA1 fs a=some (.tuple (ps.map fun p=>.str p.k)))(p:∀ p∈ps,p.Ok)(l:ps.length≤3)(h:(decide (a.length≤10)&&decide (a ≠ "")&&a.cps.toList.all fun c=>decide (c<128)&&decide (c≠32)&&decide (c≠10))=true):Rw.Ok fs ⟨a,ps⟩:=by
 rw[Bool.and_eq_true,Bool.and_eq_true,List.all_eq_true] at h;obtain⟨⟨h1,h2⟩,h3⟩:=h;have h4:∀ c∈a.cps.toList,c<128∧c≠32∧c≠10:=fun c hc=>by
  have:=h3 c hc;rw[Bool.and_eq_true,Bool.and_eq_true] at this;exact⟨of_decide_eq_true this.1.1,of_decide_eq_true this.1.2,of_decide_eq_true this.2⟩
 exact⟨f,p,l,of_decide_eq_true h1,fun c hc=>(h4 c hc).1,fun hc=>(h4 _ hc).2.1 rfl,fun hc=>(h4 _ hc).2.2 rfl,of_decide_eq_true h2⟩
end
theorem a5N {Γ:En}{Q:Bool→En→Prop}(h:Q true Γ):yE Γ Q:=h
section
variable {Q:Rv→Prop}{fs:a2P}
theorem a5O {i:Int}(h:i.natAbs<10^60):i.natAbs.log2<1920:=by
 by_cases z:i.natAbs=0
 ·rw[z]; decide
 ·exact(Nat.log2_lt z).mpr (Nat.lt_of_lt_of_le (Nat.lt_trans h (by decide:10^60<2^240)) (Nat.pow_le_pow_right (by decide) (by decide)))
theorem p8 {i:Int}(h:i.natAbs<10^60):(txI i).length≤61:=by
 rcases Int.eq_nat_or_neg i with⟨m,rfl|rfl⟩
 ·exact Nat.le_trans (tx_len m (by omega)) (by decide)
 ·by_cases z:0<m
  ·rw[aDK z,PySem.Str.length_append];have:=tx_len m (by omega);have e:PySem.Str.length ("-" : PySem.Str)=1:=rfl;omega
  ·have:m=0:=by omega
   subst this;exact Nat.le_trans (tx_len 0 (by decide)) (by decide)
theorem mO:PySem.Str.length ("/" : PySem.Str)=1:=rfl
theorem a3U {r:Rat}(h:a1D r):(yS r).length≤130:=by
 have h1:=p8 h.1;have h2:=p8 (i:=(r.den:Int)) (by have:=h.2; omega);unfold yS
 split
 ·omega
 ·rw[PySem.Str.length_append,PySem.Str.length_append,mO];omega
theorem wZ {r:Rat}(h:a1D r)(q:Q (.val (.str (yS r)))):dW [.val (dD r)] Q:=by
 have h1:=a5O h.1;have h2:=a5O (i:=(r.den:Int)) (by have:=h.2; omega);have h3:=p8 h.1;have h4:=p8 (i:=(r.den:Int)) (by have:=h.2; omega);refine lM ?_;unfold lE;walk_at "ts";refine lH (fun c=>?_) (fun c=>?_)
 ·walk_at "ts";refine a5M h1 ?_;unfold yS at q;rw[if_pos (by omega)] at q;walk_at "ts";exact q
 ·unfold yS at q;rw[if_neg (by omega)] at q;walk_at "ts";refine⟨_,rfl,h1,by rw[PySem.Str.length_append,mO]; omega,?_⟩;walk_at "ts";refine⟨_,rfl,h2,by rw[PySem.Str.length_append,PySem.Str.length_append,mO]; omega,?_⟩;walk_at "ts";exact q
theorem a5R {r:Rat}(h:a1D r)(q:Q (.val (.str (yS r)))):iK [.val (dD r)] Q:=by
 have h1:=a5O h.1;have h2:=a5O (i:=(r.den:Int)) (by have:=h.2; omega);have h3:=p8 h.1;have h4:=p8 (i:=(r.den:Int)) (by have:=h.2; omega);refine lM ?_;unfold qR;walk_at "ts";refine lH (fun c=>?_) (fun c=>?_)
 ·unfold yS at q;rw[if_pos (by omega)] at q;walk_at "ts";refine a5M h1 ?_;walk_at "ts";exact q
 ·unfold yS at q;rw[if_neg (by omega)] at q;walk_at "ts";unfold q9;walk_at "ts";refine a5M h1 ?_;walk_at "ts";refine aF5 (by rw[PySem.Str.length_append,mO]; omega) ?_;walk_at "ts";refine a5M h2 ?_;walk_at "ts";refine aF5 (by rw[PySem.Str.length_append,PySem.Str.length_append,mO]; omega) ?_;walk_at "ts";exact q
inductive Pt:D→PySem.Str→Prop
 | word (a:PySem.Str):a.length≤10→Pt (.str a) a
 | whole (n:Nat):n<10^60→Pt (.int (n:Int)) (txI (n:Int))
 | num (r:Rat):a1D r→Pt (dD r) (yS r)
theorem Pt.len {d:D}{a:PySem.Str}(h:Pt d a):a.length≤130:=by
 cases h with
 | word _ h=>omega
 | whole n h=>exact Nat.le_trans (tx_len n h) (by decide)
 | num r h=>exact a3U h
theorem a1C {d:D}{a:PySem.Str}(h:Pt d a)(q:Q (.val (.str a))):fW [.val d] Q:=by
 refine lM ?_;unfold p6
 cases h with
 | word a h=>
  walk_at "ts";exact q
 | whole n h=>
  walk_at "ts";refine a5M (a5O (by omega)) ?_;walk_at "ts";exact q
 | num r h=>
  walk_at "ts";refine wZ h ?_;walk_at "ts";exact q
theorem Pk.pt {p:Pk}(h:p.Ok):Pt p.d p.tx:=by
 cases p with
 | whole n=>exact .whole n h
 | num r=>exact .num r h
theorem Rw.pts {w:Rw}(h:w.Ok fs):∃ ps:List (D×PySem.Str),w.d=.tuple (ps.map fun p=>p.1)∧w.ws=ps.map (fun p=>p.2)∧(∀ p∈ps,Pt p.1 p.2)∧ps.length≤4∧∃ a r,ps=(.str a,a)::r∧a.length≤10:=
 ⟨(.str w.w,w.w)::w.ps.map fun p=>(p.d,p.tx),by rw[List.map_cons,List.map_map]; rfl,by rw[List.map_cons,List.map_map]; rfl,fun p hp=>by
  rcases List.mem_cons.mp hp with rfl|z
  ·exact .word _ h.s
  ·obtain⟨x,hx,rfl⟩:=List.mem_map.mp z;exact Pk.pt (h.p x hx),by rw[List.length_cons,List.length_map]; have:=h.l; omega,_,_,rfl,h.s⟩
theorem yD {c k B:Nat}{ts:List PySem.Str}(hl:ts.length≤k)(hB:∀ y∈ts,y.length≤B)(h:k*B+k*1≤16777216):JoinOk ⟨#[c]⟩ ts=true:=by
 unfold JoinOk;rw[StrLaws.joinFits (sep:=⟨#[c]⟩) hB (Nat.le_trans (Nat.add_le_add (Nat.mul_le_mul_right _ hl) (Nat.mul_le_mul_right _ hl)) h)];rfl
theorem a4J {c k B:Nat}{ts:List PySem.Str}(hl:ts.length≤k)(hB:∀ y∈ts,y.length≤B):(Txt.join ⟨#[c]⟩ ts).length≤k*B+k:=by
 have h1:=StrLaws.join_length_le ⟨#[c]⟩ ts;have h2:=StrLaws.sumLen_le ts hB;have h3:ts.length*B≤k*B:=Nat.mul_le_mul_right _ hl;rw[show Txt.join ⟨#[c]⟩ ts=PySem.Str.join ⟨#[c]⟩ ts from StrLaws.glued_eq_join _ _];have e:PySem.Str.length ⟨#[c]⟩=1:=rfl;rw[e] at h1;omega
theorem Rw.tx_len {w:Rw}(h:w.Ok fs):w.tx.length≤600:=by
 obtain⟨ps,_,e,hp,hl,_⟩:=w.pts h;refine Nat.le_trans (a4J (k:=4) (B:=130) (by rw[e,List.length_map]; exact hl) fun y hy=>?_) (by decide);rw[e] at hy;obtain⟨p,hm,rfl⟩:=List.mem_map.mp hy;exact(hp p hm).len
theorem aI4 {ws:List Rw}(hl:ws.length≤40)(h:∀ w∈ws,w.Ok fs):(bkT ws).length≤30000:=by
 refine Nat.le_trans (a4J (k:=40) (B:=600) (by rw[List.length_map]; exact hl) fun y hy=>?_) (by decide);obtain⟨w,hm,rfl⟩:=List.mem_map.mp hy;exact Rw.tx_len (h w hm)
theorem zA {ws:List Rw}(hl:ws.length≤40)(h:∀ w∈ws,w.Ok fs)(q:Q (.val (.str (bkT ws)))):fD [.val (.list (ws.map Rw.d))] Q:=by
 refine lM ?_;unfold mJ;walk_at "ts";refine⟨by rw[List.length_map]; omega,?_⟩;refine lZ (α:=Rw) (fun _=>true) (fun w=>.str w.tx) Rw.d ws [] _ (fun w hw _ k k0 h1 h0=>?_) ?_
 ·obtain⟨ps,e1,e2,hp,hl,_⟩:=w.pts (h w hw);rw[e1];walk_at "ts";refine a5N ?_;walk_at "ts";refine⟨by rw[List.length_map]; omega,?_⟩;refine lZ (α:=D×PySem.Str) (fun _=>true) (fun p=>.str p.2) (fun p=>p.1) ps [] _ (fun p hm _ k' k0' h1' h0'=>?_) ?_
  ·walk_at "ts";refine a5N ?_;walk_at "ts";refine a1C (hp p hm) ?_;walk_at "ts";exact h1' rfl
  ·have ef:List.filter (fun _=>true) ps=ps:=List.filter_eq_self.mpr fun _ _=>rfl;rw[ef,List.nil_append,show(ps.map fun p=>(PyData.str p.2:D))=w.ws.map PyData.str by rw[e2,List.map_map]; rfl];walk_at "ts";refine aBD (yD (k:=4) (B:=130) (by rw[e2,List.length_map]; exact hl) (fun y hy=>?_) (by decide)) ?_
   ·rw[e2] at hy;obtain⟨p,hm,rfl⟩:=List.mem_map.mp hy;exact(hp p hm).len
   ·walk_at "ts";exact h1 rfl
 ·have ef:List.filter (fun _=>true) ws=ws:=List.filter_eq_self.mpr fun _ _=>rfl;rw[ef,List.nil_append,show(ws.map fun w=>(PyData.str w.tx:D))=(ws.map Rw.tx).map PyData.str by rw[List.map_map]; rfl];walk_at "ts";refine aBD (yD (k:=40) (B:=600) (by rw[List.length_map]; exact hl) (fun y hy=>?_) (by decide)) ?_
  ·obtain⟨w,hm,rfl⟩:=List.mem_map.mp hy;exact Rw.tx_len (h w hm)
  ·walk_at "ts";exact q
theorem wG {ws:List Rw}(hl:ws.length≤40)(h:∀ w∈ws,w.Ok fs)(q:Q (.val (.str (bkT ws)))):iQ [.val (.list (ws.map Rw.d))] Q:=by
 refine lM ?_;unfold qO;walk_at "ts";refine zA hl h ?_;walk_at "ts";exact q
end
section
variable {Q:Rv→Prop}
theorem pZ (a b:PySem.Str):PyData.eqv (.str a) (.str b)=decide (a=b):=by
 show(a==b)=decide (a=b)
 by_cases h:a=b
 ·subst h; simp
 ·rw[decide_eq_false h]; exact beq_eq_false_iff_ne.mpr h
theorem a0W (x:PySem.Str)(c:Nat):Txt.startswith x ⟨#[c]⟩=decide (x.cps.toList[0]?=some c):=by
 unfold Txt.startswith
 have h:=StrLaws.subAt_one x c 0
 by_cases q:x.cps.toList[0]?=some c
 ·obtain⟨h1,h2⟩:=h.mpr q;rw[decide_eq_true q,h2,decide_eq_true h1];rfl
 ·rw[decide_eq_false q,Bool.and_eq_false_iff]
  by_cases z:0+(⟨#[c]⟩:PySem.Str).length≤x.length
  ·right
   cases e:Builtin.Str.subAt x ⟨#[c]⟩ 0
   ·rfl
   ·exact absurd (h.mp ⟨z,e⟩) q
  ·exact .inl (decide_eq_false z)
theorem at0 (c:Nat)(r:List Nat):atI (c::r) 0=some c:=by simp[atI,ixN]
theorem a7R:(("-" : PySem.Str))=⟨#[45]⟩:=rfl
theorem aMS {x:PySem.Str}{c:Nat}{r:List Nat}(h:x.cps.toList=c::r):aEW x (some 1) none=⟨r.toArray⟩:=by
 have e:aEW x (some 1) none=StrLaws.sliceText x (some 1) none:=rfl;rw[e,StrLaws.sliceText_from ⟨by decide,by rw[h,List.length_cons]; omega⟩,h];simp
theorem uM (i:Int):Asc (txI i):=fun c hc=>by have:=a3B i c hc; omega
theorem Asc.app {a b:PySem.Str}(ha:Asc a)(hb:Asc b):Asc (a++b):=fun c hc=>by
 rw[PySem.Str.cps_append,Array.toList_append] at hc;rcases List.mem_append.mp hc with z|z
 ·exact ha c z
 ·exact hb c z
theorem aD4 (r:Rat):Asc (yS r):=by
 unfold yS
 split
 ·exact uM _
 ·exact((uM _).app (zU (by decide +kernel))).app (uM _)
theorem a3S {d:Nat}(hd:d<128){ps:List PySem.Str}(h:∀ p∈ps,Asc p):Asc (Txt.join ⟨#[d]⟩ ps):=by
 rw[show Txt.join ⟨#[d]⟩ ps=PySem.Str.join ⟨#[d]⟩ ps from StrLaws.glued_eq_join _ _];intro c hc;apply Classical.byContradiction;intro n;exact tY (c:=c) (d:=d) (by omega) (fun p hp q=>n (h p hp c q)) hc
theorem aDL {a:PySem.Str}(h:Asc a):Gd 0 (.str a):=z6 a (by
 show a.cps.all (fun c=>decide (c<0x110000))=true;rw[← Array.all_toList];exact List.all_eq_true.mpr fun c hc=>decide_eq_true (by have:=h c hc; omega))
theorem dF {a:PySem.Str}(h:Asc a):Good (.str a):=(aDL h).good
theorem jW {n:Nat}(h:n<10^60)(q:Q (.val (.int (n:Int)))):cT [.val (.str (txI (n:Int)))] Q:=by
 have hl:=tx_len n h;have hs:=o5 n;have hne:=aCX n;have ln:(txI (n:Int)).cps.toList.length=(txI (n:Int)).length:=by simp[PySem.Str.length]
 refine lM ?_;unfold qJ;walk_at "ts";refine⟨dF (uM _),dF (zU (by decide +kernel)),?_⟩;rw[pZ,decide_eq_false (fun e=>hne (by rw[← hs,e]; rfl))];walk_at "ts";refine aL2 (by omega) ?_;walk_at "ts";rw[decide_eq_false (show ¬((60:Int)<((txI (n:Int)).length:Int)) by omega)];walk_at "ts";refine⟨by unfold L2.VS.signs; rw[List.length_map,ln]; omega,?_⟩;refine lZ (α:=Nat) (fun _=>true) (fun _=>.bool true) (fun c=>.str ⟨#[c]⟩) (txI (n:Int)).cps.toList [] _ (fun c hc _ k k0 h1 h0=>?_) ?_
 ·walk_at "ts";refine a5N ?_;walk_at "ts";rw[aMM (wM n c (by rw[← hs]; exact hc))];exact h1 rfl
 ·have e:(([]:List D)++(List.filter (fun _=>true) (txI (n:Int)).cps.toList).map fun _=>PyData.bool true)=(List.replicate (txI (n:Int)).cps.toList.length true).map PyData.bool:=by
   rw[List.filter_eq_self.mpr fun _ _=>rfl,List.nil_append,List.map_replicate];exact List.map_const'
  walk_at "ts";rw[e,rB];walk_at "ts";rw[show(List.replicate (txI (n:Int)).cps.toList.length true).all id=true by simp];walk_at "ts";unfold pY;walk_at "ts";obtain⟨c,r,hcr⟩:∃ c r,dg n=c::r:=List.exists_cons_of_ne_nil hne;refine aKA (c:=c) (by omega) (by rw[hs,hcr]; exact at0 c r) ?_;walk_at "ts";refine⟨dF (fun x hx=>by
   have:x=c:=by simpa using hx
   rw[this];exact uM (n:Int) c (by rw[hs,hcr]; simp)),dF (zU (by decide +kernel)),?_⟩
  have fin:lF [.val (.str (txI (n:Int))),.no] fun fl=>match fl with
   | .rt rv=>Q rv
   | _=>False:=by
   unfold lF;walk_at "ts";refine aJM (a9X n h) (by omega) ?_;walk_at "ts";exact q
  rw[pZ]
  by_cases z:(⟨#[c]⟩:PySem.Str) = "0"
  ·rw[decide_eq_true z];have c48:c=48:=by
    have:=congrArg (fun s:PySem.Str=>s.cps.toList) z;have e:(PySem.Str.ofString "0").cps.toList=[48]:=by decide +kernel
    simpa [e] using this
   have n0:n=0:=aDO n (by rw[hcr,c48]; rfl);subst n0;walk_at "ts";refine⟨dF (uM _),dF (zU (by decide +kernel)),?_⟩;rw[pZ,decide_eq_true (show txI ((0:Nat):Int) = "0" from rfl)];walk_at "ts";exact fin
  ·rw[decide_eq_false z];walk_at "ts";exact fin
end
section
variable {Q:Rv→Prop}
theorem a3I {i:Int}(h:i.natAbs<10^60)(q:Q (.val (.int i))):mW [.val (.str (txI i))] Q:=by
 refine lM ?_;unfold xQ;rcases Int.eq_nat_or_neg i with⟨m,rfl|rfl⟩
 ·walk_at "ts";rw[a7R,a0W,decide_eq_false (by
   rw[o5];intro e;have:=wM m 45 (List.mem_of_getElem? e);omega)]
  walk_at "ts";refine jW (by omega) ?_;walk_at "ts";exact q
 ·by_cases z:0<m
  ·walk_at "ts";rw[a7R,a0W,decide_eq_true (by rw[a3R z]; rfl)];walk_at "ts";unfold uD;walk_at "ts";refine aFE (by have:=p8 h; omega) ?_;walk_at "ts";rw[aMS (a3R z),show(⟨(dg m).toArray⟩:PySem.Str)=txI (m:Int) from lQ (by rw[o5])];refine jW (by omega) ?_;walk_at "ts";rw[decide_eq_false (show ¬((m:Int)=0) by omega)];walk_at "ts";exact q
  ·have:m=0:=by omega
   subst this;walk_at "ts";rw[a7R,a0W,decide_eq_false (by decide +kernel)];walk_at "ts";refine jW (n:=0) (by decide) ?_;walk_at "ts";exact q
theorem uP {c:Nat}(hc:c<45∨45<c∧c<48∨57<c)(i:Int):c∉(txI i).cps.toList:=fun h=>by
 have:=a3B i c h;omega
theorem aHE:(("/" : PySem.Str))=⟨#[47]⟩:=rfl
theorem a8P (r:Rat):Txt.split (yS r) ⟨#[47]⟩=if r.den=1 then[txI r.num] else[txI r.num,txI (r.den:Int)]:=by
 have f1:∀ i,47∉(txI i).cps.toList:=uP (by decide);unfold yS
 split
 ·exact mZ (ps:=[txI r.num]) (List.cons_ne_nil _ _) fun p hp=>by rw[List.mem_singleton.mp hp]; exact f1 _
 ·exact mZ (ps:=[txI r.num,txI (r.den:Int)]) (List.cons_ne_nil _ _) fun p hp=>by
   simp only[List.mem_cons,List.not_mem_nil,or_false] at hp;rcases hp with rfl|rfl<;>exact f1 _
theorem a1X {r:Rat}(h:a1D r)(q:Q (.val (dD r))):fX [.val (.str (yS r))] Q:=by
 have hl:=a3U h;have hd:=r.den_pos;refine lM ?_;unfold p7;walk_at "ts";have sp:=a8P r;rw[aHE]
 by_cases z:r.den=1
 ·rw[if_pos z] at sp;refine a9T rfl (by omega) (by rw[sp]; exact Nat.le_of_ble_eq_true rfl) ?_;rw[sp];walk_at "ts";refine dM (d:=.int 1) rfl ?_;walk_at "ts";rw[decide_eq_false (show ¬((2:Int)<1) by decide)];walk_at "ts";unfold jG;walk_at "ts";refine dM (d:=.str (txI r.num)) rfl ?_;walk_at "ts";refine a3I h.1 ?_;walk_at "ts";refine dM (d:=.int 1) rfl ?_;walk_at "ts";rw[decide_eq_true (show(1:Int)=1 from rfl)];walk_at "ts";unfold dD at q;rw[z] at q;exact q
 ·rw[if_neg z] at sp;refine a9T rfl (by omega) (by rw[sp]; exact Nat.le_of_ble_eq_true rfl) ?_;rw[sp];walk_at "ts";refine dM (d:=.int 2) rfl ?_;walk_at "ts";rw[decide_eq_false (show ¬((2:Int)<2) by decide)];walk_at "ts";unfold jG;walk_at "ts";refine dM (d:=.str (txI r.num)) rfl ?_;walk_at "ts";refine a3I h.1 ?_;walk_at "ts";refine dM (d:=.int 2) rfl ?_;walk_at "ts";rw[decide_eq_false (show ¬((2:Int)=1) by decide)];walk_at "ts";unfold o4;walk_at "ts";refine dM (d:=.str (txI (r.den:Int))) rfl ?_;walk_at "ts";refine jW h.2 ?_;walk_at "ts";rw[decide_eq_false (show ¬((r.den:Int)=1) by omega)];walk_at "ts";refine tU ?_;walk_at "ts";exact q
end
section
variable {ma:ME}{Γ:En}
theorem aF1 {Q:D→En→Prop}(h:ma Γ (tlK Q)):aDQ ma Γ Q:=h
theorem aKE {Q:D→En→Prop}{ds:List D}(h:Q (.tuple ds) Γ):tlK Q (.list ds) Γ:=⟨ds,rfl,h⟩
theorem aDG {i:Nat}{Q:D→En→Prop}{fs:List (PySem.Str×D)}(h0:Γ[i]?=some (.pub (pFm fs)))(h:ma Γ fun x Γ1=>∃ fs a,Γ1[i]?=some (.pub (pFm fs))∧x=.str a∧Q ((aA1 fs a).getD .none) Γ1):a6G i ma Γ Q:=⟨⟨fs,h0⟩,h⟩
theorem aIN {Q:List (PySem.Str×D)→En→Prop}(h:Q [] Γ):aJG Γ Q:=h
theorem aE8 {a:PySem.Str}{r:MPs}{Q:List (PySem.Str×D)→En→Prop}(h:ma Γ fun d Γ1=>r Γ1 fun fs Γ2=>Q ((a,d)::fs) Γ2):aFP a ma r Γ Q:=h
theorem aCL {mp:MPs}{mr:MA}{Q:List Sl→En→Prop}(h:mp Γ fun fs Γ1=>fs.length≤15∧(fs.map fun f=>f.1).Nodup∧mr Γ1 fun xs Γ2=>Q (.pub (pFm fs)::xs) Γ2):aE3 mp mr Γ Q:=h
end
section
variable {Q:Rv→Prop}{fs:a2P}
theorem ad (x:PySem.Str)(h:(x.cps.toList.all fun c=>decide (c<128))=true:=by decide +kernel):Asc x:=zU h
theorem a5T {p:Pk}(h:p.Ok)(q:Q (.val p.d)):fB [.val (.str p.k),.val (.str p.tx)] Q:=by
 cases p with
 | whole n=>
  show fB [.val (.str "whole"),.val (.str (txI (n:Int)))] Q;refine lM ?_;unfold nA;walk_at "ts";refine⟨dF (ad _),dF (ad _),?_⟩;rw[pZ,decide_eq_false (by decide +kernel)];walk_at "ts";refine jW h ?_;walk_at "ts";exact q
 | num r=>
  show fB [.val (.str "number"),.val (.str (yS r))] Q;refine lM ?_;unfold nA;walk_at "ts";refine⟨dF (ad _),dF (ad _),?_⟩;rw[pZ,decide_eq_true rfl];walk_at "ts";refine a1X h ?_;walk_at "ts";exact q
theorem aM9 (x:D)(xs:List D):ixD (.list (x::xs)) (.int 0)=some x:=by simp[ixD,atI,ixN]
theorem a9V {c:Nat}(hc:c<45∨57<c)(r:Rat):c∉(yS r).cps.toList:=by
 unfold yS
 split
 ·exact uP (by omega) _
 ·rw[PySem.Str.cps_append,PySem.Str.cps_append,Array.toList_append,Array.toList_append];intro h;rcases List.mem_append.mp h with z|z
  ·rcases List.mem_append.mp z with y|y
   ·exact uP (by omega) _ y
   ·have:(PySem.Str.ofString "/").cps.toList=[47]:=by decide +kernel
    rw[this] at y;have:=List.mem_singleton.mp y;omega
  ·exact uP (by omega) _ z
theorem Pk.free {p:Pk}{c:Nat}(hc:c<45):c∉p.tx.cps.toList:=by
 cases p with
 | whole n=>exact uP (by omega) _
 | num r=>exact a9V (by omega) r
theorem Pk.asc (p:Pk):Asc p.tx:=by
 cases p with
 | whole n=>exact uM _
 | num r=>exact aD4 r
theorem Pk.gd (p:Pk):Gd 1 p.d:=by
 cases p with
 | whole n=>exact(wJ _).mono
 | num r=>exact uQ r
theorem Pk.some (p:Pk):PyData.eqv p.d .none=false:=by
 cases p<;>rfl
theorem aFW:((" " : PySem.Str))=⟨#[32]⟩:=rfl
theorem lf1:(("\n" : PySem.Str))=⟨#[10]⟩:=rfl
theorem Rw.split {w:Rw}(h:w.Ok fs):Txt.split w.tx ⟨#[32]⟩=w.ws:=by
 refine mZ (List.cons_ne_nil _ _) fun p hp=>?_;rcases List.mem_cons.mp hp with rfl|z
 ·exact h.b
 ·obtain⟨y,hy,rfl⟩:=List.mem_map.mp z;exact Pk.free (by decide)
theorem aGC (x:D)(xs:List D):VS.cutD (x::xs) (some 1) none=xs:=by simp[VS.cutD,HT.sIx]
theorem aA2 {α:Type}(f g:α→D)(xs:List α):aDV (xs.map f) (xs.map g)=xs.map fun x=>.tuple [f x,g x]:=by
 unfold aDV;rw[List.zip_map'];rw[List.map_map];rfl
theorem a67 {w:Rw}(h:w.Ok fs)(q:Q (.val w.d)):iR [.val (.str w.tx),.pub (pFm fs)] Q:=by
 have hw:=Rw.tx_len h;have sp:=Rw.split h;have ef:=h.f;have hl:=h.l;have hk:=h.p;have ha:=h.a;unfold Rw.ws at sp;unfold Rw.d at q
 revert hw sp ef hl hk ha q
 generalize w.tx=wt,w.w=a,w.ps=ps;intro q hw sp ef hl hk ha;refine lM ?_;unfold qK;walk_at "ts";rw[aFW];refine a9T rfl (by omega) (by rw[sp]; simp; omega) ?_;rw[sp,List.map_cons];walk_at "ts";refine aDG rfl ?_;walk_at "ts";refine dM (aM9 _ _) ?_;refine⟨fs,a,rfl,rfl,?_⟩;rw[ef,Option.getD_some];walk_at "ts";refine dM (d:=.int ((ps.length:Int)+1)) (by simp[aET]) ?_;walk_at "ts";refine dM (d:=.int (ps.length:Int)) (by simp[aET]) ?_;walk_at "ts";rw[decide_eq_true rfl];walk_at "ts";unfold pL;walk_at "ts";refine dM (aM9 _ _) ?_;walk_at "ts";rw[show VS.cutD (PyData.str a::List.map PyData.str (List.map Pk.tx ps)) (some 1) none=ps.map fun p=>PyData.str p.tx by
  rw[List.map_map]; exact aGC _ _,aA2]
 refine uJ (fun i Γ=>∃ x y,Γ=[.val (.str wt),.pub (pFm fs),.val (.list (.str a::List.map PyData.str (List.map Pk.tx ps))),.val (.tuple (ps.map fun p=>.str p.k)),.own (.str a::(ps.take i).map Pk.d),x,y]) ⟨_,_,rfl⟩ ?_ ?_
 ·rintro i d Γ K hd ⟨x,y,rfl⟩ hK;rw[List.getElem?_map] at hd;obtain⟨p,hp,rfl⟩:=Option.map_eq_some_iff.mp hd;have hpm:=List.mem_of_getElem? hp;have hi:=(List.getElem?_eq_some_iff.mp hp).1;unfold pP;walk_at "ts";refine a5T (hk p hpm) ?_;walk_at "ts";refine vO (ds:=.str a::(ps.take i).map Pk.d) rfl (by simp; omega) ?_;refine hK.nx _ ⟨.val (.str p.k),.val (.str p.tx),?_⟩;have et:(ps.take (i+1)).map Pk.d=(ps.take i).map Pk.d++[p.d]:=by
   rw[List.take_add_one,hp,List.map_append];rfl
  rw[et];rfl
 ·rintro Γ ⟨x,y,rfl⟩;rw[List.length_map,List.take_length];unfold pO;walk_at "ts";refine⟨good_none,?_,?_⟩
  ·refine a3W (n:=1) fun d hd=>?_;rcases List.mem_cons.mp hd with rfl|z
   ·exact(aDL ha).mono
   ·obtain⟨p,hp,rfl⟩:=List.mem_map.mp z;exact Pk.gd p
  ·have e:((PyData.str a::ps.map Pk.d).any fun e=>PyData.eqv e .none)=false:=by
    rw[List.any_cons,show PyData.eqv (.str a) .none=false from rfl,Bool.false_or,List.any_map,List.any_eq_false];intro p hp;rw[show((fun e=>PyData.eqv e .none)∘Pk.d) p=PyData.eqv p.d .none from rfl,Pk.some p];exact Bool.false_ne_true
   rw[if_neg Bool.false_ne_true,e];walk_at "ts";refine aKE ?_;walk_at "ts";exact q
theorem a8W {w:Rw}(h:w.Ok a3C)(q:Q (.val w.d)):mQ [.val (.str w.tx)] Q:=by
 refine lM ?_;unfold uG;walk_at "ts";refine aCL ?_;refine aE8 ?_;walk_at "ts";refine aE8 ?_;walk_at "ts";refine aE8 ?_;walk_at "ts";refine aIN ?_;refine⟨(show 3≤15 by decide),(show([("join" : PySem.Str),("leave" : PySem.Str),("turn" : PySem.Str)]:List PySem.Str).Nodup by decide +kernel),?_⟩;walk_at "ts";exact a67 h q
theorem Rw.ne {w:Rw}(h:w.Ok fs):w.tx ≠ "" := by
 intro z;apply h.e;have:=Rw.split h;rw[z,show Txt.split ("" : PySem.Str) ⟨#[32]⟩=[("" : PySem.Str)] from by decide +kernel] at this;injection this with q _;exact q.symm
theorem Rw.lf {w:Rw}(h:w.Ok fs):10∉w.tx.cps.toList:=by
 unfold Rw.tx;rw[show Txt.join ⟨#[32]⟩ w.ws=PySem.Str.join ⟨#[32]⟩ w.ws from StrLaws.glued_eq_join _ _];refine tY (by decide) fun p hp=>?_;rcases List.mem_cons.mp hp with rfl|z
 ·exact h.c
 ·obtain⟨y,hy,rfl⟩:=List.mem_map.mp z;exact Pk.free (by decide)
theorem Rw.asc {w:Rw}(h:w.Ok fs):Asc w.tx:=by
 refine a3S (by decide) fun p hp=>?_;rcases List.mem_cons.mp hp with rfl|z
 ·exact h.a
 ·obtain⟨y,hy,rfl⟩:=List.mem_map.mp z;exact Pk.asc y
theorem yJ {ws:List Rw}(hn:ws≠[])(h:∀ w∈ws,w.Ok fs):Txt.split (bkT ws) ⟨#[10]⟩=ws.map Rw.tx:=by
 refine mZ (fun z=>hn (List.map_eq_nil_iff.mp z)) fun p hp=>?_;obtain⟨w,hw,rfl⟩:=List.mem_map.mp hp;exact Rw.lf (h w hw)
theorem a6X {ws:List Rw}(h:∀ w∈ws,w.Ok fs):Asc (bkT ws):=a3S (by decide) fun p hp=>by
 obtain⟨w,hw,rfl⟩:=List.mem_map.mp hp;exact Rw.asc (h w hw)
theorem aJU {ws:List Rw}(hn:ws≠[])(h:∀ w∈ws,w.Ok fs):bkT ws ≠ "" := by
 intro z;have e:=yJ hn h;rw[z,show Txt.split ("" : PySem.Str) ⟨#[10]⟩=[("" : PySem.Str)] from by decide +kernel] at e
 match ws,hn,e with
 | w::r,_,e=>
  injection e with q _;exact Rw.ne (h w (List.mem_cons_self ..)) q.symm
theorem a5A {ws:List Rw}(hl:ws.length≤40)(h:∀ w∈ws,w.Ok fs)(q:Q (.own ((ws.map Rw.tx).map PyData.str))):kE [.val (.str (bkT ws))] Q:=by
 have hb:=aI4 hl h;refine lM ?_;unfold qW;walk_at "ts";unfold pN;walk_at "ts";refine⟨dF (a6X h),dF (ad _),?_⟩;rw[pZ]
 by_cases z:ws=[]
 ·subst z;rw[decide_eq_true (show bkT [] = "" from rfl)];walk_at "ts";exact q
 ·rw[decide_eq_false (aJU z h)];walk_at "ts";rw[lf1];refine a9T rfl (by omega) (by rw[yJ z h]; simp; omega) ?_;rw[yJ z h];walk_at "ts";exact q
theorem aGE {w:Rw}(h:w.Ok fs):Gd 2 w.d:=by
 refine yX (n:=1) fun d hd=>?_;rcases List.mem_cons.mp hd with rfl|z
 ·exact(aDL h.a).mono
 ·obtain⟨p,hp,rfl⟩:=List.mem_map.mp z;exact Pk.gd p
end
section
variable {Q:Rv→Prop}{fs:a2P}
theorem aJH (x:D)(xs:List D):¬(HT.sIx (x::xs).length 0 (some 1)=0∧HT.sIx (x::xs).length (x::xs).length none=(x::xs).length):=by
 rintro⟨h,_⟩
 simp[HT.sIx] at h
theorem vI {ws:List Rw}(hl:ws.length≤40)(h:∀ w∈ws,w.Ok fs)(q:Q (.val (.str (bkT ws)))):eU [.val (.list (ws.map Rw.d))] Q:=by
 refine lM ?_;unfold jN;walk_at "ts";refine uJ (fun i Γ=>∃ x y z,Γ=[.val (.list (ws.map Rw.d)),.own ((ws.take i).map fun w=>.str w.tx),x,y,z]) ⟨_,_,_,rfl⟩ ?_ ?_
 ·rintro i d Γ K hd ⟨x,y,z,rfl⟩ hK;rw[List.getElem?_map] at hd;obtain⟨w,hw,rfl⟩:=Option.map_eq_some_iff.mp hd;have hwm:=List.mem_of_getElem? hw;have hi:=(List.getElem?_eq_some_iff.mp hw).1;obtain⟨ps,e1,e2,hp,hps,a,r,rfl,ha⟩:=w.pts (h w hwm);rw[e1,List.map_cons];unfold jO;walk_at "ts";refine dM (by simp[ixD,atI,ixN]; rfl) ?_;walk_at "ts";refine⟨aJH _ _,?_⟩;rw[aGC];walk_at "ts";refine uJ (fun j Γ=>∃ z,Γ=[.val (.list (ws.map Rw.d)),.own ((ws.take i).map fun w=>.str w.tx),.val (.tuple (.str a::r.map fun p=>p.1)),.own (.str a::(r.take j).map fun p=>.str p.2),z]) ⟨_,rfl⟩ ?_ ?_
  ·rintro j d Γ K2 hd ⟨z,rfl⟩ hK2;rw[List.getElem?_map] at hd;obtain⟨p,hpj,rfl⟩:=Option.map_eq_some_iff.mp hd;have hpm:=List.mem_of_getElem? hpj;have hj:=(List.getElem?_eq_some_iff.mp hpj).1;have et:((r.take (j+1)).map fun p=>(PyData.str p.2:D))=(r.take j).map (fun p=>.str p.2)++[.str p.2]:=by
    rw[List.take_add_one,hpj,List.map_append];rfl
   have hjl:(.str a::(r.take j).map fun p=>(PyData.str p.2:D)).length≤5:=by
    simp only[List.length_cons,List.length_map,List.length_take] at hps ⊢;omega
   obtain⟨d,b⟩:=p;have hpt:Pt d b:=hp (d,b) (List.mem_cons_of_mem _ hpm);have fin:∀ v,K2 (.nx [.val (.list (ws.map Rw.d)),.own ((ws.take i).map fun w=>.str w.tx),.val (.tuple (.str a::r.map fun p=>p.1)),.own (.str a::(r.take j).map (fun p=>.str p.2)++[.str b]),v]):=fun v=>
    hK2.nx _ ⟨v,by rw[et]; rfl⟩
   unfold kI
   cases hpt with
   | word b hb=>
    walk_at "ts";refine vO (ds:=.str a::(r.take j).map fun p=>.str p.2) rfl (by omega) ?_;exact fin _
   | whole n hn=>
    walk_at "ts";refine a5M (a5O (by omega)) ?_;walk_at "ts";refine vO (ds:=.str a::(r.take j).map fun p=>.str p.2) rfl (by omega) ?_;exact fin _
   | num t ht=>
    walk_at "ts";refine a5R ht ?_;walk_at "ts";refine vO (ds:=.str a::(r.take j).map fun p=>.str p.2) rfl (by omega) ?_;exact fin _
  ·rintro Γ ⟨z,rfl⟩;rw[List.length_map,List.take_length];unfold jT;walk_at "ts";rw[show(PyData.str a::r.map fun p=>(PyData.str p.2:D))=w.ws.map PyData.str by rw[e2,List.map_cons,List.map_cons,List.map_map]; rfl];refine aBD (yD (k:=4) (B:=130) (by rw[e2,List.length_map]; exact hps) (fun y hy=>?_) (by decide)) ?_
   ·rw[e2] at hy;obtain⟨p,hm,rfl⟩:=List.mem_map.mp hy;exact(hp p hm).len
   ·refine vO (ds:=(ws.take i).map fun w=>.str w.tx) rfl (by rw[List.length_map,List.length_take]; omega) ?_;refine hK.nx _ ⟨.val (.tuple (.str a::r.map fun p=>p.1)),.val (.list (w.ws.map PyData.str)),z,?_⟩
    ·have et:((ws.take (i+1)).map fun w=>(PyData.str w.tx:D))=(ws.take i).map (fun w=>.str w.tx)++[.str w.tx]:=by
      rw[List.take_add_one,hw,List.map_append];rfl
     rw[et];rfl
 ·rintro Γ ⟨x,y,z,rfl⟩;rw[List.length_map,List.take_length];unfold jP;walk_at "ts";rw[show(ws.map fun w=>(PyData.str w.tx:D))=(ws.map Rw.tx).map PyData.str by rw[List.map_map]; rfl];refine aBD (yD (k:=40) (B:=600) (by rw[List.length_map]; exact hl) (fun y hy=>?_) (by decide)) ?_
  ·obtain⟨w,hm,rfl⟩:=List.mem_map.mp hy;exact Rw.tx_len (h w hm)
  ·walk_at "ts";exact q
end
section
variable {Q:Rv→Prop}{c:Fm}{fs:a2P}
theorem aBL {i:Int}(q:Q (.val (.bool true))):mFn 1 (bQ c) [.val (.int i),.val (.int i)] Q:=by
 refine lM ?_;unfold bQ;walk_at "ts";refine a07 ?_;walk_at "ts";refine a0Q ?_;walk_at "ts";unfold gQ;walk_at "ts";rw[decide_eq_true (show qX (eO (PyData.int i)) "str" = qX (eO (PyData.int i)) "str" from rfl)];walk_at "ts";unfold gP;walk_at "ts";rw[decide_eq_true rfl];exact q
theorem aFK {a:PySem.Str}(h:Asc a)(q:Q (.val (.bool true))):mFn 1 (bQ c) [.val (.str a),.val (.str a)] Q:=by
 refine lM ?_;unfold bQ;walk_at "ts";refine a07 ?_;walk_at "ts";refine a0Q ?_;walk_at "ts";unfold gQ;walk_at "ts";rw[decide_eq_true (show qX (eO (PyData.str a)) "str" = qX (eO (PyData.str a)) "str" from rfl)];walk_at "ts";unfold gP;walk_at "ts";refine⟨dF h,dF h,?_⟩;rw[pZ,decide_eq_true rfl];walk_at "ts";exact q
theorem aB8 {ds:List D}{i:Nat}{d:D}(h:ds[i]?=some d):atI ds (0+(i:Int))=some d:=by
 have hi:=(List.getElem?_eq_some_iff.mp h).1;unfold atI ixN;rw[Int.zero_add,if_pos (by omega),if_pos (by omega)];simpa using h
theorem aBY {ds:List D}{mg:MG}{mt:MT}{me:ME}{Γb:En}{K:List D→Prop}(h:∀(i:Nat) (d:D),ds[i]?=some d→∀(k:D→Prop) (k0:Prop),k (.bool true)→mg (.int (0+(i:Int))) Γb fun Γ1=>mt Γ1 fun b Γ2=>if b=true then me Γ2 fun v _=>k v else k0)
  (q:K ((List.replicate ds.length true).map PyData.bool)):sZ mg mt me Γb (j5 0 ds.length) [] K:=by
 unfold j5;refine lZ (α:=Nat) (fun _=>true) (fun _=>.bool true) (fun i=>.int (0+(i:Int))) (List.range ds.length) [] _ (fun i hi _ k k0 h1 h0=>?_) ?_
 ·have hi:=List.mem_range.mp hi;exact h i _ (List.getElem?_eq_getElem hi) k k0 (h1 rfl)
 ·rw[List.filter_eq_self.mpr fun _ _=>rfl,List.nil_append,show(List.range ds.length).map (fun _=>(PyData.bool true:D))=(List.replicate ds.length true).map PyData.bool by
   rw[List.map_replicate,List.map_const',List.length_range]]
  exact q
theorem aIA {ds:List D}(hl:ds.length≤1000)(hc:∀ d∈ds,∀ Q:Rv→Prop,Q (.val (.bool true))→c [.val d,.val d] Q)(q:Q (.val (.bool true))):mFn 1 (bQ c) [.val (.list ds),.val (.list ds)] Q:=by
 refine lM ?_;unfold bQ;walk_at "ts";refine a07 ?_;walk_at "ts";refine a1F ?_;walk_at "ts";rw[decide_eq_true (show qX (eO (PyData.list ds)) "list" = qX (eO (PyData.list ds)) "list" from rfl)];walk_at "ts";rw[decide_eq_true (show qX (eO (PyData.list ds)) "tuple" = qX (eO (PyData.list ds)) "tuple" from rfl)];walk_at "ts";unfold gU;walk_at "ts";refine dM (d:=.int (ds.length:Int)) rfl ?_;walk_at "ts";refine dM (d:=.int (ds.length:Int)) rfl ?_;walk_at "ts";rw[decide_eq_true rfl];walk_at "ts";refine dM (d:=.int (ds.length:Int)) rfl ?_;walk_at "ts";refine⟨by omega,by omega,?_⟩;rw[Int.toNat_natCast];refine⟨by unfold j5; simp; omega,?_⟩;refine aBY (fun i d hd k k0 h1=>?_) ?_
 ·walk_at "ts";refine a5N ?_;walk_at "ts";refine dM (show ixD (.list ds) (.int (0+(i:Int)))=some d from aB8 hd) ?_;walk_at "ts";refine dM (show ixD (.list ds) (.int (0+(i:Int)))=some d from aB8 hd) ?_;walk_at "ts";refine hc d (List.mem_of_getElem? hd) _ ?_;walk_at "ts";exact h1
 ·walk_at "ts";rw[rB];walk_at "ts";rw[show(List.replicate ds.length true).all id=true by simp];exact q
theorem aBO {ds:List D}(hl:ds.length≤1000)(hc:∀ d∈ds,∀ Q:Rv→Prop,Q (.val (.bool true))→c [.val d,.val d] Q)(q:Q (.val (.bool true))):mFn 1 (bQ c) [.val (.tuple ds),.val (.tuple ds)] Q:=by
 refine lM ?_;unfold bQ;walk_at "ts";refine a07 ?_;walk_at "ts";refine a1F ?_;walk_at "ts";rw[decide_eq_true (show qX (eO (PyData.tuple ds)) "list" = qX (eO (PyData.tuple ds)) "list" from rfl)];walk_at "ts";rw[decide_eq_true (show qX (eO (PyData.tuple ds)) "tuple" = qX (eO (PyData.tuple ds)) "tuple" from rfl)];walk_at "ts";unfold gU;walk_at "ts";refine dM (d:=.int (ds.length:Int)) rfl ?_;walk_at "ts";refine dM (d:=.int (ds.length:Int)) rfl ?_;walk_at "ts";rw[decide_eq_true rfl];walk_at "ts";refine dM (d:=.int (ds.length:Int)) rfl ?_;walk_at "ts";refine⟨by omega,by omega,?_⟩;rw[Int.toNat_natCast];refine⟨by unfold j5; simp; omega,?_⟩;refine aBY (fun i d hd k k0 h1=>?_) ?_
 ·walk_at "ts";refine a5N ?_;walk_at "ts";refine dM (show ixD (.tuple ds) (.int (0+(i:Int)))=some d from aB8 hd) ?_;walk_at "ts";refine dM (show ixD (.tuple ds) (.int (0+(i:Int)))=some d from aB8 hd) ?_;walk_at "ts";refine hc d (List.mem_of_getElem? hd) _ ?_;walk_at "ts";exact h1
 ·walk_at "ts";rw[rB];walk_at "ts";rw[show(List.replicate ds.length true).all id=true by simp];exact q
theorem aD7 {ws:List Rw}(hl:ws.length≤40)(h:∀ w∈ws,w.Ok fs)(q:Q (.val (.bool true))):iZ [.val (.list (ws.map Rw.d)),.val (.list (ws.map Rw.d))] Q:=by
 unfold iZ iI;refine aIA (by simp; omega) (fun d hd Q q=>?_) q;obtain⟨w,hw,rfl⟩:=List.mem_map.mp hd;have ok:=h w hw;have hp:=ok.l;unfold Rw.d dX;refine aBO (by simp; omega) (fun d hd Q q=>?_) q;unfold dZ;rcases List.mem_cons.mp hd with rfl|z
 ·exact aFK ok.a q
 ·obtain⟨p,hpm,rfl⟩:=List.mem_map.mp z
  cases p with
  | whole n=>exact aBL q
  | num r=>
   show mFn 1 _ [.val (dD r),.val (dD r)] Q;unfold dD;refine aBO (Nat.le_of_ble_eq_true rfl) (fun d hd Q q=>?_) q;unfold eF;simp only[List.mem_cons,List.not_mem_nil,or_false] at hd;rcases hd with rfl|rfl<;>exact aBL q
end
def Deed.rw:Deed→Rw
 | .join t p m=>⟨"join", [.num t,.num p,.num m]⟩
 | .leave t r=>⟨"leave", [.num t,.whole r]⟩
 | .turn t r m=>⟨"turn", [.num t,.whole r,.num m]⟩
theorem aMH (d:Deed):d.rw.d=gW d:=by cases d<;>rfl
theorem aD3 (ds:List Deed):ds.map gW=(ds.map Deed.rw).map Rw.d:=by
 rw[List.map_map];exact List.map_congr_left fun d _=>(aMH d).symm
theorem a4N {q:Rat}(h:a6C q):a1D q:=⟨Nat.lt_of_le_of_lt h.1 (by decide),Nat.lt_of_le_of_lt h.2 (by decide)⟩
theorem u6:∀(ds:List Deed) (s:Rn),(ds.foldl stp s).ls.length≤s.ls.length+ds.length
 | [],s=>Nat.le_refl _
 | d::ds,s=>by
  have h1:=u6 ds (stp s d);have h2:=a77 s d
  show(ds.foldl stp (stp s d)).ls.length≤_
  rw[List.length_cons]; omega
theorem a6T (ds:List Deed):(run ds).ls.length≤ds.length:=by
 have h:(run ds).ls.length≤([]:List Ln).length+ds.length:=u6 ds ⟨[],[]⟩;rw[List.length_nil] at h;omega
theorem aFC {ds:List Deed}(h:LogB ds)(hl:ds.length≤40):∀ w∈ds.map Deed.rw,w.Ok a3C:=fun w hw=>by
 obtain⟨d,hd,rfl⟩:=List.mem_map.mp hw;obtain⟨n,hn⟩:=List.getElem?_of_mem hd;have ok:=h.ok n d hn;have nm:=h.nm d hd;have rl:∀ r∈(run (ds.take n)).rs,r<10^60:=fun r hr=>by
  have h1:=(a03 (ds.take n)).lt r hr;have h2:=a6T (ds.take n);rw[List.length_take] at h2;exact Nat.lt_of_lt_of_le (show r<40 by omega) (by decide)
 cases d with
 | join t p m=>
  refine Rw.mk_ok rfl (fun x hx=>?_) (show 3≤3 by decide) (by decide +kernel);simp only[List.mem_cons,List.not_mem_nil,or_false] at hx;rcases hx with rfl|rfl|rfl
  ·exact a4N nm.1
  ·exact a4N nm.2.1
  ·exact a4N nm.2.2
 | leave t r=>
  refine Rw.mk_ok rfl (fun x hx=>?_) (show 2≤3 by decide) (by decide +kernel);simp only[List.mem_cons,List.not_mem_nil,or_false] at hx;rcases hx with rfl|rfl
  ·exact a4N nm
  ·exact rl r ok
 | turn t r m=>
  refine Rw.mk_ok rfl (fun x hx=>?_) (show 3≤3 by decide) (by decide +kernel);simp only[List.mem_cons,List.not_mem_nil,or_false] at hx;rcases hx with rfl|rfl|rfl
  ·exact a4N nm.1
  ·exact rl r ok
  ·exact a4N nm.2
section
variable {c:Addr}{Q:Rv→Prop}{ds:List Deed}
def lgT (ds:List Deed):PySem.Str:=bkT (ds.map Deed.rw)
theorem aC8 (hl:ds.length≤40):(ds.map Deed.rw).length≤40:=by rw[List.length_map]; exact hl
theorem vW (h:LogB ds)(hl:ds.length≤40)(q:Q (.own (ds.map gW))):iM c [.val (.str (lgT ds))] Q:=by
 have ok:=aFC h hl;refine lM ?_;unfold rD;walk_at "ts";refine a5A (fs:=a3C) (aC8 hl) ok ?_;walk_at "ts";refine⟨by simp; omega,?_⟩;rw[List.map_map];refine lZ (α:=Rw) (fun _=>true) Rw.d (PyData.str∘Rw.tx) (ds.map Deed.rw) [] _ (fun w hw _ k k0 h1 h0=>?_) ?_
 ·walk_at "ts";refine a5N ?_;walk_at "ts";refine a8W (ok w hw) ?_;walk_at "ts";exact h1 rfl
 ·rw[List.filter_eq_self.mpr fun _ _=>rfl,List.nil_append];walk_at "ts";refine lM ?_;unfold f9;walk_at "ts";refine⟨good_none,a3W (n:=2) fun d hd=>?_,?_⟩
  ·obtain⟨w,hw,rfl⟩:=List.mem_map.mp hd;exact aGE (ok w hw)
  ·have e:(((ds.map Deed.rw).map Rw.d).any fun e=>PyData.eqv e .none)=false:=by
    rw[List.any_map,List.any_eq_false];intro w _;exact Bool.false_ne_true
   rw[if_neg Bool.false_ne_true,e];walk_at "ts";rw[← aD3];exact a9J h hl q
end
theorem aAT:LogB []:=⟨fun n d h=>(by cases n<;>cases h),List.Pairwise.nil,fun d h=>absurd h List.not_mem_nil,fun d h=>absurd h List.not_mem_nil,fun n d h=>(by cases n<;>cases h)⟩
theorem law_true (c:Addr):uE c (.no::.pen::List.replicate 6 .no) oJ:=by
 unfold uE;walk_at "ts";refine⟨by decide,by decide,?_⟩;refine uZ (fun i Γ=>∃ a b c d e f,Γ=[.no,.pen,a,b,c,d,e,f]) ⟨_,_,_,_,_,_,rfl⟩ ?_ ?_
 ·rintro i Γ K hi ⟨x1,x2,x3,x4,x5,x6,rfl⟩ hk;unfold vY;walk_at "ts";refine gK (by decide) (by decide) fun s s0 s1=>?_;walk_at "ts";obtain⟨e,he,e1⟩:∃ e:Nat,ixD (.list [.int 12,.int 12,.int 40]) (.int s)=some (.int (e:Int))∧e≤40:=by
   have hd:s=0∨s=1∨s=2:=by omega
   rcases hd with rfl|rfl|rfl
   ·exact⟨12,rfl,by decide⟩
   ·exact⟨12,rfl,by decide⟩
   ·exact⟨40,rfl,by decide⟩
  refine dM he ?_;walk_at "ts";refine aDH e1 fun ds hl lb=>?_;have hw:=aFC lb hl;have hl2:=aC8 hl;have gd:=rJ ds;walk_at "ts";rw[aD3] at *;refine wG hl2 hw ?_;walk_at "ts";refine vI hl2 hw ?_;walk_at "ts";refine⟨dF (a6X hw),dF (a6X hw),?_⟩;rw[pZ,decide_eq_true rfl];walk_at "ts";refine⟨gd,gd,?_⟩;rw[a3P gd];walk_at "ts";unfold wC;walk_at "ts";refine⟨by decide,by decide,?_⟩;refine uZ (fun j Γ=>∃ e f,Γ=[.no,.pen,.val (.int (0+(i:Int))),.val (.list ((ds.map Deed.rw).map Rw.d)),.val (.list ((ds.map Deed.rw).map Rw.d)),.val (.str (lgT ds)),e,f]) ⟨_,_,rfl⟩ ?_ ?_
  ·rintro j Γ K2 hj ⟨e,f,rfl⟩ hk2;unfold vU;walk_at "ts";refine vW lb hl ?_;rw[aD3];walk_at "ts";refine aD7 hl2 hw ?_;walk_at "ts";unfold vV;walk_at "ts";refine vO (ds:=(ds.map Deed.rw).map Rw.d) rfl (by simp; omega) ?_;exact hk2.nx _ ⟨_,_,rfl⟩
  ·rintro Γ ⟨e,f,rfl⟩;exact hk.nx _ ⟨_,_,_,_,_,_,rfl⟩
 ·rintro Γ ⟨x1,x2,x3,x4,x5,x6,rfl⟩;unfold wK;walk_at "ts";refine wG (ws:=[]) (fs:=a3C) (by decide) (fun _ h=>nomatch h) ?_;walk_at "ts";refine⟨dF (ad _),dF (ad _),?_⟩;rw[pZ,decide_eq_true (show bkT [] = "" from rfl)];walk_at "ts";refine vW (ds:=[]) aAT (by decide) ?_;walk_at "ts";refine⟨rJ [],rJ [],?_⟩;exact rfl
theorem ln1 {α:Type}{us:List α}(h:us.length=1):∃ x0,us=[x0]:=by
 match us,h with
 | [_],_=>exact⟨_,rfl⟩
theorem ln2 {α:Type}{us:List α}(h:us.length=2):∃ x0 x1,us=[x0,x1]:=by
 match us,h with
 | [_,_],_=>exact⟨_,_,rfl⟩
theorem ln3 {α:Type}{us:List α}(h:us.length=3):∃ x0 x1 x2,us=[x0,x1,x2]:=by
 match us,h with
 | [_,_,_],_=>exact⟨_,_,_,rfl⟩
theorem aJZ {K:Fg}{h:Heap}{mg:Mg}(X:K.In h)(G:h.Ns mainGlobals mg)
  (z_len:PySem.W.nsIn K mainGlobals "len" = some none)
  (z_abs:PySem.W.nsIn K mainGlobals "abs" = some none)
  (z_range:PySem.W.nsIn K mainGlobals "range" = some none)
  (z_isinstance:PySem.W.nsIn K mainGlobals "isinstance" = some none)
  (z_int:PySem.W.nsIn K mainGlobals "int" = some none)
  (z_bool:PySem.W.nsIn K mainGlobals "bool" = some none)
  (z_tuple:PySem.W.nsIn K mainGlobals "tuple" = some none)
  (z_max:PySem.W.nsIn K mainGlobals "max" = some none)
  (z_min:PySem.W.nsIn K mainGlobals "min" = some none)
  (z_list:PySem.W.nsIn K mainGlobals "list" = some none)
  (z_all:PySem.W.nsIn K mainGlobals "all" = some none)
  (z_any:PySem.W.nsIn K mainGlobals "any" = some none)
  (z_sorted:PySem.W.nsIn K mainGlobals "sorted" = some none)
  (z_zip:PySem.W.nsIn K mainGlobals "zip" = some none)
  (z_set:PySem.W.nsIn K mainGlobals "set" = some none)
  (z_sum:PySem.W.nsIn K mainGlobals "sum" = some none)
  (z_str:PySem.W.nsIn K mainGlobals "str" = some none)
  (z_enumerate:PySem.W.nsIn K mainGlobals "enumerate" = some none)
  (kt_int_bool:PySem.W.kitOne K (.type "int") (.type "bool")=some false)    (kt_bool_int:PySem.W.kitOne K (.type "bool") (.type "int")=some true):Bl K mg:=⟨PySem.W.mg_none_of X G z_len,PySem.W.mg_none_of X G z_abs,PySem.W.mg_none_of X G z_range,PySem.W.mg_none_of X G z_isinstance,PySem.W.mg_none_of X G z_int,PySem.W.mg_none_of X G z_bool,PySem.W.mg_none_of X G z_tuple,PySem.W.mg_none_of X G z_max,PySem.W.mg_none_of X G z_min,PySem.W.mg_none_of X G z_list,PySem.W.mg_none_of X G z_all,PySem.W.mg_none_of X G z_any,PySem.W.mg_none_of X G z_sorted,PySem.W.mg_none_of X G z_zip,PySem.W.mg_none_of X G z_set,PySem.W.mg_none_of X G z_sum,PySem.W.mg_none_of X G z_str,PySem.W.mg_none_of X G z_enumerate,kt_int_bool,kt_bool_int⟩
theorem aH0 {K:Fg}
  (kt_NoneType_bool:PySem.W.kitOne K (.type "NoneType") (.type "bool")=some false)
  (kt_NoneType_int:PySem.W.kitOne K (.type "NoneType") (.type "int")=some false)
  (kt_NoneType_str:PySem.W.kitOne K (.type "NoneType") (.type "str")=some false)
  (kt_NoneType_list:PySem.W.kitOne K (.type "NoneType") (.type "list")=some false)
  (kt_NoneType_tuple:PySem.W.kitOne K (.type "NoneType") (.type "tuple")=some false)
  (kt_NoneType_dict:PySem.W.kitOne K (.type "NoneType") (.type "dict")=some false)
  (kt_bool_NoneType:PySem.W.kitOne K (.type "bool") (.type "NoneType")=some false)
  (kt_bool_int:PySem.W.kitOne K (.type "bool") (.type "int")=some true)
  (kt_bool_str:PySem.W.kitOne K (.type "bool") (.type "str")=some false)
  (kt_bool_list:PySem.W.kitOne K (.type "bool") (.type "list")=some false)
  (kt_bool_tuple:PySem.W.kitOne K (.type "bool") (.type "tuple")=some false)
  (kt_bool_dict:PySem.W.kitOne K (.type "bool") (.type "dict")=some false)
  (kt_int_NoneType:PySem.W.kitOne K (.type "int") (.type "NoneType")=some false)
  (kt_int_bool:PySem.W.kitOne K (.type "int") (.type "bool")=some false)
  (kt_int_str:PySem.W.kitOne K (.type "int") (.type "str")=some false)
  (kt_int_list:PySem.W.kitOne K (.type "int") (.type "list")=some false)
  (kt_int_tuple:PySem.W.kitOne K (.type "int") (.type "tuple")=some false)
  (kt_int_dict:PySem.W.kitOne K (.type "int") (.type "dict")=some false)
  (kt_str_NoneType:PySem.W.kitOne K (.type "str") (.type "NoneType")=some false)
  (kt_str_bool:PySem.W.kitOne K (.type "str") (.type "bool")=some false)
  (kt_str_int:PySem.W.kitOne K (.type "str") (.type "int")=some false)
  (kt_str_list:PySem.W.kitOne K (.type "str") (.type "list")=some false)
  (kt_str_tuple:PySem.W.kitOne K (.type "str") (.type "tuple")=some false)
  (kt_str_dict:PySem.W.kitOne K (.type "str") (.type "dict")=some false)
  (kt_list_NoneType:PySem.W.kitOne K (.type "list") (.type "NoneType")=some false)
  (kt_list_bool:PySem.W.kitOne K (.type "list") (.type "bool")=some false)
  (kt_list_int:PySem.W.kitOne K (.type "list") (.type "int")=some false)
  (kt_list_str:PySem.W.kitOne K (.type "list") (.type "str")=some false)
  (kt_list_tuple:PySem.W.kitOne K (.type "list") (.type "tuple")=some false)
  (kt_list_dict:PySem.W.kitOne K (.type "list") (.type "dict")=some false)
  (kt_tuple_NoneType:PySem.W.kitOne K (.type "tuple") (.type "NoneType")=some false)
  (kt_tuple_bool:PySem.W.kitOne K (.type "tuple") (.type "bool")=some false)
  (kt_tuple_int:PySem.W.kitOne K (.type "tuple") (.type "int")=some false)
  (kt_tuple_str:PySem.W.kitOne K (.type "tuple") (.type "str")=some false)
  (kt_tuple_list:PySem.W.kitOne K (.type "tuple") (.type "list")=some false)
  (kt_tuple_dict:PySem.W.kitOne K (.type "tuple") (.type "dict")=some false)
  (kt_dict_NoneType:PySem.W.kitOne K (.type "dict") (.type "NoneType")=some false)
  (kt_dict_bool:PySem.W.kitOne K (.type "dict") (.type "bool")=some false)
  (kt_dict_int:PySem.W.kitOne K (.type "dict") (.type "int")=some false)
  (kt_dict_str:PySem.W.kitOne K (.type "dict") (.type "str")=some false)
  (kt_dict_list:PySem.W.kitOne K (.type "dict") (.type "list")=some false)
  (kt_dict_tuple:PySem.W.kitOne K (.type "dict") (.type "tuple")=some false)
  : Kit K:=Kit.mk' (by
  intro a ha b hb;simp only[tyL,List.mem_cons,List.not_mem_nil,or_false] at ha hb;rcases ha with rfl|rfl|rfl|rfl|rfl|rfl|rfl<;>rcases hb with rfl|rfl|rfl|rfl|rfl|rfl|rfl<;>intro e<;>first|assumption|exact absurd e (by decide))
def DfP (K:Fg)(mg:Mg)(x:Str)(st:Stmt):Prop:=∃(f:Addr) (fd:FuncData),Fun K x x st f fd∧mg x=some (.ref f)
theorem dR {K:Fg}{h:Heap}{mg:Mg}(X:K.In h)(G:h.Ns mainGlobals mg){x:Str}{st:Stmt}{f:Addr}{od an:Option Addr}{sl:Array (Option Value)}{oc kV dc pm cd ct:Value}
  (a:PySem.W.nsIn K mainGlobals x=some (some (.ref f))) (l:K.lookup f=some ⟨oc,od,.func (PySem.W.fnOf x x (oO st) (jH st) (aL st) .none kV dc pm an cd ct),sl⟩) (c:PySem.W.codeIn K cd x=true) (k:PySem.W.keepIn K (.ref f)=true):DfP K mg x st:=
 ⟨f,_,a91 l c k,PySem.W.mg_of X G a⟩
def MeP (K:Fg)(C:Addr)(m q:Str)(st:Stmt):Prop:=∃(f:Addr) (fd:FuncData),Fun K m q st f fd∧Meth K C m f
theorem aDD {K:Fg}{C:Addr}{m q:Str}{st:Stmt}{f:Addr}{od an:Option Addr}{sl:Array (Option Value)}{oc kV dc pm cd ct:Value}
  (a:PySem.W.findIn K (.ref C) m=some (some (.ref f))) (n:PySem.W.isFn K (.ref f)=true) (l:K.lookup f=some ⟨oc,od,.func (PySem.W.fnOf m q (oO st) (jH st) (aL st) .none kV dc pm an cd ct),sl⟩) (c:PySem.W.codeIn K cd q=true) (k:PySem.W.keepIn K (.ref f)=true):MeP K C m q st:=⟨f,_,a91 l c k,a,n,k⟩
def InP (K:Fg)(C:Addr)(q:Str)(st:Stmt):Prop:=∃(f:Addr) (fd:FuncData),Fun K "__init__" q st f fd∧Mk K C f
theorem aKH {K:Fg}{C:Addr}{q:Str}{st:Stmt}{f:Addr}{od an:Option Addr}{sl:Array (Option Value)}{oc kV dc pm cd ct:Value}
  (y:PySem.W.makesIn K C=true) (a:PySem.W.findIn K (.ref C) "__init__" = some (some (.ref f))) (n:PySem.W.isFn K (.ref f)=true) (z:PySem.W.keepIn K (.ref C)=true) (l:K.lookup f=some ⟨oc,od,.func (PySem.W.fnOf "__init__" q (oO st) (jH st) (aL st) .none kV dc pm an cd ct),sl⟩) (c:PySem.W.codeIn K cd q=true) (k:PySem.W.keepIn K (.ref f)=true):InP K C q st:=⟨f,_,a91 l c k,y,a,n,z⟩
theorem aDP {K:Fg}{C:Addr}{f:Str}(h:PySem.W.findIn K (.ref C) f=some none):NoAttr K C f:=h
section
variable {P:Program}{w:World}{K:Fg}{mg:Mg}{base:Heap}
theorem a2J  (B:Bl K mg)(Kt:Kit K)(d:DfP K mg "_law_take" jQ) :
  ∀ a ns,Cal P w K mg base 1 "_law_take" ["_law_pen", "_law_many"] (spM (bK K a ns) 2 bL):=by
 obtain⟨f,fd,F,hm⟩:=d;exact fun a ns=>⟨f,fd,a0M F B,hm,F.kp,F.binds fun _ _ _ _ _ _ us hl=>by
  obtain⟨_,_,rfl⟩:=ln2 hl;rfl⟩
theorem a1E  (B:Bl K mg)(Kt:Kit K)(d:DfP K mg "is_whole" mX) :
  ∀ a ns,Cal P w K mg base 1 "is_whole" ["thing"] (spM (bK K a ns) 1 cG):=by
 obtain⟨f,fd,F,hm⟩:=d;exact fun a ns=>⟨f,fd,a1O F B Kt,hm,F.kp,F.binds fun _ _ _ _ _ _ us hl=>by
  obtain⟨_,rfl⟩:=ln1 hl;rfl⟩
theorem oK  (B:Bl K mg)(Kt:Kit K)(d:DfP K mg "greatest_divisor" dJ) :
  ∀ a ns,Cal P w K mg base 1 "greatest_divisor" ["one", "other"] (spM (bK K a ns) 2 bR):=by
 obtain⟨f,fd,F,hm⟩:=d;exact fun a ns=>⟨f,fd,oH F B Kt,hm,F.kp,F.binds fun _ _ _ _ _ _ us hl=>by
  obtain⟨_,_,rfl⟩:=ln2 hl;rfl⟩
theorem a06  (B:Bl K mg)(Kt:Kit K)(d:DfP K mg "number_of" kO)(C_greatest_divisor:∀ a ns,Cal P w K mg base 1 "greatest_divisor" ["one", "other"] (spM (bK K a ns) 2 bR))(C_is_whole:∀ a ns,Cal P w K mg base 1 "is_whole" ["thing"] (spM (bK K a ns) 1 cG)) :
  ∀ a ns,Cal P w K mg base 2 "number_of" ["top", "bottom"] (spM (bK K a ns) 2 cN):=by
 obtain⟨f,fd,F,hm⟩:=d;exact fun a ns=>⟨f,fd,zM F B Kt (C_greatest_divisor a ns) (C_is_whole a ns),hm,F.kp,F.binds fun _ _ _ _ _ _ us hl=>by
  obtain⟨_,_,rfl⟩:=ln2 hl;rfl⟩
theorem a74  (B:Bl K mg)(Kt:Kit K)(d:DfP K mg "sum_of" tL)(C_number_of:∀ a ns,Cal P w K mg base 2 "number_of" ["top", "bottom"] (spM (bK K a ns) 2 cN)) :
  ∀ a ns,Cal P w K mg base 3 "sum_of" ["a", "b"] (spM (bK K a ns) 2 nD):=by
 obtain⟨f,fd,F,hm⟩:=d;exact fun a ns=>⟨f,fd,a7X F B Kt (C_number_of a ns),hm,F.kp,F.binds fun _ _ _ _ _ _ us hl=>by
  obtain⟨_,_,rfl⟩:=ln2 hl;rfl⟩
theorem sW  (B:Bl K mg)(Kt:Kit K)(d:DfP K mg "difference_of" fK)(C_number_of:∀ a ns,Cal P w K mg base 2 "number_of" ["top", "bottom"] (spM (bK K a ns) 2 cN)) :
  ∀ a ns,Cal P w K mg base 3 "difference_of" ["a", "b"] (spM (bK K a ns) 2 cP):=by
 obtain⟨f,fd,F,hm⟩:=d;exact fun a ns=>⟨f,fd,sY F B Kt (C_number_of a ns),hm,F.kp,F.binds fun _ _ _ _ _ _ us hl=>by
  obtain⟨_,_,rfl⟩:=ln2 hl;rfl⟩
theorem xF  (B:Bl K mg)(Kt:Kit K)(d:DfP K mg "product_of" j4)(C_number_of:∀ a ns,Cal P w K mg base 2 "number_of" ["top", "bottom"] (spM (bK K a ns) 2 cN)) :
  ∀ a ns,Cal P w K mg base 3 "product_of" ["a", "b"] (spM (bK K a ns) 2 cY):=by
 obtain⟨f,fd,F,hm⟩:=d;exact fun a ns=>⟨f,fd,xX F B Kt (C_number_of a ns),hm,F.kp,F.binds fun _ _ _ _ _ _ us hl=>by
  obtain⟨_,_,rfl⟩:=ln2 hl;rfl⟩
theorem a4M  (B:Bl K mg)(Kt:Kit K)(d:DfP K mg "is_less" pH) :
  ∀ a ns,Cal P w K mg base 1 "is_less" ["a", "b"] (spM (bK K a ns) 2 m7):=by
 obtain⟨f,fd,F,hm⟩:=d;exact fun a ns=>⟨f,fd,a68 F B Kt,hm,F.kp,F.binds fun _ _ _ _ _ _ us hl=>by
  obtain⟨_,_,rfl⟩:=ln2 hl;rfl⟩
theorem a1Q  (B:Bl K mg)(Kt:Kit K)(d:DfP K mg "place_at" nH)(C_sum_of:∀ a ns,Cal P w K mg base 3 "sum_of" ["a", "b"] (spM (bK K a ns) 2 nD))(C_product_of:∀ a ns,Cal P w K mg base 3 "product_of" ["a", "b"] (spM (bK K a ns) 2 cY)) :
  ∀ a ns,Cal P w K mg base 4 "place_at" ["line", "time"] (spM (bK K a ns) 2 jY):=by
 obtain⟨f,fd,F,hm⟩:=d;exact fun a ns=>⟨f,fd,a2R F B Kt (C_sum_of a ns) (C_product_of a ns),hm,F.kp,F.binds fun _ _ _ _ _ _ us hl=>by
  obtain⟨_,_,rfl⟩:=ln2 hl;rfl⟩
theorem uV  (B:Bl K mg)(Kt:Kit K)(d:DfP K mg "line_through" gC)(C_difference_of:∀ a ns,Cal P w K mg base 3 "difference_of" ["a", "b"] (spM (bK K a ns) 2 cP))(C_product_of:∀ a ns,Cal P w K mg base 3 "product_of" ["a", "b"] (spM (bK K a ns) 2 cY)) :
  ∀ a ns,Cal P w K mg base 4 "line_through" ["time", "place", "slope"] (spM (bK K a ns) 3 dC):=by
 obtain⟨f,fd,F,hm⟩:=d;exact fun a ns=>⟨f,fd,uU F B Kt (C_difference_of a ns) (C_product_of a ns),hm,F.kp,F.binds fun _ _ _ _ _ _ us hl=>by
  obtain⟨_,_,_,rfl⟩:=ln3 hl;rfl⟩
theorem zO  (B:Bl K mg)(Kt:Kit K)(d:DfP K mg "is_number" lC)(C_greatest_divisor:∀ a ns,Cal P w K mg base 1 "greatest_divisor" ["one", "other"] (spM (bK K a ns) 2 bR))(C_is_whole:∀ a ns,Cal P w K mg base 1 "is_whole" ["thing"] (spM (bK K a ns) 1 cG)) :
  ∀ a ns,Cal P w K mg base 2 "is_number" ["thing"] (spM (bK K a ns) 1 eZ):=by
 obtain⟨f,fd,F,hm⟩:=d;exact fun a ns=>⟨f,fd,zY F B Kt (C_greatest_divisor a ns) (C_is_whole a ns),hm,F.kp,F.binds fun _ _ _ _ _ _ us hl=>by
  obtain⟨_,rfl⟩:=ln1 hl;rfl⟩
theorem a7Y  (B:Bl K mg)(Kt:Kit K)(d:DfP K mg "top_in" t7)(C_whole_in:∀ a ns,Cal P w K mg base 1 "whole_in" ["word"] (spM (bK K a ns) 1 cT)) :
  ∀ a ns,Cal P w K mg base 2 "top_in" ["word"] (spM (bK K a ns) 1 mW):=by
 obtain⟨f,fd,F,hm⟩:=d;exact fun a ns=>⟨f,fd,a7P F B Kt (C_whole_in a ns),hm,F.kp,F.binds fun _ _ _ _ _ _ us hl=>by
  obtain⟨_,rfl⟩:=ln1 hl;rfl⟩
theorem a04  (B:Bl K mg)(Kt:Kit K)(d:DfP K mg "number_in" kJ)(C_is_number:∀ a ns,Cal P w K mg base 2 "is_number" ["thing"] (spM (bK K a ns) 1 eZ))(C_whole_in:∀ a ns,Cal P w K mg base 1 "whole_in" ["word"] (spM (bK K a ns) 1 cT))(C_top_in:∀ a ns,Cal P w K mg base 2 "top_in" ["word"] (spM (bK K a ns) 1 mW)) :
  ∀ a ns,Cal P w K mg base 3 "number_in" ["word"] (spM (bK K a ns) 1 fX):=by
 obtain⟨f,fd,F,hm⟩:=d;exact fun a ns=>⟨f,fd,a0O F B Kt (C_is_number a ns) (C_whole_in a ns) (C_top_in a ns),hm,F.kp,F.binds fun _ _ _ _ _ _ us hl=>by
  obtain⟨_,rfl⟩:=ln1 hl;rfl⟩
theorem a0S  (B:Bl K mg)(Kt:Kit K)(d:DfP K mg "thing_in" nC)(C_number_in:∀ a ns,Cal P w K mg base 3 "number_in" ["word"] (spM (bK K a ns) 1 fX))(C_whole_in:∀ a ns,Cal P w K mg base 1 "whole_in" ["word"] (spM (bK K a ns) 1 cT)) :
  ∀ a ns,Cal P w K mg base 4 "thing_in" ["kind", "word"] (spM (bK K a ns) 2 fB):=by
 obtain⟨f,fd,F,hm⟩:=d;exact fun a ns=>⟨f,fd,a0R F B Kt (C_number_in a ns) (C_whole_in a ns),hm,F.kp,F.binds fun _ _ _ _ _ _ us hl=>by
  obtain⟨_,_,rfl⟩:=ln2 hl;rfl⟩
theorem a0T  (B:Bl K mg)(Kt:Kit K)(d:DfP K mg "parts_in" nJ)(C_thing_in:∀ a ns,Cal P w K mg base 4 "thing_in" ["kind", "word"] (spM (bK K a ns) 2 fB)) :
  ∀ a ns,Cal P w K mg base 5 "parts_in" ["line", "forms"] (spM (bK K a ns) 2 iR):=by
 obtain⟨f,fd,F,hm⟩:=d;exact fun a ns=>⟨f,fd,a2M F B Kt (C_thing_in a ns),hm,F.kp,F.binds fun _ _ _ _ _ _ us hl=>by
  obtain⟨_,_,rfl⟩:=ln2 hl;rfl⟩
theorem a5Z  (B:Bl K mg)(Kt:Kit K)(d:DfP K mg "deed_in" qC)(C_parts_in:∀ a ns,Cal P w K mg base 5 "parts_in" ["line", "forms"] (spM (bK K a ns) 2 iR)) :
  ∀ a ns,Cal P w K mg base 6 "deed_in" ["line"] (spM (bK K a ns) 1 mQ):=by
 obtain⟨f,fd,F,hm⟩:=d;exact fun a ns=>⟨f,fd,a5G F B Kt (C_parts_in a ns),hm,F.kp,F.binds fun _ _ _ _ _ _ us hl=>by
  obtain⟨_,rfl⟩:=ln1 hl;rfl⟩
theorem a1H  (B:Bl K mg)(Kt:Kit K)(d:DfP K mg "lines_in" nO) :
  ∀ a ns,Cal P w K mg base 1 "lines_in" ["text"] (spM (bK K a ns) 1 kE):=by
 obtain⟨f,fd,F,hm⟩:=d;exact fun a ns=>⟨f,fd,a1W F B Kt,hm,F.kp,F.binds fun _ _ _ _ _ _ us hl=>by
  obtain⟨_,rfl⟩:=ln1 hl;rfl⟩
theorem nY  (B:Bl K mg)(Kt:Kit K)(d:DfP K mg "refuse_first_none" dB) :
  ∀ a ns,Cal P w K mg base 1 "refuse_first_none" ["parts"] (spM (bK K a ns) 1 cZ):=by
 obtain⟨f,fd,F,hm⟩:=d;exact fun a ns=>⟨f,fd,nR F B Kt,hm,F.kp,F.binds fun _ _ _ _ _ _ us hl=>by
  obtain⟨_,rfl⟩:=ln1 hl;rfl⟩
theorem vM  (B:Bl K mg)(Kt:Kit K)(d:DfP K mg "show_number" iJ) :
  ∀ a ns,Cal P w K mg base 1 "show_number" ["number"] (spM (bK K a ns) 1 dW):=by
 obtain⟨f,fd,F,hm⟩:=d;exact fun a ns=>⟨f,fd,vG F B Kt,hm,F.kp,F.binds fun _ _ _ _ _ _ us hl=>by
  obtain⟨_,rfl⟩:=ln1 hl;rfl⟩
theorem zK  (B:Bl K mg)(Kt:Kit K)(d:DfP K mg "show_part" lD)(C_show_number:∀ a ns,Cal P w K mg base 1 "show_number" ["number"] (spM (bK K a ns) 1 dW)) :
  ∀ a ns,Cal P w K mg base 2 "show_part" ["part"] (spM (bK K a ns) 1 fW):=by
 obtain⟨f,fd,F,hm⟩:=d;exact fun a ns=>⟨f,fd,yW F B Kt (C_show_number a ns),hm,F.kp,F.binds fun _ _ _ _ _ _ us hl=>by
  obtain⟨_,rfl⟩:=ln1 hl;rfl⟩
theorem yO  (B:Bl K mg)(Kt:Kit K)(d:DfP K mg "show_lines" gD)(C_show_part:∀ a ns,Cal P w K mg base 2 "show_part" ["part"] (spM (bK K a ns) 1 fW)) :
  ∀ a ns,Cal P w K mg base 3 "show_lines" ["things"] (spM (bK K a ns) 1 fD):=by
 obtain⟨f,fd,F,hm⟩:=d;exact fun a ns=>⟨f,fd,xO F B Kt (C_show_part a ns),hm,F.kp,F.binds fun _ _ _ _ _ _ us hl=>by
  obtain⟨_,rfl⟩:=ln1 hl;rfl⟩
theorem a1N  (B:Bl K mg)(Kt:Kit K)(d:DfP K mg "show_log" n6)(C_show_lines:∀ a ns,Cal P w K mg base 3 "show_lines" ["things"] (spM (bK K a ns) 1 fD)) :
  ∀ a ns,Cal P w K mg base 4 "show_log" ["log"] (spM (bK K a ns) 1 iQ):=by
 obtain⟨f,fd,F,hm⟩:=d;exact fun a ns=>⟨f,fd,a2B F B Kt (C_show_lines a ns),hm,F.kp,F.binds fun _ _ _ _ _ _ us hl=>by
  obtain⟨_,rfl⟩:=ln1 hl;rfl⟩
theorem a4U  (B:Bl K mg)(Kt:Kit K)(d:DfP K mg "is_deed" m8)(C_is_deed_number:∀ a ns,Cal P w K mg base 3 "is_deed_number" ["thing"] (spM (bK K a ns) 1 bU))(C_is_whole:∀ a ns,Cal P w K mg base 1 "is_whole" ["thing"] (spM (bK K a ns) 1 cG)) :
  ∀ a ns,Cal P w K mg base 4 "is_deed" ["thing"] (spM (bK K a ns) 1 lX):=by
 obtain⟨f,fd,F,hm⟩:=d;exact fun a ns=>⟨f,fd,a5W F B Kt (C_is_deed_number a ns) (C_is_whole a ns),hm,F.kp,F.binds fun _ _ _ _ _ _ us hl=>by
  obtain⟨_,rfl⟩:=ln1 hl;rfl⟩
theorem xG  (B:Bl K mg)(Kt:Kit K)(d:DfP K mg "_law_lowest" jE) :
  ∀ a ns,Cal P w K mg base 1 "_law_lowest" ["_law_top", "_law_bottom"] (spM (bK K a ns) 2 bY):=by
 obtain⟨f,fd,F,hm⟩:=d;exact fun a ns=>⟨f,fd,wO F B Kt,hm,F.kp,F.binds fun _ _ _ _ _ _ us hl=>by
  obtain⟨_,_,rfl⟩:=ln2 hl;rfl⟩
theorem v7  (B:Bl K mg)(Kt:Kit K)(d:DfP K mg "_law_time_on" iH)(C_law_lowest:∀ a ns,Cal P w K mg base 1 "_law_lowest" ["_law_top", "_law_bottom"] (spM (bK K a ns) 2 bY))(C_law_take:∀ a ns,Cal P w K mg base 1 "_law_take" ["_law_pen", "_law_many"] (spM (bK K a ns) 2 bL)) :
  ∀ a ns,Cal P w K mg base 2 "_law_time_on" ["_law_pen", "_law_time"] (spM (bK K a ns) 2 eE):=by
 obtain⟨f,fd,F,hm⟩:=d;exact fun a ns=>⟨f,fd,vK F B Kt (C_law_lowest a ns) (C_law_take a ns),hm,F.kp,F.binds fun _ _ _ _ _ _ us hl=>by
  obtain⟨_,_,rfl⟩:=ln2 hl;rfl⟩
theorem a05  (B:Bl K mg)(Kt:Kit K)(d:DfP K mg "_law_small" kY)(C_law_lowest:∀ a ns,Cal P w K mg base 1 "_law_lowest" ["_law_top", "_law_bottom"] (spM (bK K a ns) 2 bY))(C_law_take:∀ a ns,Cal P w K mg base 1 "_law_take" ["_law_pen", "_law_many"] (spM (bK K a ns) 2 bL)) :
  ∀ a ns,Cal P w K mg base 2 "_law_small" ["_law_pen"] (spM (bK K a ns) 1 dO):=by
 obtain⟨f,fd,F,hm⟩:=d;exact fun a ns=>⟨f,fd,a0P F B Kt (C_law_lowest a ns) (C_law_take a ns),hm,F.kp,F.binds fun _ _ _ _ _ _ us hl=>by
  obtain⟨_,rfl⟩:=ln1 hl;rfl⟩
theorem a5Q  (B:Bl K mg)(Kt:Kit K)(d:DfP K mg "_law_log" pM)(C_law_take:∀ a ns,Cal P w K mg base 1 "_law_take" ["_law_pen", "_law_many"] (spM (bK K a ns) 2 bL))(C_law_small:∀ a ns,Cal P w K mg base 2 "_law_small" ["_law_pen"] (spM (bK K a ns) 1 dO))(C_law_time_on:∀ a ns,Cal P w K mg base 2 "_law_time_on" ["_law_pen", "_law_time"] (spM (bK K a ns) 2 eE))(C_law_lowest:∀ a ns,Cal P w K mg base 1 "_law_lowest" ["_law_top", "_law_bottom"] (spM (bK K a ns) 2 bY)) :
  ∀ a ns,Cal P w K mg base 3 "_law_log" ["_law_pen", "_law_most"] (spM (bK K a ns) 2 mH):=by
 obtain⟨f,fd,F,hm⟩:=d;exact fun a ns=>⟨f,fd,a4V F B Kt (C_law_take a ns) (C_law_small a ns) (C_law_time_on a ns) (C_law_lowest a ns),hm,F.kp,F.binds fun _ _ _ _ _ _ us hl=>by
  obtain⟨_,_,rfl⟩:=ln2 hl;rfl⟩
theorem a1J  (B:Bl K mg)(Kt:Kit K)(d:DfP K mg "_law_told" n8) :
  ∀ a ns,Cal P w K mg base 1 "_law_told" ["_law_number"] (spM (bK K a ns) 1 iK):=by
 obtain⟨f,fd,F,hm⟩:=d;exact fun a ns=>⟨f,fd,a1U F B Kt,hm,F.kp,F.binds fun _ _ _ _ _ _ us hl=>by
  obtain⟨_,rfl⟩:=ln1 hl;rfl⟩
theorem uC  (B:Bl K mg)(Kt:Kit K)(d:DfP K mg "_law_lines_of" fZ)(C_law_told:∀ a ns,Cal P w K mg base 1 "_law_told" ["_law_number"] (spM (bK K a ns) 1 iK)) :
  ∀ a ns,Cal P w K mg base 2 "_law_lines_of" ["_law_rows"] (spM (bK K a ns) 1 eU):=by
 obtain⟨f,fd,F,hm⟩:=d;exact fun a ns=>⟨f,fd,uI F B Kt (C_law_told a ns),hm,F.kp,F.binds fun _ _ _ _ _ _ us hl=>by
  obtain⟨_,rfl⟩:=ln1 hl;rfl⟩
end
theorem aH7 {l:PySem.W.OpenLaw}{w:World}{K:Fg}{mg:Mg}{fa:Addr}(hfa:mg "law" = some (.ref fa))(B:Bl K mg)(Kt:Kit K)
  (d0:DfP K mg "_law_take" jQ)
  (d1:DfP K mg "is_whole" mX)
  (d2:DfP K mg "greatest_divisor" dJ)
  (d3:DfP K mg "number_of" kO)
  (d4:DfP K mg "sum_of" tL)
  (d5:DfP K mg "difference_of" fK)
  (d6:DfP K mg "product_of" j4)
  (d7:DfP K mg "is_less" pH)
  (d8:DfP K mg "place_at" nH)
  (d9:DfP K mg "line_through" gC)
  (d10:DfP K mg "is_number" lC)
  (d11:DfP K mg "whole_in" mY)
  (d12:DfP K mg "top_in" t7)
  (d13:DfP K mg "number_in" kJ)
  (d14:DfP K mg "thing_in" nC)
  (d15:DfP K mg "parts_in" nJ)
  (d16:DfP K mg "deed_in" qC)
  (d17:DfP K mg "lines_in" nO)
  (d18:DfP K mg "refuse_first_none" dB)
  (d19:DfP K mg "show_number" iJ)
  (d20:DfP K mg "show_part" lD)
  (d21:DfP K mg "show_lines" gD)
  (d22:DfP K mg "show_log" n6)
  (d23:DfP K mg "is_deed_number" gO)
  (d24:DfP K mg "is_deed" m8)
  (d25:DfP K mg "log_of" wX)
  (d26:DfP K mg "read_log" nQ)
  (d27:DfP K mg "_law_lowest" jE)
  (d28:DfP K mg "_law_time_on" iH)
  (d29:DfP K mg "_law_small" kY)
  (d30:DfP K mg "_law_log" pM)
  (d31:DfP K mg "_law_told" n8)
  (d32:DfP K mg "_law_lines_of" fZ)
  (d33:DfP K mg "_law_alike" cL)
  (d34:DfP K mg "law" aCH)
  {c:Addr} (hmF:mg "Field" = some (.ref c)) (cl:Cls K c) (n_running:NoAttr K c "running") (n_joined:NoAttr K c "joined") (n_last:NoAttr K c "last") (mI:InP K c "Field.__init__" xY) (me_add_runner:MeP K c "add_runner" "Field.add_runner" jK) (me_do:MeP K c "do" "Field.do" a7O) (me_allows:MeP K c "allows" "Field.allows" rG) {tk_MOST_RUNNERS:Tok} (hg_MOST_RUNNERS:mg "MOST_RUNNERS" = some (.int 8 tk_MOST_RUNNERS)) {tk_MOST_DEEDS:Tok} (hg_MOST_DEEDS:mg "MOST_DEEDS" = some (.int 40 tk_MOST_DEEDS)) {tk_GREATEST_TOP:Tok} (hg_GREATEST_TOP:mg "GREATEST_TOP" = some (.int 999999999 tk_GREATEST_TOP)) {tk_GREATEST_BOTTOM:Tok} (hg_GREATEST_BOTTOM:mg "GREATEST_BOTTOM" = some (.int 12 tk_GREATEST_BOTTOM)) {tk_FIGURES:Tok} (hg_FIGURES:mg "FIGURES" = some (.str "0123456789" tk_FIGURES)) {tk_MOST_FIGURES:Tok} (hg_MOST_FIGURES:mg "MOST_FIGURES" = some (.int 60 tk_MOST_FIGURES))
  (hL:∀ c,(uE c) (.no::.pen::List.replicate 6 .no) oJ) :
  ∃ fd:FuncData,(∀(s:Shared) (v:Value),BindsTo s fd ⟨[v],[]⟩ [("_law_script", v)])∧∀ base:Heap,K.In base→base.Ns mainGlobals mg→FnOk l.prog w K mg base CX0 8 fa fd ["_law_script"] (aA6 K):=by
 obtain⟨f,fd,F,hm⟩:=d34
 cases hfa.symm.trans hm
 refine⟨fd,?_,fun base _ _=>?_⟩
 ·obtain⟨oc,od,kV,doc,pm,an,cdv,ct,osl,rfl,lk,hcd⟩:=F.ex;exact fun s v=>.of_eq rfl
 obtain⟨fi,fdi,FI,M⟩:=mI;obtain⟨f_add_runner,fd_add_runner,F_add_runner,M_add_runner⟩:=me_add_runner;obtain⟨f_do,fd_do,F_do,M_do⟩:=me_do;obtain⟨f_allows,fd_allows,F_allows,M_allows⟩:=me_allows;have C_law_take:=a2J (P:=l.prog) (w:=w) (base:=base) B Kt d0;have C_is_whole:=a1E (P:=l.prog) (w:=w) (base:=base) B Kt d1;have C_greatest_divisor:=oK (P:=l.prog) (w:=w) (base:=base) B Kt d2;have C_number_of:=a06 (P:=l.prog) (w:=w) (base:=base) B Kt d3 C_greatest_divisor C_is_whole;have C_sum_of:=a74 (P:=l.prog) (w:=w) (base:=base) B Kt d4 C_number_of;have C_difference_of:=sW (P:=l.prog) (w:=w) (base:=base) B Kt d5 C_number_of;have C_product_of:=xF (P:=l.prog) (w:=w) (base:=base) B Kt d6 C_number_of;have C_is_less:=a4M (P:=l.prog) (w:=w) (base:=base) B Kt d7;have C_place_at:=a1Q (P:=l.prog) (w:=w) (base:=base) B Kt d8 C_sum_of C_product_of;have C_line_through:=uV (P:=l.prog) (w:=w) (base:=base) B Kt d9 C_difference_of C_product_of;have C_is_number:=zO (P:=l.prog) (w:=w) (base:=base) B Kt d10 C_greatest_divisor C_is_whole;obtain⟨f2_whole_in,fd2_whole_in,F2_whole_in,hm2_whole_in⟩:=d11;have C_whole_in:∀ a ns,Cal l.prog w K mg base 1 "whole_in" ["word"] (spM (bK K a ns) 1 cT):=fun a ns=>⟨f2_whole_in,fd2_whole_in,a2G hg_FIGURES hg_MOST_FIGURES F2_whole_in B Kt,hm2_whole_in,F2_whole_in.kp,(F2_whole_in.binds (ps:=["word"]) fun _ _ _ _ _ _ us hl=>by
  obtain⟨_,rfl⟩:=ln1 hl;rfl)⟩
 have C_top_in:=a7Y (P:=l.prog) (w:=w) (base:=base) B Kt d12 C_whole_in;have C_number_in:=a04 (P:=l.prog) (w:=w) (base:=base) B Kt d13 C_is_number C_whole_in C_top_in;have C_thing_in:=a0S (P:=l.prog) (w:=w) (base:=base) B Kt d14 C_number_in C_whole_in;have C_parts_in:=a0T (P:=l.prog) (w:=w) (base:=base) B Kt d15 C_thing_in;have C_deed_in:=a5Z (P:=l.prog) (w:=w) (base:=base) B Kt d16 C_parts_in;have C_lines_in:=a1H (P:=l.prog) (w:=w) (base:=base) B Kt d17;have C_refuse_first_none:=nY (P:=l.prog) (w:=w) (base:=base) B Kt d18;have C_show_number:=vM (P:=l.prog) (w:=w) (base:=base) B Kt d19;have C_show_part:=zK (P:=l.prog) (w:=w) (base:=base) B Kt d20 C_show_number;have C_show_lines:=yO (P:=l.prog) (w:=w) (base:=base) B Kt d21 C_show_part;have C_show_log:=a1N (P:=l.prog) (w:=w) (base:=base) B Kt d22 C_show_lines;obtain⟨f2_is_deed_number,fd2_is_deed_number,F2_is_deed_number,hm2_is_deed_number⟩:=d23;have C_is_deed_number:∀ a ns,Cal l.prog w K mg base 3 "is_deed_number" ["thing"] (spM (bK K a ns) 1 bU):=fun a ns=>⟨f2_is_deed_number,fd2_is_deed_number,qZ hg_GREATEST_TOP hg_GREATEST_BOTTOM F2_is_deed_number B Kt (C_is_number a ns),hm2_is_deed_number,F2_is_deed_number.kp,(F2_is_deed_number.binds (ps:=["thing"]) fun _ _ _ _ _ _ us hl=>by
  obtain⟨_,rfl⟩:=ln1 hl;rfl)⟩
 have C_is_deed:=a4U (P:=l.prog) (w:=w) (base:=base) B Kt d24 C_is_deed_number C_is_whole;have O_add_runner:=fun(a:Addr) (ns:List Int)=>tO (P0:=(bK K a ns)) (P:=l.prog) (w:=w) (mg:=mg) (base:=base) cl n_running n_joined n_last F_add_runner B Kt;have B_add_runner:Binds K fd_add_runner ["self", "line"] []:=(F_add_runner.binds (ps:=["self", "line"]) fun _ _ _ _ _ _ us hl=>by
  obtain⟨_,_,rfl⟩:=ln2 hl;rfl)
 have O_do:=fun(a:Addr) (ns:List Int)=>aEE (P0:=(bK K a ns)) (P:=l.prog) (w:=w) (mg:=mg) (base:=base) cl n_running n_joined n_last M_add_runner (O_add_runner a ns) B_add_runner F_do B Kt (C_line_through a ns) (C_place_at a ns);have B_do:Binds K fd_do ["self", "deed"] []:=(F_do.binds (ps:=["self", "deed"]) fun _ _ _ _ _ _ us hl=>by
  obtain⟨_,_,rfl⟩:=ln2 hl;rfl)
 have O_allows:=fun(a:Addr) (ns:List Int)=>a1G (P0:=(bK K a ns)) (P:=l.prog) (w:=w) (mg:=mg) (base:=base) cl n_running n_joined n_last hg_MOST_RUNNERS F_allows B Kt (C_is_less a ns);have B_allows:Binds K fd_allows ["self", "deed"] []:=(F_allows.binds (ps:=["self", "deed"]) fun _ _ _ _ _ _ us hl=>by
  obtain⟨_,_,rfl⟩:=ln2 hl;rfl)
 obtain⟨f2_log_of,fd2_log_of,F2_log_of,hm2_log_of⟩:=d25;have C_log_of:∀ a ns,Cal l.prog w K mg base 6 "log_of" ["thing"] (spM (bK K a ns) 1 (pJ c)):=fun a ns=>⟨f2_log_of,fd2_log_of,a8G (c:=c) cl n_running n_joined n_last hmF M (a66 (P:=l.prog) (w:=w) (mg:=mg) (base:=base) cl n_running n_joined n_last FI B) (FI.binds (ps:=["self"]) fun _ _ _ _ _ _ us hl=>by
  obtain⟨_,rfl⟩:=ln1 hl;rfl) M_allows (O_allows a ns) B_allows M_do (O_do a ns) B_do hg_MOST_DEEDS F2_log_of B Kt (C_is_deed a ns),hm2_log_of,F2_log_of.kp,(F2_log_of.binds (ps:=["thing"]) fun _ _ _ _ _ _ us hl=>by
  obtain⟨_,rfl⟩:=ln1 hl;rfl)⟩
 obtain⟨f2_read_log,fd2_read_log,F2_read_log,hm2_read_log⟩:=d26;have C_read_log:∀ a ns,Cal l.prog w K mg base 7 "read_log" ["text"] (spM (bK K a ns) 1 (iM c)):=fun a ns=>⟨f2_read_log,fd2_read_log,a1Z (c:=c) F2_read_log B Kt (C_log_of a ns) (C_refuse_first_none a ns) (C_lines_in a ns) (C_deed_in a ns),hm2_read_log,F2_read_log.kp,(F2_read_log.binds (ps:=["text"]) fun _ _ _ _ _ _ us hl=>by
  obtain⟨_,rfl⟩:=ln1 hl;rfl)⟩
 have C_law_lowest:=xG (P:=l.prog) (w:=w) (base:=base) B Kt d27;have C_law_time_on:=v7 (P:=l.prog) (w:=w) (base:=base) B Kt d28 C_law_lowest C_law_take;have C_law_small:=a05 (P:=l.prog) (w:=w) (base:=base) B Kt d29 C_law_lowest C_law_take;have C_law_log:=a5Q (P:=l.prog) (w:=w) (base:=base) B Kt d30 C_law_take C_law_small C_law_time_on C_law_lowest;have C_law_told:=a1J (P:=l.prog) (w:=w) (base:=base) B Kt d31;have C_law_lines_of:=uC (P:=l.prog) (w:=w) (base:=base) B Kt d32 C_law_told;obtain⟨f2_law_alike,fd2_law_alike,F2_law_alike,hm2_law_alike⟩:=d33;have B2_law_alike:Binds K fd2_law_alike ["_law_told_here", "_law_due"] []:=(F2_law_alike.binds (ps:=["_law_told_here", "_law_due"]) fun _ _ _ _ _ _ us hl=>by
  obtain⟨_,_,rfl⟩:=ln2 hl;rfl)
 have C_law_alike:∀ a ns,Cal l.prog w K mg base 5 "_law_alike" ["_law_told_here", "_law_due"] (spM (bK K a ns) 2 iZ):=fun a ns=>by
  have R0_law_alike:Cal l.prog w K mg base 1 "_law_alike" ["_law_told_here", "_law_due"] (spM (bK K a ns) 2 iG):=aG2 hm2_law_alike F2_law_alike.kp B2_law_alike;have R1_law_alike:Cal l.prog w K mg base 2 "_law_alike" ["_law_told_here", "_law_due"] (spM (bK K a ns) 2 eF):=⟨f2_law_alike,fd2_law_alike,vN F2_law_alike B Kt R0_law_alike,hm2_law_alike,F2_law_alike.kp,B2_law_alike⟩;have R2_law_alike:Cal l.prog w K mg base 3 "_law_alike" ["_law_told_here", "_law_due"] (spM (bK K a ns) 2 dZ):=⟨f2_law_alike,fd2_law_alike,vB F2_law_alike B Kt R1_law_alike,hm2_law_alike,F2_law_alike.kp,B2_law_alike⟩;have R3_law_alike:Cal l.prog w K mg base 4 "_law_alike" ["_law_told_here", "_law_due"] (spM (bK K a ns) 2 dX):=⟨f2_law_alike,fd2_law_alike,v6 F2_law_alike B Kt R2_law_alike,hm2_law_alike,F2_law_alike.kp,B2_law_alike⟩;have R4_law_alike:Cal l.prog w K mg base 5 "_law_alike" ["_law_told_here", "_law_due"] (spM (bK K a ns) 2 iI):=⟨f2_law_alike,fd2_law_alike,vC F2_law_alike B Kt R3_law_alike,hm2_law_alike,F2_law_alike.kp,B2_law_alike⟩;exact R4_law_alike
 exact aFG F B Kt  C_read_log C_show_log C_law_alike C_law_lines_of C_law_log C_law_take (hL _)
theorem walk {l:PySem.W.OpenLaw}{q:Program}{loose:List Str}{XP:Mg→Heap→Prop}{YP:World→Heap→Prop}{d:DefRec}{K:Params→Fg}(hn:l.most=some 63)(hdf:d.params.defaults=[])
  (hY:∀(w:World) (h:Heap),YP w h→(K w.params).In h)
  (F:∀(w:World) (mg:Mg) (fa:Addr) (h:Heap),(K w.params).In h→h.Ns mainGlobals mg→mg d.name=some (.ref fa) →
   ∃ fd:FuncData,(∀(s:Shared) (u:Value),BindsTo s fd ⟨[u],[]⟩ [("_law_script", u)])∧∀ base:Heap,(K w.params).In base→base.Ns mainGlobals mg→FnOk l.prog w (K w.params) mg base CX0 8 fa fd ["_law_script"] (aA6 (K w.params))) :
  PySem.W.WalkO q loose XP YP l.row.toRowW d [] (fun f vs=>PySem.call f vs):=
 L2.aDW (n:=63) (k:=8) (x := "_law_script") (CX:=fun _=>CX0) (sp:=fun w=>aA6 (K w.params)) hn (by decide) hdf ⟨rfl,by decide,by decide⟩ hY F (fun _ _ a ns hl _ hS=>⟨a,ns,rfl,hS,hl,fun _=>rfl⟩) fun _ _ _ _ _ z=>z
end My
def PySem.W.Fast.tw12172880080320467504:Unit:=()
def PySem.W.Fast.tw13987160062199922284:Unit:=()
def PySem.W.Fast.tw17507045817730793387:Unit:=()
def PySem.W.Fast.tw427787792174276937:Unit:=()
def PySem.W.Fast.tw5619244183474195960:Unit:=()
def PySem.W.Fast.tw5659641267773145082:Unit:=()
def PySem.W.Fast.tw6222246553520495940:Unit:=()
def PySem.W.Fast.tw6243485652959913188:Unit:=()
def PySem.W.Fast.tw6635529738166661302:Unit:=()
def PySem.W.Fast.tw7443417152312902071:Unit:=()
def PySem.W.Fast.tw14225803878497760183:Unit:=()
def PySem.W.Fast.tw1669262556172064339:Unit:=()
def PySem.W.Fast.tw9758401958161342299:Unit:=()
def PySem.W.Fast.tw2774164865746854028:Unit:=()
def PySem.W.Fast.tw4074701327713927884:Unit:=()
def PySem.W.Fast.tw7304461085065068187:Unit:=()
open PySem PySem.W PyProof.Rows
set_option maxRecDepth 100000 in
set_option maxHeartbeats 0 in
theorem PySem.Challenge.cw_leadtimes_k42_logs_written_holds : PySem.Challenge.rw_leadtimes_k42_logs_written.Holds := by
 w_on; o_law; k_head; (case hw => w_witness2)
 k_fill
 refine My.walk (l := PySem.Challenge.rw_leadtimes_k42_logs_written) rfl rfl (fun w h Y => PySem.W.kIn_of Y) ?F
 case F =>
  intro w mg fa h KX G hmg
  refine' My.aH7 hmg (My.aJZ KX G ?x0 ?x1 ?x2 ?x3 ?x4 ?x5 ?x6 ?x7 ?x8 ?x9 ?xa ?xb ?xc ?xd ?xe ?xf ?xg ?xh ?xi ?xj) (My.aH0 ?xk ?xl ?xm ?xn ?xo ?xp ?xq ?xj ?xr ?xs ?xt ?xu ?xv ?xi ?xw ?xx ?xy ?xz ?x10 ?x11 ?x12 ?x13 ?x14 ?x15 ?x16 ?x17 ?x18 ?x19 ?x1a ?x1b ?x1c ?x1d ?x1e ?x1f ?x1g ?x1h ?x1i ?x1j ?x1k ?x1l ?x1m ?x1n) (My.dR KX G ?x1o ?x1p ?x1q ?x1r) (My.dR KX G ?x1s ?x1t ?x1u ?x1v) (My.dR KX G ?x1w ?x1x ?x1y ?x1z) (My.dR KX G ?x20 ?x21 ?x22 ?x23) (My.dR KX G ?x24 ?x25 ?x26 ?x27) (My.dR KX G ?x28 ?x29 ?x2a ?x2b) (My.dR KX G ?x2c ?x2d ?x2e ?x2f) (My.dR KX G ?x2g ?x2h ?x2i ?x2j) (My.dR KX G ?x2k ?x2l ?x2m ?x2n) (My.dR KX G ?x2o ?x2p ?x2q ?x2r) (My.dR KX G ?x2s ?x2t ?x2u ?x2v) (My.dR KX G ?x2w ?x2x ?x2y ?x2z) (My.dR KX G ?x30 ?x31 ?x32 ?x33) (My.dR KX G ?x34 ?x35 ?x36 ?x37) (My.dR KX G ?x38 ?x39 ?x3a ?x3b) (My.dR KX G ?x3c ?x3d ?x3e ?x3f) (My.dR KX G ?x3g ?x3h ?x3i ?x3j) (My.dR KX G ?x3k ?x3l ?x3m ?x3n) (My.dR KX G ?x3o ?x3p ?x3q ?x3r) (My.dR KX G ?x3s ?x3t ?x3u ?x3v) (My.dR KX G ?x3w ?x3x ?x3y ?x3z) (My.dR KX G ?x40 ?x41 ?x42 ?x43) (My.dR KX G ?x44 ?x45 ?x46 ?x47) (My.dR KX G ?x48 ?x49 ?x4a ?x4b) (My.dR KX G ?x4c ?x4d ?x4e ?x4f) (My.dR KX G ?x4g ?x4h ?x4i ?x4j) (My.dR KX G ?x4k ?x4l ?x4m ?x4n) (My.dR KX G ?x4o ?x4p ?x4q ?x4r) (My.dR KX G ?x4s ?x4t ?x4u ?x4v) (My.dR KX G ?x4w ?x4x ?x4y ?x4z) (My.dR KX G ?x50 ?x51 ?x52 ?x53) (My.dR KX G ?x54 ?x55 ?x56 ?x57) (My.dR KX G ?x58 ?x59 ?x5a ?x5b) (My.dR KX G ?x5c ?x5d ?x5e ?x5f) (My.dR KX G ?x5g ?x5h ?x5i ?x5j) (PySem.W.mg_of KX G ?x5k) ⟨?x5l, ?x5m, ?x5n, ?x5o⟩ (My.aDP ?x5p) (My.aDP ?x5q) (My.aDP ?x5r) (My.aKH ?x5s ?x5t ?x5u ?x5v ?x5w ?x5x ?x5y) (My.aDD ?x5z ?x60 ?x61 ?x62 ?x63) (My.aDD ?x64 ?x65 ?x66 ?x67 ?x68) (My.aDD ?x69 ?x6a ?x6b ?x6c ?x6d) (PySem.W.mg_of KX G ?x6e) (PySem.W.mg_of KX G ?x6f) (PySem.W.mg_of KX G ?x6g) (PySem.W.mg_of KX G ?x6h) (PySem.W.mg_of KX G ?x6i) (PySem.W.mg_of KX G ?x6j) My.law_true
  (case x5k|x5l|x5m|x5n|x5o|x5p|x5q|x5r|x5s|x5t|x5u|x5v|x5w|x5x|x5y|x5z|x60|x61|x62|x63|x64|x65|x66|x67|x68|x69|x6a|x6b|x6c|x6d|x6e|x6f|x6g|x6h|x6i|x6j|x1o|x1p|x1q|x1r|x1s|x1t|x1u|x1v|x1w|x1x|x1y|x1z|x20|x21|x22|x23|x24|x25|x26|x27|x28|x29|x2a|x2b|x2c|x2d|x2e|x2f|x2g|x2h|x2i|x2j|x2k|x2l|x2m|x2n|x2o|x2p|x2q|x2r|x2s|x2t|x2u|x2v|x2w|x2x|x2y|x2z|x30|x31|x32|x33|x34|x35|x36|x37|x38|x39|x3a|x3b|x3c|x3d|x3e|x3f|x3g|x3h|x3i|x3j|x3k|x3l|x3m|x3n|x3o|x3p|x3q|x3r|x3s|x3t|x3u|x3v|x3w|x3x|x3y|x3z|x40|x41|x42|x43|x44|x45|x46|x47|x48|x49|x4a|x4b|x4c|x4d|x4e|x4f|x4g|x4h|x4i|x4j|x4k|x4l|x4m|x4n|x4o|x4p|x4q|x4r|x4s|x4t|x4u|x4v|x4w|x4x|x4y|x4z|x50|x51|x52|x53|x54|x55|x56|x57|x58|x59|x5a|x5b|x5c|x5d|x5e|x5f|x5g|x5h|x5i|x5j|x0|x1|x2|x3|x4|x5|x6|x7|x8|x9|xa|xb|xc|xd|xe|xf|xg|xh => k_is)
  (case xk|xl|xm|xn|xo|xp|xq|xj|xr|xs|xt|xu|xv|xi|xw|xx|xy|xz|x10|x11|x12|x13|x14|x15|x16|x17|x18|x19|x1a|x1b|x1c|x1d|x1e|x1f|x1g|x1h|x1i|x1j|x1k|x1l|x1m|x1n => kit_is)
#print axioms PySem.Challenge.cw_leadtimes_k42_logs_written_holds
