import PyProof.Rows.All
import Wide.All
import OpenK.AllK
import Wide.FinOn
import Lean
import PyProof.EqAt
import PyProof.EqKinds
import PyProof.TupleCall
import PyProof.P3Eq
import PyProof.P3In
import PyProof.NeData
import PyProof.FitsBits
import PyProof.StrCalls2
import PyProof.CallStr
import PyProof.SliceStr2
import PyProof.StrWalks
import PyProof.FString
import PyProof.StrBlockI
import PyProof.StrLawsTight
import PyProof.StrLawsIn
import PyProof.StrLawsIdx
import PyProof.StrLawsChain
import PyProof.TupleOfSeq
import PyProof.DictTable
import KE.KIntText
import PySem.Challenge.RW_leadtimes_k41_numbers_written
open List (all_eq_true append_assoc append_nil cons_ne_nil contains_cons filterMap_cons forIn_cons getElem?_append_left getElem?_append_right getElem?_eq_getElem getElem?_map getElem?_replicate getElem?_set_ne getElem?_set_self getElem_mem length_append length_cons length_map length_replicate length_set lookup_cons map_cons map_nil mem_append mem_append_left mem_append_right mem_cons mem_cons_of_mem mem_cons_self mem_filterMap mem_of_getElem? mem_range mem_singleton nil_append nodup_cons not_mem_nil of_mem_zip set_comm size_toArray)
open PySem.W (callWith_K cellsFrom_some clsIn codeIn excIn findCls findIn fnOf handedIn hasDictIn hideAll hideAll_get hideAll_none instObj kIn_of keepIn kia_one kitAny kitOne kitx_dict kitx_list lookIn looks_findIn methodObj mg_none_of mg_of mroIn notCls nsIn of_hideAll osa_eq plainGet readsIn specialIn tailIn typeIn)
open Nat (le_of_lt le_refl le_trans log2_lt lt_irrefl lt_of_lt_of_le lt_trans mod_lt ne_of_gt ne_of_lt not_lt pow_le_pow_right zero_le)
open PySem.Heap (get?_push_of_some get?_push_size get?_update_other get?_update_self lt_size)
open Option (isSome_iff_exists)
open Int (emod_lt_of_pos emod_nonneg eq_nat_or_neg natAbs_natCast one_mul)
open Bool (and_eq_true eq_false_iff false_eq_true)
open Array (length_toList toList_append toList_inj)
noncomputable section
set_option compiler.extract_closed false
set_option Elab.async false
set_option linter.all false
set_option maxRecDepth 100000
namespace L2
open PySem PySem.Spec PyProof.Rows
abbrev Key:=Sum Int Str
noncomputable def keyIs:Key→Value→Bool
 | .inl k,v=>Value.isInt k v
 | .inr x,v=>Value.isStrOf x v
noncomputable def keyH (w:World):Key→Int
 | .inl k=>hashInt k
 | .inr x=>hashStr w x
theorem bU:∀{k:Key} {v:Value},keyIs k v=true→(∃ i t,k=Sum.inl i∧v=Value.int i t)∨(∃ x t,k=Sum.inr x∧v=Value.str x t)
 | .inl i,v,h=>by
  obtain⟨t,e⟩:=Value.isInt_shape (k:=i) (v:=v) h;exact .inl ⟨i,t,rfl,e⟩
 | .inr x,v,h=>by
  obtain⟨t,e⟩:=Value.isStrOf_shape (x:=x) (v:=v) h;exact .inr ⟨x,t,rfl,e⟩
theorem key_ll (a b:Int):decide ((Sum.inl a:Key)=Sum.inl b)=(a==b):=by
 by_cases e:a=b
 ·subst e; simp
 ·have h:¬(Sum.inl a:Key)=Sum.inl b:=fun q=>e (Sum.inl.inj q);rw[decide_eq_false h];exact(beq_eq_false_iff_ne.mpr e).symm
theorem key_rr (a b:Str):decide ((Sum.inr a:Key)=Sum.inr b)=decide (a=b):=by
 by_cases e:a=b
 ·subst e; simp
 ·have h:¬(Sum.inr a:Key)=Sum.inr b:=fun q=>e (Sum.inr.inj q);rw[decide_eq_false h,decide_eq_false e]
theorem key_lr (a:Int)(b:Str):decide ((Sum.inl a:Key)=Sum.inr b)=false:=decide_eq_false (fun q=>nomatch q)
theorem key_rl (a:Str)(b:Int):decide ((Sum.inr a:Key)=Sum.inl b)=false:=decide_eq_false (fun q=>nomatch q)
noncomputable def mixKind (prog:Program)(w:World):PySem.KeyKind prog w Key where
 is:=keyIs
 hash:=keyH w
 inj:=fun v a b ha hb=>by
  rcases bU ha with⟨i,t,rfl,rfl⟩|⟨x,t,rfl,rfl⟩
  ·rcases bU hb with⟨j,u,rfl,e⟩|⟨y,u,rfl,e⟩
   ·injection e with e1 _; rw[e1]
   ·exact nomatch e
  ·rcases bU hb with⟨j,u,rfl,e⟩|⟨y,u,rfl,e⟩
   ·exact nomatch e
   ·injection e with e1 _; rw[e1]
 byValue:=fun k v h=>by
  rcases bU h with⟨i,t,rfl,rfl⟩|⟨x,t,rfl,rfl⟩<;>rfl
 pyHash:=fun hv h=>by
  rcases bU hv with⟨i,t,rfl,rfl⟩|⟨x,t,rfl,rfl⟩
  ·exact wpAny_pyHash_int h
  ·exact wpAny_pyHash_str h
 eqBool:=fun hu hv h=>by
  rcases bU hu with⟨i,t,rfl,rfl⟩|⟨x,t,rfl,rfl⟩
  ·rcases bU hv with⟨j,u,rfl,rfl⟩|⟨y,u,rfl,rfl⟩
   ·rw[key_ll] at h; exact wpAny_eqBool_int h
   ·rw[key_lr] at h; exact SeqAt.EqAt.int_str i t y u _ _ _ _ h
  ·rcases bU hv with⟨j,u,rfl,rfl⟩|⟨y,u,rfl,rfl⟩
   ·rw[key_rl] at h; exact SeqAt.EqAt.str_int x t j u _ _ _ _ h
   ·rw[key_rr] at h; exact wpAny_eqBool_str h
 «strs»:=fun k x t v h=>by
  rcases bU h with⟨i,u,rfl,e⟩|⟨y,u,rfl,e⟩
  ·exact nomatch e
  ·injection e with e1 _;subst e1
   cases v<;>rfl
theorem mixKind_is (prog:Program)(w:World)(k:Key)(v:Value):(mixKind prog w).is k v=keyIs k v:=rfl
end L2
namespace L2
open PySem PySem.Spec PyProof.Rows
inductive V where
 | non|bl (b:Bool)|int (i:Int)|str (x:Str)|byt (b:Array UInt8)|flt (b:UInt64)|ref (a:Addr)|ty (n:String)
 deriving DecidableEq
noncomputable def RelV:V→Value→Prop
 | .non,u=>u=Value.none
 | .bl b,u=>u=Value.bool b
 | .int i,u=>∃ t,u=Value.int i t
 | .str x,u=>∃ t,u=Value.str x t
 | .byt b,u=>∃ t,u=Value.bytes b t
 | .flt b,u=>∃ t,u=Value.float b t
 | .ref a,u=>u=Value.ref a
 | .ty n,u=>u=Value.type n
abbrev Vals:List V→List Value→Prop:=Paired RelV
theorem Vals.length {xs:List V}{us:List Value}(r:Vals xs us):xs.length=us.length:=Paired.length r
theorem Vals.get:∀{xs:List V} {us:List Value} {i:Nat} {x:V},Vals xs us→xs[i]?=some x→∃ u,us[i]?=some u∧RelV x u
 | _,_,_,_,.nil,e=>by simp at e
 | _,_,0,_,.cons r _,e=>by simp at e; subst e; exact⟨_,rfl,r⟩
 | _,_,i+1,x,.cons _ t,e=>by
  obtain⟨u,h1,h2⟩:=Vals.get (i:=i) (x:=x) t (by simpa using e);exact⟨u,by simpa using h1,h2⟩
theorem Vals.set {x:V}{u:Value}(r:RelV x u):∀{xs:List V} {us:List Value} (i:Nat),Vals xs us→Vals (xs.set i x) (us.set i u)
 | _,_,_,.nil=>.nil
 | _,_,0,.cons _ t=>.cons r t
 | _,_,i+1,.cons q t=>.cons q (Vals.set r i t)
theorem Vals.append:∀{xs ys:List V} {us ws:List Value},Vals xs us→Vals ys ws→Vals (xs++ys) (us++ws):=by
 intro xs ys us ws h q
 induction h with
 | nil=>exact q
 | cons r t ih=>exact .cons r ih
noncomputable def RelO:Option V→Option Value→Prop
 | some v,some u=>RelV v u
 | none,none=>True
 | _,_=>False
noncomputable def KV {κ:Type}:List (κ×V)→List (κ×Value)→Prop:=Paired fun(p:κ×V) (q:κ×Value)=>p.1=q.1∧RelV p.2 q.2
noncomputable def kV:Key→V
 | .inl i=>.int i
 | .inr x=>.str x
inductive HO where
 | lst (xs:List V)
 | tup (xs:List V)
 | dK (kvs:List (Key×V))|dT (kvs:List (List Key×V))
 | set (S:Int→Bool) (n:Nat)
 | ins (C dx:Addr) (fs:List (Str×V))
 | own (x:Addr)
 | xd (fs:List (Str×V))
 | met (f x:Addr)
 | rng (lo hi:Int)
 | frz (o:Obj) (u:HO)
 | tbl (ps:Array Value)
 | ext (φ:Heap→Prop)
abbrev Hp:=Addr→Option HO
noncomputable def upd (H:Hp)(a:Addr)(o:HO):Hp:=fun b=>if b=a then some o else H b
theorem aO {H:Hp}{a:Addr}{o:HO}:upd H a o a=some o:=by unfold upd; rw[if_pos rfl]
theorem aR {H:Hp}{a b:Addr}{o:HO}(h:b≠a):upd H a o b=H b:=by unfold upd; rw[if_neg h]
theorem aZ {H:Hp}{a b:Addr}{o:HO}(h:H a=some o)(h':H b=none):a≠b:=by
 intro e; subst e; rw[h] at h'; cases h'
section
variable (P:Program)(w:World)
noncomputable def ObjOk (H:Hp)(h:Heap)(a:Addr):HO→Prop
 | .lst xs=>xs.length≤sizeLine∧∃(its:List Value) (n:Nat),Vals xs its∧h.get? a=some { cls:=.type "list", data:=.seq its.toArray n }
 | .tup xs=>xs.length≤sizeLine∧∃ its:List Value,Vals xs its∧IsTup h a its.toArray
 | .dK kvs=>kvs.length≤sizeLine∧(a==sysModules)=false∧∃ vs,KV kvs vs∧h.DictOf (mixKind P w) a vs
 | .dT kvs=>kvs.length≤sizeLine∧(a==sysModules)=false∧∃ xs:List (List Key×Addr×Value),
   Paired (fun(p:List Key×V) (q:List Key×Addr×Value)=>p.1=q.1∧H q.2.1=some (.tup (p.1.map kV))∧RelV p.2 q.2.2) kvs xs ∧
   ∃ o es ep,h.get? a=some o∧o.ExactDict∧o.data=.dict es ep∧es.toList=xs.map (entryOfKey (tupleKind (mixKind P w)))∧(xs.map (·.1)).Nodup
 | .set S n=>h.SetOf (intKind P w) a S n
 | .ins C dx fs=>H dx=some (.own a)∧fs.length≤1000∧dx≠a∧h.get? a=some (instObj C dx) ∧
   ∃ mA,h.Ns1 dx mA∧(∀ f,RelO (fs.lookup f) (mA f))∧PySem.Within mA (fs.map (·.1))
 | .own _=>∃ o,h.get? a=some o
 | .xd fs=>∃ mA,h.Ns1 a mA∧∀ f,RelO (fs.lookup f) (mA f)
 | .rng lo hi=>∃ t u v,h.get? a=some { cls:=.type "range", data:=.fields #[.int lo t,.int hi u,.int 1 v] }
 | .frz o u=>h.get? a=some o∧ObjOk H h a u
 | .tbl ps=>h.get? a=some { cls:=.none,data:=.fields ps }
 | .met f x=>h.get? a=some (methodObj (.ref f) (.ref x))
 | .ext φ=>φ h∧(∃ o,h.get? a=some o)∧∀ h1 h2:Heap,φ h1→(∀ o,h1.get? a=some o→h2.get? a=some o)→φ h2
noncomputable def HOk (H:Hp)(h:Heap):Prop:=∀ a o,H a=some o→ObjOk P w H h a o
end
section
variable {P:Program}{w:World}{H H':Hp}{h h':Heap}{a:Addr}{o:HO}
theorem ObjOk.lt (x:ObjOk P w H h a o):a<h.objs.size:=by
 cases o with
 | lst xs=>obtain⟨_,_,_,_,e⟩:=x; exact lt_size e
 | tup xs=>obtain⟨_,_,_,p⟩:=x; exact p.lt
 | dK kvs=>obtain⟨_,_,_,_,o,_,_,e,_⟩:=x; exact lt_size e
 | dT kvs=>obtain⟨_,_,_,_,o,_,_,e,_⟩:=x; exact lt_size e
 | set S n=>obtain⟨o,_,_,_,e,_⟩:=x; exact lt_size e
 | ins C dx fs=>obtain⟨_,_,_,e,_⟩:=x; exact lt_size e
 | own y=>obtain⟨_,e⟩:=x; exact lt_size e
 | xd fs=>obtain⟨_,⟨_,_,_,e,_⟩,_⟩:=x; exact lt_size e
 | rng lo hi=>obtain⟨_,_,_,e⟩:=x; exact lt_size e
 | frz ob u=>obtain⟨e,_⟩:=x; exact lt_size e
 | tbl ps=>exact lt_size (show h.get? a=some _ from x)
 | met f y=>exact lt_size (show h.get? a=some _ from x)
 | ext φ=>obtain⟨_,⟨_,e⟩,_⟩:=x; exact lt_size e
theorem Paired.mapP {α β:Type}{F G:α→β→Prop}:∀{l₁:List α} {l₂:List β},Paired F l₁ l₂→(∀ a b,F a b→G a b)→Paired G l₁ l₂:=by
 intro l₁ l₂ h f
 induction h with
 | nil=>exact .nil
 | cons r t ih=>exact .cons (f _ _ r) ih
theorem Paired.imp' {α β:Type}{F G:α→β→Prop}(f:∀ a b,F a b→G a b){l₁:List α}{l₂:List β}(r:Paired F l₁ l₂):Paired G l₁ l₂:=Paired.mapP r f
theorem ObjOk.stay (x:ObjOk P w H h a o)(k:∀ b u,(b=a∨H b=some (.own a))→h.get? b=some u→h'.get? b=some u)
  (ho:∀ b,H b=some (.own a)→H' b=some (.own a)) (ht:∀ b xs,H b=some (.tup xs)→H' b=some (.tup xs)):ObjOk P w H' h' a o:=by
 induction o with
 | lst xs=>obtain⟨z,its,n,r,e⟩:=x; exact⟨z,its,n,r,k _ _ (.inl rfl) e⟩
 | tup xs=>obtain⟨z,its,r,ob,e,c⟩:=x; exact⟨z,its,r,ob,k _ _ (.inl rfl) e,c⟩
 | dK kvs=>obtain⟨z,y,vs,r,ob,es,ep,e,c⟩:=x; exact⟨z,y,vs,r,ob,es,ep,k _ _ (.inl rfl) e,c⟩
 | dT kvs=>
  obtain⟨z,y,xs,r,ob,es,ep,e,c⟩:=x;exact⟨z,y,xs,Paired.mapP r fun p q z=>⟨z.1,ht _ _ z.2.1,z.2.2⟩,ob,es,ep,k _ _ (.inl rfl) e,c⟩
 | set S n=>obtain⟨ob,es,ep,t,e,c⟩:=x; exact⟨ob,es,ep,t,k _ _ (.inl rfl) e,c⟩
 | ins C dx fs=>
  obtain⟨d,z,ne,e,mA,⟨od,es,ep,e2,c⟩,r⟩:=x;exact⟨ho _ d,z,ne,k _ _ (.inl rfl) e,mA,⟨od,es,ep,k _ _ (.inr d) e2,c⟩,r⟩
 | own y=>obtain⟨ob,e⟩:=x; exact⟨ob,k _ _ (.inl rfl) e⟩
 | xd fs=>obtain⟨mA,⟨od,es,ep,e,c⟩,r⟩:=x; exact⟨mA,⟨od,es,ep,k _ _ (.inl rfl) e,c⟩,r⟩
 | rng lo hi=>obtain⟨t,u,v,e⟩:=x; exact⟨t,u,v,k _ _ (.inl rfl) e⟩
 | frz ob u ih=>obtain⟨e,q⟩:=x; exact⟨k _ _ (.inl rfl) e,ih q⟩
 | tbl ps=>
  have e:h.get? a=some { cls:=.none,data:=.fields ps }:=x;show h'.get? a=some { cls:=.none,data:=.fields ps };exact k a _ (.inl rfl) e
 | met f y=>
  have e:h.get? a=some (methodObj (.ref f) (.ref y)):=x;show h'.get? a=some (methodObj (.ref f) (.ref y));exact k a _ (.inl rfl) e
 | ext φ=>obtain⟨p,⟨o,e⟩,st⟩:=x; exact⟨st _ _ p fun o q=>k _ _ (.inl rfl) q,⟨o,k _ _ (.inl rfl) e⟩,st⟩
theorem HOk.lt (x:HOk P w H h)(e:H a=some o):a<h.objs.size:=(x a o e).lt
theorem HOk.fresh (x:HOk P w H h)(e:h.objs.size≤a):H a=none:=by
 cases q:H a with
 | none=>rfl
 | some u=>exact absurd (lt_of_lt_of_le (x.lt q) e) (lt_irrefl _)
theorem HOk.kept (x:HOk P w H h)(k:∀ b u,h.get? b=some u→h'.get? b=some u):HOk P w H h':=fun a o e=>
 (x a o e).stay (fun b u _ q=>k b u q) (fun _ q=>q) fun _ _ q=>q
theorem HOk.laid (x:HOk P w H h)(k:∀ b u,h.get? b=some u→h'.get? b=some u)(hp:h.objs.size≤a)(new:ObjOk P w (upd H a o) h' a o):HOk P w (upd H a o) h':=fun b u e=>by
 have hn:=x.fresh hp
 by_cases hb:b=a
 ·subst hb; rw[aO] at e; cases e; exact new
 ·rw[aR hb] at e;exact(x b u e).stay (fun c v _ q=>k c v q) (fun c q=>by rw[aR (aZ q hn)]; exact q) fun c xs q=>by rw[aR (aZ q hn)]; exact q
end
noncomputable def Rd (H:Hp)(a:Addr)(u:HO):Prop:=H a=some u∨∃ o,H a=some (.frz o u)
theorem Rd.ok {P:Program}{w:World}{H:Hp}{h:Heap}{a:Addr}{u:HO}(r:Rd H a u)(x:HOk P w H h):ObjOk P w H h a u:=by
 rcases r with r|⟨o,r⟩
 ·exact x a u r
 ·obtain⟨_,q⟩:=x a _ r;exact q
noncomputable def Mut:Option HO→Prop
 | some (.lst _)=>True
 | some (.dK _)=>True
 | some (.dT _)=>True
 | some (.set _ _)=>True
 | some (.ins _ _ _)=>True
 | some (.ext _)=>True
 | _=>False
section
variable {P:Program}{w:World}{H:Hp}{h h':Heap}{x e:Addr}{o':HO}
theorem HOk.write (ok:HOk P w H h)(mu:Mut (H x))(he:e=x∨H e=some (.own x))(k:∀ b u,b≠e→h.get? b=some u→h'.get? b=some u)(heo:∃ u,h'.get? e=some u)
  (new:ObjOk P w (upd H x o') h' x o'):HOk P w (upd H x o') h':=fun b u q=>by
 have nown:∀ c y,H c=some (.own y)→c≠x:=fun c y r z=>by subst z; rw[r] at mu; exact mu
 have ntup:∀ c xs,H c=some (.tup xs)→c≠x:=fun c xs r z=>by subst z; rw[r] at mu; exact mu
 by_cases hb:b=x
 ·subst hb; rw[aO] at q; cases q; exact new
 ·rw[aR hb] at q
  by_cases hbe:b=e
  ·have q':H b=some (.own x):=by
    rcases he with z|z
    ·exact absurd (hbe.trans z) hb
    ·rw[hbe]; exact z
   rw[q] at q'; cases q';obtain⟨v,hv⟩:=heo;exact⟨v,by rw[hbe]; exact hv⟩
  ·refine(ok b u q).stay (fun c v hc r=>k c v ?_ r) (fun c r=>by rw[aR (nown c b r)]; exact r) fun c xs r=>by rw[aR (ntup c xs r)]; exact r
   rcases hc with rfl|hc
   ·exact hbe
   ·rintro rfl;rcases he with z|z
    ·exact nown c b hc z
    ·rw[hc] at z; cases z; exact hb rfl
end
structure Un (fs ex:List Addr)(H H':Hp)(h h':Heap):Prop where
 keep:∀ b o,h.get? b=some o→H b=none→b∉fs→b∉ex→h'.get? b=some o
 slot:∀ b o,h.get? b=some o→H b=none→b∈fs→b∉ex→∃ sl,h'.get? b=some { o with slots:=sl }
 free:∀ b o,h.get? b=some o→H b=none→b∉ex→H' b=none
 there:∀ b o,h.get? b=some o→b∉ex→∃ o',h'.get? b=some o'
 tups:∀ b xs,H b=some (.tup xs)→H' b=some (.tup xs)
 frzs:∀ b o u,H b=some (.frz o u)→H' b=some (.frz o u)
 tbls:∀ b ps,H b=some (.tbl ps)→∃ more,H' b=some (.tbl (ps++more))
section
variable {fs fs' ex ex':List Addr}{H H1 H2:Hp}{h h1 h2 h':Heap}{a x e:Addr}{o:HO}
theorem Un.any (u:Un fs ex H H1 h h1){b:Addr}{ob:Obj}(q:h.get? b=some ob)(n:H b=none)(hx:b∉ex):∃ sl,h1.get? b=some { ob with slots:=sl }:=by
 by_cases hb:b∈fs
 ·exact u.slot b ob q n hb hx
 ·exact⟨ob.slots,u.keep b ob q n hb hx⟩
theorem Un.kept (k:∀ b u,h.get? b=some u→h'.get? b=some u):Un fs ex H H h h':=
 ⟨fun b ob q _ _ _=>k b ob q,fun b ob q _ _ _=>⟨ob.slots,k b ob q⟩,fun _ _ _ n _=>n,fun b ob q _=>⟨ob,k b ob q⟩,fun _ _ q=>q,fun _ _ _ q=>q,fun _ ps q=>⟨#[],by rw[q]; simp⟩⟩
theorem Un.refl:Un fs ex H H h h:=Un.kept fun _ _ q=>q
theorem Un.laid (k:∀ b u,h.get? b=some u→h'.get? b=some u)(hp:h.objs.size≤a)(hn:H a=none):Un fs ex H (upd H a o) h h' where
 keep:=fun b u q _ _ _=>k b u q
 slot:=fun b u q _ _ _=>⟨u.slots,k b u q⟩
 free:=fun b u q n _=>by rw[aR (ne_of_lt (lt_of_lt_of_le (lt_size q) hp))]; exact n
 there:=fun b u q _=>⟨u,k b u q⟩
 tups:=fun b xs q=>by rw[aR (aZ q hn)]; exact q
 frzs:=fun b u xs q=>by rw[aR (aZ q hn)]; exact q
 tbls:=fun b ps q=>⟨#[],by rw[aR (aZ q hn),q]; simp⟩
theorem Un.write (mu:Mut (H x))(he:e=x∨H e=some (.own x))(k:∀ b u,b≠e→h.get? b=some u→h'.get? b=some u)(heo:∃ u,h'.get? e=some u):Un fs ex H (upd H x o) h h':=by
 have hx:∀ b,H b=none→b≠x:=fun b n z=>by subst z; rw[n] at mu; exact mu
 have hb:∀ b,H b=none→b≠e:=fun b n z=>by
  subst z;rcases he with r|r
  ·exact hx b n r
  ·rw[n] at r; cases r
 have hm:∀ b u,H b=some u→¬Mut (some u)→b≠x:=fun b u q nm z=>by subst z; rw[q] at mu; exact nm mu
 refine⟨fun b u q n _ _=>k b u (hb b n) q,fun b u q n _ _=>⟨u.slots,k b u (hb b n) q⟩,fun b u q n _=>by rw[aR (hx b n)]; exact n,fun b u q _=>?_,
  fun b xs q=>by rw[aR (hm b _ q fun z=>z)]; exact q,fun b u xs q=>by rw[aR (hm b _ q fun z=>z)]; exact q,fun b ps q=>⟨#[],by rw[aR (hm b _ q fun z=>z),q]; simp⟩⟩
 by_cases hbe:b=e
 ·subst hbe; exact heo
 ·exact⟨u,k b u hbe q⟩
end
noncomputable def trk (h:Heap)(H:Hp):List Addr:=(List.range h.objs.size).filter fun a=>(H a).isSome
noncomputable def hidT (h:Heap)(H:Hp):Heap:=hideAll h (trk h H)
theorem hidT_size (h:Heap)(H:Hp):(hidT h H).objs.size=h.objs.size:=PySem.W.hideAll_size _ _
theorem hidT_get {h:Heap}{H:Hp}{b:Addr}{o:Obj}(e:h.get? b=some o)(n:H b=none):(hidT h H).get? b=some o:=
 hideAll_get _ e fun hm=>by
  have q:(H b).isSome=true:=(List.mem_filter.mp hm).2;rw[n] at q; simp at q
theorem of_hidT {h:Heap}{H:Hp}{b:Addr}{o:Obj}(e:(hidT h H).get? b=some o):h.get? b=some o∧H b=none:=by
 have e':h.get? b=some o:=of_hideAll (trk h H) e;refine⟨e',?_⟩
 cases q:H b with
 | none=>rfl
 | some x=>
  have hm:b∈trk h H:=List.mem_filter.mpr ⟨mem_range.mpr (lt_size e'),by simp[q]⟩;have z:(hidT h H).get? b=none:=hideAll_none (trk h H) hm;rw[z] at e; cases e
end L2
namespace L2
open PySem PySem.Spec PyProof.Rows
structure Mod (K:PySem.W.Frag)(mg:Str→Option Value)(base:Heap):Prop where
 kin:K.In base
 glob:base.Ns mainGlobals mg
 blt:∃ mb,base.Ns builtinsNs mb∧∀ x:Str,x ≠ "__name__" → mb x=bootBuiltins x
 nolimit:base.NoLimit
structure Cx where
 prog:Program
 w:World
 K:PySem.W.Frag
 mg:Str→Option Value
 base:Heap
 A:Around
 N:List Str
 s₀:Shared
 H₀:Hp
 env:Env
 outer:List Env
 stack:List Env
 ex:List Addr
 fn:Str→Bool
 calm:Bool
 pn:List (Addr×Obj)
 xe:Value→Shared→Prop
noncomputable def frs (l:List Env):List Addr:=l.filterMap (·.frame)
abbrev Cx.fs (X:Cx):List Addr:=frs X.outer
noncomputable def Vis (sc:Scope)(x:Str):Prop:=sc.names.lookup x=some .local∨sc.names.lookup x=some .cell∨sc.names.lookup x=some .free
noncomputable def Loc (sc:Scope)(x:Str):Prop:=sc.names.lookup x=some .local∨sc.names.lookup x=some .cell
noncomputable def Look (env:Env)(h:Heap)(m:Str→Option Value)(x:Str)(u:Value):Prop:=
 (env.kindOf x=some .local∧m x=some u)∨((env.kindOf x=some .cell∨env.kindOf x=some .free)∧∃ c,env.cells.lookup x=some c∧h.IsCell c (some u))
structure Cx.Ok (X:Cx):Prop where
 mod:Mod X.K X.mg X.base
 kind:X.env.scope.kind=.function
 glob:X.env.globals=mainGlobals
 blt:X.env.builtins=builtinsNs
 above:X.s₀.heap.objs.size≤X.env.locals
 inj:∀ x y c,X.env.cells.lookup x=some c→X.env.cells.lookup y=some c→x=y
 has:∀ x,(X.env.kindOf x=some .cell∨X.env.kindOf x=some .free)→∃ c,X.env.cells.lookup x=some c
 cab:∀ x c,X.fn x=true→X.env.cells.lookup x=some c→X.s₀.heap.objs.size≤c
 hd:X.calm=true→X.A.handled=none
 frames:X.A.frames=some X.stack
 stk:X.stack=X.outer∨(X.stack=X.env::X.outer∧X.env.frame=some X.env.locals)
 exf:∀ b∈X.ex,b≠X.env.locals∧∀ x c,X.env.cells.lookup x=some c→c≠b
 bs:∀ b o,X.base.get? b=some o→X.s₀.heap.get? b=some o∧X.H₀ b=none
 bsz:X.base.objs.size≤X.s₀.heap.objs.size
 noex:∀ b o,X.base.get? b=some o→b∉X.ex
 exfs:∀ b∈X.ex,b∉X.fs
 funs:X.s₀.heap.FunFrames X.base X.outer
 frf:∀ b∈X.fs,X.H₀ b=none
structure Inv (X:Cx)(pins:List (Addr×Obj))(σ:List (Option V))(H:Hp)(s:Shared):Prop where
 ok:X.Ok
 os:s.os=X.s₀.os
 bare:AllBare s.gens
 base:Un X.fs X.ex X.H₀ H X.s₀.heap s.heap
 loc:∃ m,s.heap.Ns X.env.locals m∧∀(i:Nat) (x:Str) (v:V),X.N[i]?=some x→σ[i]?=some (some v)→Vis X.env.scope x→∃ u,RelV v u∧Look X.env s.heap m x u
 cell:∀ x c,X.env.cells.lookup x=some c→∃ v,s.heap.IsCell c v
 free:H X.env.locals=none
 freeC:∀ x c,X.env.cells.lookup x=some c→H c=none
 pin:∀ p∈X.pn++pins,s.heap.get? p.1=some p.2∧H p.1=none∧p.1≠X.env.locals∧p.1∉X.fs∧∀ v,p.2.data≠.cell v
 hok:HOk X.prog X.w H s.heap
 len:σ.length=X.N.length
section
variable {X:Cx}{pins:List (Addr×Obj)}{σ:List (Option V)}{H H':Hp}{s:Shared}{h':Heap}
theorem Cx.Ok.nofr (ok:X.Ok){b:Addr}{o:Obj}(e:X.base.get? b=some o):b∉X.fs:=fun hb=>by
 have:=(ok.funs.mem hb).1;rw[e] at this; cases this
theorem Inv.bs (I:Inv X pins σ H s):∀ b o,X.base.get? b=some o→s.heap.get? b=some o∧H b=none:=fun b o e=>
 ⟨I.base.keep b o (I.ok.bs b o e).1 (I.ok.bs b o e).2 (I.ok.nofr e) (I.ok.noex b o e),I.base.free b o (I.ok.bs b o e).1 (I.ok.bs b o e).2 (I.ok.noex b o e)⟩
theorem Inv.bk (I:Inv X pins σ H s):∀ b o,X.base.get? b=some o→s.heap.get? b=some o:=fun b o e=>(I.bs b o e).1
theorem Inv.mod (I:Inv X pins σ H s):Mod X.K X.mg X.base:=I.ok.mod
theorem Inv.kIn (I:Inv X pins σ H s):X.K.In s.heap:=I.ok.mod.kin.keeps I.bk
theorem Inv.fr (I:Inv X pins σ H s):∃ m,Fr X.base X.env.locals s.heap m:=
 let ⟨m,hn,_⟩:=I.loc
 ⟨m,hn,I.bk,le_trans I.ok.bsz I.ok.above⟩
theorem Inv.lt (I:Inv X pins σ H s):X.env.locals<s.heap.objs.size:=let ⟨_,hn,_⟩:=I.loc; hn.lt
theorem Inv.sz (I:Inv X pins σ H s):X.s₀.heap.objs.size≤s.heap.objs.size:=le_trans I.ok.above (le_of_lt I.lt)
theorem Inv.nofs (I:Inv X pins σ H s){a:Addr}(h:s.heap.objs.size≤a):a∉X.fs:=fun hb=>by
 obtain⟨_,o,ho,_⟩:=I.ok.funs.mem hb;exact absurd (lt_of_lt_of_le (lt_size ho) (le_trans I.sz h)) (lt_irrefl _)
theorem Inv.cne (I:Inv X pins σ H s):∀ x c,X.env.cells.lookup x=some c→c≠X.env.locals:=fun x c e z=>by
 obtain⟨v,o,ho,hd⟩:=I.cell x c e;obtain⟨m,⟨o',es,ep,ho',hd',_⟩,_⟩:=I.loc;rw[z,ho'] at ho; cases ho; rw[hd'] at hd; cases hd
theorem Inv.funs (I:Inv X pins σ H s):s.heap.FunFrames X.base X.outer:=by
 have all:∀(l:List Env),(∀ b∈frs l,b∈X.fs)→X.s₀.heap.FunFrames X.base l→s.heap.FunFrames X.base l:=by
  intro l
  induction l with
  | nil=>intro _ _; trivial
  | cons env r ih=>
   intro hs hl;obtain⟨hk,⟨L,o,hf,hn,ho,hd⟩,hr⟩:=hl;have hL:L∈X.fs:=hs L (by unfold frs; rw[filterMap_cons,hf]; exact mem_cons_self);obtain⟨sl,e⟩:=I.base.slot L o ho (I.ok.frf L hL) hL fun z=>I.ok.exfs L z hL;exact⟨hk,⟨L,_,hf,hn,e,hd⟩,ih (fun b hb=>hs b (by unfold frs; rw[filterMap_cons,hf]; exact mem_cons_of_mem _ hb)) hr⟩
 exact all X.outer (fun _ hb=>hb) I.ok.funs
theorem Inv.stack (I:Inv X pins σ H s):s.heap.FunFrames X.base X.stack:=by
 rcases I.ok.stk with e|⟨e,hf⟩
 ·rw[e]; exact I.funs
 ·rw[e];obtain⟨m,hn,_⟩:=I.loc;refine .cons (by rw[I.ok.kind]; decide) hf hn ?_ I.funs;exact Heap.get?_none_of_le (le_trans I.ok.bsz I.ok.above)
theorem Inv.stkSub (I:Inv X pins σ H s):∀ b∈frs X.stack,b∈X.env.locals::X.fs:=fun b hb=>by
 rcases I.ok.stk with e|⟨e,hf⟩
 ·rw[e] at hb; exact mem_cons_of_mem _ hb
 ·rw[e] at hb;unfold frs at hb;rw[filterMap_cons,hf] at hb;exact hb
theorem Inv.stkFree (I:Inv X pins σ H s):∀ b∈frs X.stack,H b=none:=fun b hb=>by
 rcases mem_cons.mp (I.stkSub b hb) with e|hb
 ·rw[e]; exact I.free
 ·obtain⟨_,o,ho,_⟩:=I.ok.funs.mem hb;exact I.base.free b o ho (I.ok.frf b hb) fun z=>I.ok.exfs b z hb
theorem Inv.step {g':Array GenState}{t':Nat}{d':Drawn}{ch:List Addr}(I:Inv X pins σ H s)
  (hch:∀ b∈ch,(b∈X.ex∨X.s₀.heap.objs.size≤b)∧b≠X.env.locals∧(∀ x c,X.env.cells.lookup x=some c→c≠b)∧∀ p∈X.pn++pins,p.1≠b)
  (keep:∀ b o,b≠X.env.locals→b∉X.fs→b∉ch→s.heap.get? b=some o→H b=none→h'.get? b=some o)
  (slot:∀ b o,b≠X.env.locals→b∈X.fs→b∉ch→s.heap.get? b=some o→H b=none→∃ sl,h'.get? b=some { o with slots:=sl }) (free:∀ b o,b∉ch→s.heap.get? b=some o→H b=none→H' b=none)
  (there:∀ b o,b∉ch→s.heap.get? b=some o→∃ o',h'.get? b=some o')
  (tups:∀ b xs,H b=some (.tup xs)→H' b=some (.tup xs)) (frzs:∀ b o u,H b=some (.frz o u)→H' b=some (.frz o u)) (tbls:∀ b ps,H b=some (.tbl ps)→∃ more,H' b=some (.tbl (ps++more)))
  (ns:∀ m,s.heap.Ns X.env.locals m→h'.Ns X.env.locals m) (hok:HOk X.prog X.w H' h') (hg:AllBare g') :
  Inv X pins σ H' { s with heap:=h',gens:=g',drawn:=d',toks:=t' }:=by
 have neL:∀ b o,X.s₀.heap.get? b=some o→b≠X.env.locals:=fun b o e=>ne_of_lt (lt_of_lt_of_le (lt_size e) I.ok.above);have neC:∀ b o,X.s₀.heap.get? b=some o→b∉X.ex→b∉ch:=fun b o e hx hb=>by
  rcases(hch b hb).1 with z|z
  ·exact hx z
  ·exact absurd (lt_of_lt_of_le (lt_size e) z) (lt_irrefl _)
 have cellK:∀ x c,X.env.cells.lookup x=some c→∀ v,s.heap.IsCell c v→h'.IsCell c v:=fun x c e v ⟨o,ho,hd⟩=>by
  have nch:c∉ch:=fun z=>(hch c z).2.2.1 x c e rfl
  by_cases hc:c∈X.fs
  ·obtain⟨sl,q⟩:=slot c o (I.cne x c e) hc nch ho (I.freeC x c e);exact⟨_,q,hd⟩
  ·exact⟨o,keep c o (I.cne x c e) hc nch ho (I.freeC x c e),hd⟩
 refine⟨I.ok,I.os,hg,⟨fun b o e n hb hx=>?_,fun b o e n hb hx=>?_,fun b o e n hx=>?_,fun b o e hx=>?_,fun b xs e=>tups b xs (I.base.tups b xs e),fun b o xs e=>frzs b o xs (I.base.frzs b o xs e),fun b ps e=>?_⟩,?_,fun x c e=>?_,?_,fun x c e=>?_,fun p hp=>?_,hok,I.len⟩
 ·exact keep b o (neL b o e) hb (neC b o e hx) (I.base.keep b o e n hb hx) (I.base.free b o e n hx)
 ·obtain⟨sl,e1⟩:=I.base.slot b o e n hb hx;obtain⟨sl',e2⟩:=slot b _ (neL b o e) hb (neC b o e hx) e1 (I.base.free b o e n hx);exact⟨sl',e2⟩
 ·obtain⟨o',e1⟩:=I.base.there b o e hx;exact free b o' (neC b o e hx) e1 (I.base.free b o e n hx)
 ·obtain⟨o',e1⟩:=I.base.there b o e hx;exact there b o' (neC b o e hx) e1
 ·obtain⟨m1,e1⟩:=I.base.tbls b ps e;obtain⟨m2,e2⟩:=tbls b _ e1;exact⟨m1++m2,by rw[e2,Array.append_assoc]⟩
 ·obtain⟨m,hn,hl⟩:=I.loc;refine⟨m,ns m hn,fun i x v e1 e2 e3=>?_⟩;obtain⟨u,r,l⟩:=hl i x v e1 e2 e3;refine⟨u,r,?_⟩;rcases l with l|⟨k,c,e,z⟩
  ·exact .inl l
  ·exact .inr ⟨k,c,e,cellK x c e _ z⟩
 ·obtain⟨v,z⟩:=I.cell x c e;exact⟨v,cellK x c e v z⟩
 ·obtain⟨m,⟨o,_,_,ho,_⟩,_⟩:=I.loc;exact free _ o (fun z=>(hch _ z).2.1 rfl) ho I.free
 ·obtain⟨v,o,ho,hd⟩:=I.cell x c e;exact free c o (fun z=>(hch c z).2.2.1 x c e rfl) ho (I.freeC x c e)
 ·obtain⟨e,n,ne,nf,d⟩:=I.pin p hp;have nch:p.1∉ch:=fun z=>(hch p.1 z).2.2.2 p hp rfl;exact⟨keep p.1 p.2 ne nf nch e n,free p.1 p.2 nch e n,ne,nf,d⟩
theorem Inv.un {t':Nat}(I:Inv X pins σ H s)(u:Un X.fs [] H H' s.heap h')(hok:HOk X.prog X.w H' h'):Inv X pins σ H' { s with heap:=h',toks:=t' }:=by
 obtain⟨m,⟨o,es,ep,ho,r⟩,_⟩:=id I.loc;obtain⟨sl,hL⟩:=u.any ho I.free (by simp);exact I.step (g':=s.gens) (d':=s.drawn) (ch:=[]) (fun _ z=>nomatch z) (fun b o _ hb _ e n=>u.keep b o e n hb (by simp)) (fun b o _ hb _ e n=>u.slot b o e n hb (by simp)) (fun b o _ e n=>u.free b o e n (by simp)) (fun b o _ e=>u.there b o e (by simp)) u.tups u.frzs u.tbls (fun m' hm=>by
  obtain⟨o',es',ep',ho',r'⟩:=hm;rw[ho] at ho'; cases ho';exact⟨_,es',ep',hL,r'⟩) hok I.bare
theorem Inv.call {g':Array GenState}{t':Nat}{d':Drawn}{ch:List Addr}(I:Inv X pins σ H s)(u:Un (frs X.stack) ch H H' s.heap h')(hok:HOk X.prog X.w H' h')(hg:AllBare g')
  (hch:∀ b∈ch,(b∈X.ex∨X.s₀.heap.objs.size≤b)∧b≠X.env.locals∧(∀ x c,X.env.cells.lookup x=some c→c≠b)∧∀ p∈X.pn++pins,p.1≠b) :
  Inv X pins σ H' { s with heap:=h',gens:=g',drawn:=d',toks:=t' }:=by
 obtain⟨m,⟨o,es,ep,ho,r⟩,_⟩:=id I.loc;obtain⟨sl,hL⟩:=u.any ho I.free fun z=>(hch _ z).2.1 rfl;exact I.step (ch:=ch) hch (fun b o hL hb hc e n=>u.keep b o e n (fun z=>(mem_cons.mp (I.stkSub b z)).elim hL hb) hc) (fun b o _ _ hc e n=>u.any e n hc) (fun b o hc e n=>u.free b o e n hc) (fun b o hc e=>u.there b o e hc) u.tups u.frzs u.tbls (fun m' hm=>by
  obtain⟨o',es',ep',ho',r'⟩:=hm;rw[ho] at ho'; cases ho';exact⟨_,es',ep',hL,r'⟩) hok hg
theorem Inv.turned {t':Nat}{it:Addr}(I:Inv X pins σ H s)(k:∀ b o,b≠it→s.heap.get? b=some o→h'.get? b=some o)(hn:H it=none)(hL:it≠X.env.locals)
  (h1:it∈X.ex∨X.s₀.heap.objs.size≤it) (h2:∀ x c,X.env.cells.lookup x=some c→c≠it) (h3:∀ p∈X.pn++pins,p.1≠it):Inv X pins σ H { s with heap:=h',toks:=t' }:=by
 have nit:∀ b u,H b=some u→b≠it:=fun b u e z=>by rw[z,hn] at e; cases e
 refine I.step (g':=s.gens) (d':=s.drawn) (ch:=[it]) (fun b hb=>?_) (fun b o _ _ hc e _=>k b o (fun z=>hc (by simp[z])) e) (fun b o _ _ hc e _=>⟨o.slots,k b o (fun z=>hc (by simp[z])) e⟩) (fun _ _ _ _ n=>n)
  (fun b o hc e=>⟨o,k b o (fun z=>hc (by simp[z])) e⟩) (fun _ _ e=>e) (fun _ _ _ e=>e) (fun b ps e=>⟨#[],by rw[e]; simp⟩) (fun m hm=>?_) (fun b u e=>?_) I.bare
 ·have e:b=it:=by simpa using hb
  subst e;exact⟨h1,hL,h2,h3⟩
 ·obtain⟨o,es,ep,ho,r⟩:=hm;exact⟨o,es,ep,k _ o (Ne.symm hL) ho,r⟩
 ·refine(I.hok b u e).stay (fun c v hc q=>k c v ?_ q) (fun _ q=>q) fun _ _ q=>q;rcases hc with z|z
  ·rw[z]; exact nit b u e
  ·exact nit c _ z
theorem Inv.tok (I:Inv X pins σ H s)(t:Nat):Inv X pins σ H { s with toks:=t }:=I.un (h':=s.heap) (t':=t) Un.refl I.hok
theorem Inv.kept {t':Nat}(I:Inv X pins σ H s)(k:∀ b u,s.heap.get? b=some u→h'.get? b=some u):Inv X pins σ H { s with heap:=h',toks:=t' }:=I.un (Un.kept k) (I.hok.kept k)
theorem Inv.laid {a:Addr}{o:HO}{t':Nat}(I:Inv X pins σ H s)(k:∀ b u,s.heap.get? b=some u→h'.get? b=some u)(hp:s.heap.objs.size≤a)(new:ObjOk X.prog X.w (upd H a o) h' a o) :
  Inv X pins σ (upd H a o) { s with heap:=h',toks:=t' }:=I.un (Un.laid k hp (I.hok.fresh hp)) (I.hok.laid k hp new)
theorem Inv.write {x e:Addr}{o:HO}{t':Nat}(I:Inv X pins σ H s)(mu:Mut (H x))(he:e=x∨H e=some (.own x))(k:∀ b u,b≠e→s.heap.get? b=some u→h'.get? b=some u)(heo:∃ u,h'.get? e=some u)
  (new:ObjOk X.prog X.w (upd H x o) h' x o):Inv X pins σ (upd H x o) { s with heap:=h',toks:=t' }:=I.un (Un.write mu he k heo) (I.hok.write mu he k heo new)
theorem Inv.weak {σ':List (Option V)}(I:Inv X pins σ H s)(hl:σ'.length=σ.length)(w:∀(i:Nat) v,σ'[i]?=some (some v)→σ[i]?=some (some v)):Inv X pins σ' H s:=
 ⟨I.ok,I.os,I.bare,I.base,let ⟨m,hn,hl'⟩:=I.loc; ⟨m,hn,fun i x v e1 e2 e3=>hl' i x v e1 (w i v e2) e3⟩,I.cell,I.free,I.freeC,I.pin,I.hok,hl.trans I.len⟩
theorem Inv.pins_of {pins':List (Addr×Obj)}(I:Inv X pins σ H s)(h:∀ p∈pins',s.heap.get? p.1=some p.2∧H p.1=none∧p.1≠X.env.locals∧p.1∉X.fs∧∀ v,p.2.data≠.cell v):Inv X pins' σ H s:=
 ⟨I.ok,I.os,I.bare,I.base,I.loc,I.cell,I.free,I.freeC,fun p hp=>(mem_append.mp hp).elim (fun z=>I.pin p (mem_append_left _ z)) (h p),I.hok,I.len⟩
theorem nodup_ix {N:List Str}(hN:N.Nodup){i j:Nat}{x:Str}(a:N[i]?=some x)(b:N[j]?=some x):i=j:=by
 obtain⟨h1,e1⟩:=List.getElem?_eq_some_iff.mp a;obtain⟨h2,e2⟩:=List.getElem?_eq_some_iff.mp b;exact(List.getElem_inj hN).mp (e1.trans e2.symm)
theorem store_ok2 {M:Model}{A:Around}{E:Value→Shared→Prop}{i:Nat}{x:Str}{v:V}{u:Value}{Q:Unit→Shared→Prop}(I:Inv X pins σ H s)(hN:X.N.Nodup)(hi:X.N[i]?=some x)(hx:Loc X.env.scope x)(r:RelV v u)
  (h:∀ s',Inv X pins (σ.set i (some v)) H s'→(∃ a,Heap.SameBut a s.heap s'.heap∧(a=X.env.locals∨X.env.cells.lookup x=some a))→Q () s') (hf:X.fn x=true∨X.env.scope.names.lookup x=some .local:=by first|exact .inl rfl|exact .inr rfl|assumption):wpAny M A (storeName X.env x u) Q E s:=by
 obtain⟨m,hn,hl⟩:=id I.loc;have hcls:(X.env.scope.kind==.class||(X.env.scope.kind==.module&&X.env.locals != X.env.globals))=false:=by rw[I.ok.kind]; rfl
 have hiσ:i<σ.length:=by rw[I.len]; exact(List.getElem?_eq_some_iff.mp hi).1
 have cne:=I.cne;have tracked:∀{a:Addr} {h':Heap},(∃ o,s.heap.get? a=some o∧H a=none)→Heap.SameBut a s.heap h'→HOk X.prog X.w H h':=fun{a h'} ha hs b ob e=>by
  obtain⟨_,_,hfree⟩:=ha;refine(I.hok b ob e).stay (fun c w' hc q=>(hs.2 c ?_).trans q) (fun _ q=>q) fun _ _ q=>q;rintro rfl;rcases hc with rfl|hc
  ·rw[hfree] at e; cases e
  ·rw[hfree] at hc; cases hc
 rcases hx with hk|hk
 ·refine wpAny_storeName_local hk hn (fun h' hn' hs=>?_) hcls;obtain⟨oL,_,_,hoL,_⟩:=id hn;refine h _ ⟨I.ok,I.os,I.bare,⟨fun b o e n hb hx=>?_,fun b o e n hb hx=>?_,I.base.free,fun b o e hx=>?_,I.base.tups,I.base.frzs,I.base.tbls⟩,⟨_,hn',fun j y v' e1 e2 e3=>?_⟩,fun y c e=>?_,I.free,I.freeC,fun p hp=>?_,tracked ⟨oL,hoL,I.free⟩ hs,by simpa using I.len⟩ ⟨_,hs,.inl rfl⟩
  ·exact(hs.2 b (ne_of_lt (lt_of_lt_of_le (lt_size e) I.ok.above))).trans (I.base.keep b o e n hb hx)
  ·obtain⟨sl,e1⟩:=I.base.slot b o e n hb hx;exact⟨sl,(hs.2 b (ne_of_lt (lt_of_lt_of_le (lt_size e) I.ok.above))).trans e1⟩
  ·obtain⟨o',e1⟩:=I.base.there b o e hx;exact⟨o',(hs.2 b (ne_of_lt (lt_of_lt_of_le (lt_size e) I.ok.above))).trans e1⟩
  ·by_cases hj:j=i
   ·subst hj;rw[hi] at e1; cases e1;rw[getElem?_set_self hiσ] at e2
    cases e2
    exact⟨u,r,.inl ⟨hk,by simp⟩⟩
   ·rw[getElem?_set_ne (Ne.symm hj)] at e2;obtain⟨u',r',q⟩:=hl j y v' e1 e2 e3;refine⟨u',r',?_⟩;rcases q with⟨k,e⟩|⟨k,c,e,z⟩
    ·refine .inl ⟨k,?_⟩;have:y≠x:=fun e=>hj (nodup_ix hN e1 (e▸hi));simp[this,e]
    ·exact .inr ⟨k,c,e,z.sameBut hs (cne y c e)⟩
  ·obtain⟨w',z⟩:=I.cell y c e;exact⟨w',z.sameBut hs (cne y c e)⟩
  ·obtain⟨e,n,ne,nf,d⟩:=I.pin p hp;exact⟨(hs.2 p.1 ne).trans e,n,ne,nf,d⟩
 ·have hfn:X.fn x=true:=by
   rcases hf with z|z
   ·exact z
   ·rw[z] at hk; cases hk
  obtain⟨c,hc⟩:=I.ok.has x (.inl hk);obtain⟨w',z⟩:=I.cell x c hc;refine wpAny_storeName_cell I.ok.kind hk hc z (fun h' hc' hs=>?_);obtain⟨oc,hoc,hocd⟩:=id z;refine h { s with heap:=h' } ⟨I.ok,I.os,I.bare,⟨fun b o e n hb hx=>?_,fun b o e n hb hx=>?_,I.base.free,fun b o e hx=>?_,I.base.tups,I.base.frzs,I.base.tbls⟩,⟨m,hn.sameBut hs (Ne.symm (cne x c hc)),fun j y v' e1 e2 e3=>?_⟩,fun y c' e=>?_,I.free,I.freeC,fun p hp=>?_,tracked ⟨oc,hoc,I.freeC x c hc⟩ hs,by simpa using I.len⟩ ⟨c,hs,.inr hc⟩
  ·exact(hs.2 b (ne_of_lt (lt_of_lt_of_le (lt_size e) (I.ok.cab x c hfn hc)))).trans (I.base.keep b o e n hb hx)
  ·obtain⟨sl,e1⟩:=I.base.slot b o e n hb hx;exact⟨sl,(hs.2 b (ne_of_lt (lt_of_lt_of_le (lt_size e) (I.ok.cab x c hfn hc)))).trans e1⟩
  ·obtain⟨o',e1⟩:=I.base.there b o e hx;exact⟨o',(hs.2 b (ne_of_lt (lt_of_lt_of_le (lt_size e) (I.ok.cab x c hfn hc)))).trans e1⟩
  ·by_cases hj:j=i
   ·subst hj;rw[hi] at e1; cases e1;rw[getElem?_set_self hiσ] at e2
    cases e2
    exact⟨u,r,.inr ⟨.inl hk,c,hc,hc'⟩⟩
   ·rw[getElem?_set_ne (Ne.symm hj)] at e2;obtain⟨u',r',q⟩:=hl j y v' e1 e2 e3;refine⟨u',r',?_⟩;rcases q with q|⟨k,c',e,z'⟩
    ·exact .inl q
    ·refine .inr ⟨k,c',e,z'.sameBut hs ?_⟩;rintro rfl;exact hj (nodup_ix hN e1 (I.ok.inj _ _ _ e hc▸hi))
  ·by_cases hcc:c'=c
   ·subst hcc; exact⟨_,hc'⟩
   ·obtain⟨w2,z2⟩:=I.cell y c' e;exact⟨w2,z2.sameBut hs hcc⟩
  ·obtain⟨e,n,ne,nf,d⟩:=I.pin p hp;refine⟨(hs.2 p.1 ?_).trans e,n,ne,nf,d⟩;intro q;rw[q,hoc] at e;have q':oc=p.2:=Option.some.inj e;exact d w' (by rw[← q']; exact hocd)
theorem store_ok {M:Model}{A:Around}{E:Value→Shared→Prop}{i:Nat}{x:Str}{v:V}{u:Value}{Q:Unit→Shared→Prop}(I:Inv X pins σ H s)(hN:X.N.Nodup)(hi:X.N[i]?=some x)(hx:Loc X.env.scope x)(r:RelV v u)
  (h:∀ s',Inv X pins (σ.set i (some v)) H s'→Q () s') (hf:X.fn x=true∨X.env.scope.names.lookup x=some .local:=by first|exact .inl rfl|exact .inr rfl|assumption):wpAny M A (storeName X.env x u) Q E s:=
 store_ok2 I hN hi hx r (fun s' I' _=>h s' I') hf
theorem Inv.call' {s':Shared}{ch:List Addr}(I:Inv X pins σ H s)(ho:s'.os=s.os)(u:Un (frs X.stack) ch H H' s.heap s'.heap)(hok:HOk X.prog X.w H' s'.heap)(hg:AllBare s'.gens)
  (hch:∀ b∈ch,(b∈X.ex∨X.s₀.heap.objs.size≤b)∧b≠X.env.locals∧(∀ x c,X.env.cells.lookup x=some c→c≠b)∧∀ p∈X.pn++pins,p.1≠b):Inv X pins σ H' s':=by
 obtain⟨h',g',d',t',o'⟩:=s';have e:o'=s.os:=ho;subst e;exact I.call (g':=g') (t':=t') (d':=d') u hok hg hch
end
abbrev XK:=Value→Option Addr→Hp→Prop
abbrev St:=List (Option V)
abbrev VK:=V→Hp→Prop
abbrev TE:=St→Hp→VK→Prop
abbrev TT:=St→Hp→(Bool→Hp→Prop)→Prop
abbrev TA:=St→Hp→(List V→Hp→Prop)→Prop
structure Ends where
 nx:St→Hp→Prop
 rt:VK
 bk:St→Hp→Prop:=fun _ _=>False
 ct:St→Hp→Prop:=fun _ _=>False
abbrev TS:=Ends→St→Hp→Prop
noncomputable def EP (X:Cx)(pins:List (Addr×Obj))(σ:St)(Q:VK)(u:Value)(s':Shared):Prop:=∃ v H',Inv X pins σ H' s'∧RelV v u∧Q v H'
noncomputable def TP (X:Cx)(pins:List (Addr×Obj))(σ:St)(Q:Bool→Hp→Prop)(b:Bool)(s':Shared):Prop:=∃ H',Inv X pins σ H' s'∧Q b H'
noncomputable def AP (X:Cx)(pins:List (Addr×Obj))(σ:St)(Q:List V→Hp→Prop)(us:List Value)(s':Shared):Prop:=∃ vs H',Inv X pins σ H' s'∧Vals vs us∧Q vs H'
noncomputable def SP (X:Cx)(pins:List (Addr×Obj))(D:Ends)(f:Flow)(s':Shared):Prop:=
 match f with
 | .next=>∃ σ' H',Inv X pins σ' H' s'∧D.nx σ' H'
 | .brk=>∃ σ' H',Inv X pins σ' H' s'∧D.bk σ' H'
 | .cont=>∃ σ' H',Inv X pins σ' H' s'∧D.ct σ' H'
 | .ret u=>∃ v σ' H',Inv X pins σ' H' s'∧RelV v u∧D.rt v H'
noncomputable def PE (X:Cx)(e:Expr)(t:TE):Prop:=
 ∀(pins:List (Addr×Obj)) (s:Shared) (σ:St) (H:Hp) (Q:VK),Inv X pins σ H s→t σ H Q→wpAny (model X.prog X.w) X.A (eval e X.env) (EP X pins σ Q) X.xe s
noncomputable def PT (X:Cx)(e:Expr)(t:TT):Prop:=
 ∀(pins:List (Addr×Obj)) (s:Shared) (σ:St) (H:Hp) (Q:Bool→Hp→Prop),Inv X pins σ H s→t σ H Q→wpAny (model X.prog X.w) X.A (isTrue e X.env (eval e X.env)) (TP X pins σ Q) X.xe s
noncomputable def PW (X:Cx)(e:Expr)(t:TT):Prop:=
 ∀(whole:Sem Value) (pins:List (Addr×Obj)) (s:Shared) (σ:St) (H:Hp) (Q:Bool→Hp→Prop),Inv X pins σ H s→t σ H Q→wpAny (model X.prog X.w) X.A (isTrue e X.env whole) (TP X pins σ Q) X.xe s
theorem PW.pt {X:Cx}{e:Expr}{t:TT}(h:PW X e t):PT X e t:=h _
noncomputable def PA (X:Cx)(es:List Expr)(t:TA):Prop:=
 ∀(pos:Pos) (pins:List (Addr×Obj)) (s:Shared) (σ:St) (H:Hp) (Q:List V→Hp→Prop),Inv X pins σ H s→t σ H Q→wpAny (model X.prog X.w) X.A (spliced (backTo pos (starEach es X.env))) (AP X pins σ Q) X.xe s
noncomputable def PS (X:Cx)(st:Stmt)(t:TS):Prop:=
 ∀(pins:List (Addr×Obj)) (s:Shared) (σ:St) (H:Hp) (D:Ends),Inv X pins σ H s→t D σ H→wpAny (model X.prog X.w) X.A (exec st X.env) (SP X pins D) X.xe s
noncomputable def PSs (X:Cx)(st:List Stmt)(t:TS):Prop:=
 ∀(pins:List (Addr×Obj)) (s:Shared) (σ:St) (H:Hp) (D:Ends),Inv X pins σ H s→t D σ H→wpAny (model X.prog X.w) X.A (execs st X.env) (SP X pins D) X.xe s
theorem thn {α:Type}{t:Sem α}{Q Q':α→Shared→Prop}{M:Model}{A:Around}{E:Value→Shared→Prop}{s:Shared}(h:wpAny M A t Q E s)(hQ:∀ a s,Q a s→Q' a s):wpAny M A t Q' E s:=wpAny_mono h hQ fun _ _ x=>x
end L2
namespace L2
open PySem PySem.Spec PyProof.Rows
section
variable {X:Cx}
theorem bin {a b:Expr}{ta tb:TE}(ha:PE X a ta)(hb:PE X b tb){pins:List (Addr×Obj)}{s:Shared}{σ:St}{H:Hp}{R:V→V→Hp→Prop}(I:Inv X pins σ H s)(h:ta σ H fun x H1=>tb σ H1 fun y H2=>R x y H2)
  {α:Type} {Q:α→Shared→Prop} {f:Value→Value→Sem α}
  (hf:∀ v u s2 x y H2,Inv X pins σ H2 s2→RelV x v→RelV y u→R x y H2→wpAny (model X.prog X.w) X.A (f v u) Q X.xe s2) :
  wpAny (model X.prog X.w) X.A (eval a X.env) (fun v s₁=>wpAny (model X.prog X.w) X.A (eval b X.env) (fun u s₂=>wpAny (model X.prog X.w) X.A (f v u) Q X.xe s₂) X.xe s₁) X.xe s:=by
 refine thn (ha pins s σ H _ I h) fun v s1 ⟨x,H1,I1,r1,q1⟩=>?_;refine thn (hb pins s1 σ H1 _ I1 q1) fun u s2 ⟨y,H2,I2,r2,q2⟩=>?_;exact hf v u s2 x y H2 I2 r1 r2 q2
noncomputable def tVar (i:Nat):TE:=fun σ H Q=>∃ v,σ[i]?=some (some v)∧Q v H
noncomputable def tC (v:V):TE:=fun _ H Q=>Q v H
theorem pe_var {i:Nat}{x:Str}{pos:Pos}(hN:X.N[i]?=some x)(hv:Vis X.env.scope x)(hd:(x==("__debug__" : Str))=false:=by decide)(hcd:(x==("__classdict__" : Str))=false:=by decide):PE X (.Name x pos) (tVar i):=by
 intro pins s σ H Q I h;obtain⟨v,e,h⟩:=h;obtain⟨m,hn,hl⟩:=I.loc;obtain⟨u,r,l⟩:=hl i x v hN e hv;have fin:EP X pins σ Q u s:=⟨v,H,I,r,h⟩;rcases l with⟨hk,hm⟩|⟨hk,c,hc,hcell⟩
 ·exact wpAny_Name (wpAny_loadName_local I.ok.kind hk hn hm fin) hd
 ·rcases hk with hk|hk
  ·exact wpAny_Name (wpAny_loadName_cell I.ok.kind hk hc hcell fin) hd
  ·exact wpAny_Name (wpAny_loadName_free I.ok.kind hk hc hcell fin hcd) hd
theorem aD {i j pos}:PE X (.Constant (.int i) j pos) (tC (.int i)):=fun _ _ _ H _ I h=>wpAny_Constant_int ⟨.int i,H,I.tok _,⟨_,rfl⟩,h⟩
theorem pe_bl {b j pos}:PE X (.Constant (.bool b) j pos) (tC (.bl b)):=fun _ _ _ H _ I h=>Constant_bool ⟨.bl b,H,I,rfl,h⟩
theorem cJ {j pos}:PE X (.Constant .none j pos) (tC .non):=fun _ _ _ H _ I h=>Constant_none ⟨.non,H,I,rfl,h⟩
theorem c7 {x j pos}:PE X (.Constant (.str x) j pos) (tC (.str x)):=fun _ _ _ H _ I h=>Calls.Constant_str ⟨.str x,H,I.tok _,⟨_,rfl⟩,h⟩
noncomputable def Gl (X:Cx)(x:Str):Prop:=X.env.kindOf x=some .globalImplicit
theorem ld_glob {E:Value→Shared→Prop}{pins:List (Addr×Obj)}{s:Shared}{σ:St}{H:Hp}{x:Str}{u:Value}{pos:Pos}{Q:Value→Shared→Prop}(I:Inv X pins σ H s)(hg:Gl X x)(hm:X.mg x=some u)(h:Q u s)
  (hd:(x==("__debug__" : Str))=false:=by decide):wpAny (model X.prog X.w) X.A (eval (.Name x pos) X.env) Q E s:=
 Calls.Name_function_global I.ok.kind hg (Calls.loadGlobal_global (by rw[I.ok.glob]; exact I.mod.glob.keeps I.bk) hm h) hd
theorem ld_blt {E:Value→Shared→Prop}{pins:List (Addr×Obj)}{s:Shared}{σ:St}{H:Hp}{x:Str}{u:Value}{pos:Pos}{Q:Value→Shared→Prop}(I:Inv X pins σ H s)(hg:Gl X x)(hm:X.mg x=none)(hv:bootBuiltins x=some u)(h:Q u s)
  (hn:x ≠ "__name__" := by decide) (hd:(x==("__debug__" : Str))=false:=by decide):wpAny (model X.prog X.w) X.A (eval (.Name x pos) X.env) Q E s:=by
 obtain⟨mb,h1,h2⟩:=I.mod.blt;exact Calls.Name_function_global I.ok.kind hg (Calls.loadGlobal_builtin (by rw[I.ok.glob]; exact I.mod.glob.keeps I.bk) hm (by rw[I.ok.blt]; exact h1.keeps I.bk) ((h2 x hn).trans hv) h) hd
theorem pe_glob {x:Str}{v:V}{u:Value}{pos:Pos}(hg:Gl X x)(hm:X.mg x=some u)(r:RelV v u)(hd:(x==("__debug__" : Str))=false:=by decide):PE X (.Name x pos) (tC v):=
 fun _ _ _ H _ I h=>ld_glob I hg hm ⟨v,H,I,r,h⟩ hd
theorem pe_bltn {x:Str}{v:V}{u:Value}{pos:Pos}(hg:Gl X x)(hm:X.mg x=none)(hv:bootBuiltins x=some u)(r:RelV v u)(hn:x ≠ "__name__" := by decide)(hd:(x==("__debug__" : Str))=false:=by decide):PE X (.Name x pos) (tC v):=
 fun _ _ _ H _ I h=>ld_blt I hg hm hv ⟨v,H,I,r,h⟩ hn hd
variable {a b:Expr}{ta tb:TE}{pos:Pos}
noncomputable def PC (X:Cx)(op:CmpOp)(a b:Expr)(t:TE):Prop:=
 ∀(pins:List (Addr×Obj)) (s:Shared) (σ:St) (H:Hp) (Q:VK),Inv X pins σ H s→t σ H Q →
  wpAny (model X.prog X.w) X.A (eval a X.env) (fun v s₁=>wpAny (model X.prog X.w) X.A (eval b X.env) (fun u s₂=>wpAny (model X.prog X.w) X.A (compareOp op v u) (EP X pins σ Q) X.xe s₂) X.xe s₁) X.xe s
noncomputable def tB (t:TE):TT:=fun σ H Q=>t σ H fun x H1=>∃ c,x=.bl c∧Q c H1
theorem pt_cmp {op:CmpOp}{t:TE}(h:PC X op a b t)(h1:behindInMarks op b=false:=by first|exact nobehind _ (by decide) (by decide)|rfl):PT X (.Compare a [op] [b] pos) (tB t):=by
 intro pins s σ H Q I hw;refine wpAny_isTrue_Compare1 (thn (h pins s σ H _ I hw) fun v s1 h1=>thn h1 fun u s2 h2=>thn h2 fun c s3 ⟨x,H1,I1,r1,q1⟩=>?_) h1;obtain⟨d,rfl,q⟩:=q1
 cases r1
 exact wpAny_truthy_bool ⟨H1,I1,q⟩
theorem pt_val {e:Expr}{t:TE}(h:PE X e t)(he:∀ whole,isTrue e X.env whole=(do let v←whole; standAt e.pos; holding [v] (truthy v)):=by intro _; rfl):PT X e (tB t):=by
 intro pins s σ H Q I hw;refine isTrue_plain (thn (h pins s σ H _ I hw) fun v s1 ⟨x,H1,I1,r1,q1⟩=>?_) (he _);obtain⟨d,rfl,q⟩:=q1
 cases r1
 exact wpAny_truthy_bool ⟨H1,I1,q⟩
variable {tA tB':TT}{rest:List Expr}
noncomputable def tAnd (t u:TT):TT:=fun σ H Q=>t σ H fun c H1=>if c=true then u σ H1 Q else Q false H1
noncomputable def tOr (t u:TT):TT:=fun σ H Q=>t σ H fun c H1=>if c=true then Q true H1 else u σ H1 Q
noncomputable def tNot (t:TT):TT:=fun σ H Q=>t σ H fun c H1=>Q (!c) H1
theorem pw_and1 (ha:PT X a tA):PW X (.BoolOp .And [a] pos) tA:=by
 intro wh pins s σ H Q I h;refine isTrue_and (thn (ha pins s σ H Q I h) fun c s1 e=>?_)
 cases c with
 | true=>exact isTrue_and_nil e
 | false=>exact e
theorem pw_or1 (ha:PT X a tA):PW X (.BoolOp .Or [a] pos) tA:=by
 intro wh pins s σ H Q I h;refine isTrue_or (thn (ha pins s σ H Q I h) fun c s1 e=>?_)
 cases c with
 | false=>exact isTrue_or_nil e
 | true=>exact e
theorem pw_and (ha:PT X a tA)(hb:PW X (.BoolOp .And (b::rest) pos) tB'):PW X (.BoolOp .And (a::b::rest) pos) (tAnd tA tB'):=by
 intro wh pins s σ H Q I h;refine isTrue_and (thn (ha pins s σ H _ I h) fun c s1 ⟨H1,I1,q1⟩=>?_)
 cases c with
 | true=>exact hb wh pins s1 σ H1 Q I1 q1
 | false=>exact⟨H1,I1,q1⟩
theorem pw_or (ha:PT X a tA)(hb:PW X (.BoolOp .Or (b::rest) pos) tB'):PW X (.BoolOp .Or (a::b::rest) pos) (tOr tA tB'):=by
 intro wh pins s σ H Q I h;refine isTrue_or (thn (ha pins s σ H _ I h) fun c s1 ⟨H1,I1,q1⟩=>?_)
 cases c with
 | true=>exact⟨H1,I1,q1⟩
 | false=>exact hb wh pins s1 σ H1 Q I1 q1
theorem pt_not (ha:PT X a tA):PT X (.UnaryOp .Not a pos) (tNot tA):=by
 intro pins s σ H Q I h;exact isTrue_not (ha pins s σ H (fun c H1=>Q (!c) H1) I h)
noncomputable def tAndV (ta tb:TE):TE:=fun σ H Q=>ta σ H fun x H1=>∃ c,x=.bl c∧if c=true then tb σ H1 Q else Q (.bl false) H1
noncomputable def tNotV (ta:TE):TE:=fun σ H Q=>ta σ H fun x H1=>∃ c,x=.bl c∧Q (.bl (!c)) H1
theorem pe_one {op}{t:TE}(h:PE X a t):PE X (.BoolOp op [a] pos) t:=fun pins s σ H Q I hw=>BoolOp_one (h pins s σ H Q I hw)
theorem pe_and (ha:PE X a ta)(hb:PE X (.BoolOp .And (b::rest) pos) tb):PE X (.BoolOp .And (a::b::rest) pos) (tAndV ta tb):=by
 intro pins s σ H Q I h;refine BoolOp_and (thn (ha pins s σ H _ I h) fun v s1 ⟨x,H1,I1,r1,q1⟩=>?_);obtain⟨c,rfl,q1⟩:=q1
 cases r1
 refine wpAny_truthy_bool ?_
 cases c with
 | true=>exact hb pins s1 σ H1 Q I1 q1
 | false=>exact⟨.bl false,H1,I1,rfl,q1⟩
theorem pe_not (ha:PE X a ta):PE X (.UnaryOp .Not a pos) (tNotV ta):=by
 intro pins s σ H Q I h;refine UnaryOp_ (thn (ha pins s σ H _ I h) fun v s1 ⟨x,H1,I1,r1,q1⟩=>?_);obtain⟨c,rfl,q1⟩:=q1
 cases r1
 exact not_of (wpAny_truthy_bool ⟨.bl (!c),H1,I1,rfl,q1⟩)
noncomputable def tIf (t:TT)(ta tb:TE):TE:=fun σ H Q=>t σ H fun c H1=>if c=true then ta σ H1 Q else tb σ H1 Q
theorem pe_ifExp {c:Expr}(hc:PT X c tA)(ha:PE X a ta)(hb:PE X b tb):PE X (.IfExp c a b pos) (tIf tA ta tb):=by
 intro pins s σ H Q I h;refine wpAny_IfExp (thn (hc pins s σ H _ I h) fun d s1 ⟨H1,I1,q1⟩=>?_)
 cases d with
 | true=>exact ha pins s1 σ H1 Q I1 q1
 | false=>exact hb pins s1 σ H1 Q I1 q1
end
end L2
namespace L2
open PySem PySem.Spec PyProof.Rows
noncomputable def SqL (K:PySem.W.Frag)(H:Hp)(a:Addr)(xs:List V):Prop:=
 Rd H a (.lst xs) ∨
  ∃(o:Obj) (its:Array Value) (n:Nat),K.lookup a=some o∧o.cls=.type "list" ∧ o.dict=none∧o.data=.seq its n∧its.size≤sizeLine∧Vals xs its.toList
noncomputable def SqT (K:PySem.W.Frag)(H:Hp)(a:Addr)(xs:List V):Prop:=
 Rd H a (.tup xs) ∨
  ∃(o:Obj) (its:Array Value) (n:Nat),K.lookup a=some o∧o.cls=.type "tuple" ∧ o.data=.seq its n∧its.size≤sizeLine∧Vals xs its.toList
noncomputable def absV:Value→Option V
 | .none=>some .non
 | .bool b=>some (.bl b)
 | .int i _=>some (.int i)
 | .str x _=>some (.str x)
 | .bytes b _=>some (.byt b)
 | .float b _=>some (.flt b)
 | .ref a=>some (.ref a)
 | .type n=>some (.ty n)
 | _=>none
theorem RelV.abs {x:V}{u:Value}(r:RelV x u):absV u=some x:=by
 cases x with
 | non=>cases r; rfl
 | bl _=>cases r; rfl
 | int _=>obtain⟨t,rfl⟩:=r; rfl
 | str _=>obtain⟨t,rfl⟩:=r; rfl
 | byt _=>obtain⟨t,rfl⟩:=r; rfl
 | flt _=>obtain⟨t,rfl⟩:=r; rfl
 | ref _=>cases r; rfl
 | ty _=>cases r; rfl
theorem RelV.inj {x y:V}{u:Value}(r:RelV x u)(q:RelV y u):x=y:=Option.some.inj (r.abs.symm.trans q.abs)
theorem Vals.inj:∀{xs ys:List V} {us:List Value},Vals xs us→Vals ys us→xs=ys:=by
 intro xs ys us h
 induction h generalizing ys with
 | nil=>intro q; cases q; rfl
 | cons r t ih=>intro q; cases q with|cons r' t'=>rw[r.inj r',ih t']
section
variable {X:Cx}{pins:List (Addr×Obj)}{σ:St}{H:Hp}{s:Shared}{a:Addr}{xs ys:List V}
theorem SqL.of {K:PySem.W.Frag}(h:H a=some (.lst xs)):SqL K H a xs:=.inl (.inl h)
theorem SqT.of {K:PySem.W.Frag}(h:H a=some (.tup xs)):SqT K H a xs:=.inl (.inl h)
theorem Inv.list (I:Inv X pins σ H s)(h:SqL X.K H a xs):∃ its:List Value,Vals xs its∧PlainL s.heap a its.toArray∧xs.length≤sizeLine:=by
 rcases h with h|⟨o,its,n,hk,hc,hd,hs,hz,r⟩
 ·obtain⟨z,its,n,r,e⟩:=h.ok I.hok;exact⟨its,r,⟨_,n,e,rfl,rfl,rfl⟩,z⟩
 ·refine⟨its.toList,r,⟨o,n,I.kIn a o hk,hc,hd,by simpa using hs⟩,?_⟩;have e:=r.length;simp only[length_toList] at e;omega
theorem Inv.tuple (I:Inv X pins σ H s)(h:SqT X.K H a xs):∃ its:List Value,Vals xs its∧IsTup s.heap a its.toArray∧xs.length≤sizeLine:=by
 rcases h with h|⟨o,its,n,hk,hc,hs,hz,r⟩
 ·obtain⟨z,its,r,p⟩:=h.ok I.hok;exact⟨its,r,p,z⟩
 ·refine⟨its.toList,r,⟨o,I.kIn a o hk,hc,n,by simpa using hs⟩,?_⟩;have e:=r.length;simp only[length_toList] at e;omega
theorem Inv.tuple_inj (I:Inv X pins σ H s)(h:SqT X.K H a xs)(h':SqT X.K H a ys):xs=ys:=by
 obtain⟨its,r,⟨o,e,_,n,d⟩,_⟩:=I.tuple h;obtain⟨its',r',⟨o',e',_,n',d'⟩,_⟩:=I.tuple h';rw[e] at e'; cases e';rw[d] at d';injection d' with d1 _;have:its=its':=by simpa using congrArg Array.toList d1
 subst this;exact r.inj r'
end
abbrev Cx.wish (X:Cx)(E:Value→Shared→Prop):Cx:={ X with xe:=E }
abbrev Cx.nox (X:Cx):Cx:=X.wish fun _ _=>False
theorem Cx.Ok.wish {X:Cx}(ok:X.Ok)(E:Value→Shared→Prop):(X.wish E).Ok:=
 ⟨ok.mod,ok.kind,ok.glob,ok.blt,ok.above,ok.inj,ok.has,ok.cab,ok.hd,ok.frames,ok.stk,ok.exf,ok.bs,ok.bsz,ok.noex,ok.exfs,ok.funs,ok.frf⟩
theorem Cx.Ok.unwish {X:Cx}{E:Value→Shared→Prop}(ok:(X.wish E).Ok):X.Ok:=
 ⟨ok.mod,ok.kind,ok.glob,ok.blt,ok.above,ok.inj,ok.has,ok.cab,ok.hd,ok.frames,ok.stk,ok.exf,ok.bs,ok.bsz,ok.noex,ok.exfs,ok.funs,ok.frf⟩
section
variable {X:Cx}{pins:List (Addr×Obj)}{σ:St}{H:Hp}{s:Shared}{E:Value→Shared→Prop}
theorem Inv.wish (I:Inv X pins σ H s)(E:Value→Shared→Prop):Inv (X.wish E) pins σ H s:=⟨I.ok.wish E,I.os,I.bare,I.base,I.loc,I.cell,I.free,I.freeC,I.pin,I.hok,I.len⟩
theorem Inv.unwish (I:Inv (X.wish E) pins σ H s):Inv X pins σ H s:=⟨I.ok.unwish,I.os,I.bare,I.base,I.loc,I.cell,I.free,I.freeC,I.pin,I.hok,I.len⟩
theorem SP.unwish {D:Ends}{f:Flow}{s':Shared}(h:SP (X.wish E) pins D f s'):SP X pins D f s':=by
 cases f with
 | next=>obtain⟨σ',H',I,q⟩:=h; exact⟨σ',H',I.unwish,q⟩
 | brk=>obtain⟨σ',H',I,q⟩:=h; exact⟨σ',H',I.unwish,q⟩
 | cont=>obtain⟨σ',H',I,q⟩:=h; exact⟨σ',H',I.unwish,q⟩
 | ret u=>obtain⟨v,σ',H',I,r,q⟩:=h; exact⟨v,σ',H',I.unwish,r,q⟩
theorem PSs.nox {st:List Stmt}{t:TS}(h:PSs X.nox st t):PSs X st t:=fun pins s σ H D I hw=>
 wpAny_mono (h pins s σ H D (I.wish _) hw) (fun _ _ q=>q.unwish) fun _ _ z=>False.elim z
end
section
variable {X:Cx}{st:Stmt}{rest:List Stmt}{t u:TS}{e:Expr}{te:TE}{pos:Pos}
noncomputable def tNext:TS:=fun D σ H=>D.nx σ H
noncomputable def tSeq (t u:TS):TS:=fun D σ H=>t { D with nx:=u D } σ H
theorem bL:PSs X [] tNext:=fun _ _ σ H _ I h=>wpAny_execs_nil ⟨σ,H,I,h⟩
theorem aC (h1:PS X st t)(h2:PSs X rest u):PSs X (st::rest) (tSeq t u):=by
 intro pins s σ H D I h;refine wpAny_execs_cons (thn (h1 pins s σ H { D with nx:=u D } I h) fun f s1 q=>?_)
 cases f with
 | next=>
  obtain⟨σ',H',I',q⟩:=q;exact h2 pins s1 σ' H' D I' q
 | ret v=>exact q
 | brk=>exact q
 | cont=>exact q
theorem aJ (h1:PS X st t):PSs X [st] t:=by
 intro pins s σ H D I h;refine wpAny_execs_cons (thn (h1 pins s σ H D I h) fun f s1 q=>?_)
 cases f with
 | next=>exact wpAny_execs_nil q
 | ret v=>exact q
 | brk=>exact q
 | cont=>exact q
theorem Inv.quiet {pins:List (Addr×Obj)}{σ:St}{H:Hp}{s:Shared}(I:Inv X pins σ H s):interactive X.env=false:=by simp[interactive,I.ok.kind]
noncomputable def tRet (te:TE):TS:=fun D σ H=>te σ H D.rt
theorem bI (he:PE X e te):PS X (.Return (some e) pos) (tRet te):=by
 intro pins s σ H D I h;exact wpAny_Return_some (thn (he pins s σ H _ I h) fun v s1 ⟨x,H1,I1,r1,q1⟩=>⟨x,σ,H1,I1,r1,q1⟩)
noncomputable def tIfS (c:TT)(t u:TS):TS:=fun D σ H=>c σ H fun b H1=>if b=true then t D σ H1 else u D σ H1
theorem ps_if {c:Expr}{a b:List Stmt}{tc:TT}(hc:PT X c tc)(ha:PSs X a t)(hb:PSs X b u):PS X (.If c a b pos) (tIfS tc t u):=by
 intro pins s σ H D I h;refine wpAny_If (thn (hc pins s σ H _ I h) fun d s1 ⟨H1,I1,q1⟩=>?_)
 cases d with
 | true=>exact ha pins s1 σ H1 D I1 q1
 | false=>exact hb pins s1 σ H1 D I1 q1
end
abbrev TG:=V→St→Hp→(St→Hp→Prop)→Prop
noncomputable def PG (X:Cx)(target:Expr)(t:TG):Prop:=
 ∀(pins:List (Addr×Obj)) (s:Shared) (σ:St) (H:Hp) (v:V) (u:Value) (Q:St→Hp→Prop),Inv X pins σ H s→RelV v u→t v σ H Q →
  wpAny (model X.prog X.w) X.A (assign target X.env u) (fun _ s'=>∃ σ' H',Inv X pins σ' H' s'∧Q σ' H') X.xe s
abbrev TSet:=V→V→V→Hp→(Hp→Prop)→Prop
noncomputable def PSet (X:Cx)(t:TSet):Prop:=
 ∀(pins:List (Addr×Obj)) (s:Shared) (σ:St) (H:Hp) (o i v:V) (ov iv u:Value) (Q:Hp→Prop),Inv X pins σ H s→RelV o ov→RelV i iv→RelV v u→t o i v H Q →
  wpAny (model X.prog X.w) X.A (setItem ov iv u) (fun _ s'=>∃ H',Inv X pins σ H' s'∧Q H') X.xe s
section
variable {X:Cx}{pos:Pos}
noncomputable def gName (i:Nat):TG:=fun v σ H Q=>Q (σ.set i (some v)) H
theorem pg_name {i:Nat}{x:Str}(hN:X.N.Nodup)(hi:X.N[i]?=some x)(hx:Loc X.env.scope x)(hf:X.fn x=true∨X.env.scope.names.lookup x=some .local:=by first|exact .inl rfl|exact .inr rfl|assumption):PG X (.Name x pos) (gName i):=by
 intro pins s σ H v u Q I r h;exact wpAny_assign_Name (store_ok I hN hi hx r (fun s' I'=>⟨_,H,I',h⟩) hf)
noncomputable def gSub (to ti:TE)(t:TSet):TG:=fun v σ H Q=>to σ H fun o H1=>ti σ H1 fun i H2=>t o i v H2 fun H3=>Q σ H3
theorem pg_sub {o i:Expr}{to ti:TE}{t:TSet}(ho:PE X o to)(hi:PE X i ti)(hs:PSet X t)
  (ha:∀ v,assign (.Subscript o i pos) X.env v=(do
   let ov←holding [v] (eval o X.env)
   let iv←holding [v,ov] (eval i X.env)
   standAt pos
   holding [v,ov,iv] (setItem ov iv v)
   release [v,ov,iv] []):=by intro _; rfl):PG X (.Subscript o i pos) (gSub to ti t):=by
 intro pins s σ H v u Q I r h;rw[ha];refine wpAny_bind (wpAny_holding (thn (ho pins s σ H _ I h) fun ov s1 ⟨x,H1,I1,r1,q1⟩=>?_));refine wpAny_bind (wpAny_holding (thn (hi pins s1 σ H1 _ I1 q1) fun iv s2 ⟨y,H2,I2,r2,q2⟩=>?_));refine wpAny_bind (wpAny_standAt (wpAny_bind (wpAny_holding (thn (hs pins s2 σ H2 x y v ov iv u _ I2 r1 r2 r q2) fun _ s3 ⟨H3,I3,q3⟩=>?_))));exact wpAny_release ⟨σ,H3,I3,q3⟩
noncomputable def tAsg (te:TE)(g:TG):TS:=fun D σ H=>te σ H fun x H1=>g x σ H1 D.nx
theorem ps_asg {tg e:Expr}{te:TE}{g:TG}(he:PE X e te)(hg:PG X tg g)(hs:swapsWithSole [tg] e pos.line X.env=pure false:=by rfl)(hw:swappedStores [tg] e X.env=pure none:=by rfl)
  (h1:(assignEach [tg] X.env).map (·.2)=[assign tg X.env]:=by rfl):PS X (.Assign [tg] e pos) (tAsg te g):=by
 intro pins s σ H D I h;refine wpAny_Assign_stores (thn (he pins s σ H _ I h) fun v s1 ⟨x,H1,I1,r1,q1⟩=>?_) hs hw;rw[h1];exact thn (hg pins s1 σ H1 x v _ I1 r1 q1) fun _ s2 q=>q
theorem aV {i:Nat}{x:Str}{e:Expr}{te:TE}{pos':Pos}(hN:X.N.Nodup)(hi:X.N[i]?=some x)(hx:Loc X.env.scope x)(he:PE X e te)(hs:swapsWith e (some (.Name x pos')) pos.line X.env=pure false:=by rfl)(hf:X.fn x=true∨X.env.scope.names.lookup x=some .local:=by first|exact .inl rfl|exact .inr rfl|assumption) :
  PS X (.Assign [.Name x pos'] e pos) (tAsg te (gName i)):=by
 intro pins s σ H D I h;refine wpAny_Assign_Name (thn (he pins s σ H _ I h) fun v s1 ⟨y,H1,I1,r1,q1⟩=>?_) hs;exact store_ok I1 hN hi hx r1 (fun s2 I2=>⟨_,H1,I2,q1⟩) hf
noncomputable def tPar (i j:Nat)(ta:TA):TS:=fun D σ H=>ta σ H fun vs H1=>∃ v w,vs=[v,w]∧D.nx ((σ.set i (some v)).set j (some w)) H1
theorem ps_par {i j:Nat}{x y:Str}{a b:Expr}{ta:TA}{px py pt:Pos}{kt k2 pt2}(hc:X.calm=true)(hN:X.N.Nodup)(hi:X.N[i]?=some x)(hj:X.N[j]?=some y)(hij:i≠j)
  (hx:X.env.scope.names.lookup x=some .local) (hy:X.env.scope.names.lookup y=some .local) (ha:PA X [a,b] ta)
  (hw:swappedStores [.Tuple [.Name x px,.Name y py] kt pt] (.Tuple [a,b] k2 pt2) X.env=pure (some [x,y]))
  (hs:swapsWithSole [.Tuple [.Name x px,.Name y py] kt pt] (.Tuple [a,b] k2 pt2) pos.line X.env=pure false:=by rfl) :
  PS X (.Assign [.Tuple [.Name x px,.Name y py] kt pt] (.Tuple [a,b] k2 pt2) pos) (tPar i j ta):=by
 intro pins s σ H D I h;rw[exec_Assign_arm];refine wpAny_bind (wpAny_standAt ?_);rw[hs];refine wpAny_bind (wpAny_pure ?_);rw[if_neg (by decide)];refine wpAny_bind (Tuple_ (thn (ha _ pins s σ H _ I h) fun us s1 ⟨vs,H1,I1,r1,q1⟩=>?_));obtain⟨v,w,e1,q1⟩:=q1;subst e1;obtain⟨u1,u2,rfl,rv,rw'⟩:∃ u1 u2,us=[u1,u2]∧RelV v u1∧RelV w u2:=by
  cases r1 with
  | cons p q=>
   cases q with
   | cons p' q'=>
    cases q'
    exact⟨_,_,rfl,p,p'⟩
 refine wpAny_newObj_type ?_ (by show 2≤sizeLine; decide);have I2:Inv X pins σ H1 { s1 with heap:=s1.heap.push { cls:=.type "tuple", data:=.seq [u1,u2].toArray } }:=I1.kept (t':=s1.toks) fun b o e=>get?_push_of_some _ e;rw[hw];refine wpAny_bind (wpAny_pure ?_);show wpAny (model X.prog X.w) X.A (do rule "assign.swapped-stores"; let items←unpackItems (.ref s1.heap.objs.size) 2 none; assignInOrder [fun v=>bindName X.env y v,fun v=>bindName X.env x v] items.reverse; pure Flow.next) _ _ _;refine wpAny_bind (wpAny_rule (wpAny_bind (unpackItems_tuple (items:=#[u1,u2]) (I.ok.hd hc) (IsTup.new s1.heap _) fun h' hx'=>?_)));have I3:=I2.kept (h':=h') (t':=s1.toks) fun b o e=>hx' b o (ne_of_lt (lt_size e)) e;show wpAny _ _ (assignInOrder [fun v=>bindName X.env y v,fun v=>bindName X.env x v] [u2,u1] >>= fun _=>pure Flow.next) _ _ _;refine wpAny_bind (assignInOrder_cons (wpAny_bindName (store_ok I3 hN hj (.inl hy) rw' (fun s2 I4=>?_) (.inr hy))));refine assignInOrder_cons (wpAny_bindName (store_ok I4 hN hi (.inl hx) rv (fun s3 I5=>assignInOrder_nil (wpAny_pure ?_)) (.inr hx)));rw[set_comm _ _ (Ne.symm hij)] at I5;exact⟨_,H1,I5,q1⟩
end
section
variable {X:Cx}{pos:Pos}
noncomputable def tWhile (c:TT)(tb:TS):TS:=fun D σ H=>∃ W:Nat→St→Hp→Prop,(∃ m,W m σ H)∧∀ m σ H,W m σ H →
 c σ H fun b H1=>if b=true then ∃ N:St→Hp→Prop,(∀ σ' H',N σ' H'→∃ m',m'<m∧W m' σ' H')∧tb { D with nx:=N,ct:=N,bk:=D.nx } σ H1 else D.nx σ H1
theorem ps_while {c:Expr}{body:List Stmt}{tc:TT}{tb:TS}(hp:PassesOwn (model X.prog X.w) X.A X.env X.xe)(hc:PT X c tc)(hb:PSs X body tb):PS X (.While c body [] pos) (tWhile tc tb):=by
 intro pins s σ H D I h;obtain⟨W,⟨m0,w0⟩,turn⟩:=h;refine wpAny_While (codeAny_whileLoop (fun n s'=>∃ σ' H',Inv X pins σ' H' s'∧W n σ' H') ?_ m0 ⟨σ,H,I,w0⟩);rintro n s1 ⟨σ1,H1,I1,w1⟩;refine wpAny_passesOwn hp (thn (hc pins s1 σ1 H1 _ I1 (turn n σ1 H1 w1)) fun b s2 ⟨H2,I2,q2⟩=>?_)
 cases b with
 | true=>
  obtain⟨N,hN,q2⟩:=q2;rw[if_pos rfl];refine wpAny_passesOwn hp (thn (hb pins s2 σ1 H2 _ I2 q2) fun f s3 q3=>?_)
  cases f with
  | next=>
   obtain⟨σ3,H3,I3,n3⟩:=q3;obtain⟨m',hm,w3⟩:=hN σ3 H3 n3;exact⟨m',hm,σ3,H3,I3,w3⟩
  | cont=>
   obtain⟨σ3,H3,I3,n3⟩:=q3;obtain⟨m',hm,w3⟩:=hN σ3 H3 n3;exact⟨m',hm,σ3,H3,I3,w3⟩
  | brk=>exact q3
  | ret v=>exact q3
 | false=>
  rw[if_neg Bool.false_ne_true];exact wpAny_execs_nil ⟨σ1,H2,I2,q2⟩
end
structure It where
 go:Nat→Hp→Prop
 yld:Nat→Hp→V→Hp→Prop
 stop:Nat→Hp→Prop
noncomputable def FpOk (X:Cx)(pins:List (Addr×Obj))(H:Hp)(b:Addr):Prop:=
 H b=none∧b≠X.env.locals∧b∉X.fs∧(b∈X.ex∨X.s₀.heap.objs.size≤b)∧(∀ x c,X.env.cells.lookup x=some c→c≠b)∧∀ p∈X.pn++pins,p.1≠b
theorem Inv.fpOk {X:Cx}{pins:List (Addr×Obj)}{σ:St}{H H':Hp}{s:Shared}{b:Addr}(I:Inv X pins σ H s)(hb:s.heap.objs.size≤b)(hn:H' b=none):FpOk X pins H' b:=by
 refine⟨hn,ne_of_gt (lt_of_lt_of_le I.lt hb),I.nofs hb,.inr (le_trans I.sz hb),fun x c e z=>?_,fun p hp z=>?_⟩
 ·obtain⟨v,q⟩:=I.cell x c e;exact absurd (lt_of_lt_of_le q.lt (by rw[z]; exact hb)) (lt_irrefl _)
 ·exact absurd (lt_of_lt_of_le (lt_size (I.pin p hp).1) (by rw[z]; exact hb)) (lt_irrefl _)
structure Turn (P:Program)(w:World)(K:PySem.W.Frag)(tg:Expr)(J:It)(fp:List Addr)(it:Addr)(tn:Nat→Heap→Prop):Prop where
 mem:it∈fp
 obj:∀ i h,tn i h→∀ b∈fp,∃ o,h.get? b=some o∧∀ v,o.data≠.cell v
 keep:∀ i h h',tn i h→(∀ b∈fp,∀ o,h.get? b=some o→h'.get? b=some o)→tn i h'
 item:∀(X:Cx),X.prog=P→X.w=w→X.K=K→X.calm=true→∀(i:Nat) (pins:List (Addr×Obj)) (s:Shared) (σ:St) (H:Hp) (E:Value→Shared→Prop),Inv X pins σ H s→(∀ b∈fp,FpOk X pins H b)→tn i s.heap→J.go i H →
  wpAny (model P w) X.A (pyNext (.ref it)) (fun r s1=>∃ u,r=some u ∧
   wpAny (model P w) X.A (letOwnedTupleGo tg (.ref it) u) (fun _ s2=>∃ x H',Inv X pins σ H' s2∧RelV x u∧J.yld i H x H'∧tn (i+1) s2.heap∧∀ b∈fp,H' b=none) E s1) E s
 done:∀(X:Cx),X.prog=P→X.w=w→X.K=K→X.calm=true→∀(i:Nat) (pins:List (Addr×Obj)) (s:Shared) (σ:St) (H:Hp) (E:Value→Shared→Prop),Inv X pins σ H s→(∀ b∈fp,FpOk X pins H b)→tn i s.heap→J.stop i H →
  wpAny (model P w) X.A (pyNext (.ref it)) (fun r s1=>r=none∧Inv X pins σ H s1) E s
 self:∀(A:Around) (i:Nat) (s:Shared) (Q:Value→Shared→Prop) (E:Value→Shared→Prop),tn i s.heap→Q (.ref it) s→wpAny (model P w) A (pyIter (.ref it)) Q E s
abbrev TI:=St→Hp→(It→Hp→Prop)→Prop
noncomputable def PIE (X:Cx)(pins:List (Addr×Obj))(σ:St)(tg:Expr)(R:It→Hp→Prop)(itv:Value)(s2:Shared):Prop:=
 ∃(it:Addr) (fp:List Addr) (tn:Nat→Heap→Prop) (J:It) (H':Hp),itv=.ref it∧Inv X pins σ H' s2∧Turn X.prog X.w X.K tg J fp it tn∧tn 0 s2.heap∧(∀ b∈fp,FpOk X pins H' b)∧R J H'
noncomputable def PI (X:Cx)(tg iter:Expr)(wi:TI):Prop:=
 ∀(pins:List (Addr×Obj)) (s:Shared) (σ:St) (H:Hp) (R:It→Hp→Prop),Inv X pins σ H s→wi σ H R →
  wpAny (model X.prog X.w) X.A (eval iter X.env) (fun v s1=>wpAny (model X.prog X.w) X.A (pyIter v) (PIE X pins σ tg R) X.xe s1) X.xe s
theorem go_of {M:Model}{A:Around}{E:Value→Shared→Prop}{s:Shared}{tg:Expr}{it:Addr}{u:Value}{o:Obj}{n:String}{vs:Array Value}{Q:Unit→Shared→Prop}(ho:s.heap.get? it=some o)(hc:o.cls=.type n)(hd:o.data=.fields vs)
    (hn:["enumerate", "zip", "dict_itemiterator", "dict_reverseitemiterator", "odict_iterator", "itertools.zip_longest", "itertools.pairwise"].contains n=false) (hQ:Q () s):wpAny M A (letOwnedTupleGo tg (.ref it) u) Q E s:=by
  unfold letOwnedTupleGo
  cases tg<;>first
    | exact wpAny_pure hQ
    | (cases u<;>first
        | exact wpAny_pure hQ
        | (refine wpAny_bind (wpAny_load ho ?_)
           rw[hc,hd];show wpAny M A (if (["enumerate", "zip", "dict_itemiterator", "dict_reverseitemiterator", "odict_iterator", "itertools.zip_longest", "itertools.pairwise"].contains n&&vs[0]?==some (rawInt _))=true then _ else _) Q E s;rw[if_neg (by intro h; rw[hn,Bool.false_and] at h; cases h)];exact wpAny_pure hQ))
noncomputable def Itt (K:PySem.W.Frag)(a:Addr):It:=
 ⟨fun i H=>∃ xs x,SqT K H a xs∧xs[i]?=some x,fun i H x H'=>H'=H∧∀ xs,SqT K H a xs→xs[i]?=some x,fun i H=>∃ xs,SqT K H a xs∧xs.length≤i⟩
noncomputable def Itr (lo:Int)(n:Nat):It:=⟨fun i _=>i<n,fun i H x H'=>H'=H∧x=.int (lo+i),fun i _=>n≤i⟩
theorem turn_tuple {P:Program}{w:World}{K:PySem.W.Frag}{tg:Expr}(a it:Addr):Turn P w K tg (Itt K a) [it] it (fun i h=>h.IsTupleIter it a i) where
 mem:=by simp
 obj:=fun i h st b hb=>by
  have e:b=it:=by simpa using hb
  subst e;obtain⟨o,e,c,d⟩:=st;exact⟨o,e,fun v z=>by rw[d] at z; cases z⟩
 keep:=fun i h h' st k=>st.at fun o e=>k it (by simp) o e
 item:=by
  intro X hP hw hK hc i pins s σ H E I hf st hg;subst hP hw hK;obtain⟨xs,x,hq,hx⟩:=hg;obtain⟨its,rv,p,hz⟩:=I.tuple hq;obtain⟨u,hu,ru⟩:=rv.get hx;obtain⟨f0,f1,f2,f3,f4,f5⟩:=hf it (by simp);refine wpAny_pyNext_tuple_item st (show s.heap.IsTuple a its.toArray from p) (x:=u) (by simpa using hu) fun h' st' sb=>?_;have I1:Inv X pins σ H { s with heap:=h' }:=I.turned (t':=s.toks) (fun b o hb e=>(sb.2 b hb).trans e) f0 f1 f3 f4 f5;obtain⟨o,e,c,d⟩:=id st';exact⟨u,rfl,go_of (s:={ s with heap:=h' }) e c d (by decide) ⟨x,H,I1,ru,⟨rfl,fun ys hy=>by rw[I.tuple_inj hy hq]; exact hx⟩,st',fun b hb=>(hf b hb).1⟩⟩
 done:=by
  intro X hP hw hK hc i pins s σ H E I hf st hg;subst hP hw hK;obtain⟨xs,hq,hx⟩:=hg;obtain⟨its,rv,p,hz⟩:=I.tuple hq;obtain⟨f0,f1,f2,f3,f4,f5⟩:=hf it (by simp);have hl:=rv.length;exact wpAny_pyNext_tuple_end (I.ok.hd hc) st (show s.heap.IsTuple a its.toArray from p) (by simp; omega) fun h' eb=>⟨rfl,I.turned (t':=s.toks) (fun b o hb e=>eb b o hb e) f0 f1 f3 f4 f5⟩
 self:=fun _ _ _ _ _ st h=>wpAny_pyIter_tupleiter st h
theorem turn_range {P:Program}{w:World}{K:PySem.W.Frag}{tg:Expr}(it:Addr)(lo:Int)(n:Nat):Turn P w K tg (Itr lo n) [it] it (fun i h=>IsRangeIter h it (lo+(i:Nat)*1) ((n:Int)-(i:Nat)) 1) where
 mem:=by simp
 obj:=fun i h st b hb=>by
  have e:b=it:=by simpa using hb
  subst e;exact⟨_,st,fun v z=>by
   have z':Data.fields _=Data.cell v:=z
   cases z'⟩
 keep:=fun i h h' st k=>k it (by simp) _ st
 item:=by
  intro X hP hw hK hc i pins s σ H E I hf st hg;subst hP hw hK;obtain⟨f0,f1,f2,f3,f4,f5⟩:=hf it (by simp);have W:=Walks.range (prog:=X.prog) (w:=X.w) (I.ok.hd hc) it lo 1 n;refine W.item i s _ _ hg st fun v h' tk hv st' kk=>?_;obtain⟨t,rfl⟩:=hv;have I1:Inv X pins σ H { s with heap:=h',toks:=tk }:=I.turned (fun b o hb e=>kk b o (by simpa using hb) e) f0 f1 f3 f4 f5;refine⟨_,rfl,go_of (s:={ s with heap:=h',toks:=tk }) (n := "range_iterator") st' rfl rfl (by decide) ⟨.int (lo+i),H,I1,⟨t,?_⟩,⟨rfl,rfl⟩,st',fun b hb=>(hf b hb).1⟩⟩;rw[Int.mul_one]
 done:=by
  intro X hP hw hK hc i pins s σ H E I hf st hg;subst hP hw hK;obtain⟨f0,f1,f2,f3,f4,f5⟩:=hf it (by simp);exact wpAny_pyNext_range_end (I.ok.hd hc) st (by have:n≤i:=hg; omega) fun h' eb=>⟨rfl,I.turned (t':=s.toks) (fun b o hb e=>eb b o hb e) f0 f1 f3 f4 f5⟩
 self:=fun _ _ _ _ _ st h=>wpAny_pyIter_rangeiter st h
end L2
namespace L2
open PySem PySem.Spec PyProof.Rows
section
variable {X:Cx}{tg:Expr}
noncomputable def iTup (K:PySem.W.Frag)(tl:TE):TI:=fun σ H R=>tl σ H fun x H1=>∃ a,x=.ref a∧(∃ xs,SqT K H1 a xs)∧R (Itt K a) H1
theorem pi_tup {l:Expr}{tl:TE}(hl:PE X l tl):PI X tg l (iTup X.K tl):=by
 intro pins s σ H R I h;refine thn (hl pins s σ H _ I h) fun v s1 ⟨x,H1,I1,r1,q1⟩=>?_;obtain⟨a,e,⟨xs,hq⟩,q⟩:=q1;subst e
 cases r1
 obtain⟨its,rv,p,hz⟩:=I1.tuple hq;refine wpAny_pyIter_tuple (show s1.heap.IsTuple a its.toArray from p) ?_;refine⟨s1.heap.objs.size,[s1.heap.objs.size],_,_,H1,rfl,I1.kept (t':=s1.toks) fun b o e=>get?_push_of_some _ e,turn_tuple a _,⟨_,get?_push_size _ rfl,rfl,rfl⟩,fun b hb=>?_,q⟩;have e:b=s1.heap.objs.size:=by simpa using hb
 subst e;exact I1.fpOk (le_refl _) (I1.hok.fresh (le_refl _))
theorem range_it {pins:List (Addr×Obj)}{σ:St}{H:Hp}{s:Shared}{R:It→Hp→Prop}{E:Value→Shared→Prop}{lo hi:Int}{t u v:Tok}{tk:Nat}(I:Inv X pins σ H s)(h1 : -(2^62)≤lo)(h2:lo<2^62)(h3 : -(2^62)≤hi)(h4:hi<2^62)
  (q:R (Itr lo (hi-lo).toNat) H):wpAny (model X.prog X.w) X.A (pyIter (.ref s.heap.objs.size)) (PIE X pins σ tg R) E { s with heap:=s.heap.push { cls:=.type "range", data:=.fields #[.int lo t,.int hi u,.int 1 v] },toks:=tk }:=by
 refine wpAny_pyIter_range (IsRange.new ..) (small_one h1 h2 h3 h4) ?_;have I1:Inv X pins σ H { s with heap:=s.heap.push { cls:=.type "range", data:=.fields #[.int lo t,.int hi u,.int 1 v] },toks:=tk }:=I.kept fun b o e=>get?_push_of_some _ e;refine⟨(s.heap.push { cls:=.type "range", data:=.fields #[.int lo t,.int hi u,.int 1 v] }).objs.size,[(s.heap.push { cls:=.type "range", data:=.fields #[.int lo t,.int hi u,.int 1 v] }).objs.size],_,_,H,rfl,
  I1.kept (t':=tk) fun b o e=>get?_push_of_some _ e,turn_range _ lo (hi-lo).toNat,?_,fun b hb=>?_,q⟩
 ·have e1:lo+((0:Nat):Int)*1=lo:=by simp
  have e2:(((hi-lo).toNat:Nat):Int)-((0:Nat):Int)=Builtin.Range.rangeSize lo hi 1:=by rw[rangeSize_one]; split<;>omega
  show IsRangeIter _ _ (lo+((0:Nat):Int)*1) ((((hi-lo).toNat:Nat):Int)-((0:Nat):Int)) 1;rw[e1,e2];exact get?_push_size _ rfl
 ·have e:b=(s.heap.push { cls:=.type "range", data:=.fields #[.int lo t,.int hi u,.int 1 v] }).objs.size:=by simpa using hb
  subst e;exact I1.fpOk (le_refl _) (I1.hok.fresh (le_refl _))
noncomputable def iRng1 (ta:TA):TI:=fun σ H R=>ta σ H fun vs H1=>∃ j:Int,vs=[.int j] ∧ -(2^62)≤j∧j<2^62∧R (Itr 0 j.toNat) H1
theorem pi_range1 {a:Expr}{ta:TA}{p pos:Pos}(hg:Gl X "range")(hm:X.mg "range" = none)(ha:PA X [a] ta)(hs:starEach [a] X.env=[(false,eval a X.env)]:=by rfl):PI X tg (.Call (.Name "range" p) [a] [] pos) (iRng1 ta):=by
 intro pins s σ H R I h;refine Call_ (ld_blt I hg hm boot_range (PyProof.Rows.callWith_type1 (thn (ha pos pins s σ H _ I h) fun us s1 ⟨vs,H1,I1,r1,q1⟩=>?_) hs rfl));obtain⟨j,e,q1,q2,q⟩:=q1;subst e
 cases r1 with
 | cons r rr=>
  cases rr
  obtain⟨t,rfl⟩:=r;exact call_range_1 (range_it I1 (by omega) (by omega) q1 q2 (by simpa using q))
noncomputable def tFor (wi:TI)(g:TG)(tb:TS):TS:=fun D σ H=>wi σ H fun J H1=>∃ W:Nat→Nat→St→Hp→Prop,(∃ m,W 0 m σ H1)∧∀ i m σ H,W i m σ H →
 (J.stop i H∧D.nx σ H)∨(J.go i H∧∃ N:St→Hp→Prop,(∀ σ' H',N σ' H'→∃ m',m'<m∧W (i+1) m' σ' H')∧∀ x H',J.yld i H x H'→g x σ H' fun σ2 H2=>tb { D with nx:=N,ct:=N,bk:=D.nx } σ2 H2)
noncomputable def pinsAt (fp:List Addr)(h:Heap):List (Addr×Obj):=fp.filterMap fun b=>(h.get? b).map fun o=>(b,o)
theorem mem_pinsAt {fp:List Addr}{h:Heap}{b:Addr}{o:Obj}(hb:b∈fp)(e:h.get? b=some o):(b,o)∈pinsAt fp h:=mem_filterMap.mpr ⟨b,hb,by rw[e]; rfl⟩
theorem of_pinsAt {fp:List Addr}{h:Heap}{p:Addr×Obj}(hp:p∈pinsAt fp h):p.1∈fp∧h.get? p.1=some p.2:=by
 obtain⟨b,hb,e⟩:=mem_filterMap.mp hp
 cases q:h.get? b with
 | none=>rw[q] at e; cases e
 | some o=>
  rw[q] at e;have e':(b,o)=p:=Option.some.inj e;subst e';exact⟨hb,q⟩
theorem Inv.pinned {pins:List (Addr×Obj)}{σ:St}{H:Hp}{s:Shared}{fp:List Addr}(I:Inv X pins σ H s)(hf:∀ b∈fp,FpOk X pins H b)(ho:∀ b∈fp,∃ o,s.heap.get? b=some o∧∀ v,o.data≠.cell v):Inv X (pins++pinsAt fp s.heap) σ H s:=
 I.pins_of fun p hp=>(mem_append.mp hp).elim (fun z=>I.pin p (mem_append_right _ z)) fun z=>by
  obtain⟨hb,e⟩:=of_pinsAt z;obtain⟨f0,f1,f2,_⟩:=hf p.1 hb;obtain⟨o,e',d⟩:=ho p.1 hb;rw[e] at e'; cases e';exact⟨e,f0,f1,f2,d⟩
theorem Inv.unpinned {pins pl:List (Addr×Obj)}{σ:St}{H:Hp}{s:Shared}(I:Inv X (pins++pl) σ H s):Inv X pins σ H s:=I.pins_of fun p hp=>I.pin p (mem_append_right _ (mem_append_left _ hp))
theorem ps_for {iter:Expr}{body:List Stmt}{wi:TI}{g:TG}{tb:TS}{pos:Pos}(hp:PassesOwn (model X.prog X.w) X.A X.env X.xe)(hc:X.calm=true)(hi:PI X tg iter wi)(hg:PG X tg g)(hb:PSs X body tb)
  (hs:∀ x,foldedSetIterable iter X.env x=pure x:=by intro _; rfl):PS X (.For tg iter body [] pos) (tFor wi g tb):=by
 intro pins s σ H D I h;refine wpAny_For (thn (hi pins s σ H _ I h) fun v s1 h1=>thn h1 fun itv s2 h2=>?_) hs;obtain⟨it,fp,tn,J,H2,e,I2,T,st2,f2,W,⟨m0,w0⟩,turn⟩:=h2;subst e;have stat:∀{H':Hp},(∀ b∈fp,H' b=none)→∀ b∈fp,FpOk X pins H' b:=fun hn b hb=>⟨hn b hb,(f2 b hb).2⟩;refine codeAny_forLoop_any (fun n s'=>∃ i σ' H',Inv X pins σ' H' s'∧tn i s'.heap∧(∀ b∈fp,H' b=none)∧W i n σ' H') ?_ m0 ⟨0,σ,H2,I2,st2,fun b hb=>(f2 b hb).1,w0⟩;rintro n s3 ⟨i,σ3,H3,I3,st3,fr3,w3⟩;rcases turn i n σ3 H3 w3 with⟨stop,qn⟩|⟨go,N,hN,step⟩
 ·refine wpAny_passesOwn hp (thn (T.done X rfl rfl rfl hc i pins s3 σ3 H3 X.xe I3 (stat fr3) st3 stop) fun r s4 ⟨hr,I4⟩=>?_);subst hr;exact wpAny_execs_nil ⟨σ3,H3,I4,qn⟩
 ·refine wpAny_passesOwn hp (thn (T.item X rfl rfl rfl hc i pins s3 σ3 H3 X.xe I3 (stat fr3) st3 go) fun r s4 ⟨u,hr,h4⟩=>?_);subst hr;refine wpAny_passesOwn hp (thn h4 fun _ s5 ⟨x,H5,I5,r5,y5,st5,fr5⟩=>?_);have I5':=I5.pinned (stat fr5) (T.obj _ _ st5);refine wpAny_passesOwn hp (thn (hg _ s5 σ3 H5 x u _ I5' r5 (step x H5 y5)) fun _ s6 ⟨σ6,H6,I6,q6⟩=>?_);refine wpAny_passesOwn hp (thn (hb _ s6 σ6 H6 _ I6 q6) fun f s7 q7=>?_);have again:∀{σ7:St} {H7:Hp},Inv X (pins++pinsAt fp s5.heap) σ7 H7 s7→N σ7 H7→∃ m,m<n∧∃ i σ' H',Inv X pins σ' H' s7∧tn i s7.heap∧(∀ b∈fp,H' b=none)∧W i m σ' H':=fun{σ7 H7} I7 n7=>by
   obtain⟨m',hm,w7⟩:=hN σ7 H7 n7;refine⟨m',hm,i+1,σ7,H7,I7.unpinned,T.keep _ _ _ st5 fun b hb o e=>(I7.pin (b,o) (mem_append_right _ (mem_append_right _ (mem_pinsAt hb e)))).1,fun b hb=>?_,w7⟩;obtain⟨o,e,d⟩:=T.obj _ _ st5 b hb;exact(I7.pin (b,o) (mem_append_right _ (mem_append_right _ (mem_pinsAt hb e)))).2.1
  cases f with
  | next=>obtain⟨σ7,H7,I7,n7⟩:=q7; exact again I7 n7
  | cont=>obtain⟨σ7,H7,I7,n7⟩:=q7; exact again I7 n7
  | brk=>obtain⟨σ7,H7,I7,q7⟩:=q7; exact⟨σ7,H7,I7.unpinned,q7⟩
  | ret v=>obtain⟨x7,σ7,H7,I7,r7,q7⟩:=q7; exact⟨x7,σ7,H7,I7.unpinned,r7,q7⟩
end
end L2
namespace L2
open PySem PySem.Spec PyProof.Rows
abbrev R2:=V→V→Hp→VK→Prop
noncomputable def OpR (X:Cx)(f:Value→Value→Sem Value)(r:R2):Prop:=
 ∀(pins:List (Addr×Obj)) (s:Shared) (σ:St) (H:Hp) (x y:V) (v u:Value) (Q:VK),Inv X pins σ H s→RelV x v→RelV y u→r x y H Q →
  wpAny (model X.prog X.w) X.A (f v u) (EP X pins σ Q) X.xe s
noncomputable def UnR (X:Cx)(f:Value→Sem Value)(r:V→Hp→VK→Prop):Prop:=
 ∀(pins:List (Addr×Obj)) (s:Shared) (σ:St) (H:Hp) (x:V) (v:Value) (Q:VK),Inv X pins σ H s→RelV x v→r x H Q →
  wpAny (model X.prog X.w) X.A (f v) (EP X pins σ Q) X.xe s
noncomputable def CallR (X:Cx)(f:Value)(r:List V→Hp→VK→Prop):Prop:=
 ∀(pins:List (Addr×Obj)) (s:Shared) (σ:St) (H:Hp) (xs:List V) (us:List Value) (Q:VK),Inv X pins σ H s→Vals xs us→r xs H Q →
  wpAny (model X.prog X.w) X.A (call f us) (EP X pins σ Q) X.xe s
noncomputable def tOp (r:R2)(ta tb:TE):TE:=fun σ H Q=>ta σ H fun x H1=>tb σ H1 fun y H2=>r x y H2 Q
noncomputable def tUn (r:V→Hp→VK→Prop)(ta:TE):TE:=fun σ H Q=>ta σ H fun x H1=>r x H1 Q
noncomputable def rI (C:Int→Int→Prop)(g:Int→Int→V):R2:=fun x y H Q=>∃ i j,x=.int i∧y=.int j∧C i j∧Q (g i j) H
noncomputable def rI0 (g:Int→Int→V):R2:=fun x y H Q=>∃ i j,x=.int i∧y=.int j∧Q (g i j) H
noncomputable def rU (g:Int→V):V→Hp→VK→Prop:=fun x H Q=>∃ i,x=.int i∧Q (g i) H
section
variable {X:Cx}{a b c:Expr}{ta tb tc:TE}{pos:Pos}
theorem binT (ha:PE X a ta)(hb:PE X b tb){pins:List (Addr×Obj)}{s:Shared}{σ:St}{H:Hp}{R:V→V→Hp→Prop}(I:Inv X pins σ H s)
  (h:ta σ H fun x H1=>tb σ H1 fun y H2=>R x y H2) {Q:Value→Shared→Prop} {f:Value→Value→Sem Value}
  (hf:∀ v u s2 x y H2,Inv X pins σ H2 s2→RelV x v→RelV y u→R x y H2→wpAny (model X.prog X.w) X.A (f v u) Q X.xe s2) :
  wpAny (model X.prog X.w) X.A (eval a X.env) (fun v s₁=>wpAny (model X.prog X.w) X.A (eval b X.env) (fun u s₂=>wpAny (model X.prog X.w) X.A (f v u) Q X.xe s₂) X.xe s₁) X.xe s:=by
 refine thn (ha pins s σ H _ I h) fun v s1 ⟨x,H1,I1,r1,q1⟩=>?_;refine thn (hb pins s1 σ H1 _ I1 q1) fun u s2 ⟨y,H2,I2,r2,q2⟩=>?_;exact hf v u s2 x y H2 I2 r1 r2 q2
theorem bC {op:Operator}{r:R2}(ho:OpR X (binaryOp op) r)(ha:PE X a ta)(hb:PE X b tb):PE X (.BinOp a op b pos) (tOp r ta tb):=by
 intro pins s σ H Q I h;exact wpAny_BinOp (binT ha hb I h fun v u s2 x y H2 I2 rx ry q=>ho pins s2 σ H2 x y v u Q I2 rx ry q)
theorem pe_un {op:UnaryOp}{r:V→Hp→VK→Prop}(ho:UnR X (unaryOp op) r)(ha:PE X a ta):PE X (.UnaryOp op a pos) (tUn r ta):=by
 intro pins s σ H Q I h;exact UnaryOp_ (thn (ha pins s σ H _ I h) fun v s1 ⟨x,H1,I1,r1,q1⟩=>ho pins s1 σ H1 x v Q I1 r1 q1)
theorem opI {f:Value→Value→Sem Value}{C:Int→Int→Prop}{g:Int→Int→Int}
  (rule:∀(i j:Int) (t u:Tok) (s:Shared) (Q:Value→Shared→Prop) (E:Value→Shared→Prop),C i j→Q (.int (g i j) s.toks) { s with toks:=s.toks+1 }→wpAny (model X.prog X.w) X.A (f (.int i t) (.int j u)) Q E s) :
  OpR X f (rI C fun i j=>.int (g i j)):=by
 intro pins s σ H x y v u Q I rx ry h;obtain⟨i,j,rfl,rfl,hc,q⟩:=h;obtain⟨t,rfl⟩:=rx;obtain⟨t',rfl⟩:=ry;exact rule i j t t' s _ _ hc ⟨.int (g i j),H,I.tok _,⟨_,rfl⟩,q⟩
theorem opI0 {f:Value→Value→Sem Value}{g:Int→Int→Int}
  (rule:∀(i j:Int) (t u:Tok) (s:Shared) (Q:Value→Shared→Prop) (E:Value→Shared→Prop),Q (.int (g i j) s.toks) { s with toks:=s.toks+1 }→wpAny (model X.prog X.w) X.A (f (.int i t) (.int j u)) Q E s) :
  OpR X f (rI0 fun i j=>.int (g i j)):=by
 intro pins s σ H x y v u Q I rx ry h;obtain⟨i,j,rfl,rfl,q⟩:=h;obtain⟨t,rfl⟩:=rx;obtain⟨t',rfl⟩:=ry;exact rule i j t t' s _ _ ⟨.int (g i j),H,I.tok _,⟨_,rfl⟩,q⟩
theorem opB0 {f:Value→Value→Sem Value}{g:Int→Int→Bool}
  (rule:∀(i j:Int) (t u:Tok) (s:Shared) (Q:Value→Shared→Prop) (E:Value→Shared→Prop),Q (.bool (g i j)) s→wpAny (model X.prog X.w) X.A (f (.int i t) (.int j u)) Q E s) :
  OpR X f (rI0 fun i j=>.bl (g i j)):=by
 intro pins s σ H x y v u Q I rx ry h;obtain⟨i,j,rfl,rfl,q⟩:=h;obtain⟨t,rfl⟩:=rx;obtain⟨t',rfl⟩:=ry;exact rule i j t t' s _ _ ⟨.bl (g i j),H,I,rfl,q⟩
noncomputable def CDiv (i j:Int):Prop:=0<j∧j<1073741824
noncomputable def CPow (i j:Int):Prop:=0≤j∧j≤1000000∧i.natAbs<2^64
noncomputable def CMul (i j:Int):Prop:=(-(2^64)<i∧i<2^64)∨(-(2^64)<j∧j<2^64)
theorem CMul.ok {i j:Int}(h:CMul i j):IntMulOk i j:=by
 rcases h with⟨h1,h2⟩|⟨h1,h2⟩
 ·exact .of_left (intBits_le_64 h1 h2)
 ·exact .of_right (intBits_le_64 h1 h2)
theorem op_add:OpR X (binaryOp .Add) (rI0 fun i j=>.int (i+j)):=opI0 fun _ _ _ _ _ _ _ q=>add_int q
theorem op_sub:OpR X (binaryOp .Sub) (rI0 fun i j=>.int (i-j)):=opI0 fun _ _ _ _ _ _ _ q=>sub_int q
theorem op_mul:OpR X (binaryOp .Mult) (rI CMul fun i j=>.int (i*j)):=opI fun _ _ _ _ _ _ _ hc q=>mul_int q hc.ok
theorem op_fdiv:OpR X (binaryOp .FloorDiv) (rI CDiv fun i j=>.int (i/j)):=opI fun i j _ _ _ _ _ hc q=>by
 have h1:(0:Int)<j:=hc.1;have h2:j<1073741824:=hc.2;exact floordiv_int (by omega) (by rw[Int.fdiv_eq_ediv_of_nonneg i (by omega)]; exact q) (.inl (PyProof.noPylong_small (by omega)))
theorem op_mod:OpR X (binaryOp .Mod) (rI (fun _ j=>0<j) fun i j=>.int (i%j)):=opI fun i j _ _ _ _ _ hc q=>by
 have h1:(0:Int)<j:=hc;exact mod_int' (by omega) (by rw[Int.fmod_eq_emod_of_nonneg i (by omega)]; exact q)
theorem op_pow:OpR X (binaryOp .Pow) (rI CPow fun i j=>.int (i^j.toNat)):=opI fun _ _ _ _ _ _ _ hc q=>pow_int_small hc.1 hc.2.1 hc.2.2 q
theorem unI {f:Value→Sem Value}{g:Int→Int}
  (rule:∀(i:Int) (t:Tok) (s:Shared) (Q:Value→Shared→Prop) (E:Value→Shared→Prop),Q (.int (g i) s.toks) { s with toks:=s.toks+1 }→wpAny (model X.prog X.w) X.A (f (.int i t)) Q E s) :
  UnR X f (rU fun i=>.int (g i)):=by
 intro pins s σ H x v Q I rx h;obtain⟨i,rfl,q⟩:=h;obtain⟨t,rfl⟩:=rx;exact rule i t s _ _ ⟨.int (g i),H,I.tok _,⟨_,rfl⟩,q⟩
theorem un_neg:UnR X (unaryOp .USub) (rU fun i=>.int (-i)):=unI fun _ _ _ _ _ q=>neg_int q
end
noncomputable def scal:V→V→Bool
 | .non,.non=>true|.non,.int _=>true|.int _,.non=>true|.non,.bl _=>true|.bl _,.non=>true|.non,.str _=>true|.str _,.non=>true
 | .int _,.int _=>true|.bl _,.bl _=>true|.str _,.str _=>true|.byt _,.byt _=>true
 | .int _,.str _=>true|.str _,.int _=>true|.bl _,.str _=>true|.str _,.bl _=>true
 | _,_=>false
noncomputable def rEq:R2:=fun x y H Q=>scal x y=true∧Q (.bl (decide (x=y))) H
theorem dec_int {i j:Int}:decide (V.int i=V.int j)=(i==j):=by
 rw[Bool.eq_iff_iff];simp
theorem dec_bl {i j:Bool}:decide (V.bl i=V.bl j)=(i==j):=by
 rw[Bool.eq_iff_iff];simp
theorem dec_str {i j:Str}:decide (V.str i=V.str j)=(i==j):=by
 rw[Bool.eq_iff_iff];simp
theorem dec_byt {i j:Array UInt8}:decide (V.byt i=V.byt j)=(i.toList==j.toList):=by
 rw[Bool.eq_iff_iff]
 cases i
 cases j
 simp
section
variable {X:Cx}{a b c:Expr}{ta tb tc:TE}{pos:Pos}
theorem fin_bl {pins:List (Addr×Obj)}{σ:St}{H:Hp}{s:Shared}{Q:VK}{k k':Bool}(I:Inv X pins σ H s)(q:Q (.bl k) H)(e:k=k'):EP X pins σ Q (.bool k') s:=by
 subst e;exact⟨.bl k,H,I,rfl,q⟩
theorem op_eq:OpR X (compareOp .Eq) rEq:=by
 intro pins s σ H x y v u Q I rx ry h;obtain⟨hs,q⟩:=h
 cases x with
 | non=>
  cases rx
  cases y with
  | non=>cases ry; exact PySem.EqNone.eq_none_none (fin_bl I q (by simp))
  | bl j=>cases ry; exact PySem.EqNone.eq_none_bool (fin_bl I q (by simp))
  | int j=>obtain⟨t',rfl⟩:=ry; exact PySem.EqNone.eq_none_int (fin_bl I q (by simp))
  | str j=>obtain⟨t',rfl⟩:=ry; exact PySem.EqNone.eq_none_str (fin_bl I q (by simp))
  | _=>exact absurd (show false=true from hs) Bool.false_ne_true
 | bl i=>
  cases rx
  cases y with
  | non=>cases ry; exact PySem.EqNone.eq_bool_none (fin_bl I q (by simp))
  | bl j=>cases ry; exact eq_bool (fin_bl I q dec_bl)
  | str j=>obtain⟨t',rfl⟩:=ry; exact PySem.EqMixed.eq_bool_str (fin_bl I q (by simp))
  | _=>exact absurd (show false=true from hs) Bool.false_ne_true
 | int i=>
  obtain⟨t,rfl⟩:=rx
  cases y with
  | non=>cases ry; exact PySem.EqNone.eq_int_none (fin_bl I q (by simp))
  | int j=>obtain⟨t',rfl⟩:=ry; exact eq_int (fin_bl I q dec_int)
  | str j=>obtain⟨t',rfl⟩:=ry; exact PySem.EqMixed.eq_int_str (fin_bl I q (by simp))
  | _=>exact absurd (show false=true from hs) Bool.false_ne_true
 | str i=>
  obtain⟨t,rfl⟩:=rx
  cases y with
  | non=>cases ry; exact PySem.EqNone.eq_str_none (fin_bl I q (by simp))
  | bl j=>cases ry; exact PySem.EqMixed.eq_str_bool (fin_bl I q (by simp))
  | int j=>obtain⟨t',rfl⟩:=ry; exact PySem.EqMixed.eq_str_int (fin_bl I q (by simp))
  | str j=>obtain⟨t',rfl⟩:=ry; exact eq_str (fin_bl I q dec_str)
  | _=>exact absurd (show false=true from hs) Bool.false_ne_true
 | byt i=>
  obtain⟨t,rfl⟩:=rx
  cases y with
  | byt j=>obtain⟨t',rfl⟩:=ry; exact PySem.W.eq_bytes (fin_bl I q dec_byt)
  | _=>exact absurd (show false=true from hs) Bool.false_ne_true
 | _=>cases y<;>exact absurd (show false=true from hs) Bool.false_ne_true
theorem op_lt:OpR X (compareOp .Lt) (rI0 fun i j=>.bl (decide (i<j))):=opB0 fun _ _ _ _ _ _ _ q=>lt_int q
theorem op_gt:OpR X (compareOp .Gt) (rI0 fun i j=>.bl (decide (j<i))):=opB0 fun _ _ _ _ _ _ _ q=>gt_int q
theorem op_ge:OpR X (compareOp .GtE) (rI0 fun i j=>.bl (decide (j≤i))):=opB0 fun _ _ _ _ _ _ _ q=>ge_int q
theorem op_isN:OpR X (compareOp .Is) (fun x y H Q=>y=.non∧Q (.bl (decide (x=.non))) H):=by
 intro pins s σ H x y v u Q I rx ry h;obtain⟨rfl,q⟩:=h
 cases ry
 refine is_none_gen (fin_bl I q ?_)
 cases x<;>first
  | (cases rx; rfl)
  | (obtain⟨t,rfl⟩:=rx; rfl)
theorem op_notN:OpR X (compareOp .IsNot) (fun x y H Q=>y=.non∧Q (.bl (!decide (x=.non))) H):=by
 intro pins s σ H x y v u Q I rx ry h;obtain⟨rfl,q⟩:=h
 cases ry
 refine isnot_none_gen (fin_bl I q ?_)
 cases x<;>first
  | (cases rx; rfl)
  | (obtain⟨t,rfl⟩:=rx; rfl)
theorem bF (b:Expr){op:CmpOp}(h:op≠.In:=by decide)(h2:op≠.NotIn:=by decide):behindInMarks op b=false:=by
 have e1:(op==CmpOp.In)=false:=by cases op<;>first|rfl|exact absurd rfl h
 have e2:(op==CmpOp.NotIn)=false:=by cases op<;>first|rfl|exact absurd rfl h2
 cases b<;>simp[behindInMarks,e1,e2]
theorem pe_cmpR {op:CmpOp}{r:R2}(ho:OpR X (compareOp op) r)(ha:PE X a ta)(hb:PE X b tb)(hm:behindInMarks op b=false):PE X (.Compare a [op] [b] pos) (tOp r ta tb):=by
 intro pins s σ H Q I h;exact wpAny_Compare1 (binT ha hb I h fun v u s2 x y H2 I2 rx ry q=>ho pins s2 σ H2 x y v u Q I2 rx ry q) hm
noncomputable def tTest (t:TE):TT:=fun σ H Q=>t σ H fun x H'=>∃ k,x=.bl k∧Q k H'
theorem aP {op:CmpOp}{r:R2}(ho:OpR X (compareOp op) r)(ha:PE X a ta)(hb:PE X b tb)(hm:behindInMarks op b=false):PT X (.Compare a [op] [b] pos) (tTest (tOp r ta tb)):=by
 intro pins s σ H Q I h;refine wpAny_isTrue_Compare1 (thn (ha pins s σ H _ I h) fun v s1 ⟨x,H1,I1,r1,q1⟩=>thn (hb pins s1 σ H1 _ I1 q1) fun u s2 ⟨y,H2,I2,r2,q2⟩=>
  thn (ho pins s2 σ H2 x y v u _ I2 r1 r2 q2) fun c s3 ⟨z,H3,I3,r3,k,e,q3⟩=>?_) hm
 subst e
 cases r3
 exact wpAny_truthy_bool ⟨H3,I3,q3⟩
theorem line63:(sizeLine:Nat)<2^63:=by rw[sizeLine_eq]; decide
theorem vals1 {x:V}{us:List Value}(r:Vals [x] us):∃ u,us=[u]∧RelV x u:=by
 cases r with
 | cons r1 r2=>cases r2; exact⟨_,rfl,r1⟩
theorem vals2 {x y:V}{us:List Value}(r:Vals [x,y] us):∃ u w',us=[u,w']∧RelV x u∧RelV y w':=by
 cases r with
 | cons r1 r2=>
  cases r2 with
  | cons r3 r4=>cases r4; exact⟨_,_,rfl,r1,r3⟩
theorem call_abs:CallR X (.builtin "abs") (fun xs H Q=>∃ i,xs=[.int i]∧Q (.int (if i<0 then -i else i)) H):=by
 intro pins s σ H xs us Q I r h;obtain⟨i,rfl,q⟩:=h;obtain⟨u,rfl,t,rfl⟩:=vals1 r;exact call_abs_int fun u tk=>⟨.int (if i<0 then -i else i),H,I.tok _,⟨_,rfl⟩,q⟩
theorem call_int1:CallR X (.type "int") (fun xs H Q=>(∃ i,xs=[.int i]∧Q (.int i) H)∨∃ k,xs=[.bl k]∧Q (.int (if k then 1 else 0)) H):=by
 intro pins s σ H xs us Q I r h;rcases h with⟨i,rfl,q⟩|⟨k,rfl,q⟩
 ·obtain⟨u,rfl,t,rfl⟩:=vals1 r;exact call_int_int ⟨.int i,H,I,⟨_,rfl⟩,q⟩
 ·obtain⟨u,rfl,r1⟩:=vals1 r
  cases r1
  exact call_int_bool ⟨.int (if k then 1 else 0),H,I.tok _,⟨_,rfl⟩,q⟩
end
end L2
namespace L2
open PySem PySem.Spec PyProof.Rows
structure ObjM (h:Heap)(x dx C:Addr)(mA:Str→Option Value):Prop where
 obj:h.get? x=some (instObj C dx)
 ns:h.Ns1 dx mA
 ne:dx≠x
theorem lookIn_ns {h:Heap}{dx:Addr}{mA:Str→Option Value}(n:h.Ns1 dx mA):∃ od,h.get? dx=some od∧∀ name,lookIn name od=some (mA name):=by
 obtain⟨o,es,ep,ho,hd,hk,_,hm⟩:=n;refine⟨o,ho,fun name=>?_⟩;have e:=hm name;unfold nsFind findBy at e;rw[← Array.find?_toList] at e;unfold lookIn;rw[hd];dsimp only
 split
 ·rename_i y q
  rw[q] at e;exact congrArg some e
 ·rename_i q
  rw[q] at e;have a:es.toList.any (·.refKey)=false:=by
   rw[List.any_eq_false];intro y hy;obtain⟨z,t,hkey⟩:=hk y (Array.mem_toList_iff.mp hy);simp[DictEntry.refKey,hkey]
  have a':¬es.toList.any (·.refKey)=true:=by rw[a]; exact Bool.false_ne_true
  rw[if_neg a'];exact congrArg some e
theorem ObjM.look {h:Heap}{x dx C:Addr}{mA:Str→Option Value}(I:ObjM h x dx C mA):∃ od,PySem.W.InstAt h x (instObj C dx) C (some od)∧∀ name,lookIn name od=some (mA name):=
 let ⟨od,ho,hl⟩:=lookIn_ns I.ns
 ⟨od,⟨I.obj,rfl,rfl,ho⟩,hl⟩
section
variable {prog:Program}{w:World}{A:Around}{E:Value→Shared→Prop}{s:Shared}{K:PySem.W.Frag}{x dx C f:Addr}{mA:Str→Option Value}{name:Str}{v:Value}
end
theorem RelO.some_of {v:V}{o:Option Value}(r:RelO (some v) o):∃ u,o=some u∧RelV v u:=by
 cases o with
 | none=>exact(show False from r).elim
 | some u=>exact⟨u,rfl,r⟩
theorem handed_of {v:V}{u:Value}(r:RelV v u):handedIn u=true:=by
 cases v with
 | non=>cases(show u=Value.none from r); rfl
 | bl b=>cases(show u=Value.bool b from r); rfl
 | int i=>obtain⟨t,e⟩:=(show ∃ t,u=Value.int i t from r); cases e; rfl
 | str x=>obtain⟨t,e⟩:=(show ∃ t,u=Value.str x t from r); cases e; rfl
 | byt b=>obtain⟨t,e⟩:=(show ∃ t,u=Value.bytes b t from r); cases e; rfl
 | flt b=>obtain⟨t,e⟩:=(show ∃ t,u=Value.float b t from r); cases e; rfl
 | ref a=>cases(show u=Value.ref a from r); rfl
 | ty n=>cases(show u=Value.type n from r); rfl
section
variable {P:Program}{w:World}{H H':Hp}{h h':Heap}{a C dx:Addr}{fs fs':List (Str×V)}
theorem ins_get (hok:HOk P w H h)(e:H a=some (.ins C dx fs)):∃ mA,ObjM h a dx C mA∧(∀ f,RelO (fs.lookup f) (mA f))∧PySem.Within mA (fs.map (·.1))∧fs.length≤1000∧H dx=some (.own a):=by
 obtain⟨d,z,ne,ob,mA,n,r,q⟩:=(show ObjOk P w H h a (.ins C dx fs) from hok a _ e);exact⟨mA,⟨ob,n,ne⟩,r,q,z,d⟩
end
structure Cls (K:PySem.W.Frag)(C:Addr):Prop where
 pg:plainGet K C Str.empty=true
 hd:hasDictIn K C=true
 po:PySem.W.plainOver K C=true
 sa:findIn K (.ref C) "__setattr__" = some (some (.builtin "object.__setattr__"))
theorem Cls.get {K:PySem.W.Frag}{C:Addr}(c:Cls K C)(f:Str):plainGet K C f=true:=c.pg
noncomputable def NoAttr (K:PySem.W.Frag)(C:Addr)(f:Str):Prop:=findIn K (.ref C) f=some none
section
variable {X:Cx}{pins:List (Addr×Obj)}{σ:St}{H:Hp}{s:Shared}{a C dx:Addr}{fs:List (Str×V)}{f:Str}{v:V}{A:Around}{E:Value→Shared→Prop}
theorem attr_of {prog:Program}{w:World}{env:Env}{e:Expr}{f:Str}{pos:Pos}{s:Shared}{Q:Value→Shared→Prop}(hb:attributeBase e f env (eval e env)=eval e env)
  (h:wpAny (model prog w) A (eval e env) (fun o s₁=>wpAny (model prog w) A (getAttr o f true) Q E s₁) E s):wpAny (model prog w) A (eval (.Attribute e f pos) env) Q E s:=
 Attribute_any_ h (by rw[arm_eval_Attribute,hb])
end
section
variable {X:Cx}{o e value:Expr}{f:Str}{pos pos' tpos:Pos}{ta tv:TE}
end
section
variable {X:Cx}{pins:List (Addr×Obj)}{σ:St}{H:Hp}{s:Shared}{A:Around}{E:Value→Shared→Prop}{Q:Value→Shared→Prop}{c:Value}{b:Bool}
inductive TyOf (K:PySem.W.Frag) (H:Hp):V→Value→Prop where
 | non:TyOf K H .non (.type "NoneType")
 | bl (x:Bool):TyOf K H (.bl x) (.type "bool")
 | int (i:Int):TyOf K H (.int i) (.type "int")
 | str (x:Str):TyOf K H (.str x) (.type "str")
 | flt (x:UInt64):TyOf K H (.flt x) (.type "float")
 | lst {a:Addr} {xs:List V} (e:H a=some (.lst xs)):TyOf K H (.ref a) (.type "list")
 | frz {a:Addr} {o:Obj} {xs:List V} (e:H a=some (.frz o (.lst xs))):TyOf K H (.ref a) (.type "list")
 | tup {a:Addr} {xs:List V} (e:H a=some (.tup xs)):TyOf K H (.ref a) (.type "tuple")
 | dK {a:Addr} {kvs:List (Key×V)} (e:H a=some (.dK kvs)):TyOf K H (.ref a) (.type "dict")
 | fdK {a:Addr} {o:Obj} {kvs:List (Key×V)} (e:H a=some (.frz o (.dK kvs))):TyOf K H (.ref a) (.type "dict")
 | dT {a:Addr} {kvs:List (List Key×V)} (e:H a=some (.dT kvs)):TyOf K H (.ref a) (.type "dict")
 | ins {a C dx:Addr} {fs:List (Str×V)} (e:H a=some (.ins C dx fs)) (cl:Cls K C) (ha:findIn K (.ref C) "__class__" = some (some (.builtin "object.__class__")))
   (hn:specialIn K (.builtin "object.__class__") "__get__" = some (some (.builtin "getset_descriptor.__get__"))) (htk:PySem.W.takesIn K (.builtin "object.__class__")=some true)
   (hm:mroIn K C (.type "object")=some true):TyOf K H (.ref a) (.ref C)
theorem isinst_ok {x:V}{u t:Value}(I:Inv X pins σ H s)(rx:RelV x u)(ty:TyOf X.K H x t)(e:kitOne X.K t c=some b)(h:∀ tk,Q (.bool b) { s with toks:=tk }) :
  wpAny (model X.prog X.w) A (call (.builtin "isinstance") [u,c]) Q E s:=by
 cases ty with
 | non=>cases(show u=Value.none from rx); exact kia_one PySem.W.kitx_none I.kIn True.intro e (fun z=>nomatch z) h
 | bl y=>cases(show u=Value.bool y from rx); exact kia_one PySem.W.kitx_bool I.kIn True.intro e (fun z=>nomatch z) h
 | int i=>obtain⟨t,q⟩:=(show ∃ t,u=Value.int i t from rx); cases q; exact kia_one PySem.W.kitx_int I.kIn True.intro e (fun z=>nomatch z) h
 | str y=>obtain⟨t,q⟩:=(show ∃ t,u=Value.str y t from rx); cases q; exact kia_one PySem.W.kitx_str I.kIn True.intro e (fun z=>nomatch z) h
 | flt y=>obtain⟨t,q⟩:=(show ∃ t,u=Value.float y t from rx); cases q; exact kia_one PySem.W.kitx_float I.kIn True.intro e (fun z=>nomatch z) h
 | @lst a xs ea=>
  cases(show u=Value.ref a from rx)
  obtain⟨_,_,n,_,h1⟩:=(show ObjOk X.prog X.w H s.heap a (.lst xs) from I.hok a _ ea);exact kia_one kitx_list I.kIn ⟨_,h1,rfl⟩ e (fun z=>nomatch z) h
 | @frz a ob xs ea=>
  cases(show u=Value.ref a from rx)
  obtain⟨_,_,_,n,_,h1⟩:=(show ObjOk X.prog X.w H s.heap a (.frz ob (.lst xs)) from I.hok a _ ea);exact kia_one kitx_list I.kIn ⟨_,h1,rfl⟩ e (fun z=>nomatch z) h
 | @tup a xs ea=>
  cases(show u=Value.ref a from rx)
  obtain⟨_,_,_,p⟩:=(show ObjOk X.prog X.w H s.heap a (.tup xs) from I.hok a _ ea);obtain⟨o,h1,h2,_⟩:=p;exact kia_one PySem.W.kitx_tuple I.kIn ⟨o,h1,h2⟩ e (fun z=>nomatch z) h
 | @dK a kvs ea=>
  cases(show u=Value.ref a from rx)
  obtain⟨_,_,vs,_,p⟩:=(show ObjOk X.prog X.w H s.heap a (.dK kvs) from I.hok a _ ea);obtain⟨o,es,ep,h1,h2,_⟩:=p;exact kia_one kitx_dict I.kIn ⟨o,h1,h2.1⟩ e (fun z=>nomatch z) h
 | @fdK a ob kvs ea=>
  cases(show u=Value.ref a from rx)
  obtain⟨_,_,_,vs,_,p⟩:=(show ObjOk X.prog X.w H s.heap a (.frz ob (.dK kvs)) from I.hok a _ ea);obtain⟨o,es,ep,h1,h2,_⟩:=p;exact kia_one kitx_dict I.kIn ⟨o,h1,h2.1⟩ e (fun z=>nomatch z) h
 | @dT a kvs ea=>
  cases(show u=Value.ref a from rx)
  obtain⟨_,_,xs,_,o,es,ep,h1,h2,_⟩:=(show ObjOk X.prog X.w H s.heap a (.dT kvs) from I.hok a _ ea);exact kia_one kitx_dict I.kIn ⟨o,h1,h2.1⟩ e (fun z=>nomatch z) h
 | @ins a C dx fs ea cl ha hn htk hm=>
  cases(show u=Value.ref a from rx)
  obtain⟨mA,O,_⟩:=ins_get I.hok ea;obtain⟨od,J,_⟩:=O.look;exact kia_one (PySem.W.kitx_own (cl.get _) cl.hd ha hn htk hm) I.kIn J e (fun z=>nomatch z) h
end
end L2
namespace L2
open PySem PySem.Spec PyProof.Rows
structure Room (k:Nat)(A:Around):Prop where
 hd:A.handled=none
 dp:A.depth+3*k+5<recursionLimit
 un:A.units+16*k+200<cLine
theorem Room.mono {j k:Nat}{A:Around}(r:Room k A)(h:j≤k):Room j A:=⟨r.hd,by have:=r.dp; omega,by have:=r.un; omega⟩
theorem Room.deeper {k:Nat}{A:Around}(r:Room (k+1) A)(env:Env):Room k (A.deeper env):=
 ⟨r.hd,by have:=r.dp; show A.depth+1+3*k+5<_; omega,by have:=r.un; show A.units+3+16*k+200<_; omega⟩
theorem make_depth {A:Around}{C:Addr}{us:List Value}{kw:List (Str×Value)}:(A.under (.builtin "type.__call__" ⟨.ref C::us,kw⟩)).depth=A.depth+1:=by
 first|rfl|simp[Around.under,Code.weight,Code.isCreation,Code.isGuard,Code.isCaller,Code.frames,Code.isFrame,guardIds]
theorem make_units {A:Around}{C:Addr}{us:List Value}{kw:List (Str×Value)}:(A.under (.builtin "type.__call__" ⟨.ref C::us,kw⟩)).units=A.units+1:=by
 first|rfl|simp[Around.under,Code.cUnits,Code.frames,Code.isFrame]
theorem Room.make {k:Nat}{A:Around}(r:Room (k+1) A)(C:Addr)(us:List Value)(kw:List (Str×Value)):Room k (A.under (.builtin "type.__call__" ⟨.ref C::us,kw⟩)):=
 ⟨r.hd,by have:=r.dp; rw[make_depth]; omega,by have:=r.un; rw[make_units]; omega⟩
theorem Room.depth {k:Nat}{A:Around}(r:Room k A):A.depth<recursionLimit:=by have:=r.dp; omega
theorem Room.units {k:Nat}{A:Around}(r:Room k A):A.units+64<cLine:=by have:=r.un; omega
noncomputable def tNil:TA:=fun _ H Q=>Q [] H
noncomputable def cO (ta:TE)(tr:TA):TA:=fun σ H Q=>ta σ H fun x H1=>tr σ H1 fun xs H2=>Q (x::xs) H2
section
variable {X:Cx}{e:Expr}{es:List Expr}{te:TE}{t:TA}{pos:Pos}
theorem aF:PA X [] tNil:=fun _ _ _ _ H Q I h=>Calls.spliced_nil ⟨[],H,I,.nil,h⟩
theorem aA (ha:PE X e te)(hr:PA X es t)(hs:starEach (e::es) X.env=(false,eval e X.env)::starEach es X.env:=by rfl):PA X (e::es) (cO te t):=by
 intro pos pins s σ H Q I h;rw[hs];show wpAny _ _ (spliced ((false,eval e X.env)::backTo pos (starEach es X.env))) _ _ s;refine Calls.spliced_cons (thn (ha pins s σ H _ I h) fun u s1 ⟨x,H1,I1,r1,q1⟩=>?_);exact thn (hr pos pins s1 σ H1 _ I1 q1) fun us s2 ⟨xs,H2,I2,r2,q2⟩=>⟨x::xs,H2,I2,.cons r1 r2,q2⟩
noncomputable def tTup (t:TA):TE:=fun σ H Q=>t σ H fun xs H1=>xs.length≤sizeLine∧∀ p,H1 p=none→Q (.ref p) (upd H1 p (.tup xs))
noncomputable def tLst (t:TA):TE:=fun σ H Q=>t σ H fun xs H1=>xs.length≤sizeLine∧∀ p,H1 p=none→Q (.ref p) (upd H1 p (.lst xs))
theorem pe_tup {x1}(h:PA X es t):PE X (.Tuple es x1 pos) (tTup t):=by
 intro pins s σ H Q I hq;refine wpAny_Tuple_spliced (thn (h pos pins s σ H _ I hq) fun us s1 ⟨xs,H1,I1,r,z,q⟩=>⟨by rw[← r.length]; exact z,?_⟩);have hf:H1 s1.heap.objs.size=none:=I1.hok.fresh (le_refl _);refine⟨.ref s1.heap.objs.size,upd H1 s1.heap.objs.size (.tup xs),I1.laid (t':=s1.toks) (fun b u e=>get?_push_of_some _ e) (le_refl _) ?_,rfl,q _ hf⟩;exact⟨z,us,r,⟨_,get?_push_size _ rfl,rfl,_,rfl⟩⟩
theorem pe_lst (h:PA X es t):PE X (.List es pos) (tLst t):=by
 intro pins s σ H Q I hq;refine wpAny_List_spliced (thn (h pos pins s σ H _ I hq) fun us s1 ⟨xs,H1,I1,r,z,q⟩=>⟨by rw[← r.length]; exact z,?_⟩);have hf:H1 s1.heap.objs.size=none:=I1.hok.fresh (le_refl _);refine⟨.ref s1.heap.objs.size,upd H1 s1.heap.objs.size (.lst xs),I1.laid (t':=s1.toks) (fun b u e=>get?_push_of_some _ e) (le_refl _) ?_,rfl,q _ hf⟩;exact⟨z,us,0,r,get?_push_size _ rfl⟩
end
abbrev Sp:=List V→Hp→VK→XK→Prop
abbrev CXT:=List Env→Hp→Shared→XK→Value→Shared→Prop
structure Env0 (P:Program)(w:World)(K:PySem.W.Frag)(mg:Str→Option Value)(base:Heap)(A:Around)(outer:List Env)(s:Shared)(H:Hp):Prop where
 frames:A.frames=some outer
 mod:Mod K mg base
 bs:∀ b o,base.get? b=some o→s.heap.get? b=some o∧H b=none
 bsz:base.objs.size≤s.heap.objs.size
 funs:s.heap.FunFrames base outer
 frf:∀ b∈frs outer,H b=none
 hok:HOk P w H s.heap
 bare:AllBare s.gens
noncomputable def CE (outer:List Env)(P:Program)(w:World)(H:Hp)(s:Shared)(Q:VK)(u:Value)(s':Shared):Prop:=
 ∃ v H',s'.os=s.os∧AllBare s'.gens∧Un (frs outer) [] H H' s.heap s'.heap∧HOk P w H' s'.heap∧RelV v u∧Q v H'
noncomputable def CR (CX:CXT)(outer:List Env)(P:Program)(w:World)(H:Hp)(s:Shared)(Q:VK)(E:XK)(r:Result)(s':Shared):Prop:=
 match r with
 | .ok (.ret u)=>CE outer P w H s Q u s'
 | .ok _=>False
 | .error e=>CX outer H s E e s'
structure FnOk (P:Program)(w:World)(K:PySem.W.Frag)(mg:Str→Option Value)(base:Heap)(CX:CXT)(k:Nat)(f:Addr)(fd:FuncData)(ps:List Str)(sp:Sp):Prop where
 len:∀ vs H Q E,sp vs H Q E→vs.length=ps.length
 run:∀(A:Around) (outer:List Env) (s:Shared) (H:Hp) (args:Args) (us:List Value) (vs:List V) (Q:VK) (E:XK),Room k A→Env0 P w K mg base A outer s H→BindsTo s fd args (ps.zip us)→Vals vs us→sp vs H Q E →
  codeAny (model P w) A (.call (.ref f) args) (CR CX outer P w H s Q E) s
theorem FnOk.imp {P:Program}{w:World}{K:PySem.W.Frag}{mg:Str→Option Value}{base:Heap}{CX:CXT}{k:Nat}{f:Addr}{fd:FuncData}{ps:List Str}{sp sp':Sp}(F:FnOk P w K mg base CX k f fd ps sp)
  (h:∀ vs H Q E,sp' vs H Q E→sp vs H Q E):FnOk P w K mg base CX k f fd ps sp':=
 ⟨fun vs H Q E q=>F.len vs H Q E (h _ _ _ _ q),fun A outer s H args us vs Q E hr he hb hv hs=>F.run A outer s H args us vs Q E hr he hb hv (h _ _ _ _ hs)⟩
theorem Env0.make {P:Program}{w:World}{K:PySem.W.Frag}{mg:Str→Option Value}{base:Heap}{A:Around}{outer:List Env}{s:Shared}{H:Hp}(e:Env0 P w K mg base A outer s H)(C:Addr)(us:List Value)(kw:List (Str×Value)) :
  Env0 P w K mg base (A.under (.builtin "type.__call__" ⟨.ref C::us,kw⟩)) outer s H:=⟨by first|exact e.frames|(simpa [Around.under,Code.envs,Code.isFrame,pushEnvs] using e.frames),e.mod,e.bs,e.bsz,e.funs,e.frf,e.hok,e.bare⟩
section
variable {X:Cx}{pins:List (Addr×Obj)}{σ:St}{H:Hp}{s s':Shared}
theorem Inv.env0 (I:Inv X pins σ H s):Env0 X.prog X.w X.K X.mg X.base X.A X.stack s H:=
 ⟨I.ok.frames,I.ok.mod,I.bs,le_trans I.ok.bsz I.sz,I.stack,I.stkFree,I.hok,I.bare⟩
theorem Inv.after {Q:VK}{u:Value}(I:Inv X pins σ H s)(h:CE X.stack X.prog X.w H s Q u s'):EP X pins σ Q u s':=by
 obtain⟨v,H',os,bare,un,hok,r,q⟩:=h;obtain⟨hh,g,d,t,os'⟩:=s';obtain rfl:os'=s.os:=os;exact⟨v,H',I.call (h':=hh) (g':=g) (d':=d) (t':=t) (ch:=[]) un hok bare (fun b z=>absurd z (by simp)),r,q⟩
end
noncomputable def tCall (sp:Sp)(dvs:List V)(E:XK)(t:TA):TE:=fun σ H Q=>t σ H fun vs H1=>sp (vs++dvs) H1 Q E
noncomputable def Binds (K:PySem.W.Frag)(fd:FuncData)(ps:List Str)(ds:List Value):Prop:=
 ∀(s:Shared) (us:List Value),K.In s.heap→(us++ds).length=ps.length→BindsTo s fd ⟨us,[]⟩ (ps.zip (us++ds))
theorem Binds.all {K:PySem.W.Frag}{fd:FuncData}{ps:List Str}(h:∀ us:List Value,us.length=ps.length→bindArgs fd ⟨us,[]⟩=pure (ps.zip us)):Binds K fd ps []:=fun s us _ hl=>by
 rw[append_nil] at hl ⊢;exact .of_eq (h us hl)
noncomputable def Passes (CX:CXT)(X:Cx)(E:XK):Prop:=∀(pins:List (Addr×Obj)) (σ:St) (H:Hp) (s:Shared) (e:Value) (s':Shared),Inv X pins σ H s→CX X.stack H s E e s'→X.xe e s'
section
variable {X:Cx}{CX:CXT}{k:Nat}{f C:Addr}{fd:FuncData}{ps:List Str}{sp:Sp}{dvs:List V}{ds:List Value}{E:XK}{x m:Str}{p pos apos:Pos}{e o:Expr}{es:List Expr}{ta:TE}{t:TA}
theorem run_fn {pins:List (Addr×Obj)}{σ:St}{H:Hp}{s:Shared}{Q:VK}{us:List Value}{vs:List V}(F:FnOk X.prog X.w X.K X.mg X.base CX k f fd ps sp)(hr:Room k X.A)(hb:Binds X.K fd ps ds)(hd:Vals dvs ds)(hx:Passes CX X E)
  (I:Inv X pins σ H s) (r:Vals vs us) (h:sp (vs++dvs) H Q E):wpAny (model X.prog X.w) X.A (call (.ref f) us) (EP X pins σ Q) X.xe s:=by
 have r2:Vals (vs++dvs) (us++ds):=r.append hd;have hl:(us++ds).length=ps.length:=by rw[← r2.length]; exact F.len _ _ _ _ h
 refine wpAny_call (codeAny_mono (F.run X.A X.stack s H ⟨us,[]⟩ (us++ds) (vs++dvs) Q E hr I.env0 (hb s us I.kIn hl) r2 h) fun r s' hq=>?_)
 cases r with
 | error e=>exact hx pins σ H s e s' I hq
 | ok fl=>
  cases fl with
  | ret u=>exact I.after hq
  | next=>exact False.elim hq
  | brk=>exact False.elim hq
  | cont=>exact False.elim hq
theorem pe_call (F:FnOk X.prog X.w X.K X.mg X.base CX k f fd ps sp)(hr:Room k X.A)(hg:Gl X x)(hm:X.mg x=some (.ref f))(hk:keepIn X.K (.ref f)=true)(hb:Binds X.K fd ps ds)(hd:Vals dvs ds)(hx:Passes CX X E)
  (ha:PA X (e::es) t) (hdb:(x==("__debug__" : Str))=false:=by decide) (he:starEach (e::es) X.env=(false,eval e X.env)::starEach es X.env:=by rfl) (hpl:(backTo pos (starEach es X.env)).any (·.1)=false:=by rfl) :
  PE X (.Call (.Name x p) (e::es) [] pos) (tCall sp dvs E t):=by
 intro pins s σ H Q I h;refine wpAny_Call_Name_kw (ld_glob I hg hm ?_ hdb);refine callWith_K (h₀:=X.base) I.ok.mod.kin hk (thn (ha pos pins s σ H _ I h) fun us s1 ⟨vs,H1,I1,r,q⟩=>⟨I1.kIn,?_⟩) he hpl;exact run_fn F hr hb hd hx I1 r q
end
section
variable {X:Cx}{CX:CXT}{k:Nat}{f C:Addr}{fd:FuncData}{ps ks:List Str}{sp:Sp}{E:XK}{x m:Str}{p pos apos kpos:Pos}{e o:Expr}{es:List Expr}{kws:List Keyword}{te ta:TE}{t tk:TA}{nm:Option Str}
variable {g:List Value→List Value→List Value}{gV:List V→List V→List V}
end
structure FnScope (N P:List Str)(sc:Scope):Prop where
 kind:sc.kind=.function
 co:sc.isCoroutine=false
 gen:sc.isGenerator=false
 nd:N.Nodup
 pre:N.take P.length=P
 par:∀ x∈P,sc.names.lookup x=some .local∨sc.names.lookup x=some .cell
 nofree:∀ y∈sc.names,y.2≠.free
theorem bindL_out {kindOf:Str→Option NameKind}{x:Str}:∀{binds:List (Str×Value)} {m:Str→Option Value},(∀ v,(x,v)∉binds)→bindL kindOf binds m x=m x
 | [],_,_=>rfl
 | (n,v)::r,m,h=>by
  unfold bindL;rw[bindL_out fun w hw=>h w (mem_cons_of_mem _ hw)]
  split
  ·have:x≠n:=by rintro rfl; exact h v mem_cons_self
   simp[this]
  ·rfl
theorem bindC_out {kindOf:Str→Option NameKind}{x:Str}:∀{binds:List (Str×Value)} {m:Str→Option Value},(∀ v,(x,v)∉binds)→bindC kindOf binds m x=m x
 | [],_,_=>rfl
 | (n,v)::r,m,h=>by
  unfold bindC;rw[bindC_out fun w hw=>h w (mem_cons_of_mem _ hw)]
  split
  ·rfl
  ·have:x≠n:=by rintro rfl; exact h v mem_cons_self
   simp[this]
theorem bindL_get {kindOf:Str→Option NameKind}{x:Str}{v:Value}:∀{P:List Str} {vs:List Value} {i:Nat} {m:Str→Option Value},P.Nodup→P[i]?=some x→vs[i]?=some v→kindOf x=some .local →
  bindL kindOf (P.zip vs) m x=some v
 | [],_,_,_,_,h,_,_=>by simp at h
 | _::_,[],_,_,_,_,h,_=>by simp at h
 | p::P,w::vs,0,m,nd,h1,h2,hk=>by
  simp at h1 h2; subst h1; subst h2;show bindL kindOf ((p,w)::P.zip vs) m p=_;unfold bindL;rw[bindL_out fun v hv=>(nodup_cons.mp nd).1 (of_mem_zip hv).1,if_pos hk];simp
 | p::P,w::vs,i+1,m,nd,h1,h2,hk=>by
  show bindL kindOf ((p,w)::P.zip vs) m x=_;unfold bindL;exact bindL_get (i:=i) (nodup_cons.mp nd).2 (by simpa using h1) (by simpa using h2) hk
theorem bindC_get {kindOf:Str→Option NameKind}{x:Str}{v:Value}:∀{P:List Str} {vs:List Value} {i:Nat} {m:Str→Option Value},P.Nodup→P[i]?=some x→vs[i]?=some v→kindOf x≠some .local →
  bindC kindOf (P.zip vs) m x=some v
 | [],_,_,_,_,h,_,_=>by simp at h
 | _::_,[],_,_,_,_,h,_=>by simp at h
 | p::P,w::vs,0,m,nd,h1,h2,hk=>by
  simp at h1 h2; subst h1; subst h2;show bindC kindOf ((p,w)::P.zip vs) m p=_;unfold bindC;rw[bindC_out fun v hv=>(nodup_cons.mp nd).1 (of_mem_zip hv).1,if_neg hk];simp
 | p::P,w::vs,i+1,m,nd,h1,h2,hk=>by
  show bindC kindOf ((p,w)::P.zip vs) m x=_;unfold bindC;exact bindC_get (i:=i) (nodup_cons.mp nd).2 (by simpa using h1) (by simpa using h2) hk
noncomputable def start (N:List Str)(vs:List V):St:=vs.map some++List.replicate (N.length-vs.length) none
noncomputable def cxOf (CX:CXT)(P:Program)(w:World)(K:PySem.W.Frag)(mg:Str→Option Value)(base:Heap)(N:List Str)(qual:Str)(scope:Scope)(f:Addr)(cd:Value)(A:Around)(outer:List Env)(s:Shared)(H:Hp)(E:XK):Cx where
 prog:=P
 w:=w
 K:=K
 mg:=mg
 base:=base
 A:=A.deeper (envOfC qual scope s.heap.objs.size f cd)
 N:=N
 s₀:=s
 H₀:=H
 env:=envOfC qual scope s.heap.objs.size f cd
 outer:=outer
 stack:=envOfC qual scope s.heap.objs.size f cd::outer
 ex:=[]
 calm:=true
 fn:=fun _=>true
 pn:=[]
 xe:=fun e s'=>wpAny (model P w) (A.deeper (envOfC qual scope s.heap.objs.size f cd)) (leaving (envOfC qual scope s.heap.objs.size f cd) e) (fun _ s''=>CX outer H s E e s'') (fun e' s''=>CX outer H s E e' s'') s'
theorem cell_has {sc:Scope}{n:Nat}{x:Str}(h:sc.names.lookup x=some .cell):∃ c,(cellsFrom n sc.names []).lookup x=some c:=by
 have q:=cellsFrom_some sc.names n [] (.inl h);exact isSome_iff_exists.mp q
theorem inv_start {CX:CXT}{P:Program}{w:World}{K:PySem.W.Frag}{mg:Str→Option Value}{base:Heap}{N ps:List Str}{qual:Str}{scope:Scope}{f:Addr}{cd:Value}{A:Around}{outer:List Env}{s s1:Shared}{H:Hp}{E:XK}{us:List Value}{vs:List V}
  (S:FnScope N ps scope) (hd:A.handled=none) (e0:Env0 P w K mg base A outer s H) (hl:vs.length=ps.length) (r:Vals vs us)
  (x:InCallC s s.heap.objs.size (bindL (envOfC qual scope s.heap.objs.size f cd).kindOf (ps.zip us) fun _=>none) (cellsFrom (s.heap.objs.size+1) scope.names []) (bindC (envOfC qual scope s.heap.objs.size f cd).kindOf (ps.zip us) fun _=>none) s1) :
  Inv (cxOf CX P w K mg base N qual scope f cd A outer s H E) [] (start N vs) H s1:=by
 have hpl:ps.length≤N.length:=by have:=congrArg List.length S.pre; rw[List.length_take] at this; omega
 obtain⟨h1,tk,rfl,hk⟩:=x.done;have noA:∀ b:Addr,b∉(cxOf CX P w K mg base N qual scope f cd A outer s H E).ex:=fun b z=>absurd (show b∈([]:List Addr) from z) (by simp);refine⟨⟨e0.mod,S.kind,rfl,rfl,le_refl _,fun y z c h1 h2=>?_,fun y hy=>?_,fun y c _ h=>?_,fun _=>hd,Around.frames_deeper e0.frames,.inr ⟨rfl,rfl⟩,fun b z=>absurd z (noA b),e0.bs,e0.bsz,fun b _ _=>noA b,fun b z=>absurd z (noA b),e0.funs,e0.frf⟩,
  rfl,e0.bare,Un.kept hk,⟨_,x.toInCall.ns,fun i y v h1 h2 h3=>?_⟩,fun y c h=>⟨_,x.cell y c h⟩,e0.hok.fresh (le_refl _),fun y c h=>?_,fun p hp=>absurd (show p∈([]:List (Addr×Obj)) from hp) (by simp),e0.hok.kept hk,?_⟩
 ·exact name_of_addr x.apart (PySem.mem_of_lookup h1) (PySem.mem_of_lookup h2)
 ·have hy:scope.names.lookup y=some .cell∨scope.names.lookup y=some .free:=hy;rcases hy with hy|hy
  ·exact cell_has hy
  ·exact absurd rfl (S.nofree _ (PySem.mem_of_lookup hy))
 ·exact le_of_lt (x.above y c (PySem.mem_of_lookup h))
 ·have hi:i<vs.length:=by
   unfold start at h2
   by_cases hi:i<vs.length
   ·exact hi
   ·rw[getElem?_append_right (by simpa using hi)] at h2;rw[getElem?_replicate] at h2
    split at h2<;>cases h2
  have ha:vs[i]?=some v:=by
   unfold start at h2;rw[getElem?_append_left (by simpa using hi),getElem?_map] at h2
   cases e:vs[i]? with
   | none=>rw[e] at h2; cases h2
   | some a=>rw[e] at h2; cases h2; rfl
  obtain⟨u,hu,rv⟩:=r.get ha;have hp:ps[i]?=some y:=by
   rw[← S.pre,List.getElem?_take_of_lt (by omega)]; exact h1
  have ndP:ps.Nodup:=by rw[← S.pre]; exact S.nd.sublist (List.take_sublist _ _)
  refine⟨u,rv,?_⟩;rcases S.par y (mem_of_getElem? hp) with k|k
  ·exact .inl ⟨k,bindL_get ndP hp hu k⟩
  ·obtain⟨c,e⟩:=cell_has (n:=s.heap.objs.size+1) k;refine .inr ⟨.inl k,c,e,?_⟩;have q:=x.cell y c e;rw[bindC_get ndP hp hu (by show scope.names.lookup y≠_; rw[k]; decide)] at q;exact q
 ·exact e0.hok.fresh (le_of_lt (x.above y c (PySem.mem_of_lookup h)))
 ·unfold start;show _=N.length;rw[length_append,length_map,length_replicate];omega
theorem fn_of {CX:CXT}{P:Program}{w:World}{K:PySem.W.Frag}{mg:Str→Option Value}{base:Heap}{k:Nat}{f:Addr}{name qual:Str}{params:Arguments}{body:List Stmt}{scope:Scope}{dV kV doc pm cdv ct oc:Value}{an od:Option Addr}
  {osl:Array (Option Value)} {N ps:List Str} {sp:Sp} (lk:K.lookup f=some ⟨oc,od,.func (fnOf name qual params body scope dV kV doc pm an cdv ct),osl⟩) (hcd:codeIn K cdv qual=true) (S:FnScope N ps scope)
  (len:∀ vs H Q E,sp vs H Q E→vs.length=ps.length)
  (hbody:∀(A:Around) (outer:List Env) (s:Shared) (H:Hp) (vs:List V) (Q:VK) (E:XK),Room k (A.deeper (envOfC qual scope s.heap.objs.size f cdv))→sp vs H Q E →
   ∃ t,PSs (cxOf CX P w K mg base N qual scope f cdv A outer s H E) body t∧t { nx:=fun _ H'=>Q .non H',rt:=Q } (start N vs) H) :
  FnOk P w K mg base CX (k+1) f (fnOf name qual params body scope dV kV doc pm an cdv ct) ps sp:=by
 refine⟨len,fun A outer s H args us vs Q E hr e0 hb r hsp=>?_⟩;have hl:=len _ _ _ _ hsp;have KX:K.In s.heap:=e0.mod.kin.keeps fun b o e=>(e0.bs b o e).1;have lim:s.heap.NoLimit:=e0.mod.nolimit.keeps fun b o e=>(e0.bs b o e).1;have hkind:∀ y∈ps.zip us,scope.names.lookup y.1=some .local∨(scope.names.lookup y.1=some .cell∧((cellsFrom (s.heap.objs.size+1) scope.names []).lookup y.1).isSome=true):=fun⟨n,v⟩ hy=>by
  rcases S.par n (of_mem_zip hy).1 with q|q
  ·exact .inl q
  ·exact .inr ⟨q,cellsFrom_some _ _ _ (.inl q)⟩
 refine codeAny_call_function hr.depth (KX _ _ lk) rfl S.co S.gen rfl (PySem.W.codeRec_of KX hcd) (hb _ _ _ _ ?_);refine wpAny_newFunctionEnv_cells S.kind hkind fun env he s1 x=>?_;subst he;refine⟨lim.keeps x.toInCall.keep,codeAny_func ?_⟩;obtain⟨t,ht,hq⟩:=hbody A outer s H vs Q E (hr.deeper _) hsp;have I:Inv (cxOf CX P w K mg base N qual scope f cdv A outer s H E) [] (start N vs) H s1:=inv_start S hr.hd e0 hl r x;refine wpAny_mono (ht [] s1 (start N vs) H _ I hq) (fun fl s' hs=>?_) fun e s' hs=>hs;have fin:∀{σ':St} {H':Hp} {v:V} {u:Value},Inv (cxOf CX P w K mg base N qual scope f cdv A outer s H E) [] σ' H' s'→RelV v u→Q v H'→CE outer P w H s Q u s':=
  fun{σ' H' v u} J rv q=>⟨v,H',J.os,J.bare,J.base,J.hok,rv,q⟩
 cases fl with
 | ret u=>
  obtain⟨v,σ',H',J,rv,q⟩:=hs;exact fin J rv q
 | next=>
  obtain⟨σ',H',J,q⟩:=hs;exact fin (v:=V.non) (u:=Value.none) J rfl q
 | brk=>
  obtain⟨_,_,_,q⟩:=hs;exact False.elim q
 | cont=>
  obtain⟨_,_,_,q⟩:=hs;exact False.elim q
end L2
namespace L2
open PySem PySem.Spec PyProof.Rows
section
variable {X:Cx}{x:Str}{p pos:Pos}{e:Expr}{es:List Expr}{t:TA}{id T:String}{r:List V→Hp→VK→Prop}
noncomputable def tCB (r:List V→Hp→VK→Prop)(t:TA):TE:=fun σ H Q=>t σ H fun vs H1=>r vs H1 Q
theorem bD (hc:CallR X (.builtin id) r)(hg:Gl X x)(hm:X.mg x=none)(hv:bootBuiltins x=some (.builtin id))(ha:PA X (e::es) t)(hn:x ≠ "__name__" := by decide)(hdb:(x==("__debug__" : Str))=false:=by decide)
  (he:starEach (e::es) X.env=(false,eval e X.env)::starEach es X.env:=by rfl) (hpl:(backTo pos (starEach es X.env)).any (·.1)=false:=by rfl):PE X (.Call (.Name x p) (e::es) [] pos) (tCB r t):=by
 intro pins s σ H Q I h;refine wpAny_Call_Name_kw (ld_blt I hg hm hv ?_ hn hdb);exact PyProof.Rows.callWith_builtin1 (thn (ha pos pins s σ H _ I h) fun us s1 ⟨vs,H1,I1,r1,q1⟩=>hc pins s1 σ H1 vs us Q I1 r1 q1) he hpl
theorem pe_callTy (hc:CallR X (.type T) r)(hg:Gl X x)(hm:X.mg x=none)(hv:bootBuiltins x=some (.type T))(ha:PA X (e::es) t)(hn:x ≠ "__name__" := by decide)(hdb:(x==("__debug__" : Str))=false:=by decide)
  (he:starEach (e::es) X.env=(false,eval e X.env)::starEach es X.env:=by rfl) (hpl:(backTo pos (starEach es X.env)).any (·.1)=false:=by rfl):PE X (.Call (.Name x p) (e::es) [] pos) (tCB r t):=by
 intro pins s σ H Q I h;refine wpAny_Call_Name_kw (ld_blt I hg hm hv ?_ hn hdb);exact PyProof.Rows.callWith_type1 (thn (ha pos pins s σ H _ I h) fun us s1 ⟨vs,H1,I1,r1,q1⟩=>hc pins s1 σ H1 vs us Q I1 r1 q1) he hpl
end
end L2
namespace HT
open PySem PyProof.Rows
section
open PySem.SeqAt
open PySem.AutoSeq1 (wpAny_loadPart')
open PySem.MeetsSeq PySem.MeetsSeq2 PySem.MeetsSeq3
end
section
variable {prog:Program}{w:World}{A:Around}{E:Value→Shared→Prop}{s:Shared}
end
end HT
namespace L2
open PySem PySem.Spec PyProof.Rows
abbrev TO:=St→Hp→(Option Int→Hp→Prop)→Prop
noncomputable def PO (X:Cx)(e:Option Expr)(t:TO):Prop:=
 ∀(pins:List (Addr×Obj)) (s:Shared) (σ:St) (H:Hp) (Q:Option Int→Hp→Prop),Inv X pins σ H s→t σ H Q →
  wpAny (model X.prog X.w) X.A (evalPart e X.env) (fun u s'=>∃ o H',Inv X pins σ H' s'∧IsPart u o∧Q o H') X.xe s
noncomputable def tNoPart:TO:=fun _ H Q=>Q none H
noncomputable def tPart (t:TE):TO:=fun σ H Q=>t σ H fun x H1=>∃ i,x=.int i∧Q (some i) H1
section
variable {X:Cx}{e:Expr}{te:TE}{lo hi:Option Expr}{tl th:TO}{pos p2:Pos}
theorem po_none:PO X none tNoPart:=by
 intro pins s σ H Q I h;rw[evalPart_none];exact wpAny_pure ⟨none,H,I,.none,h⟩
theorem po_some (h:PE X e te):PO X (some e) (tPart te):=by
 intro pins s σ H Q I hw;rw[evalPart_some];refine thn (h pins s σ H _ I hw) fun u s1 ⟨x,H1,I1,r1,q1⟩=>?_;obtain⟨i,rfl,q⟩:=q1;obtain⟨t,rfl⟩:=r1;exact⟨some i,H1,I1,.int i t,q⟩
noncomputable def SlR (X:Cx)(r:V→Option Int→Option Int→Hp→VK→Prop):Prop:=
 ∀(pins:List (Addr×Obj)) (s:Shared) (σ:St) (H:Hp) (x:V) (v vl vu:Value) (lo hi:Option Int) (sl:Addr) (Q:VK),Inv X pins σ H s→RelV x v→s.heap.IsSliceOf sl vl vu .none→IsPart vl lo→IsPart vu hi→r x lo hi H Q →
  ∃ T id,typeLookup (.type T) "__getitem__" = pure (some (.builtin id))∧s.TypeIs v T∧wpAny (model X.prog X.w) X.A (getItem v (.ref sl)) (EP X pins σ Q) X.xe s
noncomputable def tSl (r:V→Option Int→Option Int→Hp→VK→Prop)(te:TE)(tl th:TO):TE:=fun σ H Q=>te σ H fun x H1=>tl σ H1 fun l H2=>th σ H2 fun u H3=>r x l u H3 Q
theorem pe_slice {r:V→Option Int→Option Int→Hp→VK→Prop}(hr:SlR X r)(he:PE X e te)(hl:PO X lo tl)(hu:PO X hi th):PE X (.Subscript e (.Slice lo hi none p2) pos) (tSl r te tl th):=by
 intro pins s σ H Q I h;refine Subscript_ (thn (he pins s σ H _ I h) fun v s1 ⟨x,H1,I1,r1,q1⟩=>?_);refine wpAny_Slice (thn (hl pins s1 σ H1 _ I1 q1) fun vl s2 ⟨l,H2,I2,pl,q2⟩=>thn (hu pins s2 σ H2 _ I2 q2) fun vu s3 ⟨u,H3,I3,pu,q3⟩=>?_);rw[evalPart_none];refine wpAny_pure ?_;have I4:Inv X pins σ H3 { s3 with heap:=s3.heap.push { cls:=.type "slice", data:=.fields #[vl,vu,.none] } }:=I3.kept (t':=s3.toks) fun b ob q=>get?_push_of_some _ q;obtain⟨T,id,hT,ht,hg⟩:=hr pins { s3 with heap:=s3.heap.push { cls:=.type "slice", data:=.fields #[vl,vu,.none] } } σ H3 x v vl vu l u s3.heap.objs.size Q I4 r1 (Heap.IsSliceOf.new ..) pl pu q3;show wpAny (model X.prog X.w) X.A (subscriptTail e (.Slice lo hi none p2) v (.ref s3.heap.objs.size)) (EP X pins σ Q) X.xe { s3 with heap:=s3.heap.push { cls:=.type "slice", data:=.fields #[vl,vu,.none] } };exact tail_any (ops:=[.ref s3.heap.objs.size,v]) ht hT hg (by with_unfolding_all rfl)
end
end L2
namespace L2
open PySem PySem.Spec PyProof.Rows
noncomputable def ixN (n:Nat)(i:Int):Option Nat:=if 0≤i then(if i<n then some i.toNat else none) else if -(n:Int)≤i then some (i+n).toNat else none
noncomputable def atI {α:Type}(xs:List α)(i:Int):Option α:=(ixN xs.length i).bind fun j=>xs[j]?
theorem ixN_seq {n:Nat}{i:Int}{j:Nat}(h:ixN n i=some j):seqIndex? i n=some j∧j<n ∧ -(n:Int)≤i∧i<n:=by
 unfold ixN at h
 by_cases h0:0≤i
 ·rw[if_pos h0] at h
  by_cases h1:i<n
  ·rw[if_pos h1] at h;have e:i.toNat=j:=Option.some.inj h;exact⟨by rw[seqIndex_of h0 h1,e],by omega,by omega,h1⟩
  ·rw[if_neg h1] at h; cases h
 ·rw[if_neg h0] at h
  by_cases h1 : -(n:Int)≤i
  ·rw[if_pos h1] at h;have e:(i+n).toNat=j:=Option.some.inj h;exact⟨by rw[seqIndex_neg (by omega) h1,e],by omega,h1,by omega⟩
  ·rw[if_neg h1] at h; cases h
theorem atI_get {α:Type}{xs:List α}{i:Int}{v:α}(h:atI xs i=some v):∃ j,seqIndex? i xs.length=some j∧xs[j]?=some v∧j<xs.length ∧ -(xs.length:Int)≤i∧i<xs.length:=by
 unfold atI at h
 cases e:ixN xs.length i with
 | none=>rw[e] at h; cases h
 | some j=>
  rw[e] at h;obtain⟨h1,h2,h3,h4⟩:=ixN_seq e;exact⟨j,h1,h,h2,h3,h4⟩
theorem atI_nat {α:Type}{xs:List α}{j:Nat}{v:α}(h:xs[j]?=some v):atI xs (j:Int)=some v:=by
 have hj:j<xs.length:=(List.getElem?_eq_some_iff.mp h).1;have e:ixN xs.length (j:Int)=some j:=by
  unfold ixN;rw[if_pos (by omega),if_pos (by omega)]; simp
 unfold atI; rw[e]; exact h
noncomputable def PlainIx (b:Expr):Prop:=∀ o i,subscripted b false o i=operate [o,i] (getItem o i)
noncomputable def IxR (X:Cx)(r:R2):Prop:=
 ∀(value slice:Expr) (pins:List (Addr×Obj)) (s:Shared) (σ:St) (H:Hp) (x y:V) (v u:Value) (Q:VK),Inv X pins σ H s→RelV x v→RelV y u→r x y H Q →
  subscripted slice false v u=operate [v,u] (getItem v u)→wpAny (model X.prog X.w) X.A (subscriptTail value slice v u) (EP X pins σ Q) X.xe s
noncomputable def MtR (X:Cx)(id:String)(r:V→List V→Hp→VK→Prop):Prop:=
 ∀(pins:List (Addr×Obj)) (s:Shared) (σ:St) (H:Hp) (x:V) (xs:List V) (v:Value) (us:List Value) (Q:VK),Inv X pins σ H s→RelV x v→Vals xs us→r x xs H Q →
  wpAny (model X.prog X.w) X.A (call (.builtin id) (v::us)) (EP X pins σ Q) X.xe s
section
variable {X:Cx}{a b:Expr}{ta tb:TE}{pos:Pos}
theorem IxR.or {r r':R2}(h:IxR X r)(h':IxR X r'):IxR X (fun x y H Q=>r x y H Q∨r' x y H Q):=by
 intro value slice pins s σ H x y v u Q I rx ry q hs;rcases q with q|q
 ·exact h value slice pins s σ H x y v u Q I rx ry q hs
 ·exact h' value slice pins s σ H x y v u Q I rx ry q hs
theorem cD {r:R2}(hr:IxR X r)(ha:PE X a ta)(hb:PE X b tb)(hs:PlainIx b):PE X (.Subscript a b pos) (tOp r ta tb):=by
 intro pins s σ H Q I h;exact Subscript_ (binT ha hb I h fun v u s2 x y H2 I2 rx ry q=>hr a b pins s2 σ H2 x y v u Q I2 rx ry q (hs _ _))
noncomputable def rIxL (K:PySem.W.Frag):R2:=fun x y H Q=>∃ p xs i v,x=.ref p∧y=.int i∧SqL K H p xs∧atI xs i=some v∧Q v H
noncomputable def rIxT (K:PySem.W.Frag):R2:=fun x y H Q=>∃ p xs i v,x=.ref p∧y=.int i∧SqT K H p xs∧atI xs i=some v∧Q v H
noncomputable def rIxS:R2:=fun x y H Q=>∃ z i c,x=.str z∧y=.int i∧z.length≤sizeLine∧atI z.cps.toList i=some c∧Q (.str ⟨#[c]⟩) H
theorem ix_list:IxR X (rIxL X.K):=by
 intro value slice pins s σ H x y v u Q I rx ry h hs;obtain⟨p,xs,i,z,rfl,rfl,hq,he,q⟩:=h
 cases rx
 obtain⟨t,rfl⟩:=ry;obtain⟨its,r,pl,hz⟩:=I.list hq;obtain⟨j,h1,h2,h3,h4,h5⟩:=atI_get he;obtain⟨w,ew,rw'⟩:=r.get h2;have hl:=r.length;have hn:=line63;have fin:EP X pins σ Q w s:=⟨z,H,I,rw',q⟩
 by_cases h0:0≤i
 ·have hj:i.toNat=j:=by
   rw[seqIndex_of h0 h5] at h1;exact Option.some.inj h1
  exact item_listR pl.isList h0 (by omega) (by rw[hj]; simpa using ew) fin hs
 ·have hj:(i+(its.toArray.size:Int)).toNat=j:=by
   rw[seqIndex_neg (by omega) h4] at h1;rw[size_toArray,←hl];exact Option.some.inj h1
  exact subscriptTail_builtinR (x:=w) pl.isList.typeIs slot_list_getitem.lookup
   (wpAny_getItem_list_neg (Q:=fun r s'=>r=w∧EP X pins σ Q r s') pl.isList (by omega) (by rw[size_toArray]<;>omega) (by omega) (by rw[hj]; simpa using ew) ⟨rfl,fin⟩) hs
theorem ix_tup:IxR X (rIxT X.K):=by
 intro value slice pins s σ H x y v u Q I rx ry h hs;obtain⟨p,xs,i,z,rfl,rfl,hq,he,q⟩:=h
 cases rx
 obtain⟨t,rfl⟩:=ry;obtain⟨its,r,pl,hz⟩:=I.tuple hq;obtain⟨j,h1,h2,h3,h4,h5⟩:=atI_get he;obtain⟨w,ew,rw'⟩:=r.get h2;have hl:=r.length;have hn:=line63;have fin:EP X pins σ Q w s:=⟨z,H,I,rw',q⟩;exact subscriptTail_builtinR (x:=w) pl.typeIs slot_tuple_getitem.lookup
  (getItem_tuple (j:=j) (Q:=fun r s'=>r=w∧EP X pins σ Q r s') pl (by omega) (by omega) (by rw[size_toArray,←hl]; exact h1) (by simpa using ew) ⟨rfl,fin⟩) hs
theorem ix_str:IxR X rIxS:=by
 intro value slice pins s σ H x y v u Q I rx ry h hs;obtain⟨z,i,c,rfl,rfl,hz,he,q⟩:=h;obtain⟨t,rfl⟩:=rx;obtain⟨t',rfl⟩:=ry;obtain⟨j,h1,h2,h3,h4,h5⟩:=atI_get he;have hl:z.cps.toList.length=z.length:=by simp[Str.length]
 rw[hl] at h1 h4 h5;have hn:=line63;exact tail_any (typeIs_str s z t) slot_str_getitem.lookup (getItem_str (c:=c) (by
  have e1:decide (i < -(2^63:Int))=false:=decide_eq_false (by omega);have e2:decide (i≥2^63)=false:=decide_eq_false (by omega);rw[e1,e2,Bool.or_false]) (by rw[h1]; simpa using h2) ⟨.str ⟨#[c]⟩,H,I.tok _,⟨_,rfl⟩,q⟩) hs
noncomputable def rIx (K:PySem.W.Frag):R2:=fun x y H Q=>rIxL K x y H Q∨rIxT K x y H Q∨rIxS x y H Q
theorem cI:IxR X (rIx X.K):=ix_list.or (ix_tup.or ix_str)
theorem mapSeq_set (its:List Value)(n j:Nat)(u:Value):Obj.mapSeq (·.setIfInBounds j u) { cls:=.type "list", data:=.seq its.toArray n }={ cls:=.type "list", data:=.seq (its.set j u).toArray n }:=by
 simp[Obj.mapSeq]
theorem Inv.lst {pins:List (Addr×Obj)}{σ:St}{H:Hp}{s:Shared}{p:Addr}{xs:List V}(I:Inv X pins σ H s)(h:H p=some (.lst xs)) :
  ∃(its:List Value) (n:Nat),Vals xs its∧s.heap.get? p=some { cls:=.type "list", data:=.seq its.toArray n }∧xs.length≤sizeLine:=by
 obtain⟨z,its,n,r,e⟩:=I.hok p _ h;exact⟨its,n,r,e,z⟩
theorem Inv.lstUpd {pins:List (Addr×Obj)}{σ:St}{H:Hp}{s:Shared}{p:Addr}{xs ys:List V}{its its':List Value}{n n':Nat}{f:Obj→Obj}(I:Inv X pins σ H s)(h:H p=some (.lst xs))
  (ho:s.heap.get? p=some { cls:=.type "list", data:=.seq its.toArray n }) (hf:f { cls:=.type "list", data:=.seq its.toArray n }={ cls:=.type "list", data:=.seq its'.toArray n' }) (r:Vals ys its') (hz:ys.length≤sizeLine) (t:Nat) :
  Inv X pins σ (upd H p (.lst ys)) { s with heap:=s.heap.update p f,toks:=t }:=by
 have e:(s.heap.update p f).get? p=some { cls:=.type "list", data:=.seq its'.toArray n' }:=by
  rw[get?_update_self f ho (by rw[hf]<;>rfl),hf]
 refine I.write (x:=p) (e:=p) (by rw[h]; trivial) (.inl rfl) (fun b u hb q=>(get?_update_other _ _ (Ne.symm hb)).trans q) ⟨_,e⟩ ?_;exact⟨hz,its',n',r,e⟩
noncomputable def rSetL:V→V→V→Hp→(Hp→Prop)→Prop:=fun o i v H Q=>∃ p xs k j,o=.ref p∧i=.int k∧H p=some (.lst xs)∧ixN xs.length k=some j∧Q (upd H p (.lst (xs.set j v)))
theorem set_list:PSet X rSetL:=by
 intro pins s σ H o i v ov iv u Q I ro ri rv h;obtain⟨p,xs,k,j,rfl,rfl,hp,hj,q⟩:=h
 cases ro
 obtain⟨t,rfl⟩:=ri;obtain⟨its,n,r,ho,hz⟩:=I.lst hp;obtain⟨h1,h2,h3,h4⟩:=ixN_seq hj;have hl:=r.length;have hn:=line63;have I':Inv X pins σ (upd H p (.lst (xs.set j v))) { s with heap:=s.heap.update p (Obj.mapSeq (·.setIfInBounds j u)) }:=
  I.lstUpd hp ho (mapSeq_set its n j u) (r.set rv j) (by rw[length_set]; exact hz) s.toks
 by_cases h0:0≤k
 ·have hk:k.toNat=j:=by
   rw[seqIndex_of h0 h4] at h1;exact Option.some.inj h1
  exact PySem.W.ki_setAt ho h0 (by omega) (by rw[size_toArray,←hl]; exact h4) (by rw[hk]; exact⟨_,I',q⟩)
 ·have hk:(k+(its.toArray.size:Int)).toNat=j:=by
   rw[seqIndex_neg (by omega) h3] at h1;rw[size_toArray,←hl];exact Option.some.inj h1
  exact PySem.W.ki_setBack ho (by omega) (by rw[size_toArray,←hl]; exact h3) (by omega) (by rw[hk]; exact⟨_,I',q⟩)
theorem call_len_seq:CallR X (.builtin "len") (fun xs H Q=>∃ p ys,xs=[.ref p]∧(SqL X.K H p ys∨SqT X.K H p ys)∧Q (.int ys.length) H):=by
 intro pins s σ H xs us Q I r h;obtain⟨p,ys,rfl,hq,q⟩:=h;obtain⟨u,rfl,rx⟩:=vals1 r
 cases rx
 have hn:=line63;rcases hq with hq|hq
 ·obtain⟨its,r',pl,hz⟩:=I.list hq;have hlen:=r'.length;exact Calls.call_len_list pl.isList (by simp only[size_toArray]<;>omega) ⟨.int ys.length,H,I.tok _,⟨s.toks+1,by rw[size_toArray,hlen]⟩,q⟩
 ·obtain⟨its,r',pl,hz⟩:=I.tuple hq;have hlen:=r'.length;exact len_tuple pl (by simp only[size_toArray]<;>omega) ⟨.int ys.length,H,I.tok _,⟨s.toks+1,by rw[size_toArray,hlen]⟩,q⟩
noncomputable def tyV (K:PySem.W.Frag)(T:String)(x:V)(H:Hp):Prop:=match x with
 | .str _=>T = "str"
 | .int _=>T = "int"
 | .ref p=>(T = "list" ∧ ∃ xs,SqL K H p xs)∨(T = "tuple" ∧ ∃ o,K.lookup p=some o∧o.cls=.type "tuple" ∧ o.dict=none) ∨
   (T = "dict" ∧ ((∃ kvs,H p=some (.dK kvs))∨∃ kvs,H p=some (.dT kvs)))∨(T = "set" ∧ ∃ S n,H p=some (.set S n))
 | _=>False
theorem tyV_is {pins:List (Addr×Obj)}{σ:St}{H:Hp}{s:Shared}{T:String}{x:V}{v:Value}(I:Inv X pins σ H s)(r:RelV x v)(ty:tyV X.K T x H) :
  s.TypeIs v T∧∀ a,v=.ref a→∃ ob,s.heap.get? a=some ob∧ob.dict=none:=by
 cases x with
 | str z=>
  obtain⟨t,rfl⟩:=r
  cases(show T = "str" from ty)
  exact⟨typeIs_str s z t,fun _ e=>nomatch e⟩
 | int i=>
  obtain⟨t,rfl⟩:=r
  cases(show T = "int" from ty)
  exact⟨typeIs_int s i t,fun _ e=>nomatch e⟩
 | ref p=>
  cases r
  rcases ty with⟨rfl,xs,hq⟩|⟨rfl,o,hk,hc,hd⟩|⟨rfl,hk⟩|⟨rfl,S,n,hk⟩
  ·obtain⟨its,_,pl,_⟩:=I.list hq;refine⟨pl.isList.typeIs,fun a e=>?_⟩
   cases e
   obtain⟨o,n,e,c,hd,_⟩:=pl;exact⟨o,e,hd⟩
  ·refine⟨⟨o,I.kIn p o hk,hc⟩,fun a e=>?_⟩
   cases e
   exact⟨o,I.kIn _ o hk,hd⟩
  ·have z:∃ o,s.heap.get? p=some o∧o.ExactDict:=by
    rcases hk with⟨kvs,hk⟩|⟨kvs,hk⟩
    ·obtain⟨_,_,_,_,o,_,_,e,ex,_⟩:=I.hok p _ hk;exact⟨o,e,ex⟩
    ·obtain⟨_,_,_,_,o,_,_,e,ex,_⟩:=I.hok p _ hk;exact⟨o,e,ex⟩
   obtain⟨o,e,ex⟩:=z;refine⟨⟨o,e,ex.1⟩,fun a e2=>?_⟩
   cases e2
   exact⟨o,e,ex.2.1⟩
  ·obtain⟨o,_,_,_,e,ex,_⟩:=I.hok p _ hk;refine⟨⟨o,e,ex.1⟩,fun a e2=>?_⟩
   cases e2
   exact⟨o,e,ex.2.1⟩
 | _=>exact False.elim ty
noncomputable def tBM (K:PySem.W.Frag)(T:String)(r:V→List V→Hp→VK→Prop)(to:TE)(t:TA):TE:=fun σ H Q=>to σ H fun x H1=>tyV K T x H1∧t σ H1 fun xs H2=>r x xs H2 Q
variable {o e:Expr}{es:List Expr}{to:TE}{t:TA}{name:Str}{apos cpos:Pos}{T id:String}{r:V→List V→Hp→VK→Prop}
theorem pe_bm (pa:PlainAttrs T)(slot:Slot T name id)(hty:typeOf (.builtin id)=pure (.type "method_descriptor"))(hm:MtR X id r)(ho:PE X o to)(ha:PA X (e::es) t)
  (hbase:attributeBase o name X.env (eval o X.env)=eval o X.env:=by rfl)
  (hfew:((backTo cpos (starEach (e::es) X.env)).all (fun x => !x.1)&&(backToKw cpos (keywordEach [] X.env)).all (fun x=>x.1.isSome)
   && decide ((e::es).length+([]:List Keyword).length+(if ([]:List Keyword).isEmpty then 0 else 1)<30))=true:=by rfl)
  (hline:(apos.endLine==cpos.line)=true:=by rfl) (hs:starEach (e::es) X.env=(false,eval e X.env)::starEach es X.env:=by rfl) (hplain:(backTo cpos (starEach es X.env)).any (·.1)=false:=by rfl) :
  PE X (.Call (.Attribute o name apos) (e::es) [] cpos) (tBM X.K T r to t):=by
 intro pins s σ H Q I h;refine wpAny_Call_method_late hbase hfew hline rfl (thn (ho pins s σ H _ I h) fun v s1 ⟨x,H1,I1,r1,ty,q1⟩=>?_);obtain⟨h1,h2⟩:=tyV_is I1 r1 ty;refine⟨T,id,pa,slot,hty,h1,h2,?_⟩;have hA:=ha cpos pins s1 σ H1 _ I1 q1;rw[hs] at hA ⊢;refine Calls.callWith_builtin (by show(false||(backTo cpos (starEach es X.env)).any (·.1))=false; rw[hplain]<;>rfl) (Calls.evalArgs_plain ?_);exact thn hA fun us s2 ⟨vs,H2,I2,r2,q2⟩=>hm pins s2 σ H2 x vs v us Q I2 r1 r2 q2
end
end L2
namespace L2
open PySem PySem.Spec PyProof.Rows
theorem Vals.one:∀{x:V} {us:List Value},Vals [x] us→∃ u,us=[u]∧RelV x u:=by
 intro x us h
 cases h with
 | cons r t=>cases t; exact⟨_,rfl,r⟩
section
variable {X:Cx}{pins:List (Addr×Obj)}{σ:St}{H:Hp}{s:Shared}{l b:Addr}{xs ys zs:List V}
theorem Inv.lnew {its:List Value}{t':Nat}(I:Inv X pins σ H s)(hv:Vals ys its)(hz:ys.length≤sizeLine) :
  Inv X pins σ (upd H s.heap.objs.size (.lst ys)) { s with heap:=s.heap.push { cls:=.type "list", data:=.seq its.toArray },toks:=t' }:=
 I.laid (fun _ _ q=>get?_push_of_some _ q) (le_refl _) ⟨hz,its,0,hv,get?_push_size _ rfl⟩
theorem Inv.fresh (I:Inv X pins σ H s):H s.heap.objs.size=none:=I.hok.fresh (le_refl _)
theorem Inv.lstM (I:Inv X pins σ H s)(hH:H l=some (.lst xs)):xs.length≤sizeLine∧∃(its:List Value) (n:Nat),Vals xs its∧xs.length=its.length∧s.heap.get? l=some { cls:=.type "list", data:=.seq its.toArray n }:=by
 obtain⟨z,its,n,r,e⟩:=I.hok l _ hH;exact⟨z,its,n,r,r.length,e⟩
end
section
variable {X:Cx}
noncomputable def rCat:R2:=fun x y H Q=>∃ l b xs zs,x=.ref l∧y=.ref b∧H l=some (.lst xs)∧H b=some (.lst zs)∧xs.length+zs.length≤sizeLine∧∀ p,H p=none→Q (.ref p) (upd H p (.lst (xs++zs)))
theorem op_cat:OpR X (binaryOp .Add) rCat:=by
 intro pins s σ H x y v u Q I rx ry h;obtain⟨l,b,xs,zs,rfl,rfl,hH,hB,hz,q⟩:=h
 cases rx
 cases ry
 obtain⟨z,its,n,r,hl,e⟩:=I.lstM hH;obtain⟨z2,its2,n2,r2,hl2,e2⟩:=I.lstM hB;refine PySem.P.add_list e e2 ?_ (by rw[size_toArray,size_toArray]; omega);have ea:its.toArray++its2.toArray=(its++its2).toArray:=by simp
 rw[ea];exact⟨.ref _,_,I.lnew (t':=s.toks) (r.append r2) (by rw[length_append]; omega),rfl,q _ I.fresh⟩
end
section
variable {prog:Program}{w:World}{A:Around}{E:Value→Shared→Prop}{s:Shared}
end
section
variable {X:Cx}
end
end L2
namespace Att
open PySem PySem.W PySem.Calls PyProof.Rows
theorem ints_of_wellAll {P:Params}{h:Heap}:∀(ns:List Int) (vs:List Value),WellAll P h vs (ns.map WData.int)→IntsAre vs ns:=by
 intro ns
 induction ns with
 | nil=>
  intro vs w;rw[map_nil] at w
  cases w
  exact .nil
 | cons n ns ih=>
  intro vs w;rw[map_cons] at w
  cases w with
  | cons a b=>
   cases a
   exact .cons _ _ (ih _ b)
theorem script_of {l:OpenLaw}{n:Nat}(hn:l.most=some n){P:Params}{h:Heap}{args:List WData}{vals:List Value}
  (hpre:l.row.toRowW.claim.pre args=true) (hwl:WellAll P h vals args) :
  ∃ a vs ns,vals=[Value.ref a]∧args=[WData.list (ns.map WData.int)]∧h.get? a=some { cls:=.type "list", data:=.seq vs.toArray }∧IntsAre vs ns∧ns.length≤n:=by
 have hsh:WShape.hasAll [] args [.list .int]=true:=(pre_splitW hpre).1;have hc:l.pre.holds [] { args:=args }=true:=(pre_splitW hpre).2;obtain⟨d,r,rfl,h1,h2⟩:=hasAllW_cons hsh;obtain rfl:=hasAllW_nil h2;obtain⟨xs,rfl,h3⟩:=hasW_list h1;obtain⟨ns,rfl⟩:=items_int h3;have hlen:ns.length≤n:=by
  unfold OpenLaw.pre at hc;have h4:(WTm.not (.lt (.lit (.int (n:Int))) (.len (.arg 0)))).holds [] { args:=[.list (ns.map .int)] }=true:=by
   have h4:=(holds_andW hc).1;rw[hn] at h4;exact h4
  have h5:=condW_of h4 (w_not (w_lt w_lit (w_len_list (w_arg rfl))));rw[length_map] at h5;refine Nat.le_of_not_lt fun q=>?_;have q':(n:Int)<((ns.length:Nat):Int):=by omega
  first
   | (rw[decide_eq_true q'] at h5; exact absurd h5 (by decide))
   | (simp at h5; omega)
 cases hwl with
 | cons w1 w2=>
  cases w2
  cases w1 with
  | list ho hall=>exact⟨_,_,ns,rfl,rfl,ho,ints_of_wellAll ns _ hall,hlen⟩
theorem post_true (l:OpenLaw)(args:List WData):l.row.toRowW.claim.post args (.bool true) args=true:=
 postW_of (r:=l.row.toRowW) (X:=(true==true))
  (show WShape.has [] (.bool true) .bool=true by first|rfl|decide|simp[WShape.has,WShape.arms,WShape.armsAll])
  (show(WTm.eq .res (.lit (.bool true))).value [] { args:=args,res:=some (.bool true),after:=args }=some (.bool (true==true)) from w_eq_bool (w_res rfl) w_lit) rfl
theorem attach_call {l:OpenLaw}{n:Nat}{q:Program}{loose:List Str}{XP:(Str→Option Value)→Heap→Prop}{YP:World→Heap→Prop}{d:DefRec}
  (hn:l.most=some n) (hdf:d.params.defaults=[])
  (call:∀(w:World) (s₀ s₁:Shared) (mg mb:Str→Option Value) (fa:Addr) (o:Obj) (pm cd doc:Value) (a:Addr) (vs:List Value) (ns:List Int),
   Ground q loose [] XP w s₀ mg mb s₁.heap→YP w s₁.heap →
   s₁.heap.get? fa=some o→o.data=.func (docDef d.name d.params d.body d.scope pm cd doc)→s₁.heap.CodeRec cd d.name→mg d.name=some (.ref fa) →
   s₁.heap.get? a=some { cls:=.type "list", data:=.seq vs.toArray }→IntsAre vs ns→ns.length≤n→s₁.gens=#[] →
   codeAny (model l.prog w) callerA (.call (.ref fa) ⟨[.ref a],[]⟩) (fun r s'=>r=.ok (.ret (.bool true))∧OldK s₁.heap s'.heap∧s'.os=s₁.os∧AllBare s'.gens) s₁) :
  WalkO q loose XP YP l.row.toRowW d [] (fun f vs=>PySem.call f vs):=by
 intro w s₀ s₁ mg mb G Y fa o pm cd doc dV kV ho hd hcd hD hmg hg args vals as hpre hlay hrd hwl hlo;obtain rfl:dV=.none:=Dflts.none hD hdf;obtain rfl:kV=.none:=Dflts.noKw hD;obtain⟨a,vs,ns,rfl,rfl,hobj,hints,hlen⟩:=script_of hn hpre hwl;refine enter_call (codeAny_mono (call w s₀ s₁ mg mb fa o pm cd doc a vs ns G Y ho (fd_plain hd) hcd hmg hobj hints hlen hg) fun r s' hq=>?_);obtain⟨rfl,h2,h3,h4⟩:=hq;exact⟨.inl ⟨.bool true,.bool true,[],rfl,fun _=>rfl,.bool true,post_true l _,fun _=>⟨List.Pairwise.nil,fun _ hm=>(nomatch hm)⟩⟩,h2,h3,h4⟩
section
variable {prog:Program}{w:World}{A:Around}{E:Value→Shared→Prop}{s:Shared}{K:Frag}
end
end Att
namespace L2
open PySem PySem.Spec PyProof.Rows
theorem vals_ints:∀{vs:List Value} {ns:List Int},IntsAre vs ns→Vals (ns.map V.int) vs:=by
 intro vs ns h
 induction h with
 | nil=>exact .nil
 | cons n t h ih=>exact .cons ⟨t,rfl⟩ ih
noncomputable def Only (H:Hp):Prop:=∀ b,H b=none∨∃ o xs,H b=some (.frz o (.lst xs))
theorem law_call {P:Program}{w:World}{K:PySem.W.Frag}{mg mb:Str→Option Value}{CX:CXT}{k:Nat}{fa a:Addr}{fd:FuncData}{x:Str}{sp:Sp}{s₁:Shared}{vs:List Value}{ns:List Int}
  (KX:K.In s₁.heap) (hns:s₁.heap.Ns mainGlobals mg) (hb:s₁.heap.Ns builtinsNs mb) (hbb:∀ x:Str,x ≠ "__name__" → mb x=bootBuiltins x) (hlim:s₁.heap.NoLimit) (hg:s₁.gens=#[])
  (ha:s₁.heap.get? a=some { cls:=.type "list", data:=.seq vs.toArray }) (hi:IntsAre vs ns) (hl:ns.length≤sizeLine) (hr:Room k callerA)
  (F:∀ base:Heap,K.In base→base.Ns mainGlobals mg→FnOk P w K mg base CX k fa fd [x] sp) (hbind:∀(s:Shared) (u:Value),BindsTo s fd ⟨[u],[]⟩ [(x,u)])
  (hsp:∀ H:Hp,Only H→SqL K H a (ns.map V.int)→sp [.ref a] H (fun v _=>v=.bl true) fun _ _ _=>False)
  (hCX:∀ H e s',CX [] H s₁ (fun _ _ _=>False) e s'→False) :
  codeAny (model P w) callerA (.call (.ref fa) ⟨[.ref a],[]⟩) (fun r s'=>r=.ok (.ret (.bool true))∧OldK s₁.heap s'.heap∧s'.os=s₁.os∧AllBare s'.gens) s₁:=by
 have rv:=vals_ints hi;have lenV:=hi.length;have core:∀ H:Hp,Only H→SqL K H a (ns.map V.int)→HOk P w H s₁.heap→(∀ b,H b≠none→b=a)→(H a≠none→K.lookup a=none) →
   codeAny (model P w) callerA (.call (.ref fa) ⟨[.ref a],[]⟩) (fun r s'=>r=.ok (.ret (.bool true))∧OldK s₁.heap s'.heap∧s'.os=s₁.os∧AllBare s'.gens) s₁:=by
  intro H hO hS hok hA hK;have base_of:∀{b:Addr} {o:Obj},s₁.heap.get? b=some o→H b=none→(hidT s₁.heap H).get? b=some o:=fun e n=>hidT_get e n;have noA:∀{b:Addr} {o:Obj} {es:Array DictEntry} {ep:Nat},s₁.heap.get? b=some o→o.data=.dict es ep→H b=none:=fun{b o es ep} e d=>by
   cases q:H b with
   | none=>rfl
   | some u=>
    have e':b=a:=hA b (by rw[q]; simp);subst e';rw[ha] at e; cases e;have d':Data.seq vs.toArray _=Data.dict es ep:=d
    cases d'
  have nsK:∀{b:Addr} {m:Str→Option Value},s₁.heap.Ns b m→(hidT s₁.heap H).Ns b m:=fun{b m} ⟨o,es,ep,e,d,r⟩=>⟨o,es,ep,base_of e (noA e d),d,r⟩;have hKb:K.In (hidT s₁.heap H):=fun b o e=>base_of (KX b o e) (by
   cases q:H b with
   | none=>rfl
   | some u=>
    have e':b=a:=hA b (by rw[q]; simp);subst e';rw[hK (by rw[q]; simp)] at e; cases e)
  have hM:Mod K mg (hidT s₁.heap H):=⟨hKb,nsK hns,⟨mb,nsK hb,hbb⟩,let ⟨mc,h1,h2⟩:=hlim; ⟨mc,nsK h1,h2⟩⟩;have e0:Env0 P w K mg (hidT s₁.heap H) callerA [] s₁ H:=⟨rfl,hM,fun b o e=>of_hidT e,Nat.le_of_eq (hidT_size _ _),trivial,fun b hb=>absurd (show b∈([]:List Addr) from hb) (by simp),hok,.of_eq hg⟩;refine codeAny_mono ((F _ hKb (nsK hns)).run callerA [] s₁ H ⟨[.ref a],[]⟩ [.ref a] [.ref a] _ _ hr e0 (hbind s₁ (.ref a)) (.cons rfl .nil) (hsp H hO hS)) fun r s' h=>?_
  cases r with
  | error e=>exact(hCX H e s' h).elim
  | ok fl=>
   cases fl with
   | next=>exact False.elim h
   | brk=>exact False.elim h
   | cont=>exact False.elim h
   | ret u=>
    obtain⟨v,H',os,bare,un,hok',r',q⟩:=h;have q':v=.bl true:=q;subst q';obtain rfl:u=Value.bool true:=r';refine⟨rfl,OldK.of_keep fun b o e=>?_,os,bare⟩
    cases q:H b with
    | none=>exact un.keep b o e q (by intro z; exact absurd (show b∈([]:List Addr) from z) (by simp)) (by simp)
    | some u=>
     rcases hO b with z|⟨ob,xs,z⟩
     ·rw[q] at z; cases z
     ·have z2:=un.frzs b ob _ z;obtain⟨e1,_⟩:=hok b _ z;obtain⟨e2,_⟩:=hok' b _ z2;rw[e] at e1; cases e1;exact e2
 cases hk:K.lookup a with
 | some o=>
  have e:=KX a o hk;rw[ha] at e
  cases e
  refine core (fun _=>none) (fun _=>.inl rfl) (.inr ⟨_,vs.toArray,_,hk,rfl,rfl,rfl,by rw[size_toArray,lenV]; exact hl,by simpa using rv⟩) (fun b u z=>by have z':(none:Option HO)=some u:=z; cases z') (fun b z=>absurd rfl z) fun z=>absurd rfl z
 | none=>
  refine core (fun b=>if b=a then some (.frz { cls:=.type "list", data:=.seq vs.toArray } (.lst (ns.map V.int))) else none) (fun b=>?_) (.inl (.inr ⟨{ cls:=.type "list", data:=.seq vs.toArray },if_pos rfl⟩)) (fun b u z=>?_) (fun b z=>?_) fun _=>hk
  ·by_cases hb:b=a
   ·exact .inr ⟨_,_,if_pos hb⟩
   ·exact .inl (if_neg hb)
  ·by_cases hb:b=a
   ·have z':=(if_pos hb).symm.trans z
    cases z'
    subst hb;exact⟨ha,by rw[length_map]; exact hl,vs,_,rv,ha⟩
   ·have z':=(if_neg hb).symm.trans z
    cases z'
  ·by_cases hb:b=a
   ·exact hb
   ·exact absurd (if_neg hb) z
end L2
namespace L2
open PySem PySem.Spec PyProof.Rows
theorem walk_of {l:PySem.W.OpenLaw}{n k:Nat}{q:Program}{loose:List Str}{XP:(Str→Option Value)→Heap→Prop}{YP:World→Heap→Prop}{d:DefRec}{K:Params→PySem.W.Frag}{CX:World→CXT}{sp:World→Sp}{x:Str}
  (hn:l.most=some n) (hn2:n≤sizeLine) (hdf:d.params.defaults=[]) (hr:Room k callerA)
  (hY:∀(w:World) (h:Heap),YP w h→(K w.params).In h)
  (F:∀(w:World) (mg:Str→Option Value) (fa:Addr) (h:Heap),(K w.params).In h→h.Ns mainGlobals mg→mg d.name=some (.ref fa) →
   ∃ fd:FuncData,(∀(s:Shared) (u:Value),BindsTo s fd ⟨[u],[]⟩ [(x,u)]) ∧
    ∀ base:Heap,(K w.params).In base→base.Ns mainGlobals mg→FnOk l.prog w (K w.params) mg base (CX w) k fa fd [x] (sp w))
  (hsp:∀(w:World) (H:Hp) (a:Addr) (ns:List Int),ns.length≤n→Only H→SqL (K w.params) H a (ns.map V.int)→sp w [.ref a] H (fun v _=>v=.bl true) fun _ _ _=>False)
  (hCX:∀(w:World) (H:Hp) (s:Shared) (e:Value) (s':Shared),CX w [] H s (fun _ _ _=>False) e s'→False) :
  PySem.W.WalkO q loose XP YP l.row.toRowW d [] (fun f vs=>PySem.call f vs):=by
 refine Att.attach_call hn hdf fun w s₀ s₁ mg mb fa o pm cd doc a vs ns G Y ho hd hcd hmg hobj hints hlen hg=>?_;have KX:=hY w _ Y;obtain⟨fd,hb,hF⟩:=F w mg fa _ KX G.T.g hmg;exact law_call KX G.T.g G.T.b G.T.builtins G.T.nolimit hg hobj hints (le_trans hlen hn2) hr hF hb (fun H hO hS=>hsp w H a ns hlen hO hS) fun H e s'=>hCX w H s₁ e s'
end L2
namespace L2
open PySem PySem.Spec PyProof.Rows
noncomputable def inClass (s:Stmt)(j:Nat):Stmt:=match s with
 | .ClassDef _ _ _ body _ _ _ _ _ _ _=>body.getD j (.Pass ⟨0,0,0,0⟩)
 | _=>.Pass ⟨0,0,0,0⟩
noncomputable def defArgs (s:Stmt):Arguments:=match s with
 | .FunctionDef _ a _ _ _ _ _ _ _ _=>a
 | _=>{ posonlyargs:=[],args:=[],vararg:=none,kwonlyargs:=[],kw_defaults:=[],kwarg:=none,defaults:=[] }
noncomputable def defBody (s:Stmt):List Stmt:=match s with
 | .FunctionDef _ _ b _ _ _ _ _ _ _=>b
 | _=>[]
noncomputable def aN (s:Stmt):Scope:=match s with
 | .FunctionDef _ _ _ _ _ _ sc _ _ _=>sc
 | _=>{ kind:=.function,names:=[],isGenerator:=false,isCoroutine:=false }
abbrev CX0:CXT:=fun _ _ _ _ _ _=>False
abbrev E0:XK:=fun _ _ _=>False
theorem pass0 {X:Cx}:Passes CX0 X E0:=fun _ _ _ _ _ _ _ h=>h.elim
structure Fun (K:PySem.W.Frag)(x qual:Str)(st:Stmt)(f:Addr)(fd:FuncData):Prop where
 ex:∃(oc:Value) (od:Option Addr) (kV doc pm:Value) (an:Option Addr) (cdv ct:Value) (osl:Array (Option Value)),
  fd=fnOf x qual (defArgs st) (defBody st) (aN st) .none kV doc pm an cdv ct∧K.lookup f=some ⟨oc,od,.func fd,osl⟩∧codeIn K cdv qual=true
 kp:keepIn K (.ref f)=true
section
variable {P:Program}{w:World}{K:PySem.W.Frag}{mg:Str→Option Value}{base:Heap}
theorem Fun.ok {x qual:Str}{st:Stmt}{f:Addr}{fd:FuncData}{N ps:List Str}{k:Nat}{sp:Sp}(F:Fun K x qual st f fd)(S:FnScope N ps (aN st))(len:∀ vs H Q E,sp vs H Q E→vs.length=ps.length)
  (hbody:∀(cdv:Value) (A:Around) (outer:List Env) (s:Shared) (H:Hp) (vs:List V) (Q:VK) (E:XK),Room k (A.deeper (envOfC qual (aN st) s.heap.objs.size f cdv))→sp vs H Q E →
   ∃ t,PSs (cxOf CX0 P w K mg base N qual (aN st) f cdv A outer s H E).nox (defBody st) t∧t { nx:=fun _ H'=>Q .non H',rt:=Q } (start N vs) H):FnOk P w K mg base CX0 (k+1) f fd ps sp:=by
 obtain⟨oc,od,kV,doc,pm,an,cdv,ct,osl,rfl,lk,hcd⟩:=F.ex;refine fn_of lk hcd S len fun A outer s H vs Q E hr hsp=>?_;obtain⟨t,h,q⟩:=hbody cdv A outer s H vs Q E hr hsp;exact⟨t,h.nox,q⟩
theorem Fun.binds {x qual:Str}{st:Stmt}{f:Addr}{fd:FuncData}{ps:List Str}(F:Fun K x qual st f fd)
  (h:∀(kV doc pm:Value) (an:Option Addr) (cdv ct:Value) (us:List Value),us.length=ps.length→bindArgs (fnOf x qual (defArgs st) (defBody st) (aN st) .none kV doc pm an cdv ct) ⟨us,[]⟩=pure (ps.zip us)):Binds K fd ps []:=by
 obtain⟨oc,od,kV,doc,pm,an,cdv,ct,osl,rfl,lk,hcd⟩:=F.ex;exact .all (h kV doc pm an cdv ct)
theorem fun_mk {x qual:Str}{st:Stmt}{f:Addr}{oc:Value}{od an:Option Addr}{osl:Array (Option Value)}{kV doc pm cdv ct:Value}(l:K.lookup f=some ⟨oc,od,.func (fnOf x qual (defArgs st) (defBody st) (aN st) .none kV doc pm an cdv ct),osl⟩)
  (c:codeIn K cdv qual=true) (k:keepIn K (.ref f)=true):Fun K x qual st f (fnOf x qual (defArgs st) (defBody st) (aN st) .none kV doc pm an cdv ct):=⟨⟨oc,od,kV,doc,pm,an,cdv,ct,osl,rfl,l,c⟩,k⟩
end
theorem small1000 {n:Nat}(h:n≤1000):n<sizeLine:=Nat.lt_of_le_of_lt h (by decide)
section
variable {X:Cx}
theorem pv (i:Nat){x:Str}{pos:Pos}(hN:X.N[i]?=some x:=by rfl)(hv:Vis X.env.scope x:=by first|exact Or.inl rfl|exact Or.inr (Or.inl rfl)|exact Or.inr (Or.inr rfl))(hd:(x==("__debug__" : Str))=false:=by decide)
  (hcd:(x==("__classdict__" : Str))=false:=by decide):PE X (.Name x pos) (tVar i):=pe_var hN hv hd hcd
end
theorem iteF {A B:Prop}(h:B):if false=true then A else B:=by
 rw[if_neg Bool.false_ne_true];exact h
theorem iteT {A B:Prop}(h:A):if true=true then A else B:=by
 rw[if_pos rfl];exact h
theorem iteNS {c A B:Prop}[Decidable c](hc:c)(h:B):if (!decide c)=true then A else B:=by
 rw[decide_eq_true hc];exact iteF h
noncomputable def Same (H H':Hp):Prop:=∀ b o,H b=some o→H' b=some o
theorem Same.refl (H:Hp):Same H H:=fun _ _ h=>h
theorem Same.trans {H H1 H2:Hp}(a:Same H H1)(b:Same H1 H2):Same H H2:=fun c o h=>b c o (a c o h)
theorem Same.free {H H':Hp}(e:Same H H'){l:Addr}(h:H' l=Option.none):H l=Option.none:=by
 cases q:H l with
 | none=>rfl
 | some o=>
  rw[e l o q] at h
  cases h
theorem Same.seq {K:PySem.W.Frag}{H H':Hp}{a:Addr}{xs:List V}(e:Same H H')(h:SqL K H a xs):SqL K H' a xs:=by
 rcases h with(h|⟨o,h⟩)|h
 ·exact .inl (.inl (e _ _ h))
 ·exact .inl (.inr ⟨o,e _ _ h⟩)
 ·exact .inr h
end L2
set_option maxHeartbeats 4000000
namespace LT
theorem fd (t:Int)(g:Nat):t.fdiv (g:Int)=t/(g:Int):=Int.fdiv_eq_ediv_of_nonneg t (by omega)
theorem norm_pos {t b:Int}(h:0<b):t.fdiv (Int.gcd t b:Nat)=(Rat.divInt t b).num∧b.fdiv (Int.gcd t b:Nat)=((Rat.divInt t b).den:Int):=by
 rw[Rat.num_divInt,Rat.den_divInt,fd,fd,if_neg (by omega),Int.sign_eq_one_of_pos h,one_mul,Int.gcd_comm b t];refine⟨rfl,?_⟩;obtain⟨n,rfl⟩:∃ n:Nat,b=(n:Int):=⟨b.toNat,by omega⟩;rw[← Int.natCast_ediv,natAbs_natCast]
theorem gcd_step {d r:Int}(hd:0≤d)(h:0<r):Int.gcd r (d%r)=Int.gcd d r:=by
 obtain⟨m,rfl⟩:∃ n:Nat,d=(n:Int):=⟨d.toNat,by omega⟩;obtain⟨n,rfl⟩:∃ n:Nat,r=(n:Int):=⟨r.toNat,by omega⟩;rw[← Int.natCast_emod];show Nat.gcd n (m%n)=Nat.gcd m n;rw[Nat.gcd_comm n,←Nat.gcd_rec,Nat.gcd_comm]
theorem gcd_end {d:Int}(h:0≤d):(Int.gcd d 0:Int)=d:=by
 rw[Int.gcd_zero_right]; omega
theorem abs_nn (i:Int):0≤(if i<0 then -i else i):=by split<;>omega
theorem abs_gcd (i j:Int):Int.gcd (if i<0 then -i else i) (if j<0 then -j else j)=Int.gcd i j:=by
 split<;>split<;>simp only[Int.gcd_neg,Int.neg_gcd]
noncomputable def Bt (k:Nat)(i:Int):Prop:=i.natAbs<2^k
end LT
namespace LT
end LT
namespace LT
end LT
namespace L2
open PySem PySem.Spec PyProof.Rows
mutual
inductive Dt (H:Hp):V→PyData→Prop
 | non:Dt H .non .none
 | bl (b:Bool):Dt H (.bl b) (.bool b)
 | int (i:Int):Dt H (.int i) (.int i)
 | str (x:Str):Dt H (.str x) (.str x)
 | tup {p:Addr} {xs:List V} {ds:List PyData}:H p=some (.tup xs)→Dts H xs ds→Dt H (.ref p) (.tuple ds)
 | lst {p:Addr} {xs:List V} {ds:List PyData}:H p=some (.lst xs)→Dts H xs ds→Dt H (.ref p) (.list ds)
 | dic {p:Addr} {kvs:List (Key×V)} {kds:List (PyData×PyData)}:Rd H p (.dK kvs)→Dtk H kvs kds→Dt H (.ref p) (.dict kds)
inductive Dts (H:Hp):List V→List PyData→Prop
 | nil:Dts H [] []
 | cons {x:V} {xs:List V} {d:PyData} {ds:List PyData}:Dt H x d→Dts H xs ds→Dts H (x::xs) (d::ds)
inductive Dtk (H:Hp):List (Key×V)→List (PyData×PyData)→Prop
 | nil:Dtk H [] []
 | cons {n:Int} {x:V} {d:PyData} {kvs:List (Key×V)} {kds:List (PyData×PyData)}:Dt H x d→Dtk H kvs kds→Dtk H ((Sum.inl n,x)::kvs) ((.int n,d)::kds)
end
mutual
theorem Dt.reads {P:Program}{w:World}{H:Hp}{h:Heap}(ok:HOk P w H h):∀(d:PyData) (x:V) (v:Value),Dt H x d→RelV x v→∃ as,Reads h v d as
 | .none,_,_,e,r=>by cases e; cases r; exact⟨_,.none⟩
 | .bool _,_,_,e,r=>by cases e; cases r; exact⟨_,.bool _⟩
 | .int _,_,_,e,r=>by cases e; obtain⟨t,rfl⟩:=r; exact⟨_,.int _ _⟩
 | .str _,_,_,e,r=>by cases e; obtain⟨t,rfl⟩:=r; exact⟨_,.str _ _⟩
 | .list ds,_,_,e,r=>by
  cases e with
  | @lst p xs _ hp rs=>
   cases r
   obtain⟨_,its,n,r',hg⟩:=(show ObjOk P w H h p (.lst xs) from ok p _ hp);obtain⟨as,q⟩:=Dts.reads ok ds xs its rs r';exact⟨_,.list hg rfl rfl (by simpa using q)⟩
 | .tuple ds,_,_,e,r=>by
  cases e with
  | @tup p xs _ hp rs=>
   cases r
   obtain⟨_,its,r',o,h1,h2,n,h3⟩:=(show ObjOk P w H h p (.tup xs) from ok p _ hp);obtain⟨as,q⟩:=Dts.reads ok ds xs its rs r';exact⟨_,.tuple h1 h2 h3 (by simpa using q)⟩
 | .dict kds,_,_,e,r=>by
  cases e with
  | @dic p kvs _ hp rs=>
   cases r
   obtain⟨_,_,vs,kv,o,es,ep,h1,h2,h3,_,h4,_⟩:=(show ObjOk P w H h p (.dK kvs) from hp.ok ok);obtain⟨as,bs,q1,q2⟩:=Dtk.reads ok kds kvs vs es.toList rs kv h4;exact⟨_,.dict h1 h2.1 h3 q1 q2⟩
theorem Dts.reads {P:Program}{w:World}{H:Hp}{h:Heap}(ok:HOk P w H h):∀(ds:List PyData) (xs:List V) (vs:List Value),Dts H xs ds→Vals xs vs→∃ as,ReadsAll h vs ds as
 | [],_,_,e,r=>by cases e; cases r; exact⟨_,.nil⟩
 | d::ds,_,_,e,r=>by
  cases e with
  | cons e1 e2=>
   cases r with
   | cons r1 r2=>
    obtain⟨as,q1⟩:=Dt.reads ok d _ _ e1 r1;obtain⟨bs,q2⟩:=Dts.reads ok ds _ _ e2 r2;exact⟨_,.cons q1 q2⟩
theorem Dtk.reads {P:Program}{w:World}{H:Hp}{h:Heap}(ok:HOk P w H h):∀(kds:List (PyData×PyData)) (kvs:List (Key×V)) (vs:List (Key×Value)) (es:List DictEntry),Dtk H kvs kds→KV kvs vs→Pairs (mixKind P w) es vs →
  ∃ as bs,ReadsAll h (es.map (·.key)) (kds.map (·.1)) as∧ReadsAll h (es.map (·.val)) (kds.map (·.2)) bs
 | [],_,_,_,e,r,z=>by cases e; cases r; cases z; exact⟨_,_,.nil,.nil⟩
 | (k,d)::kds,_,_,_,e,r,z=>by
  cases e with
  | @cons n _ _ _ _ e1 e2=>
   cases r with
   | cons r1 r2=>
    cases z with
    | @cons en kv _ _ z1 z2 z3=>
     obtain⟨k1,rv⟩:=r1;obtain⟨as,q1⟩:=Dt.reads ok d _ _ e1 rv;obtain⟨as2,bs2,q3,q4⟩:=Dtk.reads ok kds _ _ _ e2 r2 z3;have kr:∃ cs,Reads h en.key (.int n) cs:=by
      rcases bU ((mixKind_is P w _ _).symm.trans z1) with⟨i,t,a,b⟩|⟨_,_,a,_⟩
      ·rw[← k1] at a
       cases a
       rw[b];exact⟨_,.int _ _⟩
      ·rw[← k1] at a
       cases a
     obtain⟨cs,kr⟩:=kr;exact⟨_,_,.cons kr q3,.cons (z2▸q1:Reads h en.val d as) q4⟩
end
theorem Rd.same {H H':Hp}(g:Same H H'){a:Addr}{u:HO}(r:Rd H a u):Rd H' a u:=r.elim (fun e=>.inl (g _ _ e)) fun⟨o,e⟩=>.inr ⟨o,g _ _ e⟩
mutual
theorem Dt.same {H H':Hp}(g:Same H H'):∀(d:PyData) (x:V),Dt H x d→Dt H' x d
 | .none,_,e=>by cases e; exact .non
 | .bool _,_,e=>by cases e; exact .bl _
 | .int _,_,e=>by cases e; exact .int _
 | .str _,_,e=>by cases e; exact .str _
 | .list ds,_,e=>by
  cases e with
  | lst hp rs=>exact .lst (g _ _ hp) (Dts.same g ds _ rs)
 | .tuple ds,_,e=>by
  cases e with
  | tup hp rs=>exact .tup (g _ _ hp) (Dts.same g ds _ rs)
 | .dict kds,_,e=>by
  cases e with
  | dic hp rs=>exact .dic (hp.same g) (Dtk.same g kds _ rs)
theorem Dts.same {H H':Hp}(g:Same H H'):∀(ds:List PyData) (xs:List V),Dts H xs ds→Dts H' xs ds
 | [],_,e=>by cases e; exact .nil
 | d::ds,_,e=>by
  cases e with
  | cons e1 e2=>exact .cons (Dt.same g d _ e1) (Dts.same g ds _ e2)
theorem Dtk.same {H H':Hp}(g:Same H H'):∀(kds:List (PyData×PyData)) (kvs:List (Key×V)),Dtk H kvs kds→Dtk H' kvs kds
 | [],_,e=>by cases e; exact .nil
 | (_,d)::kds,_,e=>by
  cases e with
  | cons e1 e2=>exact .cons (Dt.same g d _ e1) (Dtk.same g kds _ e2)
end
noncomputable def SameX (x:Addr)(H H':Hp):Prop:=∀ b o,b≠x→H b=some o→H' b=some o
theorem SameX.refl (x:Addr)(H:Hp):SameX x H H:=fun _ _ _ e=>e
theorem SameX.trans {x:Addr}{H H1 H2:Hp}(a:SameX x H H1)(b:SameX x H1 H2):SameX x H H2:=fun c o n e=>b c o n (a c o n e)
theorem same_new {H:Hp}{p:Addr}(h:H p=none)(o:HO):Same H (upd H p o):=fun b u q=>by rw[aR (aZ q h)]; exact q
theorem sameX_upd {H:Hp}{p:Addr}(o:HO):SameX p H (upd H p o):=fun b u n q=>by rw[aR n]; exact q
structure Good (d:PyData):Prop where
 lay:d.canLay0=true
 dep:d.depth≤60
section
variable {X:Cx}
theorem roomD {u a b:Nat}(h:u+64<cLine)(ha:a≤60):u+min a b<cLine:=by
 have:min a b≤a:=Nat.min_le_left _ _;omega
noncomputable def rEqD:R2:=fun x y H Q=>∃ dx dy,Dt H x dx∧Dt H y dy∧Good dx∧Good dy∧Q (.bl (PyData.eqv dx dy)) H
noncomputable def rNeD:R2:=fun x y H Q=>∃ dx dy,Dt H x dx∧Dt H y dy∧Good dx∧Good dy∧Q (.bl (!PyData.eqv dx dy)) H
theorem op_eqD (hu:X.A.units+64<cLine):OpR X (compareOp .Eq) rEqD:=by
 intro pins s σ H x y v u Q I rx ry h;obtain⟨dx,dy,ex,ey,gx,gy,q⟩:=h;obtain⟨as,r1⟩:=Dt.reads I.hok dx x v ex rx;obtain⟨bs,r2⟩:=Dt.reads I.hok dy y u ey ry;exact SeqAt.compareEq_reads r1 r2 gx.lay gy.lay (roomD hu gx.dep) ⟨.bl _,H,I,rfl,q⟩
theorem op_neD (hu:X.A.units+64<cLine):OpR X (compareOp .NotEq) rNeD:=by
 intro pins s σ H x y v u Q I rx ry h;obtain⟨dx,dy,ex,ey,gx,gy,q⟩:=h;obtain⟨as,r1⟩:=Dt.reads I.hok dx x v ex rx;obtain⟨bs,r2⟩:=Dt.reads I.hok dy y u ey ry;exact SeqAt.compareNe_reads r1 r2 gx.lay gy.lay (roomD hu gx.dep) ⟨.bl _,H,I,rfl,q⟩
theorem op_mulX:OpR X (binaryOp .Mult) (rI IntMulOk fun i j=>.int (i*j)):=opI fun _ _ _ _ _ _ _ hc q=>mul_int q hc
noncomputable def CDivX (_ j:Int):Prop:=j≠0∧LT.Bt 9000 j
theorem noPy {i j:Int}(h:CDivX i j):Builtin.divisionGoesByPylong i j=false:=by
 refine PyProof.noPylong_of_log2 ((log2_lt ?_).mpr h.2);have:=h.1;omega
theorem op_fdivX:OpR X (binaryOp .FloorDiv) (rI CDivX fun i j=>.int (i.fdiv j)):=opI fun _ _ _ _ _ _ _ hc q=>floordiv_int hc.1 q (.inl (noPy hc))
theorem bits_le {k:Nat}{i:Int}(h:LT.Bt k i):Builtin.Int.intBits i≤k:=by
 unfold Builtin.Int.intBits
 split
 ·exact zero_le _
 ·rename_i h0
  have:i.natAbs≠0:=by
   intro e;exact h0 (by simpa using e)
  exact(log2_lt this).mpr h
theorem mulB {k m:Nat}{i j:Int}(h:LT.Bt k i)(g:LT.Bt m j)(hk:k≤1048576:=by decide)(hm:m≤1048576:=by decide):IntMulOk i j:=
 IntMulOk.of_bits (le_trans (bits_le h) hk) (le_trans (bits_le g) hm)
theorem pe_powC {a b v:Int}{j j':Nat}{p p' pos:Pos}(h:a^b.toNat=v)(hc:CPow a b):PE X (.BinOp (.Constant (.int a) j p) .Pow (.Constant (.int b) j' p') pos) (tC (.int v)):=by
 intro pins s σ H Q I hq;subst h;exact bC op_pow aD aD pins s σ H Q I ⟨_,_,rfl,rfl,hc,hq⟩
theorem CMul_mod {x c y:Int}(h:0<c)(h2:c<2^64):CMul (x%c) y:=by
 have h3:=emod_nonneg x (b:=c) (by omega);have h4:=emod_lt_of_pos x h;exact .inl ⟨by omega,by omega⟩
noncomputable def clsV:V→Option Value
 | .ty n=>some (.type n)
 | .ref a=>some (.ref a)
 | _=>none
noncomputable def rIsi (K:PySem.W.Frag):List V→Hp→VK→Prop:=fun xs H Q=>∃ x c cv t b,xs=[x,c]∧clsV c=some cv∧TyOf K H x t∧kitOne K t cv=some b∧Q (.bl b) H
theorem call_isi:CallR X (.builtin "isinstance") (rIsi X.K):=by
 intro pins s σ H xs us Q I r h;obtain⟨x,c,cv,t,b,rfl,ec,ty,e,q⟩:=h;obtain⟨u,v,rfl,rx,rc⟩:=vals2 r;have ev:v=cv:=by
  cases c<;>first
   | (cases ec; exact rc)
   | cases ec
 subst ev;exact isinst_ok I rx ty e fun tk=>⟨.bl b,H,I.tok tk,rfl,q⟩
structure Cal (P:Program)(w:World)(K:PySem.W.Frag)(mg:Str→Option Value)(base:Heap)(k:Nat)(x:Str)(ps:List Str)(sp:Sp):Prop where
 ex:∃(f:Addr) (fd:FuncData),FnOk P w K mg base CX0 k f fd ps sp∧mg x=some (.ref f)∧keepIn K (.ref f)=true∧Binds K fd ps []
variable {j k:Nat}{x:Str}{ps:List Str}{sp:Sp}{e:Expr}{es:List Expr}{t:TA}{p pos:Pos}
theorem aM (c:Cal X.prog X.w X.K X.mg X.base j x ps sp)(hr:Room k X.A)(hg:Gl X x)(ha:PA X (e::es) t)(hjk:j≤k:=by decide)
  (hdb:(x==("__debug__" : Str))=false:=by decide) (he:starEach (e::es) X.env=(false,eval e X.env)::starEach es X.env:=by rfl) (hpl:(backTo pos (starEach es X.env)).any (·.1)=false:=by rfl) :
  PE X (.Call (.Name x p) (e::es) [] pos) (tCall sp [] E0 t):=by
 obtain⟨f,fd,F,hm,hk,hb⟩:=c.ex;exact pe_call F (hr.mono hjk) hg hm hk hb .nil pass0 ha hdb he hpl
end
structure Bl (K:PySem.W.Frag)(mg:Str→Option Value):Prop where
 len_:mg "len" = none
 abs_:mg "abs" = none
 range_:mg "range" = none
 isinstance_:mg "isinstance" = none
 int_:mg "int" = none
 bool_:mg "bool" = none
 tuple_:mg "tuple" = none
 max_:mg "max" = none
 min_:mg "min" = none
 list_:mg "list" = none
 all_:mg "all" = none
 any_:mg "any" = none
 sorted_:mg "sorted" = none
 zip_:mg "zip" = none
 set_:mg "set" = none
 sum_:mg "sum" = none
 str_:mg "str" = none
 enumerate_:mg "enumerate" = none
 kib:kitOne K (.type "int") (.type "bool")=some false
 kbi:kitOne K (.type "bool") (.type "int")=some true
theorem kit_same (K:PySem.W.Frag)(t:Value):kitOne K t t=some true:=by
 unfold kitOne;rw[if_pos (beq_self_eq_true t)]
end L2
namespace L2
open PySem PySem.Spec PyProof.Rows LT
theorem iteD1 {c A B:Prop}[Decidable c](h:c)(a:A):if decide c=true then A else B:=by rw[decide_eq_true h]; exact iteT a
theorem iteD0 {c A B:Prop}[Decidable c](h:¬c)(b:B):if decide c=true then A else B:=by rw[decide_eq_false h]; exact iteF b
theorem iteN1 {c A B:Prop}[Decidable c](h:¬c)(a:A):if (!decide c)=true then A else B:=by rw[decide_eq_false h]; exact iteT a
theorem iteD2 {c A B:Prop}[Decidable c](h1:c→A)(h2:¬c→B):if decide c=true then A else B:=by
 by_cases h:c
 ·exact iteD1 h (h1 h)
 ·exact iteD0 h (h2 h)
theorem iteN2 {c A B:Prop}[Decidable c](h1:¬c→A)(h2:c→B):if (!decide c)=true then A else B:=by
 by_cases h:c
 ·exact iteNS h (h2 h)
 ·exact iteN1 h (h1 h)
theorem eq_of_int {i j:Int}(h:V.int i=V.int j):i=j:=V.int.inj h
theorem small_le {n:Nat}(h:n≤1000):n≤sizeLine:=le_of_lt (small1000 h)
theorem small_b {n:Nat}(h:Nat.ble n 1000=true):n≤sizeLine:=small_le (Nat.le_of_ble_eq_true h)
noncomputable def dNum (q:Rat):PyData:=.tuple [.int q.num,.int (q.den:Int)]
theorem good_num (q:Rat):Good (dNum q):=⟨rfl,by show 1≤60; decide⟩
theorem eqv_num (a b:Rat):PyData.eqv (dNum a) (dNum b)=decide (a=b):=by
 show((a.num==b.num)&&(((a.den:Int)==(b.den:Int))&&true))=decide (a=b)
 rw[Bool.and_true]
 by_cases e:a=b
 ·subst e; simp
 ·rw[decide_eq_false e];refine eq_false_iff.mpr fun h=>e ?_;rw[and_eq_true] at h;have h1:a.num=b.num:=beq_iff_eq.mp h.1;have h2:(a.den:Int)=(b.den:Int):=beq_iff_eq.mp h.2;exact Rat.ext h1 (by omega)
noncomputable def spLaw (K:PySem.W.Frag):Sp:=fun vs H Q _=>∃(a:Addr) (ns:List Int),vs=[.ref a]∧SqL K H a (ns.map V.int)∧ns.length≤63∧∀ H',Q (.bl true) H'
theorem gcd_bt {k:Nat}{t b:Int}(h:Bt k b)(h0:b≠0):Bt k (Int.gcd t b:Nat):=by
 unfold Bt at *;refine Nat.lt_of_le_of_lt ?_ h;show Int.gcd t b≤b.natAbs;exact Nat.le_of_dvd (by omega) (Nat.gcd_dvd_right _ _)
theorem gcd_ne {t b:Int}(h0:b≠0):((Int.gcd t b:Nat):Int)≠0:=by
 have:=Int.gcd_pos_of_ne_zero_right t h0;omega
end L2
namespace L2
open PySem PySem.Spec PyProof.Rows
section
variable {κ:Type}[DecidableEq κ]
end
section
variable {P:Program}{w:World}{H:Hp}{h:Heap}{a:Addr}
end
section
variable {X:Cx}{pins:List (Addr×Obj)}{σ:St}{H:Hp}{s:Shared}{a:Addr}{y v:V}{u r:Value}{o:Option V}{A:Around}{E:Value→Shared→Prop}
end
section
variable {X:Cx}{pins:List (Addr×Obj)}{σ:St}{H:Hp}{s:Shared}{a:Addr}{kvs:List (Key×V)}{k:Key}{u:Value}{A:Around}{E:Value→Shared→Prop}
end
section
variable {X:Cx}{o i e value:Expr}{pos pos' tpos:Pos}{td ty tv:TE}
end
section
variable {X:Cx}{pos:Pos}
end
section
variable {X:Cx}{pins:List (Addr×Obj)}{σ:St}{H:Hp}{s:Shared}{a:Addr}{y d:V}{u r:Value}{o:Option V}{A:Around}{E:Value→Shared→Prop}
end
section
variable {X:Cx}{o e f:Expr}{apos cpos:Pos}{td ty tx:TE}
end
section
variable {X:Cx}{pins:List (Addr×Obj)}{σ:St}{H:Hp}{s:Shared}{a:Addr}{kvs:List (Key×V)}{A:Around}{E:Value→Shared→Prop}
end
section
variable {X:Cx}{pins:List (Addr×Obj)}{σ:St}{H:Hp}{s:Shared}{a:Addr}{y:V}{u:Value}{A:Around}{E:Value→Shared→Prop}
end
end L2
namespace L2
open PySem PySem.Spec PyProof.Rows
section
variable {κ:Type}[DecidableEq κ]
end
end L2
abbrev Fg:=PySem.W.Frag
abbrev Mg:=PySem.Str→Option PySem.Value
namespace L2.VS
open PySem PySem.Spec PyProof.Rows
section
abbrev D:=PyData
structure Pb where
 P:V→Hp→Prop
 mono:∀{v G G'},Same G G'→P v G→P v G'
structure Bx where
 P:V→List Addr→Hp→Hp→Prop
 mono:∀{v fp G G' H},Same G G'→P v fp G H→P v fp G' H
 loc:∀{v fp G H H'},(∀ b∈fp,H' b=H b)→P v fp G H→P v fp G H'
 dom:∀{v fp G H},P v fp G H→∀ b∈fp,∃ o,H b=some o
 uniq:∀{v fp fp' G H},P v fp G H→P v fp' G H→fp=fp'
 nt:∀{v fp G H},P v fp G H→∀ b∈fp,∀ xs,H b=some (.tup xs)→∃ q∈fp,V.ref q∈xs∧∃ vs,H q=some (.lst vs)
 view:Option D
 vok:∀{v fp G H G' d},P v fp G H→view=some d→Same G G'→(∀ b∈fp,G' b=H b)→Dt G' v d
 pv:Option Pb:=none
 pok:∀{v fp G H G' B},P v fp G H→pv=some B→Same G G'→(∀ b∈fp,G' b=H b)→B.P v G':=by intro _ _ _ _ _ _ _ z; cases z
inductive Sl where
 | no|val (d:D)|own (ds:List D)|pen|con (p:Addr)|box (B:Bx)|pub (B:Pb)
abbrev En:=List Sl
inductive Rv where
 | val (d:D)|own (ds:List D)|box (B:Bx)
def Rv.d:Rv→D
 | .val d=>d
 | .own ds=>.list ds
 | .box B=>B.view.getD .none
def Rv.sl:Rv→Sl
 | .val d=>.val d
 | .own ds=>.own ds
 | .box B=>.box B
inductive Fl where
 | nx (Γ:En)|rt (r:Rv)|bk (Γ:En)|ct (Γ:En)
variable {P0:Addr→Hp→Prop}
structure Fra (P0:Addr→Hp→Prop) where
 H0:Hp
 G0:Hp
 pen:Option Addr
 stab:∀ p,pen=some p→∀ H H',(∀ b o,H0 b=some o→H' b=H b)→P0 p H→P0 p H'
 pin:∀ p,pen=some p→∀ H,P0 p H→∃ o,H p=some o
 pin0:∀ p,pen=some p→∃ o,H0 p=some o
 pg:∀ p,pen=some p→G0 p=none
def Fra.PI (F:Fra P0)(H:Hp):Prop:=∀ p,F.pen=some p→P0 p H
theorem Fra.stab' (F:Fra P0):∀ H H',(∀ b o,F.H0 b=some o→H' b=H b)→F.PI H→F.PI H':=fun H H' h pi p e=>F.stab p e H H' h (pi p e)
structure Rf (F:Fra P0)(G H:Hp):Prop where
 sub:Same G H
 g0:∀ b o,F.H0 b=some o→G b=F.G0 b
 h0:∀ b o,F.H0 b=some o→F.pen≠some b→H b=some o
 pn:F.PI H
def SlF (F:Fra P0)(G H:Hp)(x:Option (Option V))(fp:List Addr):Sl→Prop
 | .no=>fp=[]
 | .val d=>fp=[]∧∃ v,x=some (some v)∧Dt G v d
 | .own ds=>∃ p vs,fp=[p]∧x=some (some (.ref p))∧F.H0 p=none∧G p=none∧H p=some (.lst vs)∧Dts G vs ds
 | .pen=>fp=[]∧∃ p,x=some (some (.ref p))∧F.pen=some p
 | .con p=>fp=[]∧x=some (some (.ref p))
 | .pub B=>fp=[]∧∃ v,x=some (some v)∧B.P v G
 | .box B=>∃ v,x=some (some v)∧B.P v fp G H∧∀ b∈fp,F.H0 b=none∧G b=none
def SlOk (F:Fra P0)(G H:Hp)(x:Option (Option V)):Sl→Prop
 | .no=>True
 | .val d=>∃ v,x=some (some v)∧Dt G v d
 | .own ds=>∃ p vs,x=some (some (.ref p))∧F.H0 p=none∧G p=none∧H p=some (.lst vs)∧Dts G vs ds
 | .pen=>∃ p,x=some (some (.ref p))∧F.pen=some p
 | .con p=>x=some (some (.ref p))
 | .pub B=>∃ v,x=some (some v)∧B.P v G
 | .box B=>∃ v fp,x=some (some v)∧B.P v fp G H∧∀ b∈fp,F.H0 b=none∧G b=none
theorem SlF.ok {F:Fra P0}{G H:Hp}{x:Option (Option V)}{fp:List Addr}:∀{s:Sl},SlF F G H x fp s→SlOk F G H x s
 | .no,_=>trivial
 | .val _,h=>h.2
 | .own _,h=>let ⟨p,vs,_,r⟩:=h; ⟨p,vs,r⟩
 | .pen,h=>h.2
 | .con _,h=>h.2
 | .pub _,h=>h.2
 | .box _,h=>let ⟨v,r⟩:=h; ⟨v,fp,r⟩
theorem SlF.mine {F:Fra P0}{G H:Hp}{x:Option (Option V)}{fp:List Addr}{b:Addr}(hb:b∈fp):∀{s:Sl},SlF F G H x fp s→F.H0 b=none∧G b=none∧∃ o,H b=some o
 | .no,h=>by rw[show fp=[] from h] at hb; cases hb
 | .val _,h=>by rw[h.1] at hb; cases hb
 | .own _,h=>by
  obtain⟨p,vs,e,_,h1,h2,h3,_⟩:=h;rw[e] at hb;rw[mem_singleton.mp hb];exact⟨h1,h2,_,h3⟩
 | .pen,h=>by rw[h.1] at hb; cases hb
 | .con _,h=>by rw[h.1] at hb; cases hb
 | .pub _,h=>by rw[h.1] at hb; cases hb
 | .box B,h=>by
  obtain⟨v,_,h2,h3⟩:=h;exact⟨(h3 b hb).1,(h3 b hb).2,B.dom h2 b hb⟩
theorem SlF.go {F:Fra P0}{G H G' H':Hp}{x:Option (Option V)}{fp:List Addr}(g:Same G G')(k:∀ b∈fp,G' b=none∧H' b=H b):∀{s:Sl},SlF F G H x fp s→SlF F G' H' x fp s
 | .no,h=>h
 | .val _,h=>let ⟨e,v,e1,d1⟩:=h; ⟨e,v,e1,Dt.same g _ _ d1⟩
 | .own _,h=>by
  obtain⟨p,vs,e,e1,e2,e3,e4,e5⟩:=h;have:=k p (by rw[e]; exact mem_singleton.mpr rfl);exact⟨p,vs,e,e1,e2,this.1,this.2.trans e4,Dts.same g _ _ e5⟩
 | .pen,h=>h
 | .con _,h=>h
 | .pub B,h=>let ⟨e,v,e1,d1⟩:=h; ⟨e,v,e1,B.mono g d1⟩
 | .box B,h=>by
  obtain⟨v,h1,h2,h3⟩:=h;exact⟨v,h1,B.loc (fun b hb=>(k b hb).2) (B.mono g h2),fun b hb=>⟨(h3 b hb).1,(k b hb).1⟩⟩
structure R (F:Fra P0)(Γ:En)(σ:St)(G H:Hp):Prop where
 fr:Rf F G H
 len:Γ.length=σ.length
 fps:∃ fps:Nat→List Addr,(∀(i:Nat) s,Γ[i]?=some s→SlF F G H σ[i]? (fps i) s)∧∀(i j:Nat) (s t:Sl),Γ[i]?=some s→Γ[j]?=some t→i≠j→∀ b∈fps i,b∉fps j
theorem R.sl {F:Fra P0}{Γ:En}{σ:St}{G H:Hp}(r:R F Γ σ G H)(i:Nat)(s:Sl)(e:Γ[i]?=some s):SlOk F G H σ[i]? s:=
 let ⟨_,h,_⟩:=r.fps; (h i s e).ok
theorem R.of {F:Fra P0}{Γ:En}{σ:St}{G H:Hp}(fr:Rf F G H)(len:Γ.length=σ.length)(sl:∀(i:Nat) s,Γ[i]?=some s→SlOk F G H σ[i]? s)(nb:∀(i:Nat) B,Γ[i]?≠some (.box B))
  (ap:∀(i j:Nat) x y,i≠j→Γ[i]?=some (.own x)→Γ[j]?=some (.own y)→σ[i]?≠σ[j]?):R F Γ σ G H:=by
 refine⟨fr,len,fun i=>match Γ[i]?,σ[i]? with|some (.own _),some (some (.ref p))=>[p]|_,_=>[],fun i s e=>?_,fun i j s t ei ej hij b hb hc=>?_⟩
 ·have h:=sl i s e
  cases s with
  | no=>simp only[e]; rfl
  | val d=>simp only[e]; exact⟨rfl,h⟩
  | own ds=>
   obtain⟨p,vs,e1,r⟩:=h;simp only[e,e1];exact⟨p,vs,rfl,rfl,r⟩
  | pen=>simp only[e]; exact⟨rfl,h⟩
  | con q=>simp only[e]; exact⟨rfl,h⟩
  | pub B=>simp only[e]; exact⟨rfl,h⟩
  | box B=>exact absurd e (nb i B)
 ·simp only[ei] at hb;simp only[ej] at hc
  cases s with
  | own x=>
   cases t with
   | own y=>
    split at hb
    ·rename_i p _ e1
     split at hc
     ·rename_i q _ e2
      have e1:=mem_singleton.mp hb;have e2:=mem_singleton.mp hc;exact ap i j x y hij ei ej (by simp_all)
     ·cases hc
    ·cases hb
   | _=>simp at hc
  | _=>simp at hb
section
variable {F:Fra P0}{Γ:En}{σ:St}{G H G' H':Hp}{p:Addr}{o:HO}
theorem Rf.dom (h:Rf F G H){b:Addr}(e:F.H0 b=some o):∃ o',H b=some o':=by
 by_cases hb:F.pen=some b
 ·exact F.pin b hb H (h.pn b hb)
 ·exact⟨o,h.h0 b o e hb⟩
theorem Rf.fresh (h:Rf F G H)(hp:H p=none):F.H0 p=none:=by
 cases e:F.H0 p with
 | none=>rfl
 | some o=>
  obtain⟨o',e'⟩:=h.dom e;rw[hp] at e'; cases e'
theorem Rf.gfresh (h:Rf F G H)(hp:H p=none):G p=none:=h.sub.free hp
theorem Rf.pub (h:Rf F G H)(hp:H p=none):Rf F (upd G p o) (upd H p o):=by
 have hf:=h.fresh hp;have hn:∀ b u,F.H0 b=some u→b≠p:=fun b u e z=>by rw[z,hf] at e; cases e
 refine⟨fun b u e=>?_,fun b u e=>?_,fun b u e hb=>?_,F.stab' H _ (fun b u e=>aR (hn b u e)) h.pn⟩
 ·by_cases hb:b=p
  ·subst hb; rw[aO] at e; cases e; exact aO
  ·rw[aR hb] at e ⊢; exact h.sub b u e
 ·rw[aR (hn b u e)]; exact h.g0 b u e
 ·rw[aR (hn b u e)]; exact h.h0 b u e hb
theorem Rf.priv (h:Rf F G H)(hp:F.H0 p=none)(hg:G p=none):Rf F G (upd H p o):=by
 have hn:∀ b u,F.H0 b=some u→b≠p:=fun b u e z=>by rw[z,hp] at e; cases e
 refine⟨fun b u e=>?_,h.g0,fun b u e hb=>?_,F.stab' H _ (fun b u e=>aR (hn b u e)) h.pn⟩
 ·rw[aR (aZ e hg)]; exact h.sub b u e
 ·rw[aR (hn b u e)]; exact h.h0 b u e hb
theorem Rf.give (h:Rf F G H)(hp:F.H0 p=none)(hH:H p=some o):Rf F (upd G p o) H:=by
 have hn:∀ b u,F.H0 b=some u→b≠p:=fun b u e z=>by rw[z,hp] at e; cases e
 refine⟨fun b u e=>?_,fun b u e=>?_,h.h0,h.pn⟩
 ·by_cases hb:b=p
  ·subst hb; rw[aO] at e; cases e; exact hH
  ·rw[aR hb] at e; exact h.sub b u e
 ·rw[aR (hn b u e)]; exact h.g0 b u e
def R.Has (_:R F Γ σ G H)(b:Addr):Prop:=∃(i:Nat) (s:Sl) (fp:List Addr),Γ[i]?=some s∧SlF F G H σ[i]? fp s∧b∈fp
theorem R.keep (r:R F Γ σ G H)(f:Rf F G' H')(g:Same G G')
  (k:∀ b o,r.Has b→F.H0 b=none→G b=none→H b=some o→G' b=none∧H' b=some o):R F Γ σ G' H':=by
 obtain⟨fps,h1,h2⟩:=r.fps;refine⟨f,r.len,fps,fun i s e=>(h1 i s e).go g fun b hb=>?_,h2⟩;obtain⟨m1,m2,o,m3⟩:=(h1 i s e).mine hb;obtain⟨k1,k2⟩:=k b o ⟨i,s,fps i,e,h1 i s e,hb⟩ m1 m2 m3;exact⟨k1,k2.trans m3.symm⟩
theorem R.new (r:R F Γ σ G H)(hp:H p=none):R F Γ σ (upd G p o) (upd H p o):=by
 refine r.keep (r.fr.pub hp) (same_new (r.fr.gfresh hp) o) fun q u _ _ g h=>?_;have hq:q≠p:=aZ h hp;rw[aR hq,aR hq];exact⟨g,h⟩
theorem R.newP (r:R F Γ σ G H)(hp:H p=none):R F Γ σ G (upd H p o):=by
 refine r.keep (r.fr.priv (r.fr.fresh hp) (r.fr.gfresh hp)) (Same.refl _) fun q u _ _ g h=>?_;have hq:q≠p:=aZ h hp;rw[aR hq];exact⟨g,h⟩
def RvO (F:Fra P0)(G H:Hp)(r:V):Rv→Prop
 | .val d=>Dt G r d
 | .own ds=>∃ p vs,r=.ref p∧F.H0 p=none∧G p=none∧H p=some (.lst vs)∧Dts G vs ds
 | .box B=>∃ fp,B.P r fp G H∧∀ b∈fp,F.H0 b=none∧G b=none
def Apart (F:Fra P0)(Γ:En)(σ:St)(G H:Hp)(r:V):Rv→Prop
 | .val _=>True
 | .own _=>∀(i:Nat) s fp,Γ[i]?=some s→SlF F G H σ[i]? fp s→∀ p,r=.ref p→p∉fp
 | .box B=>∀(i:Nat) s fp f,Γ[i]?=some s→SlF F G H σ[i]? fp s→B.P r f G H→∀ b∈f,b∉fp
theorem R.give (r:R F Γ σ G H){v:V}{ds:List D}(h:RvO F G H v (.own ds))(ha:Apart F Γ σ G H v (.own ds)):∃ G',Same G G'∧R F Γ σ G' H∧Dt G' v (.list ds):=by
 obtain⟨p,vs,rfl,e1,e2,e3,e4⟩:=h;have g:=same_new e2 (.lst vs);refine⟨upd G p (.lst vs),g,r.keep (r.fr.give e1 e3) g fun q u hq _ eg eh=>⟨?_,eh⟩,.lst aO (Dts.same g _ _ e4)⟩;have hqp:q≠p:=fun z=>by
  obtain⟨i,s,fp,a1,a2,a3⟩:=hq;rw[z] at a3;exact ha i s fp a1 a2 p rfl a3
 rw[aR hqp];exact eg
theorem R.giveB (r:R F Γ σ G H){v:V}{B:Bx}{d:D}(h:RvO F G H v (.box B))(ha:Apart F Γ σ G H v (.box B))(hv:B.view=some d):∃ G',Same G G'∧R F Γ σ G' H∧Dt G' v d:=by
 obtain⟨fp,e1,e2⟩:=h;have g:Same G (fun b=>if b∈fp then H b else G b):=fun b o e=>by
  show(if b∈fp then H b else G b)=some o
  rw[if_neg (fun z=>by rw[(e2 b z).2] at e; cases e)];exact e
 refine⟨fun b=>if b∈fp then H b else G b,g,r.keep ⟨fun b o e=>?_,fun b o e=>?_,r.fr.h0,r.fr.pn⟩ g fun q u hq _ eg eh=>⟨?_,eh⟩,B.vok e1 hv g fun b hb=>if_pos hb⟩
 ·have e:(if b∈fp then H b else G b)=some o:=e
  split at e
  ·exact e
  ·exact r.fr.sub b o e
 ·show(if b∈fp then H b else G b)=_
  rw[if_neg (fun z=>by rw[(e2 b z).1] at e; cases e)];exact r.fr.g0 b o e
 ·obtain⟨i,s,f,a1,a2,a3⟩:=hq
  show(if q∈fp then H q else G q)=none
  rw[if_neg fun z=>ha i s f fp a1 a2 e1 q z a3];exact eg
theorem R.set (r:R F Γ σ G H){i:Nat}{v:V}{rv:Rv}(h:RvO F G H v rv)(ha:Apart F Γ σ G H v rv):R F (Γ.set i rv.sl) (σ.set i (some v)) G H:=by
 obtain⟨fps,h1,h2⟩:=r.fps;obtain⟨fp,hf,hd⟩:∃ fp,SlF F G H (some (some v)) fp rv.sl∧∀(j:Nat) s,Γ[j]?=some s→∀ b∈fp,b∉fps j:=by
  cases rv with
  | val d=>exact⟨[],⟨rfl,v,rfl,h⟩,fun j s _ b hb=>nomatch hb⟩
  | own ds=>
   obtain⟨p,vs,rfl,q⟩:=h;exact⟨[p],⟨p,vs,rfl,rfl,q⟩,fun j s ej b hb=>by rw[mem_singleton.mp hb]; exact ha j s (fps j) ej (h1 j s ej) p rfl⟩
  | box B=>
   obtain⟨fp,q1,q2⟩:=h;exact⟨fp,⟨v,rfl,q1,q2⟩,fun j s ej b hb=>ha j s (fps j) fp ej (h1 j s ej) q1 b hb⟩
 have lt:∀{m:Nat} {z},(Γ.set i rv.sl)[m]?=some z→m<Γ.length:=fun e=>by
  have:=(List.getElem?_eq_some_iff.mp e).1;simpa using this
 have old:∀{m:Nat} {z},m≠i→(Γ.set i rv.sl)[m]?=some z→Γ[m]?=some z:=fun hm e=>by rw[getElem?_set_ne (Ne.symm hm)] at e; exact e
 refine⟨r.fr,by rw[length_set,length_set]; exact r.len,fun j=>if j=i then fp else fps j,fun j s e=>?_,fun j k s t ej ek hjk b hb hc=>?_⟩
 ·dsimp only
  by_cases hj:j=i
  ·subst hj;have hi:=lt e;rw[getElem?_set_self hi] at e;rw[if_pos rfl,getElem?_set_self (by rw[← r.len]; exact hi)]
   cases e
   exact hf
  ·rw[if_neg hj,getElem?_set_ne (Ne.symm hj)];exact h1 j s (old hj e)
 ·dsimp only at hb hc
  by_cases hj:j=i
  ·have hk:k≠i:=fun z=>hjk (hj.trans z.symm);rw[if_pos hj] at hb;rw[if_neg hk] at hc;exact hd k t (old hk ek) b hb hc
  ·rw[if_neg hj] at hb
   by_cases hk:k=i
   ·rw[if_pos hk] at hc;exact hd j s (old hj ej) b hc hb
   ·rw[if_neg hk] at hc;exact h2 j k s t (old hj ej) (old hk ek) hjk b hb hc
theorem R.setV (r:R F Γ σ G H){i:Nat}{v:V}{d:D}(h:Dt G v d):R F (Γ.set i (.val d)) (σ.set i (some v)) G H:=r.set (rv:=.val d) h trivial
end
abbrev ME:=En→(D→En→Prop)→Prop
abbrev MO:=En→(Rv→En→Prop)→Prop
abbrev MT:=En→(Bool→En→Prop)→Prop
abbrev MA:=En→(List Sl→En→Prop)→Prop
abbrev MD:=En→(List D→En→Prop)→Prop
abbrev MG:=D→En→(En→Prop)→Prop
abbrev MGs:=List D→En→(En→Prop)→Prop
abbrev MS:=En→(Fl→Prop)→Prop
abbrev Fm:=List Sl→(Rv→Prop)→Prop
def VT (P0:Addr→Hp→Prop)(t:TE)(m:ME):Prop:=∀(F:Fra P0) (Γ:En) (σ:St) (G H:Hp) (Q:VK) (Qm:D→En→Prop),R F Γ σ G H→m Γ Qm →
 (∀ d Γ' r G' H',Qm d Γ'→Same G G'→R F Γ' σ G' H'→Dt G' r d→Q r H')→t σ H Q
def VO (P0:Addr→Hp→Prop)(t:TE)(m:MO):Prop:=∀(F:Fra P0) (Γ:En) (σ:St) (G H:Hp) (Q:VK) (Qm:Rv→En→Prop),R F Γ σ G H→m Γ Qm →
 (∀ rv Γ' r G' H',Qm rv Γ'→Same G G'→R F Γ' σ G' H'→RvO F G' H' r rv→Apart F Γ' σ G' H' r rv→Q r H')→t σ H Q
def VTT (P0:Addr→Hp→Prop)(t:TT)(m:MT):Prop:=∀(F:Fra P0) (Γ:En) (σ:St) (G H:Hp) (Q:Bool→Hp→Prop) (Qm:Bool→En→Prop),R F Γ σ G H→m Γ Qm →
 (∀ b Γ' G' H',Qm b Γ'→Same G G'→R F Γ' σ G' H'→Q b H')→t σ H Q
def VD (P0:Addr→Hp→Prop)(t:TA)(m:MD):Prop:=∀(F:Fra P0) (Γ:En) (σ:St) (G H:Hp) (Q:List V→Hp→Prop) (Qm:List D→En→Prop),R F Γ σ G H→m Γ Qm →
 (∀ ds Γ' rs G' H',Qm ds Γ'→Same G G'→R F Γ' σ G' H'→Dts G' rs ds→Q rs H')→t σ H Q
def ArgOk (F:Fra P0)(G:Hp)(r:V):Sl→Prop
 | .val d=>Dt G r d
 | .pen=>∃ p,r=.ref p∧F.pen=some p
 | .con p=>r=.ref p
 | .pub B=>B.P r G
 | _=>False
def VA (P0:Addr→Hp→Prop)(t:TA)(m:MA):Prop:=∀(F:Fra P0) (Γ:En) (σ:St) (G H:Hp) (Q:List V→Hp→Prop) (Qm:List Sl→En→Prop),R F Γ σ G H→m Γ Qm →
 (∀ as Γ' rs G' H',Qm as Γ'→Same G G'→R F Γ' σ G' H'→Paired (ArgOk F G') rs as→Q rs H')→t σ H Q
def VG (P0:Addr→Hp→Prop)(A:Nat→Bool)(g:TG)(m:MG):Prop:=∀(F:Fra P0) (Γ:En) (σ:St) (G H:Hp) (v:V) (d:D) (Q:St→Hp→Prop) (Qm:En→Prop),R F Γ σ G H→Dt G v d→m d Γ Qm →
 (∀ Γ' σ',Qm Γ'→R F Γ' σ' G H→(∀ i,A i=false→σ'[i]?=σ[i]?)→Q σ' H)→g v σ H Q
def Post (F:Fra P0)(A:Nat→Bool)(σ0:St)(G:Hp)(E:Ends):Fl→Prop
 | .nx Γ=>∀ σ G' H',Same G G'→R F Γ σ G' H'→(∀ i,A i=false→σ[i]?=σ0[i]?)→E.nx σ H'
 | .rt rv=>∀ r G' H',Same G G'→Rf F G' H'→RvO F G' H' r rv→E.rt r H'
 | .bk Γ=>∀ σ G' H',Same G G'→R F Γ σ G' H'→(∀ i,A i=false→σ[i]?=σ0[i]?)→E.bk σ H'
 | .ct Γ=>∀ σ G' H',Same G G'→R F Γ σ G' H'→(∀ i,A i=false→σ[i]?=σ0[i]?)→E.ct σ H'
def VSA (P0:Addr→Hp→Prop)(A:Nat→Bool)(t:TS)(m:MS):Prop:=∀(F:Fra P0) (Γ:En) (σ:St) (G H:Hp) (E:Ends) (Qm:Fl→Prop),R F Γ σ G H→m Γ Qm→(∀ fl,Qm fl→Post F A σ G E fl)→t E σ H
abbrev aAll:Nat→Bool:=fun _=>true
abbrev VS (P0:Addr→Hp→Prop)(t:TS)(m:MS):Prop:=VSA P0 aAll t m
theorem Post.same {F:Fra P0}{A:Nat→Bool}{σ0 σ1:St}{G G':Hp}{E:Ends}(g:Same G G')(hσ:∀ i,A i=false→σ1[i]?=σ0[i]?):∀{fl:Fl},Post F A σ0 G E fl→Post F A σ1 G' E fl
 | .nx _,h=>fun σ G2 H2 s r e=>h σ G2 H2 (g.trans s) r fun i hi=>(e i hi).trans (hσ i hi)
 | .rt _,h=>fun r G2 H2 s=>h r G2 H2 (g.trans s)
 | .bk _,h=>fun σ G2 H2 s r e=>h σ G2 H2 (g.trans s) r fun i hi=>(e i hi).trans (hσ i hi)
 | .ct _,h=>fun σ G2 H2 s r e=>h σ G2 H2 (g.trans s) r fun i hi=>(e i hi).trans (hσ i hi)
def SsX (P0:Addr→Hp→Prop)(X:Cx)(sts:List Stmt)(m:MS):Prop:=∃ t,PSs X sts t∧VS P0 t m
end
section
variable {P0:Addr→Hp→Prop}
theorem _root_.L2.Dts.get {G:Hp}:∀{vs:List V} {ds:List D} {i:Nat} {d:D},Dts G vs ds→ds[i]?=some d→∃ v,vs[i]?=some v∧Dt G v d
 := by
  intro vs ds i d h e
  induction ds generalizing vs i with
  | nil=>cases e
  | cons x ds ih=>
    cases h with
    | cons a b=>
      cases i with
      | zero=>cases e; exact⟨_,rfl,a⟩
      | succ i=>
        have q:=ih b (show ds[i]?=some d from e);exact q
theorem _root_.L2.Dts.len {G:Hp}:∀{vs:List V} {ds:List D},Dts G vs ds→vs.length=ds.length
 := by
  intro vs ds h
  induction ds generalizing vs with
  | nil=>cases h; rfl
  | cons x ds ih=>cases h with|cons a b=>exact congrArg Nat.succ (ih b)
theorem _root_.L2.Dts.app {G:Hp}:∀{vs ws:List V} {ds es:List D},Dts G vs ds→Dts G ws es→Dts G (vs++ws) (ds++es)
 := by
  intro vs ws ds es h g
  induction ds generalizing vs with
  | nil=>cases h; exact g
  | cons x ds ih=>cases h with|cons a b=>exact .cons a (ih b)
def oQ (o:Option D)(k:D→Prop):Prop:=match o with
 | some d=>k d
 | none=>False
theorem oQ_out {o:Option D}{k:D→Prop}(h:oQ o k):∃ d,o=some d∧k d:=by
 cases o with
 | none=>exact h.elim
 | some d=>exact⟨d,rfl,h⟩
def mC (d:D):ME:=fun Γ Q=>Q d Γ
def aQ (i:Nat):ME:=fun Γ Q=>match Γ[i]? with
 | some (.val d)=>Q d Γ
 | _=>False
def mI0 (g:Int→Int→D)(ma mb:ME):ME:=fun Γ Q=>ma Γ fun x Γ1=>mb Γ1 fun y Γ2=>match x,y with
 | .int i,.int j=>Q (g i j) Γ2
 | _,_=>False
def mI (C:Int→Int→Prop)(g:Int→Int→D)(ma mb:ME):ME:=fun Γ Q=>ma Γ fun x Γ1=>mb Γ1 fun y Γ2=>match x,y with
 | .int i,.int j=>C i j∧Q (g i j) Γ2
 | _,_=>False
def mU (g:Int→D)(ma:ME):ME:=fun Γ Q=>ma Γ fun x Γ1=>match x with
 | .int i=>Q (g i) Γ1
 | _=>False
def mEq (ma mb:ME):ME:=fun Γ Q=>ma Γ fun x Γ1=>mb Γ1 fun y Γ2=>Good x∧Good y∧Q (.bool (PyData.eqv x y)) Γ2
def mNe (ma mb:ME):ME:=fun Γ Q=>ma Γ fun x Γ1=>mb Γ1 fun y Γ2=>Good x∧Good y∧Q (.bool (!PyData.eqv x y)) Γ2
def isN:D→Bool
 | .none=>true
 | _=>false
def mIsN (ma:ME):ME:=fun Γ Q=>ma Γ fun x Γ1=>Q (.bool (isN x)) Γ1
def mNotN (ma:ME):ME:=fun Γ Q=>ma Γ fun x Γ1=>Q (.bool (!isN x)) Γ1
def mAndV (ma mb:ME):ME:=fun Γ Q=>ma Γ fun x Γ1=>match x with
 | .bool c=>if c=true then mb Γ1 Q else Q (.bool false) Γ1
 | _=>False
def mNotV (ma:ME):ME:=fun Γ Q=>ma Γ fun x Γ1=>match x with
 | .bool c=>Q (.bool (!c)) Γ1
 | _=>False
def mTst (ma:ME):MT:=fun Γ Q=>ma Γ fun x Γ1=>match x with
 | .bool c=>Q c Γ1
 | _=>False
def mAnd (ma mb:MT):MT:=fun Γ Q=>ma Γ fun c Γ1=>if c=true then mb Γ1 Q else Q false Γ1
def mOr (ma mb:MT):MT:=fun Γ Q=>ma Γ fun c Γ1=>if c=true then Q true Γ1 else mb Γ1 Q
def mNot (ma:MT):MT:=fun Γ Q=>ma Γ fun c Γ1=>Q (!c) Γ1
def mIfE (mc:MT)(ma mb:ME):ME:=fun Γ Q=>mc Γ fun c Γ1=>if c=true then ma Γ1 Q else mb Γ1 Q
def mIfO (mc:MT)(ma mb:MO):MO:=fun Γ Q=>mc Γ fun c Γ1=>if c=true then ma Γ1 Q else mb Γ1 Q
def mNil:MD:=fun Γ Q=>Q [] Γ
def bM (ma:ME)(mr:MD):MD:=fun Γ Q=>ma Γ fun x Γ1=>mr Γ1 fun xs Γ2=>Q (x::xs) Γ2
def aNil:MA:=fun Γ Q=>Q [] Γ
def aVal (ma:ME)(mr:MA):MA:=fun Γ Q=>ma Γ fun x Γ1=>mr Γ1 fun xs Γ2=>Q (.val x::xs) Γ2
def aPen (i:Nat)(mr:MA):MA:=fun Γ Q=>match Γ[i]? with
 | some .pen=>mr Γ fun xs Γ2=>Q (.pen::xs) Γ2
 | _=>False
def mTup (md:MD):ME:=fun Γ Q=>md Γ fun ds Γ1=>ds.length≤1000∧Q (.tuple ds) Γ1
def mLst (md:MD):MO:=fun Γ Q=>md Γ fun ds Γ1=>ds.length≤1000∧Q (.own ds) Γ1
def ixD:D→D→Option D
 | .tuple ds,.int i=>atI ds i
 | .list ds,.int i=>atI ds i
 | _,_=>none
def mIx (ma mb:ME):ME:=fun Γ Q=>ma Γ fun x Γ1=>mb Γ1 fun y Γ2=>oQ (ixD x y) fun d=>Q d Γ2
def nbQ:Rv→Prop→Prop
 | .box B,p=>B.view.isSome=true∧p
 | _,p=>p
def mPub (mo:MO):ME:=fun Γ Q=>mo Γ fun rv Γ1=>nbQ rv (Q rv.d Γ1)
def bT (m:ME):MO:=fun Γ Q=>m Γ fun d Γ1=>Q (.val d) Γ1
def bV (n:Nat)(f:Fm)(ma:MA):MO:=fun Γ Q=>ma Γ fun as Γ1=>as.length=n∧f as fun rv=>Q rv Γ1
def lenD:D→Option D
 | .tuple ds=>some (.int ds.length)
 | .list ds=>some (.int ds.length)
 | _=>none
def mLen (ma:ME):ME:=fun Γ Q=>ma Γ fun x Γ1=>oQ (lenD x) fun d=>Q d Γ1
abbrev MP:=En→(Option Int→En→Prop)→Prop
def pNo:MP:=fun Γ Q=>Q none Γ
def pSo (m:ME):MP:=fun Γ Q=>m Γ fun x Γ1=>match x with
 | .int i=>Q (some i) Γ1
 | _=>False
def mCat (ma mb:ME):MO:=fun Γ Q=>ma Γ fun x Γ1=>mb Γ1 fun y Γ2=>match x,y with
 | .list ds,.list es=>ds.length+es.length≤1000∧Q (.own (ds++es)) Γ2
 | _,_=>False
def VP (P0:Addr→Hp→Prop)(t:TO)(m:MP):Prop:=∀(F:Fra P0) (Γ:En) (σ:St) (G H:Hp) (Q:Option Int→Hp→Prop) (Qm:Option Int→En→Prop),R F Γ σ G H→m Γ Qm →
 (∀ d Γ' G' H',Qm d Γ'→Same G G'→R F Γ' σ G' H'→Q d H')→t σ H Q
section
variable {ta tb tc:TE}{ma mb:ME}{tA tB':TT}{mA mB:MT}{K:Fg}
theorem vt_c {v:V}{d:D}(h:∀ G,Dt G v d):VT P0 (tC v) (mC d):=fun _ _ _ G _ _ _ r m k=>k _ _ _ _ _ m (Same.refl _) r (h G)
theorem aB {i:Nat}:VT P0 (tVar i) (aQ i):=by
 intro F Γ σ G H Q Qm r m k;unfold aQ at m
 split at m
 ·rename_i d e
  obtain⟨v,e1,d1⟩:=r.sl i _ e;exact⟨v,e1,k _ _ _ _ _ m (Same.refl _) r d1⟩
 ·exact m.elim
theorem vt_2 {r2:R2}{m2:D→D→(D→Prop)→Prop}(ha:VT P0 ta ma)(hb:VT P0 tb mb)
  (h:∀(F:Fra P0) (Γ:En) (σ:St) (G H:Hp) (x y:V) (d e:D) (Q:VK) (Qm:D→Prop),R F Γ σ G H→Dt G x d→Dt G y e→m2 d e Qm→(∀ u r G' H',Qm u→Same G G'→R F Γ σ G' H'→Dt G' r u→Q r H')→r2 x y H Q) :
  VT P0 (tOp r2 ta tb) (fun Γ Q=>ma Γ fun x Γ1=>mb Γ1 fun y Γ2=>m2 x y fun d=>Q d Γ2):=by
 intro F Γ σ G H Q Qm r m k;refine ha F Γ σ G H _ _ r m fun d Γ1 x G1 H1 m1 s1 r1 d1=>?_;refine hb F Γ1 σ G1 H1 _ _ r1 m1 fun e Γ2 y G2 H2 m2 s2 r2 d2=>?_;exact h F Γ2 σ G2 H2 x y d e _ _ r2 (Dt.same s2 _ _ d1) d2 m2 fun u w G3 H3 q s3 r3 d3=>k _ _ _ _ _ q ((s1.trans s2).trans s3) r3 d3
theorem vt_i0 {gv:Int→Int→V}{g:Int→Int→D}(hg:∀ G i j,Dt G (gv i j) (g i j))(ha:VT P0 ta ma)(hb:VT P0 tb mb):VT P0 (tOp (rI0 gv) ta tb) (mI0 g ma mb):=by
 refine vt_2 (m2:=fun x y Q=>match x,y with|.int i,.int j=>Q (g i j)|_,_=>False) ha hb fun F Γ σ G H x y d e Q Qm r d1 d2 m k=>?_
 split at m
 ·cases d1; cases d2
  exact⟨_,_,rfl,rfl,k _ _ _ _ m (Same.refl _) r (hg _ _ _)⟩
 ·exact m.elim
theorem vt_i {C:Int→Int→Prop}{gv:Int→Int→V}{g:Int→Int→D}(hg:∀ G i j,Dt G (gv i j) (g i j))(ha:VT P0 ta ma)(hb:VT P0 tb mb):VT P0 (tOp (rI C gv) ta tb) (mI C g ma mb):=by
 refine vt_2 (m2:=fun x y Q=>match x,y with|.int i,.int j=>C i j∧Q (g i j)|_,_=>False) ha hb fun F Γ σ G H x y d e Q Qm r d1 d2 m k=>?_
 split at m
 ·cases d1; cases d2
  exact⟨_,_,rfl,rfl,m.1,k _ _ _ _ m.2 (Same.refl _) r (hg _ _ _)⟩
 ·exact m.elim
theorem vt_u {gv:Int→V}{g:Int→D}(hg:∀ G i,Dt G (gv i) (g i))(ha:VT P0 ta ma):VT P0 (tUn (rU gv) ta) (mU g ma):=by
 intro F Γ σ G H Q Qm r m k;refine ha F Γ σ G H _ _ r m fun d Γ1 x G1 H1 m1 s1 r1 d1=>?_
 split at m1
 ·cases d1
  exact⟨_,rfl,k _ _ _ _ _ m1 s1 r1 (hg _ _)⟩
 ·exact m1.elim
theorem vt_eq (ha:VT P0 ta ma)(hb:VT P0 tb mb):VT P0 (tOp rEqD ta tb) (mEq ma mb):=by
 refine vt_2 (m2:=fun x y Q=>Good x∧Good y∧Q (.bool (PyData.eqv x y))) ha hb fun F Γ σ G H x y d e Q Qm r d1 d2 m k=>?_;exact⟨d,e,Dt.same r.fr.sub _ _ d1,Dt.same r.fr.sub _ _ d2,m.1,m.2.1,k _ _ _ _ m.2.2 (Same.refl _) r (.bl _)⟩
theorem vt_ne (ha:VT P0 ta ma)(hb:VT P0 tb mb):VT P0 (tOp rNeD ta tb) (mNe ma mb):=by
 refine vt_2 (m2:=fun x y Q=>Good x∧Good y∧Q (.bool (!PyData.eqv x y))) ha hb fun F Γ σ G H x y d e Q Qm r d1 d2 m k=>?_;exact⟨d,e,Dt.same r.fr.sub _ _ d1,Dt.same r.fr.sub _ _ d2,m.1,m.2.1,k _ _ _ _ m.2.2 (Same.refl _) r (.bl _)⟩
theorem isN_of {G:Hp}{x:V}{d:D}(h:Dt G x d):decide (x=V.non)=isN d:=by
 cases h<;>first|rfl|exact decide_eq_false (by intro z; cases z)
theorem vt_isN (ha:VT P0 ta ma):VT P0 (tOp (fun x y H Q=>y=.non∧Q (.bl (decide (x=.non))) H) ta (tC .non)) (mIsN ma):=by
 intro F Γ σ G H Q Qm r m k;refine ha F Γ σ G H _ _ r m fun d Γ1 x G1 H1 m1 s1 r1 d1=>⟨rfl,?_⟩;rw[isN_of d1];exact k _ _ _ _ _ m1 s1 r1 (.bl _)
theorem vt_notN (ha:VT P0 ta ma):VT P0 (tOp (fun x y H Q=>y=.non∧Q (.bl (!decide (x=.non))) H) ta (tC .non)) (mNotN ma):=by
 intro F Γ σ G H Q Qm r m k;refine ha F Γ σ G H _ _ r m fun d Γ1 x G1 H1 m1 s1 r1 d1=>⟨rfl,?_⟩;rw[isN_of d1];exact k _ _ _ _ _ m1 s1 r1 (.bl _)
theorem vt_and (ha:VT P0 ta ma)(hb:VT P0 tb mb):VT P0 (tAndV ta tb) (mAndV ma mb):=by
 intro F Γ σ G H Q Qm r m k;refine ha F Γ σ G H _ _ r m fun d Γ1 x G1 H1 m1 s1 r1 d1=>?_
 split at m1
 ·rename_i c
  cases d1
  refine⟨c,rfl,?_⟩
  cases c with
  | true=>exact iteT (hb F Γ1 σ G1 H1 _ _ r1 m1 fun e Γ2 y G2 H2 m2 s2 r2 d2=>k _ _ _ _ _ m2 (s1.trans s2) r2 d2)
  | false=>exact iteF (k _ _ _ _ _ m1 s1 r1 (.bl _))
 ·exact m1.elim
theorem vt_not (ha:VT P0 ta ma):VT P0 (tNotV ta) (mNotV ma):=by
 intro F Γ σ G H Q Qm r m k;refine ha F Γ σ G H _ _ r m fun d Γ1 x G1 H1 m1 s1 r1 d1=>?_
 split at m1
 ·cases d1
  exact⟨_,rfl,k _ _ _ _ _ m1 s1 r1 (.bl _)⟩
 ·exact m1.elim
theorem aU (ha:VT P0 ta ma):VTT P0 (tTest ta) (mTst ma):=by
 intro F Γ σ G H Q Qm r m k;refine ha F Γ σ G H _ _ r m fun d Γ1 x G1 H1 m1 s1 r1 d1=>?_
 split at m1
 ·cases d1
  exact⟨_,rfl,k _ _ _ _ m1 s1 r1⟩
 ·exact m1.elim
theorem vtt_b (ha:VT P0 ta ma):VTT P0 (tB ta) (mTst ma):=aU ha
theorem vtt_and (ha:VTT P0 tA mA)(hb:VTT P0 tB' mB):VTT P0 (tAnd tA tB') (mAnd mA mB):=by
 intro F Γ σ G H Q Qm r m k;refine ha F Γ σ G H _ _ r m fun c Γ1 G1 H1 m1 s1 r1=>?_
 cases c with
 | true=>exact iteT (hb F Γ1 σ G1 H1 _ _ r1 m1 fun e Γ2 G2 H2 m2 s2 r2=>k _ _ _ _ m2 (s1.trans s2) r2)
 | false=>exact iteF (k _ _ _ _ m1 s1 r1)
theorem vtt_or (ha:VTT P0 tA mA)(hb:VTT P0 tB' mB):VTT P0 (tOr tA tB') (mOr mA mB):=by
 intro F Γ σ G H Q Qm r m k;refine ha F Γ σ G H _ _ r m fun c Γ1 G1 H1 m1 s1 r1=>?_
 cases c with
 | true=>exact iteT (k _ _ _ _ m1 s1 r1)
 | false=>exact iteF (hb F Γ1 σ G1 H1 _ _ r1 m1 fun e Γ2 G2 H2 m2 s2 r2=>k _ _ _ _ m2 (s1.trans s2) r2)
theorem vtt_not (ha:VTT P0 tA mA):VTT P0 (tNot tA) (mNot mA):=by
 intro F Γ σ G H Q Qm r m k;exact ha F Γ σ G H _ _ r m fun c Γ1 G1 H1 m1 s1 r1=>k _ _ _ _ m1 s1 r1
theorem vt_ifE (hc:VTT P0 tA mA)(ha:VT P0 ta ma)(hb:VT P0 tb mb):VT P0 (tIf tA ta tb) (mIfE mA ma mb):=by
 intro F Γ σ G H Q Qm r m k;refine hc F Γ σ G H _ _ r m fun c Γ1 G1 H1 m1 s1 r1=>?_
 cases c with
 | true=>exact iteT (ha F Γ1 σ G1 H1 _ _ r1 m1 fun e Γ2 y G2 H2 m2 s2 r2 d2=>k _ _ _ _ _ m2 (s1.trans s2) r2 d2)
 | false=>exact iteF (hb F Γ1 σ G1 H1 _ _ r1 m1 fun e Γ2 y G2 H2 m2 s2 r2 d2=>k _ _ _ _ _ m2 (s1.trans s2) r2 d2)
theorem vo_ifE {oa ob:MO}(hc:VTT P0 tA mA)(ha:VO P0 ta oa)(hb:VO P0 tb ob):VO P0 (tIf tA ta tb) (mIfO mA oa ob):=by
 intro F Γ σ G H Q Qm r m k;refine hc F Γ σ G H _ _ r m fun c Γ1 G1 H1 m1 s1 r1=>?_
 cases c with
 | true=>exact iteT (ha F Γ1 σ G1 H1 _ _ r1 m1 fun e Γ2 y G2 H2 m2 s2 r2 d2 a2=>k _ _ _ _ _ m2 (s1.trans s2) r2 d2 a2)
 | false=>exact iteF (hb F Γ1 σ G1 H1 _ _ r1 m1 fun e Γ2 y G2 H2 m2 s2 r2 d2 a2=>k _ _ _ _ _ m2 (s1.trans s2) r2 d2 a2)
theorem cG:VD P0 tNil mNil:=fun _ _ _ _ _ _ _ r m k=>k _ _ _ _ _ m (Same.refl _) r .nil
theorem aK {tr:TA}{mr:MD}(ha:VT P0 ta ma)(hr:VD P0 tr mr):VD P0 (cO ta tr) (bM ma mr):=by
 intro F Γ σ G H Q Qm r m k;refine ha F Γ σ G H _ _ r m fun d Γ1 x G1 H1 m1 s1 r1 d1=>?_;exact hr F Γ1 σ G1 H1 _ _ r1 m1 fun e Γ2 y G2 H2 m2 s2 r2 d2=>k _ _ _ _ _ m2 (s1.trans s2) r2 (.cons (Dt.same s2 _ _ d1) d2)
theorem bH:VA P0 tNil aNil:=fun _ _ _ _ _ _ _ r m k=>k _ _ _ _ _ m (Same.refl _) r .nil
theorem bG {tr:TA}{mr:MA}(ha:VT P0 ta ma)(hr:VA P0 tr mr):VA P0 (cO ta tr) (aVal ma mr):=by
 intro F Γ σ G H Q Qm r m k;refine ha F Γ σ G H _ _ r m fun d Γ1 x G1 H1 m1 s1 r1 d1=>?_;exact hr F Γ1 σ G1 H1 _ _ r1 m1 fun e Γ2 y G2 H2 m2 s2 r2 d2=>k _ _ _ _ _ m2 (s1.trans s2) r2 (.cons (Dt.same s2 _ _ d1) d2)
theorem va_pen {i:Nat}{tr:TA}{mr:MA}(hr:VA P0 tr mr):VA P0 (cO (tVar i) tr) (aPen i mr):=by
 intro F Γ σ G H Q Qm r m k;unfold aPen at m
 split at m
 ·rename_i e
  obtain⟨p,e1,e2⟩:=r.sl i _ e;exact⟨_,e1,hr F Γ σ G H _ _ r m fun as Γ2 y G2 H2 m2 s2 r2 d2=>k _ _ _ _ _ m2 s2 r2 (.cons ⟨p,rfl,e2⟩ d2)⟩
 ·exact m.elim
theorem vt_tup {t:TA}{md:MD}(h:VD P0 t md):VT P0 (tTup t) (mTup md):=by
 intro F Γ σ G H Q Qm r m k;refine h F Γ σ G H _ _ r m fun ds Γ1 xs G1 H1 m1 s1 r1 d1=>⟨small_le (by rw[d1.len]; exact m1.1),fun p hp=>?_⟩;have g:=same_new (r1.fr.gfresh hp) (.tup xs);exact k _ _ _ _ _ m1.2 (s1.trans g) (r1.new hp) (.tup aO (Dts.same g _ _ d1))
theorem SlF.det {F:Fra P0}{G H:Hp}{x:Option (Option V)}{fp fp':List Addr}:∀{s:Sl},SlF F G H x fp s→SlF F G H x fp' s→fp=fp'
 | .no,h,g=>(show fp=[] from h).trans (show fp'=[] from g).symm
 | .val _,h,g=>h.1.trans g.1.symm
 | .pen,h,g=>h.1.trans g.1.symm
 | .con _,h,g=>h.1.trans g.1.symm
 | .pub _,h,g=>h.1.trans g.1.symm
 | .own _,h,g=>by
  obtain⟨p,vs,e,e1,_⟩:=h;obtain⟨q,ws,f,f1,_⟩:=g;rw[e1] at f1; cases f1;rw[e,f]
 | .box B,h,g=>by
  obtain⟨v,e1,e2,_⟩:=h;obtain⟨v',f1,f2,_⟩:=g;rw[e1] at f1; cases f1;exact B.uniq e2 f2
theorem R.before {F:Fra P0}{Γ:En}{σ:St}{G H G' H':Hp}(r:R F Γ σ G H)(g:Same G G')(k:∀ b o,F.H0 b=none→G b=none→H b=some o→G' b=none∧H' b=some o){i:Nat}{s:Sl}{fp:List Addr}(e:Γ[i]?=some s)(h:SlF F G' H' σ[i]? fp s):∀ b∈fp,∃ o,H b=some o:=by
 obtain⟨fps,h1,h2⟩:=r.fps;have h0:=h1 i s e;have h3:SlF F G' H' σ[i]? (fps i) s:=h0.go g fun b hb=>by
  obtain⟨m1,m2,o,m3⟩:=h0.mine hb;obtain⟨k1,k2⟩:=k b o m1 m2 m3;exact⟨k1,k2.trans m3.symm⟩
 rw[h.det h3];exact fun b hb=>(h0.mine hb).2.2
theorem Apart.new {F:Fra P0}{Γ:En}{σ:St}{G H G' H':Hp}(r:R F Γ σ G H){p:Addr}(hp:H p=none){ds:List D}(g:Same G G')(k:∀ b o,F.H0 b=none→G b=none→H b=some o→G' b=none∧H' b=some o):Apart F Γ σ G' H' (.ref p) (.own ds):=by
 intro i s fp e h q eq hq
 cases eq
 obtain⟨o,eo⟩:=r.before g k e h p hq;rw[hp] at eo; cases eo
theorem Apart.newB {F:Fra P0}{Γ:En}{σ:St}{G H G' H':Hp}(r:R F Γ σ G H){v:V}{B:Bx}(hp:∀ fp,B.P v fp G' H'→∀ b∈fp,H b=none)(g:Same G G')(k:∀ b o,F.H0 b=none→G b=none→H b=some o→G' b=none∧H' b=some o):Apart F Γ σ G' H' v (.box B):=by
 intro i s fp f e h hf b hb hc;obtain⟨o,eo⟩:=r.before g k e h b hc;rw[hp f hf b hb] at eo; cases eo
theorem own_new {F:Fra P0}{Γ:En}{σ:St}{G H:Hp}(r:R F Γ σ G H){p:Addr}{xs:List V}{ds:List D}(hp:H p=none)(d:Dts G xs ds) :
  R F Γ σ G (upd H p (.lst xs))∧RvO F G (upd H p (.lst xs)) (.ref p) (.own ds)∧Apart F Γ σ G (upd H p (.lst xs)) (.ref p) (.own ds):=
 ⟨r.newP hp,⟨p,xs,rfl,r.fr.fresh hp,r.fr.gfresh hp,aO,d⟩,Apart.new r hp (Same.refl _) fun b o _ g e=>⟨g,by rw[aR (aZ e hp)]; exact e⟩⟩
theorem vo_lst {t:TA}{md:MD}(h:VD P0 t md):VO P0 (tLst t) (mLst md):=by
 intro F Γ σ G H Q Qm r m k;refine h F Γ σ G H _ _ r m fun ds Γ1 xs G1 H1 m1 s1 r1 d1=>⟨small_le (by rw[d1.len]; exact m1.1),fun p hp=>?_⟩;obtain⟨a,b,c⟩:=own_new r1 hp d1;exact k _ _ _ _ _ m1.2 s1 a b c
theorem bB {mo:MO}(h:VO P0 ta mo):VT P0 ta (mPub mo):=by
 intro F Γ σ G H Q Qm r m k;refine h F Γ σ G H _ _ r m fun rv Γ1 x G1 H1 m1 s1 r1 d1 a1=>?_
 cases rv with
 | val d=>exact k _ _ _ _ _ m1 s1 r1 d1
 | own ds=>
  obtain⟨G2,s2,r2,d2⟩:=r1.give d1 a1;exact k _ _ _ _ _ m1 (s1.trans s2) r2 d2
 | box B=>
  obtain⟨hv,m1⟩:=m1;obtain⟨d,hd⟩:=isSome_iff_exists.mp hv;obtain⟨G2,s2,r2,d2⟩:=r1.giveB d1 a1 hd;have m1:Qm (B.view.getD .none) Γ1:=m1;rw[hd] at m1;exact k _ _ _ _ _ m1 (s1.trans s2) r2 d2
theorem aH (h:VT P0 ta ma):VO P0 ta (bT ma):=by
 intro F Γ σ G H Q Qm r m k;exact h F Γ σ G H _ _ r m fun d Γ1 x G1 H1 m1 s1 r1 d1=>k _ _ _ _ _ m1 s1 r1 d1 trivial
theorem vt_ix (ha:VT P0 ta ma)(hb:VT P0 tb mb):VT P0 (tOp (rIx K) ta tb) (mIx ma mb):=by
 refine vt_2 (m2:=fun x y Q=>oQ (ixD x y) Q) ha hb fun F Γ σ G H x y d e Q Qm r d1 d2 m k=>?_;obtain⟨u,hu,q⟩:=oQ_out m;unfold ixD at hu
 split at hu
 ·rename_i ds i
  cases d2
  cases d1 with
  | @tup p xs _ hp rs=>
   obtain⟨j,h1,h2⟩:∃ j,ixN ds.length i=some j∧ds[j]?=some u:=by
    unfold atI at hu
    cases e:ixN ds.length i with
    | none=>rw[e] at hu; cases hu
    | some j=>rw[e] at hu; exact⟨j,rfl,hu⟩
   obtain⟨v,hv,dv⟩:=Dts.get rs h2;refine .inr (.inl ⟨p,xs,i,v,rfl,rfl,SqT.of (r.fr.sub _ _ hp),?_,k _ _ _ _ q (Same.refl _) r dv⟩);unfold atI;rw[rs.len,h1];exact hv
 ·rename_i ds i
  cases d2
  cases d1 with
  | @lst p xs _ hp rs=>
   obtain⟨j,h1,h2⟩:∃ j,ixN ds.length i=some j∧ds[j]?=some u:=by
    unfold atI at hu
    cases e:ixN ds.length i with
    | none=>rw[e] at hu; cases hu
    | some j=>rw[e] at hu; exact⟨j,rfl,hu⟩
   obtain⟨v,hv,dv⟩:=Dts.get rs h2;refine .inl ⟨p,xs,i,v,rfl,rfl,SqL.of (r.fr.sub _ _ hp),?_,k _ _ _ _ q (Same.refl _) r dv⟩;unfold atI;rw[rs.len,h1];exact hv
 ·cases hu
theorem vt_cb1 {rr:List V→Hp→VK→Prop}{m1:D→(D→Prop)→Prop}(ha:VT P0 ta ma)
  (h:∀(F:Fra P0) (Γ:En) (σ:St) (G H:Hp) (x:V) (d:D) (Q:VK) (Qm:D→Prop),R F Γ σ G H→Dt G x d→m1 d Qm→(∀ u r G' H',Qm u→Same G G'→R F Γ σ G' H'→Dt G' r u→Q r H')→rr [x] H Q) :
  VT P0 (tCB rr (cO ta tNil)) (fun Γ Q=>ma Γ fun x Γ1=>m1 x fun d=>Q d Γ1):=by
 intro F Γ σ G H Q Qm r m k;refine ha F Γ σ G H _ _ r m fun d Γ1 x G1 H1 m1 s1 r1 d1=>?_;exact h F Γ1 σ G1 H1 x d _ _ r1 d1 m1 fun u w G3 H3 q s3 r3 d3=>k _ _ _ _ _ q (s1.trans s3) r3 d3
theorem vt_len (ha:VT P0 ta ma):VT P0 (tCB (fun xs H Q=>∃ p ys,xs=[.ref p]∧(SqL K H p ys∨SqT K H p ys)∧Q (.int ys.length) H) (cO ta tNil)) (mLen ma):=by
 refine vt_cb1 (m1:=fun x Q=>oQ (lenD x) Q) ha fun F Γ σ G H x d Q Qm r d1 m k=>?_;obtain⟨u,hu,q⟩:=oQ_out m;unfold lenD at hu
 split at hu
 ·cases hu
  cases d1 with
  | @tup p xs _ hp rs=>exact⟨p,xs,rfl,.inr (SqT.of (r.fr.sub _ _ hp)),by rw[rs.len]; exact k _ _ _ _ q (Same.refl _) r (.int _)⟩
 ·cases hu
  cases d1 with
  | @lst p xs _ hp rs=>exact⟨p,xs,rfl,.inl (SqL.of (r.fr.sub _ _ hp)),by rw[rs.len]; exact k _ _ _ _ q (Same.refl _) r (.int _)⟩
 ·cases hu
def mAbs (ma:ME):ME:=fun Γ Q=>ma Γ fun x Γ1=>match x with
 | .int i=>Q (.int (if i<0 then -i else i)) Γ1
 | _=>False
theorem vt_abs (ha:VT P0 ta ma):VT P0 (tCB (fun xs H Q=>∃ i,xs=[.int i]∧Q (.int (if i<0 then -i else i)) H) (cO ta tNil)) (mAbs ma):=by
 refine vt_cb1 (m1:=fun x Q=>match x with|.int i=>Q (.int (if i<0 then -i else i))|_=>False) ha fun F Γ σ G H x d Q Qm r d1 m k=>?_
 split at m
 ·cases d1
  exact⟨_,rfl,k _ _ _ _ m (Same.refl _) r (.int _)⟩
 ·exact m.elim
def mInt1 (ma:ME):ME:=fun Γ Q=>ma Γ fun x Γ1=>match x with
 | .int i=>Q (.int i) Γ1
 | .bool b=>Q (.int (if b then 1 else 0)) Γ1
 | _=>False
theorem vt_int1 (ha:VT P0 ta ma):VT P0 (tCB (fun xs H Q=>(∃ i,xs=[.int i]∧Q (.int i) H)∨∃ k,xs=[.bl k]∧Q (.int (if k then 1 else 0)) H) (cO ta tNil)) (mInt1 ma):=by
 refine vt_cb1 (m1:=fun x Q=>match x with|.int i=>Q (.int i)|.bool b=>Q (.int (if b then 1 else 0))|_=>False) ha fun F Γ σ G H x d Q Qm r d1 m k=>?_
 split at m
 ·cases d1
  exact .inl ⟨_,rfl,k _ _ _ _ m (Same.refl _) r (.int _)⟩
 ·cases d1
  exact .inr ⟨_,rfl,k _ _ _ _ m (Same.refl _) r (.int _)⟩
 ·exact m.elim
theorem vp_no:VP P0 tNoPart pNo:=fun _ _ _ _ _ _ _ r m k=>k _ _ _ _ m (Same.refl _) r
theorem vp_so (ha:VT P0 ta ma):VP P0 (tPart ta) (pSo ma):=by
 intro F Γ σ G H Q Qm r m k;refine ha F Γ σ G H _ _ r m fun d Γ1 x G1 H1 m1 s1 r1 d1=>?_
 split at m1
 ·cases d1
  exact⟨_,rfl,k _ _ _ _ m1 s1 r1⟩
 ·exact m1.elim
theorem vo_cat (ha:VT P0 ta ma)(hb:VT P0 tb mb):VO P0 (tOp rCat ta tb) (mCat ma mb):=by
 intro F Γ σ G H Q Qm r m k;refine ha F Γ σ G H _ _ r m fun d Γ1 x G1 H1 m1 s1 r1 d1=>?_;refine hb F Γ1 σ G1 H1 _ _ r1 m1 fun e Γ2 y G2 H2 m2 s2 r2 d2=>?_;have d1:=Dt.same s2 _ _ d1
 split at m2
 ·cases d1 with
  | @lst p xs _ hp rs=>
   cases d2 with
   | @lst q ys _ hq ss=>
    refine⟨p,q,xs,ys,rfl,rfl,r2.fr.sub _ _ hp,r2.fr.sub _ _ hq,small_le (by rw[rs.len,ss.len]; exact m2.1),fun l hl=>?_⟩;obtain⟨a,b,c⟩:=own_new r2 hl (rs.app ss);exact k _ _ _ _ _ m2.2 (s1.trans s2) a b c
 ·exact m2.elim
def spM (P0:Addr→Hp→Prop)(n:Nat)(f:Fm):Sp:=fun vs H Q _=>∃(F:Fra P0) (as:List Sl) (Qm:Rv→Prop),F.H0=H∧Rf F F.G0 H∧Paired (ArgOk F F.G0) vs as∧as.length=n∧f as Qm ∧
 ∀ rv r G' H',Qm rv→Rf F G' H'→RvO F G' H' r rv→Q r H'
def Fra.sub (F:Fra P0){G H:Hp}(r:Rf F G H):Fra P0 where
 H0:=H
 G0:=G
 pen:=F.pen
 stab:=fun p e H1 H2 h=>F.stab p e H1 H2 fun b o e=>let ⟨o',e'⟩:=r.dom e; h b o' e'
 pin:=F.pin
 pin0:=fun p e=>F.pin p e H (r.pn p e)
 pg:=fun p e=>by
  obtain⟨o,e0⟩:=F.pin0 p e;rw[r.g0 p o e0];exact F.pg p e
theorem Fra.subRf (F:Fra P0){G H:Hp}(r:Rf F G H):Rf (F.sub r) G H:=⟨r.sub,fun _ _ _=>rfl,fun _ _ e _=>e,r.pn⟩
theorem Rf.back {F:Fra P0}{G H G' H':Hp}(r:Rf F G H)(h:Rf (F.sub r) G' H'):Rf F G' H'∧Same G G':=by
 refine⟨⟨h.sub,fun b o e=>?_,fun b o e hb=>?_,h.pn⟩,fun b o e=>?_⟩
 ·obtain⟨o',e'⟩:=r.dom e;exact(h.g0 b o' e').trans (r.g0 b o e)
 ·exact h.h0 b o (r.h0 b o e hb) hb
 ·exact(h.g0 b o (r.sub b o e)).trans e
theorem Fra.pen_ne (F:Fra P0){p:Addr}(h:F.H0 p=none):F.pen≠some p:=fun e=>by
 obtain⟨o,e0⟩:=F.pin0 p e;rw[h] at e0; cases e0
theorem R.after {F:Fra P0}{Γ:En}{σ:St}{G H G' H':Hp}(r:R F Γ σ G H)(h:Rf (F.sub r.fr) G' H'):R F Γ σ G' H'∧Same G G':=by
 obtain⟨a,b⟩:=r.fr.back h;refine⟨r.keep a b fun p u _ e1 e2 e3=>⟨(h.g0 p _ e3).trans e2,h.h0 p _ e3 (F.pen_ne e1)⟩,b⟩
theorem aW {n:Nat}{f:Fm}{t:TA}{m:MA}{E:XK}(h:VA P0 t m):VO P0 (tCall (spM P0 n f) [] E t) (bV n f m):=by
 intro F Γ σ G H Q Qm r hm k;refine h F Γ σ G H _ _ r hm fun as Γ1 rs G1 H1 m1 s1 r1 d1=>?_;refine⟨F.sub r1.fr,as,fun rv=>Qm rv Γ1,rfl,F.subRf r1.fr,?_,m1.1,m1.2,fun rv v G2 H2 q f2 v2=>?_⟩
 ·rw[append_nil];exact Paired.imp' (fun a s h=>by cases s<;>exact h) d1
 ·obtain⟨r2,s2⟩:=r1.after f2;refine k _ _ _ _ _ q (s1.trans s2) r2 ?_ ?_
  ·cases rv with
   | val d=>exact v2
   | own ds=>
    obtain⟨p,vs,e,e1,e2,e3,e4⟩:=v2;exact⟨p,vs,e,r1.fr.fresh e1,e2,e3,e4⟩
   | box B=>
    obtain⟨fp,e1,e2⟩:=v2;exact⟨fp,e1,fun b hb=>⟨r1.fr.fresh (e2 b hb).1,(e2 b hb).2⟩⟩
  ·have kp:∀ b o,F.H0 b=none→G1 b=none→H1 b=some o→G2 b=none∧H2 b=some o:=fun b o h1 h2 h3=>⟨(f2.g0 b _ h3).trans h2,f2.h0 b _ h3 (F.pen_ne h1)⟩
   cases rv with
   | val d=>trivial
   | own ds=>
    obtain⟨p,vs,rfl,e1,e2,e3,e4⟩:=v2;exact Apart.new r1 e1 s2 kp
   | box B=>
    obtain⟨fp,e1,e2⟩:=v2;exact Apart.newB r1 (fun f hf b hb=>by rw[B.uniq hf e1] at hb; exact(e2 b hb).1) s2 kp
end
end
section
variable {P0:Addr→Hp→Prop}{A:Nat→Bool}
def gN (i:Nat):MG:=fun d Γ Q=>Q (Γ.set i (.val d))
def gT (n:Nat)(gs:MGs):MG:=fun d Γ Q=>match d with
 | .tuple ds=>ds.length=n∧gs ds Γ Q
 | _=>False
theorem set_off {i:Nat}{v:Option V}{σ:St}(hA:A i=true):∀ j,A j=false→(σ.set i v)[j]?=σ[j]?:=fun j hj=>getElem?_set_ne (fun z=>by rw[z,hj] at hA; cases hA)
theorem vg_name {i:Nat}(hA:A i=true:=by rfl):VG P0 A (gName i) (gN i):=fun _ _ _ _ _ _ _ _ _ r h m k=>k _ _ m (r.setV h) (set_off hA)
def Walk (P0:Addr→Hp→Prop)(J:It)(G0:Hp)(ds:List D):Prop:=∀(F:Fra P0) (Γ:En) (σ:St) (G H:Hp),Same G0 G→R F Γ σ G H →
 (∀ i d,ds[i]?=some d→J.go i H∧∀ x H',J.yld i H x H'→∃ G',Same G G'∧R F Γ σ G' H'∧Dt G' x d)∧J.stop ds.length H
def VI (P0:Addr→Hp→Prop)(wi:TI)(m:MD):Prop:=∀(F:Fra P0) (Γ:En) (σ:St) (G H:Hp) (Q:It→Hp→Prop) (Qm:List D→En→Prop),R F Γ σ G H→m Γ Qm →
 (∀ ds Γ' J G' H',Qm ds Γ'→Same G G'→R F Γ' σ G' H'→Walk P0 J G' ds→Q J H')→wi σ H Q
def mItT (ma:ME):MD:=fun Γ Q=>ma Γ fun x Γ1=>match x with
 | .tuple ds=>Q ds Γ1
 | _=>False
def rangeD (lo:Int)(n:Nat):List D:=(List.range n).map fun(k:Nat)=>PyData.int (lo+k)
def mRng1 (md:MD):MD:=fun Γ Q=>md Γ fun ds Γ1=>match ds with
 | [.int j] => -(2^62)≤j∧j<2^62∧Q (rangeD 0 j.toNat) Γ1
 | _=>False
theorem vi_tup {K:Fg}{ta:TE}{ma:ME}(ha:VT P0 ta ma):VI P0 (iTup K ta) (mItT ma):=by
 intro F Γ σ G H Q Qm r m k;refine ha F Γ σ G H _ _ r m fun d Γ1 x G1 H1 m1 s1 r1 d1=>?_
 split at m1
 ·cases d1 with
  | @tup p xs ds hp rs=>
   refine⟨p,rfl,⟨xs,SqT.of (r1.fr.sub _ _ hp)⟩,k _ _ _ _ _ m1 s1 r1 fun F2 Γ2 σ2 G2 H2 s2 r2=>⟨fun i d e=>?_,?_⟩⟩
   ·have hq:H2 p=some (.tup xs):=r2.fr.sub _ _ (s2 _ _ hp);obtain⟨v,ev,dv⟩:=Dts.get rs e;refine⟨⟨xs,v,SqT.of hq,ev⟩,fun y H3 hy=>⟨G2,Same.refl _,?_⟩⟩;obtain⟨rfl,hy⟩:=hy;have:=hy xs (SqT.of hq);rw[ev] at this
    cases this
    exact⟨r2,Dt.same s2 _ _ dv⟩
   ·exact⟨xs,SqT.of (r2.fr.sub _ _ (s2 _ _ hp)),by rw[rs.len]; exact le_refl _⟩
 ·exact m1.elim
theorem walk_range {G:Hp}(lo:Int)(n:Nat):Walk P0 (Itr lo n) G (rangeD lo n):=by
 intro F Γ σ G2 H2 _ r;have hl:(rangeD lo n).length=n:=by simp[rangeD]
 refine⟨fun i d e=>?_,by rw[hl]; exact le_refl _⟩;have hi:i<n:=by have:=(List.getElem?_eq_some_iff.mp e).1; omega
 refine⟨hi,fun x H' hy=>?_⟩;obtain⟨rfl,rfl⟩:=hy;refine⟨G2,Same.refl _,r,?_⟩;unfold rangeD at e;rw[getElem?_map,List.getElem?_range hi] at e
 cases e
 exact .int _
theorem vi_rng1 {t:TA}{md:MD}(h:VD P0 t md):VI P0 (iRng1 t) (mRng1 md):=by
 intro F Γ σ G H Q Qm r m k;refine h F Γ σ G H _ _ r m fun ds Γ1 xs G1 H1 m1 s1 r1 d1=>?_
 split at m1
 ·rename_i j
  cases d1 with
  | cons a b=>
   cases a; cases b
   exact⟨j,rfl,m1.1,m1.2.1,k _ _ _ _ _ m1.2.2 s1 r1 (walk_range _ _)⟩
 ·exact m1.elim
def mNx:MS:=fun Γ Q=>Q (.nx Γ)
def cA (a b:MS):MS:=fun Γ Q=>a Γ fun fl=>match fl with
 | .nx Γ1=>b Γ1 Q
 | fl=>Q fl
def mSet (i:Nat)(m:MO):MS:=fun Γ Q=>m Γ fun rv Γ1=>Q (.nx (Γ1.set i rv.sl))
def mPar (i j:Nat)(m:MD):MS:=fun Γ Q=>m Γ fun ds Γ1=>match ds with
 | [d,e]=>Q (.nx ((Γ1.set i (.val d)).set j (.val e)))
 | _=>False
def mRet (m:MO):MS:=fun Γ Q=>m Γ fun rv _=>Q (.rt rv)
def mIf (c:MT)(a b:MS):MS:=fun Γ Q=>c Γ fun k Γ1=>if k=true then a Γ1 Q else b Γ1 Q
def forL (g:MG)(b:MS):List D→En→(Fl→Prop)→Prop
 | [],Γ,Q=>Q (.nx Γ)
 | d::ds,Γ,Q=>g d Γ fun Γ1=>b Γ1 fun fl=>match fl with
  | .nx Γ2=>forL g b ds Γ2 Q
  | .ct Γ2=>forL g b ds Γ2 Q
  | .bk Γ2=>Q (.nx Γ2)
  | .rt rv=>Q (.rt rv)
def mFor (mi:MD)(g:MG)(b:MS):MS:=fun Γ Q=>mi Γ fun ds Γ1=>forL g b ds Γ1 Q
def mWhile (c:MT)(b:MS):MS:=fun Γ Q=>∃ W:Nat→En→Prop,(∃ n,W n Γ)∧∀ n Γ,W n Γ→c Γ fun k Γ1=>if k=true then b Γ1 fun fl=>match fl with
  | .nx Γ2=>∃ n',n'<n∧W n' Γ2
  | .ct Γ2=>∃ n',n'<n∧W n' Γ2
  | .bk Γ2=>Q (.nx Γ2)
  | .rt rv=>Q (.rt rv)
 else Q (.nx Γ1)
theorem vs_nx:VSA P0 A tNext mNx:=fun _ _ _ _ _ _ _ r m k=>k _ m _ _ _ (Same.refl _) r fun _ _=>rfl
theorem aL {t u:TS}{a b:MS}(ha:VSA P0 A t a)(hb:VSA P0 A u b):VSA P0 A (tSeq t u) (cA a b):=by
 intro F Γ σ G H E Qm r m k;refine ha F Γ σ G H _ _ r m fun fl q=>?_
 cases fl with
 | nx Γ1=>exact fun σ1 G1 H1 s1 r1 e1=>hb F Γ1 σ1 G1 H1 E Qm r1 q fun fl q=>(k fl q).same s1 e1
 | rt rv=>exact k _ q
 | bk Γ1=>exact k _ q
 | ct Γ1=>exact k _ q
theorem aY {i:Nat}{t:TE}{m:MO}(h:VO P0 t m)(hA:A i=true:=by rfl):VSA P0 A (tAsg t (gName i)) (mSet i m):=by
 intro F Γ σ G H E Qm r hm k;exact h F Γ σ G H _ _ r hm fun rv Γ1 x G1 H1 m1 s1 r1 d1 a1=>k _ m1 _ _ _ s1 (r1.set d1 a1) (set_off hA)
theorem vs_par {i j:Nat}{t:TA}{m:MD}(h:VD P0 t m)(hA:A i=true:=by rfl)(hB:A j=true:=by rfl):VSA P0 A (tPar i j t) (mPar i j m):=by
 intro F Γ σ G H E Qm r hm k;refine h F Γ σ G H _ _ r hm fun ds Γ1 x G1 H1 m1 s1 r1 d1=>?_
 split at m1
 ·cases d1 with
  | cons a b=>
   cases b with
   | cons b c=>
    cases c
    exact⟨_,_,rfl,k _ m1 _ _ _ s1 ((r1.setV a).setV b) fun q hq=>(set_off hB q hq).trans (set_off hA q hq)⟩
 ·exact m1.elim
theorem bJ {t:TE}{m:MO}(h:VO P0 t m):VSA P0 A (tRet t) (mRet m):=by
 intro F Γ σ G H E Qm r hm k;exact h F Γ σ G H _ _ r hm fun rv Γ1 x G1 H1 m1 s1 r1 d1 _=>k _ m1 _ _ _ s1 r1.fr d1
theorem vs_if {c:TT}{t u:TS}{mc:MT}{a b:MS}(hc:VTT P0 c mc)(ha:VSA P0 A t a)(hb:VSA P0 A u b):VSA P0 A (tIfS c t u) (mIf mc a b):=by
 intro F Γ σ G H E Qm r m k;refine hc F Γ σ G H _ _ r m fun k1 Γ1 G1 H1 m1 s1 r1=>?_
 cases k1 with
 | true=>exact iteT (ha F Γ1 σ G1 H1 E Qm r1 m1 fun fl q=>(k fl q).same s1 fun _ _=>rfl)
 | false=>exact iteF (hb F Γ1 σ G1 H1 E Qm r1 m1 fun fl q=>(k fl q).same s1 fun _ _=>rfl)
theorem vs_while {c:TT}{t:TS}{mc:MT}{b:MS}(hc:VTT P0 c mc)(hb:VSA P0 A t b):VSA P0 A (tWhile c t) (mWhile mc b):=by
 intro F Γ σ G H E Qm r m k;obtain⟨W,⟨n0,w0⟩,turn⟩:=m;refine⟨fun n σ1 H1=>∃ Γ1 G1,Same G G1∧R F Γ1 σ1 G1 H1∧W n Γ1∧∀ i,A i=false→σ1[i]?=σ[i]?,⟨n0,Γ,G,Same.refl _,r,w0,fun _ _=>rfl⟩,?_⟩;rintro n σ1 H1 ⟨Γ1,G1,s1,r1,w1,e1⟩;refine hc F Γ1 σ1 G1 H1 _ _ r1 (turn n Γ1 w1) fun k2 Γ2 G2 H2 m2 s2 r2=>?_
 cases k2 with
 | true=>
  refine iteT ⟨_,fun _ _ h=>h,?_⟩;refine hb F Γ2 σ1 G2 H2 _ _ r2 m2 fun fl q=>?_
  cases fl with
  | nx Γ3=>
   obtain⟨n',hn,w3⟩:=q;exact fun σ3 G3 H3 s3 r3 e3=>⟨n',hn,Γ3,G3,(s1.trans s2).trans s3,r3,w3,fun i hi=>(e3 i hi).trans (e1 i hi)⟩
  | ct Γ3=>
   obtain⟨n',hn,w3⟩:=q;exact fun σ3 G3 H3 s3 r3 e3=>⟨n',hn,Γ3,G3,(s1.trans s2).trans s3,r3,w3,fun i hi=>(e3 i hi).trans (e1 i hi)⟩
  | bk Γ3=>exact fun σ3 G3 H3 s3 r3 e3=>k _ q _ _ _ ((s1.trans s2).trans s3) r3 fun i hi=>(e3 i hi).trans (e1 i hi)
  | rt rv=>exact fun v G3 H3 s3 r3=>k _ q _ _ _ ((s1.trans s2).trans s3) r3
 | false=>exact iteF (k _ m2 _ _ _ (s1.trans s2) r2 e1)
theorem vs_for {wi:TI}{g:TG}{t:TS}{mi:MD}{mg:MG}{b:MS}(hi:VI P0 wi mi)(hg:VG P0 A g mg)(hb:VSA P0 A t b):VSA P0 A (tFor wi g t) (mFor mi mg b):=by
 intro F Γ σ G H E Qm r m k;refine hi F Γ σ G H _ _ r m fun ds Γ1 J G1 H1 m1 s1 r1 wk=>?_;refine⟨fun i n σ2 H2=>n=ds.length-i∧i≤ds.length∧∃ Γ2 G2,Same G1 G2∧R F Γ2 σ2 G2 H2∧forL mg b (ds.drop i) Γ2 Qm∧∀ i,A i=false→σ2[i]?=σ[i]?,⟨ds.length,by simp,zero_le _,Γ1,G1,Same.refl _,r1,m1,fun _ _=>rfl⟩,?_⟩;rintro i n σ2 H2 ⟨rfl,hle,Γ2,G2,s2,r2,m2,e2⟩;obtain⟨go,stop⟩:=wk F Γ2 σ2 G2 H2 s2 r2
 by_cases hlt:i<ds.length
 ·refine .inr ⟨(go i ds[i] (by simp[hlt])).1,fun σ' H'=>ds.length-(i+1)<ds.length-i∧i+1≤ds.length∧∃ Γ3 G3,Same G1 G3∧R F Γ3 σ' G3 H'∧forL mg b (ds.drop (i+1)) Γ3 Qm∧∀ i,A i=false→σ'[i]?=σ[i]?,fun σ' H' h=>⟨_,h.1,rfl,h.2⟩,fun x H' hy=>?_⟩;obtain⟨G3,s3,r3,d3⟩:=(go i ds[i] (by simp[hlt])).2 x H' hy;rw[List.drop_eq_getElem_cons hlt] at m2;refine hg F Γ2 σ2 G3 H' x _ _ _ r3 d3 m2 fun Γ4 σ4 m4 r4 e4=>?_;refine hb F Γ4 σ4 G3 H' _ _ r4 m4 fun fl q=>?_
  cases fl with
  | nx Γ5=>exact fun σ5 G5 H5 s5 r5 e5=>⟨by omega,hlt,Γ5,G5,(s2.trans s3).trans s5,r5,q,fun i hi=>((e5 i hi).trans (e4 i hi)).trans (e2 i hi)⟩
  | ct Γ5=>exact fun σ5 G5 H5 s5 r5 e5=>⟨by omega,hlt,Γ5,G5,(s2.trans s3).trans s5,r5,q,fun i hi=>((e5 i hi).trans (e4 i hi)).trans (e2 i hi)⟩
  | bk Γ5=>exact fun σ5 G5 H5 s5 r5 e5=>k _ q _ _ _ ((s1.trans s2).trans (s3.trans s5)) r5 fun i hi=>((e5 i hi).trans (e4 i hi)).trans (e2 i hi)
  | rt rv=>exact fun v G5 H5 s5 r5=>k _ q _ _ _ ((s1.trans s2).trans (s3.trans s5)) r5
 ·have e:i=ds.length:=by omega
  subst e;rw[List.drop_length] at m2;exact .inl ⟨stop,k _ m2 _ _ _ (s1.trans s2) r2 e2⟩
def mFn (n:Nat)(b:MS):Fm:=fun as Q=>b (as++List.replicate n .no) fun fl=>match fl with
 | .rt rv=>Q rv
 | .nx _=>Q (.val .none)
 | _=>False
theorem fn_start {n k:Nat}{N:List Str}{t:TS}{b:MS}(h:VS P0 t b)(hN:N.length=n+k){vs:List V}{H:Hp}{Q:VK}{E:XK}(hs:spM P0 n (mFn k b) vs H Q E) :
  t { nx:=fun _ H'=>Q .non H',rt:=Q } (start N vs) H:=by
 obtain⟨F,as,Qm,rfl,rf,pr,hl,hm,q⟩:=hs;have hlen:vs.length=as.length:=Paired.length pr;have get:∀{vs:List V} {as:List Sl} {i:Nat} {s:Sl},Paired (ArgOk F F.G0) vs as→as[i]?=some s→∃ v,vs[i]?=some v∧ArgOk F F.G0 v s:=by
  intro vs as i s pr
  induction pr generalizing i with
  | nil=>intro e; simp at e
  | cons a b ih=>
   cases i with
   | zero=>intro e; simp at e; subst e; exact⟨_,rfl,a⟩
   | succ i=>intro e; simpa using ih (i:=i) (by simpa using e)
 have at_:∀{i:Nat} {s:Sl},(as++List.replicate k Sl.no)[i]?=some s→s≠.no→∃ v,(start N vs)[i]?=some (some v)∧ArgOk F F.G0 v s:=by
  intro i s e hne
  by_cases hi:i<as.length
  ·rw[getElem?_append_left hi] at e;obtain⟨v,ev,av⟩:=get pr e;refine⟨v,?_,av⟩;unfold start;rw[getElem?_append_left (by rw[length_map]; omega),getElem?_map,ev];rfl
  ·rw[getElem?_append_right (by omega),getElem?_replicate] at e
   split at e
   ·cases e; exact absurd rfl hne
   ·cases e
 have r:R F (as++List.replicate k .no) (start N vs) F.G0 F.H0:=by
  refine R.of rf ?_ (fun i s e=>?_) (fun i B e=>?_) (fun i j x y _ e _=>?_)
  ·unfold start;simp only[length_append,length_replicate,length_map];omega
  ·cases s with
   | no=>trivial
   | val d=>
    obtain⟨v,ev,av⟩:=at_ e (by intro z; cases z)
    exact⟨v,ev,av⟩
   | own ds=>
    obtain⟨v,ev,av⟩:=at_ e (by intro z; cases z)
    exact av.elim
   | pen=>
    obtain⟨v,ev,p,rfl,ep⟩:=at_ e (by intro z; cases z)
    exact⟨p,ev,ep⟩
   | con q=>
    obtain⟨v,ev,av⟩:=at_ e (by intro z; cases z)
    have av:v=.ref q:=av;rw[av] at ev;exact ev
   | pub B=>
    obtain⟨v,ev,av⟩:=at_ e (by intro z; cases z)
    exact⟨v,ev,av⟩
   | box B=>
    obtain⟨v,ev,av⟩:=at_ e (by intro z; cases z)
    exact av.elim
  ·obtain⟨v,ev,av⟩:=at_ e (by intro z; cases z)
   exact av.elim
  ·obtain⟨v,ev,av⟩:=at_ e (by intro z; cases z)
   exact av.elim
 refine h F _ _ _ _ _ _ r hm fun fl hq=>?_
 cases fl with
 | nx Γ=>exact fun σ G' H' _ r' _=>q _ _ _ _ hq r'.fr .non
 | rt rv=>exact fun v G' H' _ f' v'=>q _ _ _ _ hq f' v'
 | bk Γ=>exact hq.elim
 | ct Γ=>exact hq.elim
theorem spM_len {n:Nat}{f:Fm}{ps:List Str}(h:ps.length=n):∀ vs H Q E,spM P0 n f vs H Q E→vs.length=ps.length:=by
 rintro vs H Q E ⟨F,as,Qm,_,_,pr,hl,_⟩;rw[Paired.length pr,hl,h]
theorem _root_.L2.Fun.okV {P:Program}{w:World}{K:Fg}{mg:Mg}{base:Heap}{x qual:Str}{st:Stmt}{f:Addr}{fd:FuncData}{N ps:List Str}{k n j:Nat}{b:MS}
  (F:Fun K x qual st f fd) (S:FnScope N ps (aN st)) (hn:ps.length=n) (hN:N.length=n+j)
  (hbody:∀(cdv:Value) (A:Around) (outer:List Env) (s:Shared) (H:Hp) (E:XK),Room k (A.deeper (envOfC qual (aN st) s.heap.objs.size f cdv)) →
   SsX P0 (cxOf CX0 P w K mg base N qual (aN st) f cdv A outer s H E).nox (defBody st) b):FnOk P w K mg base CX0 (k+1) f fd ps (spM P0 n (mFn j b)):=by
 refine F.ok S (spM_len hn) fun cdv A outer s H vs Q E hr hs=>?_;obtain⟨t,h1,h2⟩:=hbody cdv A outer s H E hr;exact⟨t,h1,fn_start h2 hN hs⟩
end
section
variable {P0:Addr→Hp→Prop}
def kindD:D→String
 | .none => "NoneType"
 | .bool _ => "bool"
 | .int _ => "int"
 | .str _ => "str"
 | .list _ => "list"
 | .tuple _ => "tuple"
 | .dict _ => "dict"
def subT (a b:String):Bool:=a==b||(a == "bool" && b == "int")
def tyL:List String:=["NoneType", "bool", "int", "str", "list", "tuple", "dict"]
def Kit (K:Fg):Prop:=∀ a∈tyL,∀ b∈tyL,kitOne K (.type a) (.type b)=some (subT a b)
theorem Kit.mk' {K:Fg}(h:∀ a∈tyL,∀ b∈tyL,(a==b)=false→kitOne K (.type a) (.type b)=some (a == "bool" && b == "int")):Kit K:=by
 intro a ha b hb
 by_cases e:a=b
 ·subst e;rw[kit_same];simp[subT]
 ·have e':(a==b)=false:=by simpa using e
  rw[h a ha b hb e'];simp[subT,e']
theorem tyOf_of {K:Fg}{H:Hp}{x:V}{d:D}(h:Dt H x d):TyOf K H x (.type (kindD d))∧kindD d∈tyL:=by
 cases h with
 | non=>exact⟨.non,by simp[kindD,tyL]⟩
 | bl b=>exact⟨.bl b,by simp[kindD,tyL]⟩
 | int i=>exact⟨.int i,by simp[kindD,tyL]⟩
 | str x=>exact⟨.str x,by simp[kindD,tyL]⟩
 | tup hp _=>exact⟨.tup hp,by simp[kindD,tyL]⟩
 | lst hp _=>exact⟨.lst hp,by simp[kindD,tyL]⟩
 | dic hp _=>exact⟨hp.elim .dK fun⟨_,q⟩=>.fdK q,by simp[kindD,tyL]⟩
def mIsi (n:String)(ma:ME):ME:=fun Γ Q=>ma Γ fun x Γ1=>Q (.bool (subT (kindD x) n)) Γ1
theorem vt_isi {K:Fg}{n:String}{ta:TE}{ma:ME}(hk:Kit K)(hn:n∈tyL)(ha:VT P0 ta ma):VT P0 (tCB (rIsi K) (cO ta (cO (tC (.ty n)) tNil))) (mIsi n ma):=by
 intro F Γ σ G H Q Qm r m k;refine ha F Γ σ G H _ _ r m fun d Γ1 x G1 H1 m1 s1 r1 d1=>?_;obtain⟨h1,h2⟩:=tyOf_of (K:=K) (Dt.same r1.fr.sub _ _ d1);exact⟨x,.ty n,.type n,_,_,rfl,rfl,h1,hk _ h2 _ hn,k _ _ _ _ _ m1 s1 r1 (.bl _)⟩
section
variable {X:Cx}
end
section
variable {F:Fra P0}{Γ:En}{σ:St}{G H:Hp}
end
section
variable {ta tb:TE}{ma mb:ME}
abbrev mAdd:=mI0 fun i j=>PyData.int (i+j)
abbrev mSub:=mI0 fun i j=>PyData.int (i-j)
abbrev mMul:=mI IntMulOk fun i j=>PyData.int (i*j)
abbrev mDivX:=mI CDivX fun i j=>PyData.int (i.fdiv j)
abbrev mDiv:=mI CDiv fun i j=>PyData.int (i/j)
abbrev mMod:=mI (fun _ j=>0<j) fun i j=>PyData.int (i%j)
abbrev mNeg:=mU fun i=>PyData.int (-i)
abbrev mLt:=mI0 fun i j=>PyData.bool (decide (i<j))
abbrev mGt:=mI0 fun i j=>PyData.bool (decide (j<i))
abbrev mGe:=mI0 fun i j=>PyData.bool (decide (j≤i))
theorem vt_add (ha:VT P0 ta ma)(hb:VT P0 tb mb):VT P0 (tOp (rI0 fun i j=>.int (i+j)) ta tb) (mAdd ma mb):=vt_i0 (fun _ _ _=>.int _) ha hb
theorem vt_sub (ha:VT P0 ta ma)(hb:VT P0 tb mb):VT P0 (tOp (rI0 fun i j=>.int (i-j)) ta tb) (mSub ma mb):=vt_i0 (fun _ _ _=>.int _) ha hb
theorem vt_mul (ha:VT P0 ta ma)(hb:VT P0 tb mb):VT P0 (tOp (rI IntMulOk fun i j=>.int (i*j)) ta tb) (mMul ma mb):=vt_i (fun _ _ _=>.int _) ha hb
theorem vt_divX (ha:VT P0 ta ma)(hb:VT P0 tb mb):VT P0 (tOp (rI CDivX fun i j=>.int (i.fdiv j)) ta tb) (mDivX ma mb):=vt_i (fun _ _ _=>.int _) ha hb
theorem vt_div (ha:VT P0 ta ma)(hb:VT P0 tb mb):VT P0 (tOp (rI CDiv fun i j=>.int (i/j)) ta tb) (mDiv ma mb):=vt_i (fun _ _ _=>.int _) ha hb
theorem vt_mod (ha:VT P0 ta ma)(hb:VT P0 tb mb):VT P0 (tOp (rI (fun _ j=>0<j) fun i j=>.int (i%j)) ta tb) (mMod ma mb):=vt_i (fun _ _ _=>.int _) ha hb
theorem vt_neg (ha:VT P0 ta ma):VT P0 (tUn (rU fun i=>.int (-i)) ta) (mNeg ma):=vt_u (fun _ _=>.int _) ha
theorem vt_lt (ha:VT P0 ta ma)(hb:VT P0 tb mb):VT P0 (tOp (rI0 fun i j=>.bl (decide (i<j))) ta tb) (mLt ma mb):=vt_i0 (fun _ _ _=>.bl _) ha hb
theorem vt_gt (ha:VT P0 ta ma)(hb:VT P0 tb mb):VT P0 (tOp (rI0 fun i j=>.bl (decide (j<i))) ta tb) (mGt ma mb):=vt_i0 (fun _ _ _=>.bl _) ha hb
theorem vt_ge (ha:VT P0 ta ma)(hb:VT P0 tb mb):VT P0 (tOp (rI0 fun i j=>.bl (decide (j≤i))) ta tb) (mGe ma mb):=vt_i0 (fun _ _ _=>.bl _) ha hb
theorem aG {i:Int}:VT P0 (tC (.int i)) (mC (.int i)):=vt_c fun _=>.int i
theorem vt_bl {b:Bool}:VT P0 (tC (.bl b)) (mC (.bool b)):=vt_c fun _=>.bl b
theorem bW {s:Str}:VT P0 (tC (.str s)) (mC (.str s)):=vt_c fun _=>.str s
theorem vt_non:VT P0 (tC .non) (mC .none):=vt_c fun _=>.non
end
end
section
def mTake:Fm:=fun as Q=>match as with
 | [.pen,.val (.int m)]=>0<m∧m<1073741824∧∀ r:Int,0≤r→r<m→Q (.val (.int r))
 | _=>False
def TrueEnd:Fl→Prop:=fun fl=>fl=.rt (.val (.bool true))
end
end L2.VS
namespace L2.VS
open PySem PySem.Spec PyProof.Rows LT
section
variable {Γ:En}{i j n:Nat}{d e x y:D}{ma mb:ME}{oa ob:MO}{ta tb:MT}{md:MD}{aa:MA}{sa sb:MS}{g:MG}{gs:MGs}{mp mq:MP}
theorem i_seq {Q:Fl→Prop}(h:sa Γ fun fl=>match fl with|.nx Γ1=>sb Γ1 Q|fl=>Q fl):cA sa sb Γ Q:=h
theorem i_nx {Q:Fl→Prop}(h:Q (.nx Γ)):mNx Γ Q:=h
theorem i_set {Q:Fl→Prop}(h:oa Γ fun rv Γ1=>Q (.nx (Γ1.set i rv.sl))):mSet i oa Γ Q:=h
theorem i_par {Q:Fl→Prop}(h:md Γ fun ds Γ1=>match ds with|[d,e]=>Q (.nx ((Γ1.set i (.val d)).set j (.val e)))|_=>False):mPar i j md Γ Q:=h
theorem i_ret {Q:Fl→Prop}(h:oa Γ fun rv _=>Q (.rt rv)):mRet oa Γ Q:=h
theorem i_if {Q:Fl→Prop}(h:ta Γ fun k Γ1=>if k=true then sa Γ1 Q else sb Γ1 Q):mIf ta sa sb Γ Q:=h
theorem i_for {Q:Fl→Prop}(h:md Γ fun ds Γ1=>forL g sa ds Γ1 Q):mFor md g sa Γ Q:=h
theorem i_c {Q:D→En→Prop}(h:Q d Γ):mC d Γ Q:=h
theorem i_var {Q:D→En→Prop}(h0:Γ[i]?=some (.val d))(h:Q d Γ):aQ i Γ Q:=by
 unfold aQ;rw[h0];exact h
theorem i_I0 {f:Int→Int→D}{Q:D→En→Prop}(h:ma Γ fun x Γ1=>mb Γ1 fun y Γ2=>match x,y with|.int i,.int j=>Q (f i j) Γ2|_,_=>False):mI0 f ma mb Γ Q:=h
theorem i_I {C:Int→Int→Prop}{f:Int→Int→D}{Q:D→En→Prop}(h:ma Γ fun x Γ1=>mb Γ1 fun y Γ2=>match x,y with|.int i,.int j=>C i j∧Q (f i j) Γ2|_,_=>False):mI C f ma mb Γ Q:=h
theorem i_U {f:Int→D}{Q:D→En→Prop}(h:ma Γ fun x Γ1=>match x with|.int i=>Q (f i) Γ1|_=>False):mU f ma Γ Q:=h
theorem i_abs {Q:D→En→Prop}(h:ma Γ fun x Γ1=>match x with|.int i=>Q (.int (if i<0 then -i else i)) Γ1|_=>False):mAbs ma Γ Q:=h
theorem i_int1 {Q:D→En→Prop}(h:ma Γ fun x Γ1=>match x with|.int i=>Q (.int i) Γ1|.bool b=>Q (.int (if b then 1 else 0)) Γ1|_=>False):mInt1 ma Γ Q:=h
theorem i_eq {Q:D→En→Prop}(h:ma Γ fun x Γ1=>mb Γ1 fun y Γ2=>Good x∧Good y∧Q (.bool (PyData.eqv x y)) Γ2):mEq ma mb Γ Q:=h
theorem i_ne {Q:D→En→Prop}(h:ma Γ fun x Γ1=>mb Γ1 fun y Γ2=>Good x∧Good y∧Q (.bool (!PyData.eqv x y)) Γ2):mNe ma mb Γ Q:=h
theorem i_isN {Q:D→En→Prop}(h:ma Γ fun x Γ1=>Q (.bool (isN x)) Γ1):mIsN ma Γ Q:=h
theorem i_notN {Q:D→En→Prop}(h:ma Γ fun x Γ1=>Q (.bool (!isN x)) Γ1):mNotN ma Γ Q:=h
theorem i_andV {Q:D→En→Prop}(h:ma Γ fun x Γ1=>match x with|.bool c=>if c=true then mb Γ1 Q else Q (.bool false) Γ1|_=>False):mAndV ma mb Γ Q:=h
theorem i_notV {Q:D→En→Prop}(h:ma Γ fun x Γ1=>match x with|.bool c=>Q (.bool (!c)) Γ1|_=>False):mNotV ma Γ Q:=h
theorem i_tst {Q:Bool→En→Prop}(h:ma Γ fun x Γ1=>match x with|.bool c=>Q c Γ1|_=>False):mTst ma Γ Q:=h
theorem i_and {Q:Bool→En→Prop}(h:ta Γ fun c Γ1=>if c=true then tb Γ1 Q else Q false Γ1):mAnd ta tb Γ Q:=h
theorem i_or {Q:Bool→En→Prop}(h:ta Γ fun c Γ1=>if c=true then Q true Γ1 else tb Γ1 Q):mOr ta tb Γ Q:=h
theorem i_not {Q:Bool→En→Prop}(h:ta Γ fun c Γ1=>Q (!c) Γ1):mNot ta Γ Q:=h
theorem i_ifE {Q:D→En→Prop}(h:ta Γ fun c Γ1=>if c=true then ma Γ1 Q else mb Γ1 Q):mIfE ta ma mb Γ Q:=h
theorem i_ifO {Q:Rv→En→Prop}(h:ta Γ fun c Γ1=>if c=true then oa Γ1 Q else ob Γ1 Q):mIfO ta oa ob Γ Q:=h
theorem i_nil {Q:List D→En→Prop}(h:Q [] Γ):mNil Γ Q:=h
theorem i_cons {Q:List D→En→Prop}(h:ma Γ fun x Γ1=>md Γ1 fun xs Γ2=>Q (x::xs) Γ2):bM ma md Γ Q:=h
theorem i_anil {Q:List Sl→En→Prop}(h:Q [] Γ):aNil Γ Q:=h
theorem i_aval {Q:List Sl→En→Prop}(h:ma Γ fun x Γ1=>aa Γ1 fun xs Γ2=>Q (.val x::xs) Γ2):aVal ma aa Γ Q:=h
theorem i_apen {Q:List Sl→En→Prop}(h0:Γ[i]?=some .pen)(h:aa Γ fun xs Γ2=>Q (.pen::xs) Γ2):aPen i aa Γ Q:=by
 unfold aPen;rw[h0];exact h
theorem i_tup {Q:D→En→Prop}(h:md Γ fun ds Γ1=>ds.length≤1000∧Q (.tuple ds) Γ1):mTup md Γ Q:=h
theorem i_lst {Q:Rv→En→Prop}(h:md Γ fun ds Γ1=>ds.length≤1000∧Q (.own ds) Γ1):mLst md Γ Q:=h
theorem i_ix {Q:D→En→Prop}(h:ma Γ fun x Γ1=>mb Γ1 fun y Γ2=>oQ (ixD x y) fun d=>Q d Γ2):mIx ma mb Γ Q:=h
theorem i_len {Q:D→En→Prop}(h:ma Γ fun x Γ1=>oQ (lenD x) fun d=>Q d Γ1):mLen ma Γ Q:=h
theorem i_isi {s:String}{Q:D→En→Prop}(h:ma Γ fun x Γ1=>Q (.bool (subT (kindD x) s)) Γ1):mIsi s ma Γ Q:=h
theorem i_pub {Q:D→En→Prop}(h:oa Γ fun rv Γ1=>nbQ rv (Q rv.d Γ1)):mPub oa Γ Q:=h
theorem i_val {Q:Rv→En→Prop}(h:ma Γ fun d Γ1=>Q (.val d) Γ1):bT ma Γ Q:=h
theorem i_call {f:Fm}{Q:Rv→En→Prop}(h:aa Γ fun as Γ1=>as.length=n∧f as fun rv=>Q rv Γ1):bV n f aa Γ Q:=h
theorem i_pNo {Q:Option Int→En→Prop}(h:Q none Γ):pNo Γ Q:=h
theorem i_pSo {Q:Option Int→En→Prop}(h:ma Γ fun x Γ1=>match x with|.int i=>Q (some i) Γ1|_=>False):pSo ma Γ Q:=h
theorem i_cat {Q:Rv→En→Prop}(h:ma Γ fun x Γ1=>mb Γ1 fun y Γ2=>match x,y with|.list ds,.list es=>ds.length+es.length≤1000∧Q (.own (ds++es)) Γ2|_,_=>False):mCat ma mb Γ Q:=h
theorem i_itT {Q:List D→En→Prop}(h:ma Γ fun x Γ1=>match x with|.tuple ds=>Q ds Γ1|_=>False):mItT ma Γ Q:=h
theorem i_rng1 {Q:List D→En→Prop}(h:md Γ fun ds Γ1=>match ds with|[.int j] => -(2^62)≤j∧j<2^62∧Q (rangeD 0 j.toNat) Γ1|_=>False):mRng1 md Γ Q:=h
theorem i_gN {Q:En→Prop}(h:Q (Γ.set i (.val d))):gN i d Γ Q:=h
theorem i_fn {k:Nat}{as:List Sl}{Q:Rv→Prop}(h:sa (as++List.replicate k .no) fun fl=>match fl with|.rt rv=>Q rv|.nx _=>Q (.val .none)|_=>False):mFn k sa as Q:=h
theorem i_oQ {o:Option D}{k:D→Prop}(h0:o=some d)(h:k d):oQ o k:=by rw[h0]; exact h
theorem i_take {m:Int}{Q:Rv→Prop}(h1:0<m)(h2:m<1073741824)(h:∀ r:Int,0≤r→r<m→Q (.val (.int r))):mTake [.pen,.val (.int m)] Q:=⟨h1,h2,h⟩
structure KOk (I:En→Prop)(Q K:Fl→Prop):Prop where
 nx:∀ Γ,I Γ→K (.nx Γ)
 ct:∀ Γ,I Γ→K (.ct Γ)
 bk:∀ Γ,Q (.nx Γ)→K (.bk Γ)
 rt:∀ rv,Q (.rt rv)→K (.rt rv)
theorem for_inv {ds:List D}{Q:Fl→Prop}(I:Nat→En→Prop)(h0:I 0 Γ)(hs:∀ i d Γ K,ds[i]?=some d→I i Γ→KOk (I (i+1)) Q K→g d Γ fun Γ1=>sa Γ1 K)(he:∀ Γ,I ds.length Γ→Q (.nx Γ)):forL g sa ds Γ Q:=by
 have aux:∀(es:List D) (k:Nat) (Γ:En),(∀ i d,es[i]?=some d→ds[k+i]?=some d)→k+es.length=ds.length→I k Γ→forL g sa es Γ Q:=by
  intro es
  induction es with
  | nil=>intro k Γ _ hl hi; exact he Γ (by rw[← hl]; simpa using hi)
  | cons d es ih=>
   intro k Γ hd hl hi;have next:∀ Γ2,I (k+1) Γ2→forL g sa es Γ2 Q:=fun Γ2 h3=>ih (k+1) Γ2 (fun i e he'=>by
    have:=hd (i+1) e (by simpa using he');rw[show k+1+i=k+(i+1) by omega]; exact this) (by rw[← hl,length_cons]; omega) h3
   exact hs k d Γ _ (by simpa using hd 0 d rfl) hi ⟨next,next,fun _ h=>h,fun _ h=>h⟩
 exact aux ds 0 Γ (fun i d h=>by simpa using h) (by simp) h0
theorem range_inv {lo:Int}{n:Nat}{Q:Fl→Prop}(I:Nat→En→Prop)(h0:I 0 Γ)(hs:∀ i Γ K,i<n→I i Γ→KOk (I (i+1)) Q K→g (.int (lo+i)) Γ fun Γ1=>sa Γ1 K)(he:∀ Γ,I n Γ→Q (.nx Γ)):forL g sa (rangeD lo n) Γ Q:=by
 have hl:(rangeD lo n).length=n:=by simp[rangeD]
 refine for_inv I h0 (fun i d Γ K e hi hk=>?_) (by rw[hl]; exact he);have hi':i<n:=by have:=(List.getElem?_eq_some_iff.mp e).1; omega
 unfold rangeD at e;rw[getElem?_map,List.getElem?_range hi'] at e
 cases e
 exact hs i Γ K hi' hi hk
theorem while_inv {Q:Fl→Prop}(I:Nat→En→Prop)(m0:Nat)(h0:I m0 Γ)(hs:∀ m Γ,I m Γ→ta Γ fun k Γ1=>if k=true then sa Γ1 fun fl=>match fl with
  | .nx Γ2=>∃ n',n'<m∧I n' Γ2
  | .ct Γ2=>∃ n',n'<m∧I n' Γ2
  | .bk Γ2=>Q (.nx Γ2)
  | .rt rv=>Q (.rt rv)
 else Q (.nx Γ1)):mWhile ta sa Γ Q:=⟨I,⟨m0,h0⟩,hs⟩
end
theorem iteNT {A B:Prop}(h:B):if (!true)=true then A else B:=iteF h
theorem iteNF {A B:Prop}(h:A):if (!false)=true then A else B:=iteT h
theorem good_int (i:Int):Good (.int i):=⟨rfl,by show 0≤60; decide⟩
theorem good_none:Good .none:=⟨rfl,by show 0≤60; decide⟩
theorem eqv_int (i j:Int):PyData.eqv (.int i) (.int j)=decide (i=j):=by
 show(i==j)=_
 exact Bool.beq_eq_decide_eq i j
section
variable {P:D→Prop}{Γ:En}{Q:D→En→Prop}
end
def Gd (n:Nat)(d:D):Prop:=d.canLay0=true∧d.depth≤n
theorem Gd.good {n:Nat}{d:D}(h:Gd n d)(hn:n≤60:=by decide):Good d:=⟨h.1,le_trans h.2 hn⟩
theorem gds {n:Nat}:∀{ds:List D},(∀ d∈ds,Gd n d)→PyData.canLayAll0 ds=true∧PyData.depthAll ds≤n
 | [],_=>⟨rfl,zero_le _⟩
 | d::ds,h=>by
  have h1:=h d mem_cons_self;have h2:=gds (ds:=ds) fun e he=>h e (mem_cons_of_mem _ he);refine⟨by show(d.canLay0&&PyData.canLayAll0 ds)=true; rw[h1.1,h2.1]; rfl,?_⟩;show max d.depth (PyData.depthAll ds)≤n;exact Nat.max_le.mpr ⟨h1.2,h2.2⟩
theorem gd_tup {n:Nat}{ds:List D}(h:∀ d∈ds,Gd n d):Gd (n+1) (.tuple ds):=⟨(gds h).1,Nat.succ_le_succ (gds h).2⟩
theorem gd_int (i:Int):Gd 0 (.int i):=⟨rfl,le_refl _⟩
theorem gd_str (s:Str)(h:(PyData.str s).canLay0=true:=by decide +kernel):Gd 0 (.str s):=⟨h,le_refl _⟩
theorem gd_num (q:Rat):Gd 1 (dNum q):=gd_tup (n:=0) fun d h=>by
 rcases mem_cons.mp h with rfl|h
 ·exact gd_int _
 ·rw[mem_singleton.mp h]; exact gd_int _
theorem eqv_self {d:D}(h:Good d):PyData.eqv d d=true:=SeqAt.eqv_refl d h.lay
theorem isT {d:D}{n:String}{A B:Prop}(h:subT (kindD d) n=true)(a:A):if subT (kindD d) n=true then A else B:=by rw[h]; exact iteT a
theorem isF {d:D}{n:String}{A B:Prop}(h:subT (kindD d) n=false)(b:B):if subT (kindD d) n=true then A else B:=by rw[h]; exact iteF b
theorem isNT {d:D}{n:String}{A B:Prop}(h:subT (kindD d) n=true)(b:B):if (!subT (kindD d) n)=true then A else B:=by rw[h]; exact iteF b
theorem ix_num0 (q:Rat):ixD (dNum q) (.int 0)=some (.int q.num):=rfl
theorem ix_num1 (q:Rat):ixD (dNum q) (.int 1)=some (.int (q.den:Int)):=rfl
end L2.VS
namespace L2
open PySem PySem.Spec PyProof.Rows
def clGo (env:Env):List (Str×NameKind)→List (Str×Addr)→List (Str×Addr)
 | [],cs=>cs
 | (n,k)::r,cs=>if (k==.free)=true then clGo env r ((n,(env.cells.lookup n).getD 0)::cs) else clGo env r cs
theorem clos_go {env:Env}:∀(names:List (Str×NameKind)) (cs:List (Str×Addr)),(∀ y∈names,y.2=.free→∃ c,env.cells.lookup y.1=some c) →
  (forIn names cs fun(x:Str×NameKind) (r:List (Str×Addr))=>(do
   if (x.2==NameKind.free)=true then do
    let a←cellOf env x.1
    pure (ForInStep.yield ((x.1,a)::r))
   else pure (ForInStep.yield r):Sem (ForInStep (List (Str×Addr)))))=pure (clGo env names cs)
 | [],cs,_=>rfl
 | (n,k)::r,cs,h=>by
  have ih:=fun cs=>clos_go (env:=env) r cs fun y hy=>h y (mem_cons_of_mem _ hy);rw[forIn_cons];unfold clGo
  by_cases hk:(k==NameKind.free)=true
  ·obtain⟨c,hc⟩:=h (n,k) mem_cons_self (by simpa using hk);have hc':env.cells.lookup n=some c:=hc;have e:cellOf env n=pure c:=by unfold cellOf; rw[hc']
   simp only[hk,if_true,e,hc',Option.getD_some];simp only[pure_bind];exact ih _
  ·have hk':(k==NameKind.free)=false:=by simpa using hk
   simp only[hk',false_eq_true,if_false,pure_bind];exact ih _
theorem clos_of {scope:Scope}{env:Env}(h:∀ y∈scope.names,y.2=.free→∃ c,env.cells.lookup y.1=some c):closureFor scope env=pure (clGo env scope.names []):=by
 have e:=clos_go (env:=env) scope.names [] h;unfold closureFor;rw[← e];simp only[bind_pure]
theorem clGo_sub {env:Env}:∀(names:List (Str×NameKind)) (cs:List (Str×Addr)),(∀ y∈names,y.2=.free→∃ c,env.cells.lookup y.1=some c)→(∀ x c,cs.lookup x=some c→env.cells.lookup x=some c) →
  ∀ x c,(clGo env names cs).lookup x=some c→env.cells.lookup x=some c
 | [],cs,_,h=>h
 | (n,k)::r,cs,hf,h=>by
  have ih:=fun cs=>clGo_sub (env:=env) r cs fun y hy=>hf y (mem_cons_of_mem _ hy);unfold clGo
  by_cases hk:(k==NameKind.free)=true
  ·rw[if_pos hk];obtain⟨c0,hc⟩:=hf (n,k) mem_cons_self (by simpa using hk);have hc':env.cells.lookup n=some c0:=hc;refine ih _ fun x c e=>?_;rw[lookup_cons] at e
   cases hx:x==n with
   | true=>
    rw[hx,hc'] at e;have:x=n:=by simpa using hx
    rw[this,hc'];exact e
   | false=>rw[hx] at e; exact h x c e
  ·rw[if_neg hk];exact ih _ h
theorem clGo_has {env:Env}:∀(names:List (Str×NameKind)) (cs:List (Str×Addr)) (x:Str),((∃ k,(x,k)∈names∧k=.free)∨(cs.lookup x).isSome=true)→((clGo env names cs).lookup x).isSome=true
 | [],cs,x,h=>by
  rcases h with⟨k,hm,_⟩|h
  ·cases hm
  ·exact h
 | (n,k)::r,cs,x,h=>by
  unfold clGo
  by_cases hk:(k==NameKind.free)=true
  ·rw[if_pos hk];refine clGo_has r _ x ?_
   by_cases hx:x=n
   ·right
    rw[lookup_cons,hx];simp
   ·rcases h with⟨k',hm,hf⟩|h
    ·rcases mem_cons.mp hm with e|hm
     ·cases e; exact absurd rfl hx
     ·exact .inl ⟨k',hm,hf⟩
    ·right
     rw[lookup_cons];have:(x==n)=false:=by simpa using hx
     rw[this];exact h
  ·rw[if_neg hk];refine clGo_has r _ x ?_;rcases h with⟨k',hm,hf⟩|h
   ·rcases mem_cons.mp hm with e|hm
    ·cases e; subst hf; exact absurd rfl hk
    ·exact .inl ⟨k',hm,hf⟩
   ·exact .inr h
theorem relabel_back {env:Env}:∀{names:List (Str×NameKind)} {x:Str},(∀ y∈names,y.2≠.cell) →
    ((names.map fun(n,k)=>if (k==NameKind.free&&env.scope.kind==.function&&env.kindOf n==some .cell) then(n,NameKind.cell) else(n,k)).lookup x=some .cell ∨
     (names.map fun(n,k)=>if (k==NameKind.free&&env.scope.kind==.function&&env.kindOf n==some .cell) then(n,NameKind.cell) else(n,k)).lookup x=some .free)→(x,NameKind.free)∈names
  | [],_,_,h=>by simp at h
  | (n,k)::r,x,hc,h=>by
    have ih:=@relabel_back env r x (fun y hy=>hc y (mem_cons_of_mem _ hy));have hk:k≠.cell:=hc (n,k) mem_cons_self;rw[map_cons] at h
    by_cases hf:(k==NameKind.free&&env.scope.kind==.function&&env.kindOf n==some .cell)=true
    · have kf:k=.free:=by
        have:=(and_eq_true _ _▸hf:_∧_).1;have:=(and_eq_true _ _▸this:_∧_).1;simpa using this
      simp only[hf,if_true] at h;rw[lookup_cons] at h
      cases hx:x==n with
      | true=>
        have:x=n:=by simpa using hx
        subst this; subst kf;exact mem_cons_self
      | false=>rw[hx] at h; exact mem_cons_of_mem _ (ih h)
    · simp only[hf,false_eq_true,if_false] at h;rw[lookup_cons] at h
      cases hx:x==n with
      | true=>
        have:x=n:=by simpa using hx
        subst this;rw[hx] at h;rcases h with h|h
        · exact absurd (Option.some.inj h) hk
        · have:k=.free:=Option.some.inj h;subst this;exact mem_cons_self
      | false=>rw[hx] at h; exact mem_cons_of_mem _ (ih h)
def cxBlk (X:Cx)(N:List Str)(scope:Scope)(C:Addr)(s₀:Shared)(H₀:Hp)(ex:List Addr):Cx where
 prog:=X.prog
 w:=X.w
 K:=X.K
 mg:=X.mg
 base:=X.base
 A:=X.A
 N:=N
 s₀:=s₀
 H₀:=H₀
 env:=compEnvC scope (clGo X.env scope.names []) C X.env
 outer:=X.stack
 stack:=X.stack
 ex:=ex
 fn:=fun _=>false
 calm:=X.calm
 pn:=[]
 xe:=fun _ _=>False
def blk (nt:Nat)(fv:List Nat)(σ:St):St:=List.replicate nt none++fv.map fun j=>(σ[j]?).getD none
def tComp (nt:Nat)(fv:List Nat)(wi:TI)(g:TG)(ti:TT)(te:TE):TE:=fun σ H Q=>wi σ H fun J H1=>∃ W:Nat→Nat→List V→Hp→Prop,(∃ m,W 0 m [] H1)∧∀ i m ys H,W i m ys H →
 (J.stop i H∧ys.length≤sizeLine∧∀ p,H p=none→Q (.ref p) (upd H p (.lst ys))) ∨
 (J.go i H∧ys.length≤sizeLine∧∀ x H',J.yld i H x H'→g x (blk nt fv σ) H' fun σ2 H2=>(∀ i,nt≤i→σ2[i]?=(blk nt fv σ)[i]?)∧ti σ2 H2 fun b H3=>if b=true then te σ2 H3 fun v H4=>∃ m',m'<m∧W (i+1) m' (ys++[v]) H4 else ∃ m',m'<m∧W (i+1) m' ys H3)
def PTs (X:Cx)(cs:List Expr)(t:TT):Prop:=
 ∀(pins:List (Addr×Obj)) (s:Shared) (σ:St) (H:Hp) (Q:Bool→Hp→Prop),Inv X pins σ H s→t σ H Q →
  wpAny (model X.prog X.w) X.A (forIn cs true fun c r=>if r=true then do let ok←isTrue c X.env (eval c X.env); pure (ForInStep.yield ok) else pure (ForInStep.yield r)) (TP X pins σ Q) X.xe s
def tTrue:TT:=fun _ H Q=>Q true H
theorem pts_nil {X:Cx}:PTs X [] tTrue:=fun _ _ _ H _ I h=>wpAny_tests_nil ⟨H,I,h⟩
structure BlkOk (X:Cx)(N:List Str)(scope:Scope)(nt:Nat)(fv:List Nat):Prop where
 kind:scope.kind=.function
 ncell:∀ y∈scope.names,y.2≠.cell
 names:∀ y∈scope.names,y.2=.local→scope.names.lookup y.1=some .local
 free:∀ y∈scope.names,y.2=.free→X.env.kindOf y.1=some .cell
 len:N.length=nt+fv.length
 fv:∀ i x,N[nt+i]?=some x→∃ j,fv[i]?=some j∧X.N[j]?=some x∧X.env.kindOf x=some .cell∧(relabel scope X.env).names.lookup x=some .cell
section
variable {X:Cx}{N:List Str}{scope:Scope}{nt:Nat}{fv:List Nat}{pins:List (Addr×Obj)}{σ:St}{H:Hp}{s:Shared}
theorem BlkOk.cells (B:BlkOk X N scope nt fv)(I:Inv X pins σ H s):∀ y∈scope.names,y.2=.free→∃ c,X.env.cells.lookup y.1=some c:=fun y hy hf=>I.ok.has y.1 (.inl (B.free y hy hf))
theorem blk_ok (B:BlkOk X N scope nt fv)(I:Inv X pins σ H s){C:Addr}{fp:List Addr}(hC:s.heap.objs.size≤C)(hf:∀ b∈fp,FpOk X pins H b)(hlt:∀ b∈fp,b<s.heap.objs.size) :
  (cxBlk X N scope C s H fp).Ok:=by
 have sub:∀ x c,(clGo X.env scope.names []).lookup x=some c→X.env.cells.lookup x=some c:=clGo_sub _ _ (B.cells I) (fun x c e=>by simp at e);refine⟨I.ok.mod,B.kind,I.ok.glob,I.ok.blt,hC,fun x y c e1 e2=>I.ok.inj x y c (sub x c e1) (sub y c e2),fun x hx=>?_,fun x c h=>absurd h (by show ¬(false=true); decide),I.ok.hd,I.ok.frames,.inl rfl,fun b hb=>⟨?_,fun x c e=>?_⟩,I.bs,le_trans I.ok.bsz I.sz,fun b o e hb=>?_,fun b hb z=>?_,I.stack,I.stkFree⟩
 ·have hm:(x,NameKind.free)∈scope.names:=relabel_back B.ncell hx;exact isSome_iff_exists.mp (clGo_has scope.names [] x (.inl ⟨_,hm,rfl⟩))
 ·exact ne_of_lt (lt_of_lt_of_le (hlt b hb) hC)
 ·exact(hf b hb).2.2.2.2.1 x c (sub x c e)
 ·rcases(hf b hb).2.2.2.1 with z|z
  ·exact I.ok.noex b o e z
  ·exact absurd (lt_of_lt_of_le (lt_size e) (le_trans I.ok.bsz z)) (lt_irrefl _)
 ·rcases mem_cons.mp (I.stkSub b z) with z|z
  ·exact(hf b hb).2.1 z
  ·exact(hf b hb).2.2.1 z
theorem blk_inv (B:BlkOk X N scope nt fv)(I:Inv X pins σ H s){C:Addr}{fp:List Addr}(hC:s.heap.objs.size≤C)(hf:∀ b∈fp,FpOk X pins H b)(hlt:∀ b∈fp,b<s.heap.objs.size){h':Heap}{tk:Nat}
  (k:∀ b o,s.heap.get? b=some o→h'.get? b=some o) (hn:∃ m,h'.Ns C m):Inv (cxBlk X N scope C s H fp) [] (blk nt fv σ) H { s with heap:=h',toks:=tk }:=by
 have sub:∀ x c,(clGo X.env scope.names []).lookup x=some c→X.env.cells.lookup x=some c:=clGo_sub _ _ (B.cells I) (fun x c e=>by simp at e);obtain⟨m,hn⟩:=hn;refine⟨blk_ok B I hC hf hlt,rfl,I.bare,Un.kept k,⟨m,hn,fun i x v e1 e2 e3=>?_⟩,fun x c e=>?_,I.hok.fresh hC,fun x c e=>I.freeC x c (sub x c e),fun p hp=>(nomatch hp),I.hok.kept k,?_⟩
 ·have hi:nt≤i:=by
   refine Nat.le_of_not_lt fun hlt=>?_;unfold blk at e2;rw[getElem?_append_left (by simpa using hlt),getElem?_replicate] at e2
   split at e2<;>cases e2
  obtain⟨j,hj⟩:∃ j,i=nt+j:=⟨i-nt,by omega⟩;subst hj;obtain⟨o,f1,f2,f3,f4⟩:=B.fv j x e1;unfold blk at e2;rw[getElem?_append_right (by simp),length_replicate,Nat.add_sub_cancel_left,getElem?_map,f1] at e2;have e2':(σ[o]?).getD none=some v:=Option.some.inj e2;have e4:σ[o]?=some (some v):=by
   cases q:σ[o]? with
   | none=>rw[q] at e2'; cases e2'
   | some z=>rw[q] at e2'; exact congrArg some e2'
  obtain⟨m0,hn0,hl⟩:=I.loc;obtain⟨u,ru,lk⟩:=hl o x v f2 e4 (.inr (.inl f3));refine⟨u,ru,.inr ⟨.inl f4,?_⟩⟩;rcases lk with⟨z,_⟩|⟨_,c,hc,hcell⟩
  ·rw[f3] at z; cases z
  ·have hm:(x,NameKind.free)∈scope.names:=relabel_back B.ncell (.inl f4);obtain⟨c',hc'⟩:=isSome_iff_exists.mp (clGo_has (env:=X.env) scope.names [] x (.inl ⟨_,hm,rfl⟩));have:=sub x c' hc';rw[hc] at this
   cases this
   obtain⟨oc,h1,h2⟩:=hcell;exact⟨c,hc',oc,k c oc h1,h2⟩
 ·obtain⟨v,oc,h1,h2⟩:=I.cell x c (sub x c e);exact⟨v,oc,k c oc h1,h2⟩
 ·show(blk nt fv σ).length=N.length
  unfold blk;rw[length_append,length_replicate,length_map];exact B.len.symm
end
section
variable {prog:Program}{w:World}{A:Around}{R:Result→Shared→Prop}{s:Shared}
theorem compLoop_any {elt target iter:Expr}{ifs:List Expr}{scope:Scope}{pos:Pos}{it acc:Value}{env:Env}(I:Nat→Shared→Prop)
  (turn:∀ n s,I n s→wpAny (model prog w) A (pyNext it) (fun r s₁=>match r with
   | none=>R (.ok .next) s₁
   | some v=>wpAny (model prog w) A (letOwnedTupleGo target it v) (fun _ s₁'=>wpAny (model prog w) A (assign target env v) (fun _ s₂=>
     wpAny (model prog w) A (forIn ifs true fun c r=>if r=true then do let ok←isTrue c env (eval c env); pure (ForInStep.yield ok) else pure (ForInStep.yield r)) (fun ok s₃=>
      if ok=true then wpAny (model prog w) A (eval elt env) (fun x s₄=>
       wpAny (model prog w) A (call (.builtin "list.append") [acc,x]) (fun _ s₅=>∃ m,m<n∧I m s₅) (fun _ _=>False) s₄) (fun _ _=>False) s₃
      else ∃ m,m<n∧I m s₃) (fun _ _=>False) s₂) (fun _ _=>False) s₁') (fun _ _=>False) s₁) (fun _ _=>False) s)
  (n:Nat) (h:I n s) :
  codeAny (model prog w) A (.compLoop (.ListComp elt [⟨target,iter,ifs,0⟩] scope pos) 0 it acc env) R s:=by
 refine codeAny_loop rfl I (fun n s hI=>?_) n h;show wpAny _ A ((compTurn (.ListComp elt [⟨target,iter,ifs,0⟩] scope pos) 0 it acc env).onRaise (fun x=>do noteFrame x env; theTreesLotGoes x)) _ _ s;refine wpAny_noted ?_;rw[compTurn_list];refine wpAny_bind (wpAny_standAt (wpAny_bind (wpAny_mono (turn n s hI) (fun r s₁ h₁=>?_) fun _ _ f=>f.elim)))
 cases r with
 | none=>exact wpAny_pure h₁
 | some v=>
  refine wpAny_bind (wpAny_mono h₁ (fun _ s₁' h₁'=>?_) fun _ _ f=>f.elim);refine wpAny_bind (wpAny_mono h₁' (fun _ s₂ h₂=>wpAny_bind (wpAny_mono h₂ (fun ok s₃ h₃=>?_) fun _ _ f=>f.elim)) fun _ _ f=>f.elim)
  cases ok with
  | false=>exact wpAny_pure ⟨rfl,h₃⟩
  | true=>
   exact wpAny_bind (wpAny_bind (wpAny_mono h₃ (fun x s₄ h₄=>wpAny_bind (wpAny_mono h₄ (fun _ s₅ h₅=>wpAny_pure (wpAny_pure ⟨rfl,h₅⟩)) fun _ _ f=>f.elim)) fun _ _ f=>f.elim))
end
end L2
namespace L2
open PySem PySem.Spec PyProof.Rows
section
variable {X:Cx}{N:List Str}{scope:Scope}{nt:Nat}{fv:List Nat}{elt tg iter:Expr}{ifs:List Expr}{wi:TI}{g:TG}{ti:TT}{te:TE}{pos:Pos}
def listO (its:List Value)(n:Nat):Obj:={ cls:=.type "list", dict:=none,data:=.seq its.toArray n }
theorem comp_run (hc:X.calm=true)(B:BlkOk X N scope nt fv)
  (hg:∀ C s₀ H₀ ex,PG (cxBlk X N scope C s₀ H₀ ex) tg g) (ht:∀ C s₀ H₀ ex,PTs (cxBlk X N scope C s₀ H₀ ex) ifs ti) (he:∀ C s₀ H₀ ex,PE (cxBlk X N scope C s₀ H₀ ex) elt te)
  {pins:List (Addr×Obj)} {σ:St} {s2:Shared} {H2:Hp} {it:Addr} {fp:List Addr} {tn:Nat→Heap→Prop} {J:It} (I2:Inv X pins σ H2 s2) (T:Turn X.prog X.w X.K tg J fp it tn) (st2:tn 0 s2.heap) (f2:∀ b∈fp,FpOk X pins H2 b)
  {W:Nat→Nat→List V→Hp→Prop} {m0:Nat} (w0:W 0 m0 [] H2) {Q:VK}
  (turn:∀ i m ys H,W i m ys H→(J.stop i H∧ys.length≤sizeLine∧∀ p,H p=none→Q (.ref p) (upd H p (.lst ys))) ∨
   (J.go i H∧ys.length≤sizeLine∧∀ x H',J.yld i H x H'→g x (blk nt fv σ) H' fun σ2 H2=>(∀ i,nt≤i→σ2[i]?=(blk nt fv σ)[i]?)∧ti σ2 H2 fun b H3=>if b=true then te σ2 H3 fun v H4=>∃ m',m'<m∧W (i+1) m' (ys++[v]) H4 else ∃ m',m'<m∧W (i+1) m' ys H3))
  {RR:Value→Addr→Result→Shared→Prop}
  (hR:∀ D C s',s2.heap.objs.size≤C→(∃ m,s'.heap.Ns C m)→(∀ h',Heap.SameBut C s'.heap h'→∃ H',Inv X pins σ H' { s' with heap:=h' }∧H' C=none∧Q (.ref D) H')→RR (.ref D) C (.ok .next) s') :
  wpAny (model X.prog X.w) X.A (newList []) (fun acc s₃=>wpAny (model X.prog X.w) X.A (newFunctionEnv scope X.env.globals (clGo X.env scope.names []) [] X.env.qual none .none (some X.env)) (fun cenv s₄=>
   codeAny (model X.prog X.w) X.A (.compStart (.ListComp elt [⟨tg,iter,ifs,0⟩] scope pos) 0 (.ref it) acc { cenv with scope:=relabel scope X.env }) (RR acc cenv.locals) s₄) X.xe s₃) X.xe s2:=by
 refine wpAny_newObj_type (wpAny_newFunctionEnv B.ncell (by intro y hy; simp at hy) (fun h₁ hns₁ hsb₁=>?_) B.kind);dsimp only at hns₁ hsb₁ ⊢;generalize hH2:s2.heap.push { cls:=.type "list", dict:=none,data:=.seq ([]:List Value).toArray }=Hh at hns₁ hsb₁ ⊢;have hC:Hh.objs.size=s2.heap.objs.size+1:=by rw[← hH2,Heap.size_push]
 have hDC:s2.heap.objs.size≠Hh.objs.size:=by rw[hC]; exact ne_of_lt (Nat.lt_succ_self _)
 have hCle:s2.heap.objs.size≤Hh.objs.size:=by rw[hC]; exact Nat.le_succ _
 have below:∀ b,b<s2.heap.objs.size→b≠Hh.objs.size∧b≠s2.heap.objs.size:=fun b hb=>⟨by rw[hC]; exact ne_of_lt (Nat.lt_succ_of_lt hb),ne_of_lt hb⟩;have old:∀ b o,s2.heap.get? b=some o→h₁.get? b=some o:=fun b o e=>hsb₁.extBut b o (below b (lt_size e)).1 (get?_push_of_some _ (hH2▸get?_push_of_some _ e));have hacc:h₁.get? s2.heap.objs.size=some (listO [] 0):=hsb₁.extBut _ _ hDC (get?_push_of_some _ (hH2▸get?_push_size _ rfl));have flt:∀ b∈fp,b<s2.heap.objs.size:=fun b hb=>by obtain⟨o,e,_⟩:=T.obj 0 _ st2 b hb; exact lt_size e
 have fresh:∀ a,s2.heap.objs.size≤a→s2.heap.get? a=none:=fun a ha=>by
  cases e:s2.heap.get? a with
  | none=>rfl
  | some o'=>exact absurd (lt_size e) (not_lt.mpr ha)
 have ftk:∀{H':Hp} {pl:List (Addr×Obj)},(∀ b∈fp,H' b=none)→(∀ p∈pl,p.1∉fp)→∀ b∈fp,FpOk (cxBlk X N scope Hh.objs.size s2 H2 fp) pl H' b:=fun{H' pl} hn hp b hb=>
  ⟨hn b hb,(below b (flt b hb)).1,fun z=>by
   rcases mem_cons.mp (I2.stkSub b z) with z|z
   ·exact(f2 b hb).2.1 z
   ·exact(f2 b hb).2.2.1 z,.inl hb,fun x c e=>(f2 b hb).2.2.2.2.1 x c (clGo_sub _ _ (B.cells I2) (fun x c e=>by simp at e) x c e),fun p hp' z=>hp p hp' (z▸hb)⟩
 have Dfp:s2.heap.objs.size∉fp:=fun hm=>lt_irrefl _ (flt _ hm);have Dfs:s2.heap.objs.size∉frs X.stack:=fun z=>by
  rcases mem_cons.mp (I2.stkSub _ z) with z|z
  ·exact lt_irrefl _ (z▸I2.lt)
  ·exact I2.nofs (le_refl _) z
 have Dcell:∀ x c,(clGo X.env scope.names []).lookup x=some c→c≠s2.heap.objs.size:=fun x c e z=>by
  obtain⟨v,q⟩:=I2.cell x c (clGo_sub _ _ (B.cells I2) (fun x c e=>by simp at e) x c e);exact lt_irrefl _ (z▸q.lt)
 have Iblk:Inv (cxBlk X N scope Hh.objs.size s2 H2 fp) [] (blk nt fv σ) H2 { s2 with heap:=h₁,toks:=s2.toks+([]:List (Str×Value)).length }:=blk_inv B I2 hCle f2 flt old ⟨_,hns₁⟩;have pinD:∀{s':Shared} {H':Hp} {σ':St} {its:List Value} {n:Nat} {pl:List (Addr×Obj)},Inv (cxBlk X N scope Hh.objs.size s2 H2 fp) pl σ' H' s'→s'.heap.get? s2.heap.objs.size=some (listO its n)→H' s2.heap.objs.size=none →
   Inv (cxBlk X N scope Hh.objs.size s2 H2 fp) [(s2.heap.objs.size,listO its n)] σ' H' s':=fun I e hn=>I.pins_of fun p hp=>by
  rw[mem_singleton.mp hp];exact⟨e,hn,hDC,Dfs,fun v z=>by cases z⟩
 have loop:∀ s₃:Shared,s₃={ s2 with heap:=h₁,toks:=s2.toks+([]:List (Str×Value)).length } →
   codeAny (model X.prog X.w) X.A (.compLoop (.ListComp elt [⟨tg,iter,ifs,0⟩] scope pos) 0 (.ref it) (.ref s2.heap.objs.size) (compEnvC scope (clGo X.env scope.names []) Hh.objs.size X.env)) (RR (.ref s2.heap.objs.size) Hh.objs.size) s₃:=by
  rintro s₃ rfl;refine compLoop_any (fun n s'=>∃ i ys its k H',Inv (cxBlk X N scope Hh.objs.size s2 H2 fp) [(s2.heap.objs.size,listO its k)] (blk nt fv σ) H' s'∧tn i s'.heap∧(∀ b∈fp,H' b=none)∧W i n ys H'∧Vals ys its) ?_ m0
   ⟨0,[],[],0,H2,pinD Iblk hacc (I2.hok.fresh (le_refl _)),T.keep _ _ _ st2 fun b _ o e=>old b o e,fun b hb=>(f2 b hb).1,w0,.nil⟩
  rintro n s' ⟨i,ys,its,k,H',I',st',fr',w',vs'⟩;obtain⟨pd,pn,_,_,_⟩:=I'.pin (s2.heap.objs.size,listO its k) (by exact mem_cons_self);have pfp:∀{o:Obj},∀ p∈[(s2.heap.objs.size,o)],p.1∉fp:=fun p hp=>by rw[mem_singleton.mp hp]; exact Dfp
  rcases turn i n ys H' w' with⟨stop,hz,q⟩|⟨go,hz,step⟩
  ·refine wpAny_mono (T.done (cxBlk X N scope Hh.objs.size s2 H2 fp) rfl rfl rfl hc i _ s' _ H' (fun _ _=>False) I' (ftk fr' pfp) st' stop) (fun r s1 ⟨hr,I1⟩=>?_) fun _ _ f=>f;subst hr;obtain⟨pd1,pn1,_,_,_⟩:=I1.pin (s2.heap.objs.size,listO its k) (by exact mem_cons_self);obtain⟨m,hm,_⟩:=I1.loc;refine hR _ _ s1 hCle ⟨m,hm⟩ fun h' sb=>⟨upd H' s2.heap.objs.size (.lst ys),?_,by rw[aR (Ne.symm hDC)]; exact I1.free,q _ pn1⟩;have keepT:∀ b u,H' b=some u→b≠Hh.objs.size:=fun b u e z=>by
    have e0:H' Hh.objs.size=none:=I1.free;rw[z,e0] at e
    cases e
   have kept:∀ b o,b≠Hh.objs.size→s1.heap.get? b=some o→h'.get? b=some o:=fun b o hb e=>sb.extBut b o hb e;have un:=I1.base;refine I2.call' (s':={ s1 with heap:=h' }) (ch:=fp) I1.os ⟨fun b o e hn hb hx=>?_,fun b o e hn hb hx=>?_,fun b o e hn hx=>?_,fun b o e hx=>?_,fun b xs e=>?_,fun b o u e=>?_,fun b ps e=>?_⟩ ?_ I1.bare fun b hb=>?_
   ·exact kept b o (below b (lt_size e)).1 (un.keep b o e hn hb hx)
   ·obtain⟨sl,e1⟩:=un.slot b o e hn hb hx;exact⟨sl,kept b _ (below b (lt_size e)).1 e1⟩
   ·rw[aR (below b (lt_size e)).2];exact un.free b o e hn hx
   ·obtain⟨o',e1⟩:=un.there b o e hx;exact⟨o',kept b o' (below b (lt_size e)).1 e1⟩
   ·have e1:=un.tups b xs e;rw[aR (aZ e1 pn1)];exact e1
   ·have e1:=un.frzs b o u e;rw[aR (aZ e1 pn1)];exact e1
   ·obtain⟨mo,e1⟩:=un.tbls b ps e;exact⟨mo,by rw[aR (aZ e1 pn1)]; exact e1⟩
   ·intro b u e
    by_cases hb:b=s2.heap.objs.size
    ·subst hb;rw[aO] at e
     cases e
     exact⟨hz,its,k,vs',kept _ _ hDC pd1⟩
    ·rw[aR hb] at e;refine(I1.hok b u e).stay (fun c v hc' q'=>kept c v ?_ q') (fun c q'=>by rw[aR (aZ q' pn1)]; exact q') fun c xs q'=>by rw[aR (aZ q' pn1)]; exact q'
     rcases hc' with z|z
     ·rw[z]; exact keepT b u e
     ·exact keepT c _ z
   ·exact⟨(f2 b hb).2.2.2.1,(f2 b hb).2.1,(f2 b hb).2.2.2.2.1,(f2 b hb).2.2.2.2.2⟩
  ·refine wpAny_mono (T.item (cxBlk X N scope Hh.objs.size s2 H2 fp) rfl rfl rfl hc i _ s' _ H' (fun _ _=>False) I' (ftk fr' pfp) st' go) (fun r s3 ⟨u,hr,h3⟩=>?_) fun _ _ f=>f;subst hr;refine wpAny_mono h3 (fun _ s4 ⟨x,H4,I4,r4,y4,st4,fr4⟩=>?_) fun _ _ f=>f;have I4':=I4.pinned (ftk fr4 pfp) (T.obj _ _ st4);refine wpAny_mono (hg Hh.objs.size s2 H2 fp _ s4 _ H4 x u _ I4' r4 (step x H4 y4)) (fun _ s5 ⟨σ5,H5,I5,x5,q5⟩=>?_) fun _ _ f=>f;refine wpAny_mono (ht Hh.objs.size s2 H2 fp _ s5 σ5 H5 _ I5 q5) (fun b s6 ⟨H6,I6,q6⟩=>?_) fun _ _ f=>f;have weak:∀{s':Shared} {H':Hp} {pl:List (Addr×Obj)},Inv (cxBlk X N scope Hh.objs.size s2 H2 fp) pl σ5 H' s'→Inv (cxBlk X N scope Hh.objs.size s2 H2 fp) pl (blk nt fv σ) H' s':=by
    intro s' H' pl I;refine I.weak ((blk_inv B I2 hCle f2 flt old ⟨_,hns₁⟩ (tk:=0)).len.trans I.len.symm) fun j v e=>?_
    by_cases hj:nt≤j
    ·rw[x5 j hj]; exact e
    ·unfold blk at e;rw[getElem?_append_left (by simpa using hj),getElem?_replicate] at e
     split at e<;>cases e
   have pnew:∀{s':Shared} {H':Hp} {σ':St},Inv (cxBlk X N scope Hh.objs.size s2 H2 fp) ([(s2.heap.objs.size,listO its k)]++pinsAt fp s4.heap) σ' H' s' →
     s'.heap.get? s2.heap.objs.size=some (listO its k)∧H' s2.heap.objs.size=none∧tn (i+1) s'.heap∧∀ b∈fp,H' b=none:=fun{s' H' σ'} I=>by
    obtain⟨p1,p2,_⟩:=I.pin (s2.heap.objs.size,listO its k) (by exact mem_cons_self);refine⟨p1,p2,T.keep _ _ _ st4 fun b hb o e=>(I.pin (b,o) (mem_append_right _ (mem_append_right _ (mem_pinsAt hb e)))).1,fun b hb=>?_⟩;obtain⟨o,e,d⟩:=T.obj _ _ st4 b hb;exact(I.pin (b,o) (mem_append_right _ (mem_append_right _ (mem_pinsAt hb e)))).2.1
   cases b with
   | false=>
    obtain⟨m',hm,w6⟩:=q6;obtain⟨p1,p2,p3,p4⟩:=pnew I6;exact⟨m',hm,i+1,ys,its,k,H6,weak (pinD I6 p1 p2),p3,p4,w6,vs'⟩
   | true=>
    refine wpAny_mono (he Hh.objs.size s2 H2 fp _ s6 σ5 H6 _ I6 q6) (fun v s7 ⟨y,H7,I7,r7,q7⟩=>?_) fun _ _ f=>f;obtain⟨m',hm,w7⟩:=q7;obtain⟨p1,p2,p3,p4⟩:=pnew I7;have hl:=vs'.length;refine wpAny_list_append_plain (l:=s2.heap.objs.size) (items:=its.toArray) ⟨k,p1⟩ (fun h8 pl8 sb8=>?_) (by rw[size_toArray]; omega);obtain⟨k8,e8⟩:=pl8;have e8':h8.get? s2.heap.objs.size=some (listO (its++[v]) k8):=by
     rw[e8];unfold listO;simp
    have I7':=(weak I7).pins_of (pins':=[]) fun p hp=>(nomatch hp);have I8:Inv (cxBlk X N scope Hh.objs.size s2 H2 fp) [] (blk nt fv σ) H7 { s7 with heap:=h8 }:=I7'.turned (t':=s7.toks) (it:=s2.heap.objs.size) (fun b o hb e=>(sb8.2 b hb).trans e) p2 hDC (.inr (le_refl _)) Dcell (fun p hp=>(nomatch hp));exact⟨m',hm,i+1,ys++[y],its++[v],k8,H7,pinD I8 e8' p2,T.keep _ _ _ p3 fun b hb o e=>(sb8.2 b (fun z=>Dfp (z▸hb))).trans e,p4,w7,vs'.append (.cons r7 .nil)⟩
 exact codeAny_compStart_list (loop _ rfl) (T.self X.A 0 _ _ _ (T.keep _ _ _ st2 fun b _ o e=>old b o e) (loop _ rfl))
theorem pe_lcomp (hc:X.calm=true)(B:BlkOk X N scope nt fv)(hi:PI X tg iter wi)
  (hg:∀ C s₀ H₀ ex,PG (cxBlk X N scope C s₀ H₀ ex) tg g) (ht:∀ C s₀ H₀ ex,PTs (cxBlk X N scope C s₀ H₀ ex) ifs ti) (he:∀ C s₀ H₀ ex,PE (cxBlk X N scope C s₀ H₀ ex) elt te)
  (hs:∀ x,foldedSetIterable iter X.env x=pure x:=by intro _; rfl):PE X (.ListComp elt [⟨tg,iter,ifs,0⟩] scope pos) (tComp nt fv wi g ti te):=by
 intro pins s σ H Q I h;rw[eval_ListComp];refine wpAny_comprehension_free (use:=none) rfl hs (clos_of (B.cells I)) B.kind B.names (thn (hi pins s σ H _ I h) fun xv s1 h1=>thn h1 fun itv s2 h2=>?_);obtain⟨it,fp,tn,J,H2,rfl,I2,T,st2,f2,W,⟨m0,w0⟩,turn⟩:=h2;refine comp_run hc B hg ht he I2 T st2 f2 w0 turn (RR:=fun acc C=>compPost (model X.prog X.w) X.A X.xe none (EP X pins σ Q) acc C) fun D C s' hC hn hq=>?_;obtain⟨m,hm⟩:=hn;refine⟨m,hm,fun h' sb=>?_⟩;obtain⟨H',I',_,q'⟩:=hq h' sb;exact⟨.ref D,H',I',rfl,q'⟩
end
end L2
namespace L2
open PySem PySem.Spec PyProof.Rows
def relS (scope osc:Scope):List (Str×NameKind):=scope.names.map fun(n,k)=>if (k==.free&&osc.kind==.function&&osc.names.lookup n==some .cell) then(n,.cell) else(n,k)
def blkC (osc:Scope)(ON N:List Str)(scope:Scope)(nt:Nat)(fv:List Nat):Bool:=
 scope.kind==.function&&scope.names.all (fun y=>y.2 != .cell)&&scope.names.all (fun y=>y.2 != .local||scope.names.lookup y.1==some .local) &&
 scope.names.all (fun y=>y.2 != .free||osc.names.lookup y.1==some .cell)&&N.length==nt+fv.length &&
 (List.range fv.length).all fun i=>match N[nt+i]?,fv[i]? with
  | some x,some j=>ON[j]?==some x&&osc.names.lookup x==some .cell&&(relS scope osc).lookup x==some .cell
  | _,_=>false
theorem blk_of {X:Cx}{osc:Scope}{ON N:List Str}{scope:Scope}{nt:Nat}{fv:List Nat}(h:blkC osc ON N scope nt fv=true)(e1:X.env.scope=osc:=by rfl)(e2:X.N=ON:=by rfl):BlkOk X N scope nt fv:=by
 subst e1 e2;unfold blkC at h;simp only[and_eq_true,all_eq_true,Bool.or_eq_true,bne_iff_ne,ne_eq,beq_iff_eq] at h;obtain⟨⟨⟨⟨⟨h1,h2⟩,h3⟩,h4⟩,h5⟩,h6⟩:=h;refine⟨h1,h2,fun y hy e=>?_,fun y hy e=>?_,h5,fun i x e=>?_⟩
 ·rcases h3 y hy with z|z
  ·exact absurd e z
  ·exact z
 ·rcases h4 y hy with z|z
  ·exact absurd e z
  ·exact z
 ·have hi:i<fv.length:=by
   have:=(List.getElem?_eq_some_iff.mp e).1;omega
  have q:=h6 i (mem_range.mpr hi);rw[e,getElem?_eq_getElem hi] at q;simp only[and_eq_true,beq_iff_eq] at q;obtain⟨⟨q1,q2⟩,q3⟩:=q;exact⟨fv[i],getElem?_eq_getElem hi,q1,q2,q3⟩
end L2
namespace L2.VS
open PySem PySem.Spec PyProof.Rows
section
variable {P0:Addr→Hp→Prop}
def mTrue:MT:=fun Γ Q=>Q true Γ
theorem vtt_true:VTT P0 tTrue mTrue:=fun _ _ _ _ _ _ _ r m k=>k _ _ _ _ m (Same.refl _) r
def blkS:Option Sl→Sl
 | some (.val d)=>.val d
 | some .pen=>.pen
 | some (.pub B)=>.pub B
 | _=>.no
def blkE (nt:Nat)(fv:List Nat)(Γ:En):En:=List.replicate nt .no++fv.map fun j=>blkS Γ[j]?
def compL (g:MG)(t:MT)(e:ME)(Γb:En):List D→List D→(List D→Prop)→Prop
 | [],acc,Q=>Q acc
 | d::ds,acc,Q=>g d Γb fun Γ1=>t Γ1 fun b Γ2=>if b=true then e Γ2 fun v _=>compL g t e Γb ds (acc++[v]) Q else compL g t e Γb ds acc Q
def mComp (nt:Nat)(fv:List Nat)(mi:MD)(g:MG)(t:MT)(e:ME):MO:=fun Γ Q=>mi Γ fun ds Γ1=>ds.length≤1000∧compL g t e (blkE nt fv Γ1) ds [] fun out=>Q (.own out) Γ1
theorem blk_R {F:Fra P0}{Γ:En}{σ:St}{G H G' H':Hp}{nt:Nat}{fv:List Nat}(r:R F Γ σ G H)(rf:Rf (F.sub r.fr) G' H')(s:Same G G'):R (F.sub r.fr) (blkE nt fv Γ) (blk nt fv σ) G' H':=by
 have at_:∀{i:Nat} {sl:Sl},(blkE nt fv Γ)[i]?=some sl→sl≠.no→∃(j:Nat) (s0:Sl),Γ[j]?=some s0∧sl=blkS (some s0)∧(blk nt fv σ)[i]?=some ((σ[j]?).getD none):=by
  intro i sl e hn;unfold blkE at e
  by_cases hi:i<nt
  ·rw[getElem?_append_left (by simpa using hi),getElem?_replicate] at e;rw[if_pos hi] at e
   cases e
   exact absurd rfl hn
  ·rw[getElem?_append_right (by simpa using hi),length_replicate,getElem?_map] at e
   cases ej:fv[i-nt]? with
   | none=>rw[ej] at e; cases e
   | some j=>
    rw[ej] at e;have e':blkS Γ[j]?=sl:=Option.some.inj e
    cases es:Γ[j]? with
    | none=>rw[es] at e'; exact absurd e'.symm hn
    | some s0=>
     rw[es] at e';refine⟨j,s0,es,e'.symm,?_⟩;unfold blk;rw[getElem?_append_right (by simpa using hi),length_replicate,getElem?_map,ej];rfl
 refine R.of rf (by simp[blkE,blk]) (fun i sl e=>?_) (fun i B e=>?_) (fun i j x y _ e=>?_)
 ·cases sl with
  | no=>trivial
  | val d=>
   obtain⟨j,s0,h1,h2,h3⟩:=at_ e (by intro z; cases z)
   cases s0 with
   | val d0=>
    cases h2
    obtain⟨v,e1,d1⟩:=r.sl j _ h1;rw[e1] at h3;exact⟨v,h3,Dt.same s _ _ d1⟩
   | _=>cases h2
  | own ds=>
   obtain⟨j,s0,h1,h2,h3⟩:=at_ e (by intro z; cases z)
   cases s0<;>cases h2
  | pen=>
   obtain⟨j,s0,h1,h2,h3⟩:=at_ e (by intro z; cases z)
   cases s0 with
   | pen=>
    obtain⟨p,e1,e2⟩:=r.sl j _ h1;rw[e1] at h3;exact⟨p,h3,e2⟩
   | _=>cases h2
  | con q=>
   obtain⟨j,s0,h1,h2,h3⟩:=at_ e (by intro z; cases z)
   cases s0<;>cases h2
  | pub B=>
   obtain⟨j,s0,h1,h2,h3⟩:=at_ e (by intro z; cases z)
   cases s0 with
   | pub B'=>
    cases h2
    obtain⟨v,e1,e2⟩:=r.sl j _ h1;rw[e1] at h3;exact⟨v,h3,B.mono s e2⟩
   | _=>cases h2
  | box B=>
   obtain⟨j,s0,h1,h2,h3⟩:=at_ e (by intro z; cases z)
   cases s0<;>cases h2
 ·obtain⟨j,s0,h1,h2,h3⟩:=at_ e (by intro z; cases z)
  cases s0<;>cases h2
 ·obtain⟨j,s0,h1,h2,h3⟩:=at_ e (by intro z; cases z)
  cases s0<;>cases h2
theorem vo_comp {nt:Nat}{fv:List Nat}{wi:TI}{g:TG}{ti:TT}{te:TE}{mi:MD}{mg:MG}{mt:MT}{me:ME}(hi:VI P0 wi mi)(hg:VG P0 (fun i=>decide (i<nt)) g mg)(ht:VTT P0 ti mt)(he:VT P0 te me) :
  VO P0 (tComp nt fv wi g ti te) (mComp nt fv mi mg mt me):=by
 intro F Γ σ G H Q Qm r m k;refine hi F Γ σ G H _ _ r m fun ds Γ1 J G1 H1 m1 s1 r1 wk=>?_;obtain⟨hsz,m1⟩:=m1;refine⟨fun i n ys H2=>n=ds.length-i∧i≤ds.length∧ys.length≤i∧∃ G2 out,Rf (F.sub r1.fr) G2 H2∧Same G1 G2∧Dts G2 ys out∧compL mg mt me (blkE nt fv Γ1) (ds.drop i) out fun out=>Qm (.own out) Γ1,
  ⟨ds.length,by simp,zero_le _,zero_le _,G1,[],F.subRf r1.fr,Same.refl _,.nil,by simpa using m1⟩,?_⟩
 rintro i n ys H2 ⟨rfl,hle,hy,G2,out,rf2,s2,d2,m2⟩;have rb:=blk_R (nt:=nt) (fv:=fv) r1 rf2 s2;obtain⟨go,stop⟩:=wk (F.sub r1.fr) _ _ G2 H2 s2 rb;have small:ys.length≤sizeLine:=small_le (by omega)
 by_cases hlt:i<ds.length
 ·refine .inr ⟨(go i ds[i] (by simp[hlt])).1,small,fun x H' hyl=>?_⟩;obtain⟨G3,s3,r3,d3⟩:=(go i ds[i] (by simp[hlt])).2 x H' hyl;rw[List.drop_eq_getElem_cons hlt] at m2;refine hg (F.sub r1.fr) _ _ G3 H' x _ _ _ r3 d3 m2 fun Γ4 σ4 m4 r4 e4=>⟨fun j hj=>e4 j (decide_eq_false (by omega)),?_⟩;refine ht (F.sub r1.fr) _ _ G3 H' _ _ r4 m4 fun b Γ5 G5 H5 m5 s5 r5=>?_
  cases b with
  | true=>
   refine iteT (he (F.sub r1.fr) _ _ G5 H5 _ _ r5 m5 fun d Γ6 v G6 H6 m6 s6 r6 d6=>?_);refine⟨ds.length-(i+1),by omega,rfl,hlt,by rw[length_append,List.length_singleton]; omega,G6,out++[d],r6.fr,((s2.trans s3).trans s5).trans s6,?_,m6⟩;exact(Dts.same ((s3.trans s5).trans s6) _ _ d2).app (.cons d6 .nil)
  | false=>
   refine iteF ?_;exact⟨ds.length-(i+1),by omega,rfl,hlt,by omega,G5,out,r5.fr,(s2.trans s3).trans s5,Dts.same (s3.trans s5) _ _ d2,m5⟩
 ·have e:i=ds.length:=by omega
  subst e;rw[List.drop_length] at m2;refine .inl ⟨stop,small,fun p hp=>?_⟩;obtain⟨r7,s7⟩:=r1.after rf2;obtain⟨a,b,c⟩:=own_new r7 hp d2;exact k _ _ _ _ _ m2 (s1.trans s7) a b c
theorem i_comp {nt:Nat}{fv:List Nat}{mi:MD}{mg:MG}{mt:MT}{me:ME}{Γ:En}{Q:Rv→En→Prop}(h:mi Γ fun ds Γ1=>ds.length≤1000∧compL mg mt me (blkE nt fv Γ1) ds [] fun out=>Q (.own out) Γ1):mComp nt fv mi mg mt me Γ Q:=h
theorem comp_fm {α:Type}{mg:MG}{mt:MT}{me:ME}{Γb:En}(p:α→Bool)(f:α→D)(enc:α→D):∀(xs:List α) (acc:List D) (Q:List D→Prop),
  (∀ x∈xs,∀(K:List D→Prop) (k:D→Prop) (k0:Prop),(p x=true→k (f x))→(p x=false→k0)→mg (enc x) Γb fun Γ1=>mt Γ1 fun b Γ2=>if b=true then me Γ2 fun v _=>k v else k0) →
  Q (acc++(xs.filter p).map f)→compL mg mt me Γb (xs.map enc) acc Q
 | [],acc,Q,_,q=>by simpa [compL] using q
 | x::xs,acc,Q,h,q=>by
  show mg (enc x) Γb fun Γ1=>mt Γ1 fun b Γ2=>if b=true then me Γ2 fun v _=>compL mg mt me Γb (xs.map enc) (acc++[v]) Q else compL mg mt me Γb (xs.map enc) acc Q
  refine h x mem_cons_self Q (fun v=>compL mg mt me Γb (xs.map enc) (acc++[v]) Q) _ (fun hp=>?_) fun hp=>?_
  ·refine comp_fm p f enc xs _ Q (fun y hy=>h y (mem_cons_of_mem _ hy)) ?_;simpa [List.filter_cons,hp,append_assoc] using q
  ·refine comp_fm p f enc xs _ Q (fun y hy=>h y (mem_cons_of_mem _ hy)) ?_;simpa [List.filter_cons,hp] using q
end
end L2.VS
namespace L2
open PySem PySem.Spec PyProof.Rows
section
variable {X:Cx}
end
end L2
namespace L2.VS
open PySem PySem.Spec PyProof.Rows
section
variable {P0:Addr→Hp→Prop}
end
end L2.VS
namespace L2
open PySem PySem.Spec PyProof.Rows
section
variable {X:Cx}
def bAt (ys:List V)(i:Nat):Bool:=match ys[i]? with
 | some (.bl b)=>b
 | _=>false
def isBl:V→Bool
 | .bl _=>true
 | _=>false
theorem truth_bl {A:Around}{ys:List V}{its:List Value}(r:Vals ys its)(hb:ys.all isBl=true):TruthOf X.prog X.w A (fun i v=>its.toArray[i]?=some v) (bAt ys):=by
 intro i v s Q E hP hq;have hv:its[i]?=some v:=by simpa using hP
 have hi:i<ys.length:=by
  have:=(List.getElem?_eq_some_iff.mp hv).1;rw[r.length]; exact this
 obtain⟨u,hu,ru⟩:=r.get (getElem?_eq_getElem hi);rw[hv] at hu
 cases hu
 have hbl:=all_eq_true.mp hb ys[i] (getElem_mem hi);unfold bAt at hq;rw[getElem?_eq_getElem hi] at hq
 cases e:ys[i] with
 | bl b=>
  rw[e] at ru hq
  cases ru
  exact wpAny_truthy_bool hq
 | _=>rw[e] at hbl; cases hbl
theorem range_all (ys:List V)(bs:List Bool)(h:ys=bs.map V.bl):(List.range ys.length).all (bAt ys)=bs.all id:=by
 subst h;rw[Bool.eq_iff_iff,all_eq_true,all_eq_true];constructor
 ·intro h b hb;obtain⟨i,hi,e⟩:=List.mem_iff_getElem.mp hb;have q:=h i (mem_range.mpr (by simpa using hi));unfold bAt at q;rw[getElem?_map,getElem?_eq_getElem hi,e] at q;exact q
 ·intro h i hi;have hi':i<bs.length:=by simpa using mem_range.mp hi
  unfold bAt;rw[getElem?_map,getElem?_eq_getElem hi'];exact h _ (getElem_mem hi')
theorem range_any (ys:List V)(bs:List Bool)(h:ys=bs.map V.bl):(List.range ys.length).any (bAt ys)=bs.any id:=by
 subst h;rw[Bool.eq_iff_iff,List.any_eq_true,List.any_eq_true];constructor
 ·rintro⟨i,hi,q⟩
  have hi':i<bs.length:=by simpa using mem_range.mp hi
  unfold bAt at q;rw[getElem?_map,getElem?_eq_getElem hi'] at q;exact⟨bs[i],getElem_mem hi',q⟩
 ·rintro⟨b,hb,q⟩
  obtain⟨i,hi,e⟩:=List.mem_iff_getElem.mp hb;refine⟨i,mem_range.mpr (by simpa using hi),?_⟩;unfold bAt;rw[getElem?_map,getElem?_eq_getElem hi,e];exact q
theorem all_bl (bs:List Bool):(bs.map V.bl).all isBl=true:=by simp[isBl]
theorem consume (hc:X.calm=true){pins:List (Addr×Obj)}{σ:St}{H:Hp}{s:Shared}{p:Addr}{bs:List Bool}{f:(Nat→Bool)→List Nat→Bool}{Q:Value→Shared→Prop}(I:Inv X pins σ H s)(hx:SqL X.K H p (bs.map V.bl))
  (h:∀ s',Inv X pins σ H s'→Q (.bool (f (bAt (bs.map V.bl)) (List.range (bs.map V.bl).length))) s') :
  wpAny (model X.prog X.w) X.A.in1 (pyIter (.ref p)) (fun it s₂=>∃ I fp wr n P St tr,it=.ref I∧Walks X.prog X.w X.A.in1 I fp wr n P St∧St 0 s₂.heap∧TruthOf X.prog X.w X.A.in1 P tr ∧
   ∀ h' tk,(∀ b o,b∉wr→s₂.heap.get? b=some o→h'.get? b=some o)→Q (.bool (f tr (List.range n))) { s₂ with heap:=h',toks:=tk }) X.xe s:=by
 obtain⟨its,r,ht,hz⟩:=I.list hx;have hlt:p<s.heap.objs.size:=by
  obtain⟨o,ho,_⟩:=ht.isList;exact lt_size ho
 refine wpAny_pyIter_list ht.isList ?_;refine⟨s.heap.objs.size,_,_,_,_,_,bAt (bs.map V.bl),rfl,Walks.list (A:=X.A.in1) (show X.A.in1.handled=none from I.ok.hd hc) s.heap.objs.size p (ne_of_lt hlt) its.toArray,⟨⟨_,get?_push_size _ rfl,rfl,rfl⟩,?_⟩,truth_bl r (all_bl bs),fun h' tk hk=>?_⟩
 ·obtain⟨o,ho,q⟩:=ht.isList;exact⟨o,get?_push_of_some _ ho,q⟩
 ·have hl:its.toArray.size=(bs.map V.bl).length:=by rw[size_toArray]; exact r.length.symm
  rw[hl];refine h _ (I.kept (h':=h') (t':=tk) fun b o e=>hk b o (by simp; exact ne_of_lt (lt_size e)) (get?_push_of_some _ e))
theorem call_allL (hc:X.calm=true):CallR X (.builtin "all") (fun xs H Q=>∃(p:Addr) (bs:List Bool),xs=[.ref p]∧SqL X.K H p (bs.map V.bl)∧Q (.bl (bs.all id)) H):=by
 intro pins s σ H xs us Q I r h;obtain⟨p,bs,rfl,hx,q⟩:=h;obtain⟨u,rfl,ru⟩:=vals1 r
 cases ru
 exact call_all_walk (consume (f:=fun tr l=>l.all tr) hc I hx fun s' I'=>⟨.bl _,H,I',rfl,by rw[range_all _ bs rfl]; exact q⟩)
theorem call_anyL (hc:X.calm=true):CallR X (.builtin "any") (fun xs H Q=>∃(p:Addr) (bs:List Bool),xs=[.ref p]∧SqL X.K H p (bs.map V.bl)∧Q (.bl (bs.any id)) H):=by
 intro pins s σ H xs us Q I r h;obtain⟨p,bs,rfl,hx,q⟩:=h;obtain⟨u,rfl,ru⟩:=vals1 r
 cases ru
 exact call_any_walk (consume (f:=fun tr l=>l.any tr) hc I hx fun s' I'=>⟨.bl _,H,I',rfl,by rw[range_any _ bs rfl]; exact q⟩)
end
end L2
namespace L2.VS
open PySem PySem.Spec PyProof.Rows
section
variable {P0:Addr→Hp→Prop}
def boolsD:List D→Option (List Bool)
 | []=>some []
 | .bool b::ds=>(boolsD ds).map (b::·)
 | _::_=>none
theorem boolsD_map (bs:List Bool):boolsD (bs.map PyData.bool)=some bs:=by
 induction bs with
 | nil=>rfl
 | cons b bs ih=>show(boolsD (bs.map PyData.bool)).map (b::·)=_; rw[ih]; rfl
theorem bools_vals {G:Hp}:∀{vs:List V} {ds:List D} {bs:List Bool},Dts G vs ds→boolsD ds=some bs→vs=bs.map V.bl
 | _,_,_,.nil,e=>by cases e; rfl
 | _,d::ds,bs,.cons a b,e=>by
  cases a with
  | bl c=>
   show _;have e':(boolsD ds).map (c::·)=some bs:=e
   cases e2:boolsD ds with
   | none=>rw[e2] at e'; cases e'
   | some cs=>
    rw[e2] at e'
    cases e'
    rw[bools_vals b e2];rfl
  | _=>cases e
def mBs (f:List Bool→Bool)(ma:ME):ME:=fun Γ Q=>ma Γ fun x Γ1=>match x with
 | .list ds=>(match boolsD ds with
  | some bs=>Q (.bool (f bs)) Γ1
  | none=>False)
 | _=>False
abbrev mAll:=mBs fun bs=>bs.all id
abbrev mAny:=mBs fun bs=>bs.any id
theorem vt_bs {K:Fg}{f:List Bool→Bool}{ta:TE}{ma:ME}(ha:VT P0 ta ma):VT P0 (tCB (fun xs H Q=>∃(p:Addr) (bs:List Bool),xs=[.ref p]∧SqL K H p (bs.map V.bl)∧Q (.bl (f bs)) H) (cO ta tNil)) (mBs f ma):=by
 intro F Γ σ G H Q Qm r m k;refine ha F Γ σ G H _ _ r m fun d Γ1 x G1 H1 m1 s1 r1 d1=>?_
 split at m1
 ·split at m1
  ·rename_i bs e
   cases d1 with
   | @lst p xs _ hp rs=>
    refine⟨p,bs,rfl,SqL.of ?_,k _ _ _ _ _ m1 s1 r1 (.bl _)⟩;rw[← bools_vals rs e];exact r1.fr.sub _ _ hp
  ·exact m1.elim
 ·exact m1.elim
theorem vt_all {K:Fg}{ta:TE}{ma:ME}(ha:VT P0 ta ma):VT P0 (tCB (fun xs H Q=>∃(p:Addr) (bs:List Bool),xs=[.ref p]∧SqL K H p (bs.map V.bl)∧Q (.bl (bs.all id)) H) (cO ta tNil)) (mAll ma):=vt_bs ha
theorem vt_any {K:Fg}{ta:TE}{ma:ME}(ha:VT P0 ta ma):VT P0 (tCB (fun xs H Q=>∃(p:Addr) (bs:List Bool),xs=[.ref p]∧SqL K H p (bs.map V.bl)∧Q (.bl (bs.any id)) H) (cO ta tNil)) (mAny ma):=vt_bs ha
theorem i_bs {f:List Bool→Bool}{ma:ME}{Γ:En}{Q:D→En→Prop}(h:ma Γ fun x Γ1=>match x with|.list ds=>(match boolsD ds with|some bs=>Q (.bool (f bs)) Γ1|none=>False)|_=>False):mBs f ma Γ Q:=h
end
section
variable {P0:Addr→Hp→Prop}
end
section
def Pen2 (K:Fg)(pen a:Addr)(ns:List Int)(H:Hp):Prop:=∃ z k:Int,0≤z∧0≤k∧H pen=some (.lst [.int z,.int k,.ref a])∧SqL K H a (ns.map V.int)
theorem penS2 {K:Fg}{pen a:Addr}{ns:List Int}{z k:Int}{H H':Hp}(hp:H pen=some (.lst [.int z,.int k,.ref a]))(h:SqL K H a (ns.map V.int))(e:SameX pen H H'):SqL K H' a (ns.map V.int):=by
 rcases h with(h|⟨o,h⟩)|h
 ·refine .inl (.inl (e _ _ ?_ h));rintro rfl;rw[hp] at h;injection h with h;injection h with h;have h2:([V.int z,V.int k,V.ref a]:List V)[2]?=(ns.map V.int)[2]?:=by rw[h]
  rw[getElem?_map] at h2
  cases e2:ns[2]? with
  | none=>rw[e2] at h2; cases h2
  | some n=>rw[e2] at h2; cases h2
 ·refine .inl (.inr ⟨o,e _ _ ?_ h⟩);rintro rfl;rw[hp] at h
  cases h
 ·exact .inr h
def spTake2 (K:Fg):Sp:=fun vs H Q _=>∃ pen a ns,∃ m:Int,vs=[.ref pen,.int m]∧Pen2 K pen a ns H∧0<m∧m<1073741824∧∀(r:Int) H',0≤r→r<m→Pen2 K pen a ns H'→SameX pen H H'→Q (.int r) H'
def bN (K:Fg)(a:Addr)(ns:List Int):Addr→Hp→Prop:=fun p H=>Pen2 K p a ns H
theorem take_of2 {K:Fg}{a:Addr}{ns:List Int}:∀ vs H Q E,spM (bN K a ns) 2 mTake vs H Q E→spTake2 K vs H Q E:=by
 rintro vs H Q E ⟨F,as,Qm,rfl,rf,pr,hl,hm,q⟩;unfold mTake at hm
 split at hm
 ·rename_i m
  cases pr with
  | cons a1 b1=>
   cases b1 with
   | cons a2 b2=>
    cases b2
    obtain⟨p,rfl,ep⟩:=a1;have a2:Dt F.G0 _ (.int m):=a2
    cases a2
    refine⟨p,a,ns,m,rfl,rf.pn p ep,hm.1,hm.2.1,fun r H' h1 h2 hp hx=>?_⟩;refine q _ _ F.G0 H' (hm.2.2 r h1 h2) ⟨fun b o e=>hx b o (fun z=>?_) (rf.sub b o e),fun _ _ _=>rfl,fun b o e hb=>hx b o (fun z=>hb (by rw[z]; exact ep)) e,fun p' ep'=>?_⟩ (.int _)
    ·rw[z,F.pg p ep] at e; cases e
    ·rw[ep] at ep'; cases ep'; exact hp
 ·exact hm.elim
theorem pen_stab2 {K:Fg}{a:Addr}{ns:List Int}{pen:Addr}{H0:Hp}(h0:∃ o,H0 pen=some o)(hS:SqL K H0 a (ns.map V.int)):∀ H H',(∀ b o,H0 b=some o→H' b=H b)→bN K a ns pen H→bN K a ns pen H':=by
 rintro H H' h ⟨z,k,hz,hk,e,s⟩;obtain⟨o,e0⟩:=h0;refine⟨z,k,hz,hk,(h pen o e0).trans e,?_⟩;rcases hS with(q|⟨ob,q⟩)|q
 ·have ea:=h a _ q;rcases s with(s|⟨ob',s⟩)|s
  ·exact .inl (.inl (ea.trans s))
  ·exact .inl (.inr ⟨ob',ea.trans s⟩)
  ·exact .inr s
 ·have ea:=h a _ q;rcases s with(s|⟨ob',s⟩)|s
  ·exact .inl (.inl (ea.trans s))
  ·exact .inl (.inr ⟨ob',ea.trans s⟩)
  ·exact .inr s
 ·exact .inr q
theorem law_go2 {K:Fg}{a:Addr}{ns:List Int}{k:Nat}{t:TS}{b:MS}{H:Hp}{pen:Addr}{Q:VK}{nx:St→Hp→Prop}(h:VS (bN K a ns) t b)(hp:H pen=none)(hS:SqL K H a (ns.map V.int))
    (hb:b (.no::.pen::List.replicate k .no) TrueEnd) (q:∀ H',Q (.bl true) H') :
    t { nx:=nx,rt:=Q } (some (.ref a)::some (.ref pen)::List.replicate k none) (upd H pen (.lst [.int 0,.int 0,.ref a])):=by
  have g:=same_new hp (.lst [.int 0,.int 0,.ref a]);have hS':=g.seq hS
  let F:Fra (bN K a ns):=
    { H0:=upd H pen (.lst [.int 0,.int 0,.ref a])
      G0:=fun _=>none
      pen:=some pen
      stab:=fun p e=>by cases e; exact pen_stab2 ⟨_,aO⟩ hS'
      pin:=fun p e H1 h1=>by obtain⟨z,k,_,_,e1,_⟩:=h1; exact⟨_,e1⟩
      pin0:=fun p e=>by cases e; exact⟨_,aO⟩
      pg:=fun _ _=>rfl }
  refine h F (.no::.pen::List.replicate k .no) _ F.G0 _ _ TrueEnd (R.of ⟨fun b o e=>(nomatch e),fun _ _ _=>rfl,fun _ _ e _=>e,fun p e=>?_⟩ ?_ (fun i s e=>?_) (fun i B e=>?_) (fun i j x y _ e=>?_)) hb fun fl e=>?_
  · cases e
    exact⟨0,0,by decide,by decide,aO,hS'⟩
  · simp
  · match i with
    | 0=>cases e; trivial
    | 1=>cases e; exact⟨pen,rfl,rfl⟩
    | i+2=>
      have e':(List.replicate k Sl.no)[i]?=some s:=by simpa using e
      rw[getElem?_replicate] at e'
      split at e'
      · cases e'; trivial
      · cases e'
  · match i with
    | 0=>cases e
    | 1=>cases e
    | i+2=>
      have e':(List.replicate k Sl.no)[i]?=some (.box B):=by simpa using e
      rw[getElem?_replicate] at e'
      split at e'
      · cases e'
      · cases e'
  · match i with
    | 0=>cases e
    | 1=>cases e
    | i+2=>
      have e':(List.replicate k Sl.no)[i]?=some (.own x):=by simpa using e
      rw[getElem?_replicate] at e'
      split at e'
      · cases e'
      · cases e'
  · unfold TrueEnd at e;subst e;intro r G' H' _ _ hr;have hr:Dt G' r (.bool true):=hr
    cases hr
    exact q H'
theorem law_body2 {K:Fg}{a:Addr}{ns:List Int}{k:Nat}{b:MS}{H:Hp}{Q:VK}{nx:St→Hp→Prop}{X:Cx}{st:Stmt}{rest:List Stmt}{N:List Str}
  (h1:PS X st (tAsg (tLst (cO (tC (.int 0)) (cO (tC (.int 0)) (cO (tVar 0) tNil)))) (gName 1))) (h2:∃ t,PSs X rest t∧VS (bN K a ns) t b) (hN:N.length=k+2) (hS:SqL K H a (ns.map V.int))
  (hb:b (.no::.pen::List.replicate k .no) TrueEnd) (q:∀ H',Q (.bl true) H'):∃ t,PSs X (st::rest) t∧t { nx:=nx,rt:=Q } (start N [.ref a]) H:=by
 obtain⟨t,h2,h3⟩:=h2;refine⟨_,aC h1 h2,?_⟩;have e:start N [.ref a]=some (.ref a)::none::List.replicate k none:=by
  unfold start;rw[hN];rfl
 rw[e];refine⟨_,rfl,small_b rfl,fun pen hp=>?_⟩;exact law_go2 (t:=t) h3 hp hS hb q
end
section
variable {P0:Addr→Hp→Prop}{K:Fg}
end
end L2.VS
namespace L2
open PySem PySem.Spec PyProof.Rows
section
variable {X:Cx}
end
end L2
namespace L2.VS
open PySem PySem.Spec PyProof.Rows
section
variable {P0:Addr→Hp→Prop}{A:Nat→Bool}
end
end L2.VS
namespace PySem
open Sem (wp)
namespace F
end F
set_option hygiene false in
local macro_rules|`(tactic| walk_at "zr")=>`(tactic| (
 simp only[false_eq_true,if_false,List.forIn_toArray,forIn_cons,List.forIn_nil];refine wpAny_bind (wpAny_bind (wpAny_bind (wpAny_holding ?_)));show wpAny _ _ (Builtin.SmallTypes.nextOf (.ref i1) >>= _) _ _ _;refine wpAny_bind (wpAny_nextOf_list_item (h1.extBut hs₀.extBut D.i1z) (hl1.extBut hs₀.extBut D.l1z) hx fun h₂ h1₂ hs₂=>wpAny_pure ?_);refine wpAny_pure ?_;refine wpAny_bind (wpAny_bind (wpAny_holding ?_));show wpAny _ _ (Builtin.SmallTypes.nextOf (.ref i2) >>= _) _ _ _;refine wpAny_bind (wpAny_nextOf_list_item ((h2.extBut hs₀.extBut D.i2z).extBut hs₂.extBut D.i12.symm) ((hl2.extBut hs₀.extBut D.l2z).extBut hs₂.extBut D.l2i1) hy fun h₄ h2₄ hs₄=>wpAny_pure ?_);refine wpAny_pure (wpAny_pure ?_);show wpAny _ _ (newTuple [x,y] >>= _) _ _ _;refine wpAny_bind (wpAny_newTuple (wpAny_pure ⟨_,rfl,?_⟩))
 replace hs₂:Heap.SameBut i1 h₀ h₂:=hs₂
 replace hs₄:Heap.SameBut i2 h₂ h₄:=hs₄
 have hsz:h₄.objs.size=hp.objs.size:=by rw[hs₄.1,hs₂.1,hs₀.1]
 show Q (.ref h₄.objs.size) ⟨h₄.push { cls:=.type "tuple", data:=.seq #[x,y] },g,d,tk,os⟩;have hz₄:IsZipK h₄ z TI TO (rawInt T) (.bool true):=hs₄.extBut _ _ D.i2z.symm (hs₂.extBut _ _ D.i1z.symm hz₀);have hT₄:IsPair (h₄.push { cls:=.type "tuple", data:=.seq #[x,y] }) h₄.objs.size x y:=get?_push_size _ rfl;rw[hsz] at hT₄ ⊢;exact hQ _ (get?_push_of_some _ hz₄) ((h1₂.extBut hs₄.extBut D.i12).at fun o e=>get?_push_of_some _ e) (h2₄.at fun o e=>get?_push_of_some _ e) hT₄ (by rw[Heap.size_push,hsz])
  fun c o c1 c2 c3 e=>get?_push_of_some _ (hs₄.extBut _ _ c3 (hs₂.extBut _ _ c2 (hs₀.extBut _ _ c1 e)))))
set_option hygiene false in
local macro_rules|`(tactic| walk_at "ze")=>`(tactic| (
 simp only[false_eq_true,if_false,List.forIn_toArray,forIn_cons,List.forIn_nil];refine wpAny_bind (wpAny_bind (wpAny_bind (wpAny_holding ?_)));show wpAny _ _ (Builtin.SmallTypes.nextOf (.ref i1) >>= _) _ _ _
 cases hx:xs[k1]? with
 | none=>
  refine wpAny_bind (wpAny_nextOf_list_end hh (h1.extBut hs₀.extBut D.i1z) (hl1.extBut hs₀.extBut D.l1z) hx fun h₂ e hs₂ he=>?_);exact hE h₂ e (fun c o c1 c2 c3 x=>hs₂ _ _ c2 (hs₀.extBut _ _ c1 x)) he
 | some x=>
  have hy:ys[k2]?=none:=by rcases hend with h|h; rw[hx] at h; cases h; exact h
  refine wpAny_bind (wpAny_nextOf_list_item (h1.extBut hs₀.extBut D.i1z) (hl1.extBut hs₀.extBut D.l1z) hx fun h₂ h1₂ hs₂=>wpAny_pure ?_);refine wpAny_pure ?_;refine wpAny_bind (wpAny_bind (wpAny_holding ?_));show wpAny _ _ (Builtin.SmallTypes.nextOf (.ref i2) >>= _) _ _ _;refine wpAny_bind (wpAny_nextOf_list_end hh ((h2.extBut hs₀.extBut D.i2z).extBut hs₂.extBut D.i12.symm) ((hl2.extBut hs₀.extBut D.l2z).extBut hs₂.extBut D.l2i1) hy fun h₄ e hs₄ he=>?_);exact hE h₄ e (fun c o c1 c2 c3 x=>hs₄ _ _ c3 (hs₂.extBut _ _ c2 (hs₀.extBut _ _ c1 x))) he))
section
variable {prog:Program}{w:World}{A:Around}{E:Value→Shared→Prop}{s:Shared}
end
end PySem
namespace PySem
open Sem (wp)
section
variable {prog:Program}{w:World}{A:Around}{R:Result→Shared→Prop}
end
section
variable {prog:Program}{w:World}{A:Around}{E:Value→Shared→Prop}{s:Shared}
end
end PySem
namespace L2
open PySem PySem.Spec PyProof.Rows
section
variable {X:Cx}{pins:List (Addr×Obj)}{σ:List (Option V)}{H:Hp}{s:Shared}
end
end L2
namespace L2.VS
open PySem PySem.Spec PyProof.Rows
section
variable {P0:Addr→Hp→Prop}{K:Fg}
end
end L2.VS
namespace L2
open PySem PySem.Spec PyProof.Rows
section
variable {X:Cx}{pins:List (Addr×Obj)}{σ:List (Option V)}{H:Hp}{s:Shared}
end
section
variable {X:Cx}
end
end L2
namespace L2.VS
open PySem PySem.Spec PyProof.Rows
section
variable {P0:Addr→Hp→Prop}{K:Fg}
end
end L2.VS
namespace L2
open PySem PySem.Spec PyProof.Rows
section
variable {X:Cx}
end
end L2
namespace L2.VS
open PySem PySem.Spec PyProof.Rows
section
variable {P0:Addr→Hp→Prop}
end
section
variable {P0:Addr→Hp→Prop}{ta tb:TE}{ma mb:ME}
end
section
variable {P0:Addr→Hp→Prop}{A:Nat→Bool}
end
section
variable {P0:Addr→Hp→Prop}{A:Nat→Bool}
end
end L2.VS
namespace L2
open PySem PySem.Spec PyProof.Rows
structure UnB (fs:List Addr)(H H':Hp)(h B h':Heap):Prop where
 keep:∀ b o,h.get? b=some o→H b=none→b∉fs→B.get? b=some o
 slot:∀ b o,h.get? b=some o→b∈fs→∃ sl,h'.get? b=some { o with slots:=sl }
 free:∀ b o,h.get? b=some o→H b=none→H' b=none
 there:∀ b o,h.get? b=some o→b∉fs→∃ o',B.get? b=some o'
 tups:∀ b xs,H b=some (.tup xs)→H' b=some (.tup xs)
 frzs:∀ b o u,H b=some (.frz o u)→H' b=some (.frz o u)
 tbls:∀ b ps,H b=some (.tbl ps)→∃ more,H' b=some (.tbl (ps++more))
section
variable {X:Cx}{pins:List (Addr×Obj)}{σ:St}{H:Hp}{s:Shared}{M:Model}{F:Value→Shared→Prop}{E E':XK}
theorem Inv.frsS (hs:X.stack=X.env::X.outer)(hf:X.env.frame=some X.env.locals):frs X.stack=X.env.locals::frs X.outer:=by
 rw[hs];unfold frs;rw[filterMap_cons,hf]
theorem Inv.nstk (I:Inv X pins σ H s)(hs:X.stack=X.env::X.outer)(hf:X.env.frame=some X.env.locals){b:Addr}{o:Obj}(q:X.s₀.heap.get? b=some o)(hb:b∉frs X.outer):b∉frs X.stack:=fun z=>by
 rw[Inv.frsS hs hf] at z;rcases mem_cons.mp z with e|e
 ·exact absurd (lt_of_lt_of_le (lt_size q) I.ok.above) (by rw[e]; exact lt_irrefl _)
 ·exact hb e
end
section
variable {P:Program}{w:World}{K:Fg}{mg:Mg}{base:Heap}{N:List Str}{qual:Str}{scope:Scope}{f:Addr}{cd:Value}{A:Around}{outer:List Env}{s:Shared}{H:Hp}{E E':XK}
end
section
variable {X:Cx}{E:XK}{x:Str}{C:Addr}{B newId initId:String}{bmB:List Value}{e0:Expr}{np cpos pos:Pos}{t:TA}
end
end L2
namespace L2
open PySem PySem.Spec PyProof.Rows
set_option maxRecDepth 100000
section
variable {prog:Program}{w:World}{A:Around}{E:Value→Shared→Prop}{h:Heap}{g:Array GenState}{d:Drawn}{t:Nat}{os:OsState}{a:Addr}{o:Obj}
 {nm q:Str} {C N:Addr} {bs bm:List Value} {hdct:Bool} {sn:List Str} {sub:List Value} {ab:Bool} {col:Option Bool} {dd:Option Addr} {k0 k1 k2 k3 k5:Option Value} {newId:String}
def Lk (prog:Program)(w:World)(h:Heap)(c:Value)(n:Str)(r:Option Value):Prop:=∀(A:Around) (Q:Option Value→Shared→Prop) (E:Value→Shared→Prop) (s:Shared),s.heap=h→Q r s→wpAny (model prog w) A (typeLookup c n) Q E s
theorem Lk.at {c:Value}{n:Str}{r:Option Value}{Q:Option Value→Shared→Prop}(l:Lk prog w h c n r)(hq:Q r ⟨h,g,d,t,os⟩):wpAny (model prog w) A (typeLookup c n) Q E ⟨h,g,d,t,os⟩:=l _ _ _ _ rfl hq
theorem xc_get {R:Result→Shared→Prop}(hC:h.get? C=some (excClassObj nm q C N bs bm hdct sn sub ab col dd k0 k1 k2 k3 k5 newId))(ho:bm.contains (.type "object")=true)
  (hx:h.get? a=some o) (hc:o.cls=.ref C) (hq:R (.ok (.ret (.ref C))) ⟨h,g,d,t,os⟩) :
  codeAny (model prog w) A (.call (.builtin "getset_descriptor.__get__") ⟨[.builtin "object.__class__", .ref a,.ref C],[]⟩) R ⟨h,g,d,t,os⟩:=by
 have y1:(⟨h,g,d,t,os⟩:Shared).TypeIs (.builtin "object.__class__") "getset_descriptor" := F.typeOf_object_class;have y2:(Value.ref C::bm).contains (.type (".".intercalate ("object.__class__".cutAt '.').dropLast))=true:=by
  rw[F.owner_object_class,contains_cons,ho,Bool.or_true]
 refine codeAny_call_builtin F.slot_gs_get.plain F.entry_gs_get (F.slot_gs_get.check _ _ _ _ _ _ _ _ y1 (F.args_gs_get _ _ _) ?_)
 repeat (any_goals (first|assumption|(with_reducible refine wpAny_loadPart_at hx ?_; rw[hc])|(with_reducible refine wpAny_isSubtype_exc hC ?_; rw[y2])|wp_step))
 refine⟨Code.quiet_builtin _ (by decide +kernel),codeAny_builtin F.entry_object_class ?_⟩
 repeat (any_goals (first|assumption|(with_reducible refine wpAny_loadPart_at hx ?_; rw[hc])|wp_step))
theorem xc_entry {tk:Tok}{Q:Fin→Shared→Prop}(hC:h.get? C=some (excClassObj nm q C N bs bm hdct sn sub ab col dd k0 k1 k2 k3 k5 newId))(ho:bm.contains (.type "object")=true)
  (l1:Lk prog w h (.ref C) "__class__" (some (.builtin "object.__class__"))) (hx:h.get? a=some o) (hc:o.cls=.ref C) (hq:Q (.done (.ret (.ref C))) ⟨h,g,d,t,os⟩) :
  wpAny (model prog w) A (Builtin.«object.__getattribute__» ⟨[.ref a,.str "__class__" tk],[]⟩) Q E ⟨h,g,d,t,os⟩:=by
 have y1:(⟨h,g,d,t,os⟩:Shared).TypeIs (.builtin "object.__class__") "getset_descriptor" := F.typeOf_object_class;have y2:=F.typeOf_object_class;have y3:=F.slot_gs_get.lookup;have y4:=F.slot_gs_set.lookup
 repeat (any_goals (first|assumption|(with_reducible refine wpAny_loadPart_at hx ?_; rw[hc])|with_reducible refine l1.at ?_|wp_step))
 refine xc_get hC ho hx hc ?_
 repeat (any_goals (first|assumption|wp_step))
theorem xc_check {M:Model}{v:Value}{Q:Unit→Shared→Prop}(hC:h.get? C=some (excClassObj nm q C N bs bm hdct sn sub ab col dd k0 k1 k2 k3 k5 newId))(hb:bm.contains (.type "BaseException")=true)
  (hx:h.get? a=some o) (hc:o.cls=.ref C) (hq:Q () ⟨h,g,d,t,os⟩):wpAny M A (checkBuiltinCall "BaseException.__getattribute__" ⟨[.ref a,v],[]⟩) Q E ⟨h,g,d,t,os⟩:=by
 have y1:builtinKind "BaseException.__getattribute__" = some .slot:=by decide +kernel
 have y2:splitId "BaseException.__getattribute__" = some ("BaseException", "__getattribute__"):=by decide +kernel
 have y3:(Value.ref C::bm).contains (.type "BaseException")=true:=by rw[contains_cons,hb,Bool.or_true]
 have y4:=F.args_bexc_ga (.ref a) v;simp only[checkBuiltinCall,y1,y2];refine wpAny_bind ?_;unfold isInstance
 repeat (first|(with_reducible refine wpAny_loadPart_at hx ?_; rw[hc])|(with_reducible refine wpAny_isSubtype_exc hC ?_; rw[y3])|wp_step)
 exact hq
theorem xc_attr {Q:Option Value→Shared→Prop}(ga:Slot "ValueError" "__getattribute__" "BaseException.__getattribute__")(hC:h.get? C=some (excClassObj nm q C N bs bm hdct sn sub ab col dd k0 k1 k2 k3 k5 newId))(ho:bm.contains (.type "object")=true)(hb:bm.contains (.type "BaseException")=true)
  (l1:Lk prog w h (.ref C) "__class__" (some (.builtin "object.__class__"))) (l2:Lk prog w h (.ref C) "__getattribute__" (some (.builtin "BaseException.__getattribute__")))
  (l3:Lk prog w h (.ref C) "__getattr__" none) (hx:h.get? a=some o) (hc:o.cls=.ref C) (hq:Q (some (.ref C)) ⟨h,g,d,t+1,os⟩):wpAny (model prog w) A (getAttr? (.ref a) "__class__") Q E ⟨h,g,d,t,os⟩:=by
 have y1:=ga.bind (.ref a);have y2:(Value.builtin "BaseException.__getattribute__" == Value.builtin "object.__getattribute__")=false:=by decide +kernel
 have y3:(onTheHeap (Value.ref C)&&Value.builtin "BaseException.__getattribute__" == Value.builtin "object.__getattribute__")=false:=by rw[y2]; rfl
 have ht:∀ t,(⟨h,g,d,t,os⟩:Shared).heap=h:=fun _=>rfl;unfold getAttr? getAttrBy? getAttrBy
 repeat (any_goals (first|assumption|(with_reducible refine wpAny_loadPart_at hx ?_; rw[hc])|with_reducible refine l2.at ?_|with_reducible refine l3.at ?_|wp_step))
 refine codeAny_call_builtin ga.plain F.entry_bexc_ga (xc_check hC hb hx hc (xc_entry hC ho l1 hx hc ?_))
 repeat (any_goals (first|assumption|wp_step))
theorem xc_matches {M:Model}{e D N':Addr}{nm' q':Str}{bs' bm':List Value}{hdct':Bool}{sn':List Str}{sub':List Value}{ab':Bool}{col':Option Bool}{dd':Option Addr}{j0 j1 j2 j3 j5:Option Value}{newId':String}{Q:Bool→Shared→Prop}
  (hC:h.get? C=some (excClassObj nm q C N bs bm hdct sn sub ab col dd k0 k1 k2 k3 k5 newId)) (hD:h.get? D=some (excClassObj nm' q' D N' bs' bm' hdct' sn' sub' ab' col' dd' j0 j1 j2 j3 j5 newId'))
  (he:h.get? e=some o) (hc:o.cls=.ref C) (hb:bm'.contains (.type "BaseException")=true) (y2:(Value.ref C::bm).contains (.ref D)=true) (hq:Q true ⟨h,g,d,t,os⟩):wpAny M A (excMatches (.ref e) (.ref D)) Q E ⟨h,g,d,t,os⟩:=by
 have y1:(Value.ref D::bm').contains (.type "BaseException")=true:=by rw[contains_cons,hb,Bool.or_true]
 have y3:=tc_notTuple;unfold excMatches
 repeat (first|(with_reducible refine wpAny_loadPart_at he ?_; rw[hc])|with_reducible refine wpAny_loadPart_at hD ?_|(with_reducible refine wpAny_isSubtype_exc hD ?_; rw[y1])|(with_reducible refine wpAny_isSubtype_exc hC ?_; rw[y2])|wp_step)
 exact hq
end
def vmro:List Value:=[.type "ValueError", .type "Exception", .type "BaseException", .type "object"]
theorem Lk.of {K:Fg}{prog:Program}{w:World}{h:Heap}{c:Value}{n:Str}{r:Option Value}(X:K.In h)(e:findIn K c n=some r):Lk prog w h c n r:=fun A Q E s hs hq=>by
 obtain⟨hh,g,d,t,os⟩:=s
 cases hs
 exact(looks_findIn X e).at hq
end L2
namespace L2
open PySem PySem.Spec PyProof.Rows
section
variable {X:Cx}{pins:List (Addr×Obj)}{σ:St}{H:Hp}{s:Shared}
abbrev Cx.marked (X:Cx)(e:Value):Cx:={ X with A:=X.A.mark (some e),calm:=false,xe:=fun _ _=>False }
theorem Inv.marked (I:Inv X pins σ H s)(e:Value):Inv (X.marked e) pins σ H s:=
 ⟨⟨I.ok.mod,I.ok.kind,I.ok.glob,I.ok.blt,I.ok.above,I.ok.inj,I.ok.has,I.ok.cab,(fun h=>nomatch h),I.ok.frames,I.ok.stk,I.ok.exf,I.ok.bs,I.ok.bsz,I.ok.noex,I.ok.exfs,I.ok.funs,I.ok.frf⟩,I.os,I.bare,I.base,I.loc,I.cell,I.free,I.freeC,I.pin,I.hok,I.len⟩
theorem Inv.unmarked {e:Value}(ok:X.Ok)(I:Inv (X.marked e) pins σ H s):Inv X pins σ H s:=
 ⟨ok,I.os,I.bare,I.base,I.loc,I.cell,I.free,I.freeC,I.pin,I.hok,I.len⟩
theorem Inv.goes {i:Nat}{x:Str}{v:Option Value}{m:Mg}{h':Heap}{t:Nat}(I:Inv X pins σ H s)(hN:X.N.Nodup)(hi:X.N[i]?=some x)(hl:X.env.kindOf x=some .local)
  (hm:s.heap.Ns X.env.locals m∧∀(j:Nat) (y:Str) (v:V),X.N[j]?=some y→σ[j]?=some (some v)→Vis X.env.scope y→∃ u,RelV v u∧Look X.env s.heap m y u)
  (hn:h'.Ns X.env.locals (fun y=>if y=x then v else m y)) (hs:Heap.SameBut X.env.locals s.heap h'):Inv X pins (σ.set i none) H { s with heap:=h',toks:=t }:=by
 obtain⟨oL,_,_,hoL,_⟩:=id hm.1;have neL:∀ b o,X.s₀.heap.get? b=some o→b≠X.env.locals:=fun b o e=>ne_of_lt (lt_of_lt_of_le (lt_size e) I.ok.above);refine⟨I.ok,I.os,I.bare,⟨fun b o e n hb hx=>(hs.2 b (neL b o e)).trans (I.base.keep b o e n hb hx),fun b o e n hb hx=>?_,I.base.free,fun b o e hx=>?_,I.base.tups,I.base.frzs,I.base.tbls⟩,⟨_,hn,fun j y u e1 e2 e3=>?_⟩,fun y c e=>?_,I.free,I.freeC,fun p hp=>?_,fun b u e=>?_,by rw[length_set]; exact I.len⟩
 ·obtain⟨sl,e1⟩:=I.base.slot b o e n hb hx;exact⟨sl,(hs.2 b (neL b o e)).trans e1⟩
 ·obtain⟨o',e1⟩:=I.base.there b o e hx;exact⟨o',(hs.2 b (neL b o e)).trans e1⟩
 ·by_cases hj:j=i
  ·subst hj;rw[List.getElem?_set] at e2
   split at e2
   ·split at e2<;>cases e2
   ·rename_i z; exact absurd rfl z
  ·rw[getElem?_set_ne (Ne.symm hj)] at e2;obtain⟨u',r',q⟩:=hm.2 j y u e1 e2 e3;have ny:y≠x:=fun z=>hj (nodup_ix hN e1 (z▸hi));refine⟨u',r',?_⟩;rcases q with⟨k,e⟩|⟨k,c,e,z⟩
   ·exact .inl ⟨k,(if_neg ny).trans e⟩
   ·exact .inr ⟨k,c,e,z.sameBut hs (I.cne y c e)⟩
 ·obtain⟨u,z⟩:=I.cell y c e;exact⟨u,z.sameBut hs (I.cne y c e)⟩
 ·obtain⟨e,n,ne,nf,d⟩:=I.pin p hp;exact⟨(hs.2 p.1 ne).trans e,n,ne,nf,d⟩
 ·refine(I.hok b u e).stay (fun c w hc q=>(hs.2 c fun z=>?_).trans q) (fun _ q=>q) fun _ _ q=>q;have hf:=I.free;rw[← z] at hf;rcases hc with hc|hc
  ·rw[hc,e] at hf; cases hf
  ·rw[hc] at hf; cases hf
end
theorem ObjOk.has {P:Program}{w:World}{H:Hp}{h:Heap}{a:Addr}{o:HO}(x:ObjOk P w H h a o):∃ ob,h.get? a=some ob:=by
 cases o with
 | lst xs=>obtain⟨_,_,_,_,e⟩:=x; exact⟨_,e⟩
 | tup xs=>obtain⟨_,_,_,ob,e,_⟩:=x; exact⟨ob,e⟩
 | dK kvs=>obtain⟨_,_,_,_,ob,_,_,e,_⟩:=x; exact⟨ob,e⟩
 | dT kvs=>obtain⟨_,_,_,_,ob,_,_,e,_⟩:=x; exact⟨ob,e⟩
 | set S n=>obtain⟨ob,_,_,_,e,_⟩:=x; exact⟨ob,e⟩
 | ins C dx fs=>obtain⟨_,_,_,e,_⟩:=x; exact⟨_,e⟩
 | own y=>exact x
 | xd fs=>obtain⟨_,⟨ob,_,_,e,_⟩,_⟩:=x; exact⟨ob,e⟩
 | met f y=>exact⟨_,x⟩
 | rng lo hi=>obtain⟨_,_,_,e⟩:=x; exact⟨_,e⟩
 | frz ob u=>exact⟨ob,x.1⟩
 | tbl ps=>exact⟨_,x⟩
 | ext φ=>exact x.2.1
section
variable {X:Cx}{k:Nat}{f C D0:Addr}{fd:FuncData}{ps:List Str}{sp:Sp}{x lx ex cx:Str}{p cp ep lp p1 p2 p3 hp pos:Pos}{e:Expr}{es:List Expr}{t:TA}{i j:Nat}
end
end L2
namespace L2
open PySem PySem.Spec PyProof.Rows
def tDic0:TE:=fun _ H Q=>∀ p,H p=none→Q (.ref p) (upd H p (.dK []))
theorem pe_dic0 {X:Cx}{pos:Pos}:PE X (.Dict [] [] pos) tDic0:=by
 intro pins s σ H Q I h;have big:sysModules<s.heap.objs.size:=lt_trans (by decide) (show mainGlobals<s.heap.objs.size from(I.mod.glob.keeps I.bk).lt);have ok:ObjOk X.prog X.w (upd H s.heap.objs.size (.dK [])) (s.heap.push { cls:=.type "dict", data:=.dict #[] }) s.heap.objs.size (.dK []):=⟨zero_le _,beq_eq_false_iff_ne.mpr (Ne.symm (ne_of_lt big)),[],.nil,Heap.DictOf.new _⟩;exact wpAny_Dict_empty ⟨.ref s.heap.objs.size,_,I.laid (a:=s.heap.objs.size) (o:=.dK []) (t':=s.toks) (fun _ _ q=>get?_push_of_some _ q) (le_refl _) ok,rfl,h _ (I.hok.fresh (le_refl _))⟩
namespace VS
variable {P0:Addr→Hp→Prop}
def mDic0:ME:=fun Γ Q=>Q (.dict []) Γ
theorem vt_dic0:VT P0 tDic0 mDic0:=by
 intro F Γ σ G H Q Qm r m k p hp;have g:=same_new (r.fr.gfresh hp) (.dK []);exact k _ _ _ _ _ m g (r.new hp) (.dic (.inl aO) .nil)
theorem i_dic0 {Γ:En}{Q:D→En→Prop}(h:Q (.dict []) Γ):mDic0 Γ Q:=h
end VS
end L2
namespace L2
open PySem PySem.Spec PyProof.Rows
@[irreducible] def PSi (X:Cx) (L:List Stmt) (t:TS):Prop:=PSs X L t
@[irreducible] def PSd (X:Cx) (st:Stmt) (t:TS):Prop:=PS X st t
@[irreducible] def PEd (X:Cx) (e:Expr) (t:TE):Prop:=PE X e t
@[irreducible] def PAd (X:Cx) (es:List Expr) (t:TA):Prop:=PA X es t
section
variable {X:Cx}{L rest:List Stmt}{st:Stmt}{t u:TS}{e a b:Expr}{es:List Expr}{te ta tb:TE}{tl:TA}{pos:Pos}
end
end L2
namespace L2.VS
open PySem PySem.Spec PyProof.Rows
section
variable {P0:Addr→Hp→Prop}{S:Type}
section
variable {G G' H H':Hp}{v:V}{fp fp':List Addr}
end
end
section
variable {P0:Addr→Hp→Prop}
end
end L2.VS
namespace L2
open PySem PySem.Spec PyProof.Rows
abbrev TX:=Ends→(List (Option V)→XK)→List (Option V)→Hp→Prop
section
variable {X:Cx}{k:Nat}{f C D0:Addr}{fd:FuncData}{ps:List Str}{sp:Sp}{x m lx ex cx:Str}{p cp ep lp p1 p2 p3 hp pos pos' apos:Pos}{o e:Expr}{es:List Expr}{ta:TE}{t:TA}{i j:Nat}
end
end L2
namespace L2.VS
open PySem PySem.Spec PyProof.Rows
section
variable {P0:Addr→Hp→Prop}
section
variable {C:Addr}{x:Str}{i:Nat}
variable {E:XK}
end
end
section
variable {P0:Addr→Hp→Prop}
end
section
variable {P0:Addr→Hp→Prop}{A:Nat→Bool}
end
end L2.VS
namespace L2
open PySem PySem.Spec PyProof.Rows
end L2
namespace L2.VS
open PySem PySem.Spec PyProof.Rows
section
variable {P0:Addr→Hp→Prop}
end
section
variable {P0:Addr→Hp→Prop}{A:Nat→Bool}{S:Type}
section
variable {F:Fra P0}{Γ:En}{σ:St}{G H:Hp}{fp:List Addr}
end
end
end L2.VS
namespace L2
open PySem PySem.Spec PyProof.Rows
section
variable {X:Cx}
theorem str_ext {a b:PySem.Str}(h:a.cps.toList=b.cps.toList):a=b:=by
 obtain⟨a⟩:=a;obtain⟨b⟩:=b;have:a=b:=toList_inj.mp h;rw[this]
theorem cps_app (a b:PySem.Str):(a++b).cps.toList=a.cps.toList++b.cps.toList:=toList_append
theorem str_len0 {a:PySem.Str}(h:(a.length==0)=true):a.cps.toList=[]:=by
 have h:a.cps.size=0:=beq_iff_eq.mp h;exact List.eq_nil_of_length_eq_zero (by rw[length_toList]; exact h)
def rSAdd:R2:=fun x y H Q=>∃ a b:PySem.Str,x=.str a∧y=.str b∧(a++b).length≤sizeLine∧Q (.str (a++b)) H
theorem bY:OpR X (binaryOp .Add) rSAdd:=by
 intro pins s σ H x y v u Q I rx ry h;obtain⟨a,b,rfl,rfl,hz,q⟩:=h;obtain⟨t,rfl⟩:=rx;obtain⟨t',rfl⟩:=ry;refine P.add_str ?_
 by_cases c:(a.length==0)=true
 ·rw[if_pos c];have e:a++b=b:=str_ext (by rw[cps_app,str_len0 c,nil_append]);rw[e] at q;exact⟨.str b,H,I,⟨_,rfl⟩,q⟩
 ·rw[if_neg c]
  by_cases d:(b.length==0)=true
  ·rw[if_pos d];have e:a++b=a:=str_ext (by rw[cps_app,str_len0 d,append_nil]);rw[e] at q;exact⟨.str a,H,I,⟨_,rfl⟩,q⟩
  ·rw[if_neg d];exact⟨hz,.str (a++b),H,I.tok _,⟨_,rfl⟩,q⟩
def txI (i:Int):PySem.Str:=PySem.Str.ofString (toString i)
def rStrI:List V→Hp→VK→Prop:=fun xs H Q=>(∃ i:Int,xs=[.int i]∧i.natAbs.log2<1920∧Q (.str (txI i)) H)∨∃ a,xs=[.str a]∧Q (.str a) H
theorem call_strI:CallR X (.type "str") rStrI:=by
 intro pins s σ H xs us Q I r h;rcases h with⟨i,rfl,hi,q⟩|⟨a,rfl,q⟩
 ·obtain⟨u,rfl,t,rfl⟩:=vals1 r;exact P.str_of_int hi ⟨.str (txI i),H,I.tok _,⟨_,rfl⟩,q⟩
 ·obtain⟨u,rfl,t,rfl⟩:=vals1 r;exact P.str_of_str ⟨.str a,H,I,⟨_,rfl⟩,q⟩
def rLenS:List V→Hp→VK→Prop:=fun xs H Q=>∃ a:PySem.Str,xs=[.str a]∧a.length≤sizeLine∧Q (.int (a.length:Int)) H
theorem call_lenS:CallR X (.builtin "len") rLenS:=by
 intro pins s σ H xs us Q I r h;obtain⟨a,rfl,hl,q⟩:=h;obtain⟨u,rfl,t,rfl⟩:=vals1 r;have h63:=line63;exact P.len_str (by omega) ⟨.int (a.length:Int),H,I.tok _,⟨_,rfl⟩,q⟩
def inS (a b:PySem.Str):Bool := !(Builtin.Str.occurrences b a 0 b.length 1).isEmpty
def rInS:R2:=fun x y H Q=>∃ a b:PySem.Str,x=.str a∧y=.str b∧Q (.bl (inS a b)) H
theorem op_inS:OpR X (compareOp .In) rInS:=by
 intro pins s σ H x y v u Q I rx ry h;obtain⟨a,b,rfl,rfl,q⟩:=h;obtain⟨t,rfl⟩:=rx;obtain⟨t',rfl⟩:=ry;exact P.in_str ⟨.bl (inS a b),H,I,rfl,q⟩
def rStarts:V→List V→Hp→VK→Prop:=fun x vs H Q=>∃ a b:PySem.Str,x=.str a∧vs=[.str b]∧Q (.bl (Txt.startswith a b)) H
theorem mt_starts:MtR X "str.startswith" rStarts:=by
 intro pins s σ H x vs v us Q I rx rv h;obtain⟨a,b,rfl,rfl,q⟩:=h;obtain⟨t,rfl⟩:=rx;obtain⟨u,rfl,t',rfl⟩:=rv.one;exact SC.startswith ⟨.bl (Txt.startswith a b),H,I,rfl,q⟩
def rIntS:List V→Hp→VK→Prop:=fun xs H Q=>∃(a:PySem.Str) (n:Int),xs=[.str a]∧PySem.intText? a=some n∧a.length≤640∧Q (.int n) H
theorem call_intS:CallR X (.type "int") rIntS:=by
 intro pins s σ H xs us Q I r h;obtain⟨a,n,rfl,hn,hl,q⟩:=h;obtain⟨u,rfl,t,rfl⟩:=vals1 r;exact PySem.W.KIN.call_text hn hl ⟨.int n,H,I.tok _,⟨_,rfl⟩,q⟩
theorem vals_of_strs:∀(l:List (PySem.Str×Tok)),Vals ((l.map (·.1)).map V.str) (strValues l)
 | []=>.nil
 | p::l=>.cons ⟨p.2,rfl⟩ (vals_of_strs l)
def rSplit:V→List V→Hp→VK→Prop:=fun x vs H Q=>∃ a b:PySem.Str,x=.str a∧vs=[.str b]∧(b.length==0)=false∧a.length≤sizeLine∧(Txt.split a b).length≤sizeLine∧∀ q,H q=none→Q (.ref q) (upd H q (.lst ((Txt.split a b).map V.str)))
theorem mt_split:MtR X "str.split" rSplit:=by
 intro pins s σ H x vs v us Q I rx rv h;obtain⟨a,b,rfl,rfl,hy,hz,hz2,q⟩:=h;obtain⟨t,rfl⟩:=rx;obtain⟨u,rfl,t',rfl⟩:=rv.one;have fin:∀(l:List (PySem.Str×Tok)) (k:Nat),l.map (·.1)=Txt.split a b→EP X pins σ Q (.ref s.heap.objs.size) { s with heap:=s.heap.push { cls:=.type "list", data:=.seq (strValues l).toArray },toks:=k }:=fun l k e=>by
  have vs:=vals_of_strs l;rw[e] at vs;exact⟨.ref _,_,I.lnew (t':=k) vs (by rw[length_map]; exact hz2),rfl,q _ I.fresh⟩
 cases h1:(decide (a.length<b.length)||decide (Builtin.Str.strKind a<Builtin.Str.strKind b)) with
 | false=>
  cases hf:(Builtin.Str.occurrences a b 0 a.length (a.length+1)).isEmpty with
  | false=>
   have es:Txt.split a b=Builtin.Str.partsBetween a (Builtin.Str.occurrences a b 0 a.length (a.length+1)) b.length:=(if_neg (ne_true_of_eq_false h1)).trans (if_neg (ne_true_of_eq_false hf));rw[es] at hz2;refine call_meets F.slot_str_split (typeIs_str _ _ _) F.entry_str_split (F.args_str_split_2 _ _) (meets_str_split_sep a b _ _ h1 hy hf hz hz2) ?_;show wants _ X.xe _ { s with toks:=_,heap:=s.heap.push { cls:=.type "list", data:=.seq (strsFrom s.toks (Builtin.Str.partsBetween a (Builtin.Str.occurrences a b 0 a.length (a.length+1)) b.length)).toArray } };rw[strsFrom_eq];exact fin _ _ ((numbered_texts _ _).trans es.symm)
  | true=>exact call_meets F.slot_str_split (typeIs_str _ _ _) F.entry_str_split (F.args_str_split_2 _ _) (meets_str_split_not_found a b _ _ h1 hy hf) (fin [(a,t)] s.toks ((if_neg (ne_true_of_eq_false h1)).trans (if_pos hf)).symm)
 | true=>exact call_meets F.slot_str_split (typeIs_str _ _ _) F.entry_str_split (F.args_str_split_2 _ _) (meets_str_split_cannot_occur a b _ _ h1) (fin [(a,t)] s.toks (if_pos h1).symm)
def ItS (x:PySem.Str):It:=⟨fun i _=>i<x.cps.size,fun i H v H'=>H'=H∧∃ c,x.cps[i]?=some c∧v=.str ⟨#[c]⟩,fun i _=>i=x.cps.size⟩
theorem turn_str {P:Program}{w:World}{K:Fg}{tg:Expr}{x:PySem.Str}{t:Tok}{it:Addr}{ty:String}(W:∀ A':Around,A'.handled=none→Walks P w A' it [it] [it] x.cps.size (SignAt x) (fun i h=>h.IsStrIter it ty x t i))
  (hs:∀(A:Around) (i:Nat) (s:Shared) (Q:Value→Shared→Prop) (E:Value→Shared→Prop),s.heap.IsStrIter it ty x t i→Q (.ref it) s→wpAny (model P w) A (pyIter (.ref it)) Q E s)
  (hn:["enumerate", "zip", "dict_itemiterator", "dict_reverseitemiterator", "odict_iterator", "itertools.zip_longest", "itertools.pairwise"].contains ty=false) :
  Turn P w K tg (ItS x) [it] it (fun i h=>h.IsStrIter it ty x t i) where
 mem:=by simp
 obj:=fun i h st b hb=>by
  have e:b=it:=by simpa using hb
  subst e;obtain⟨o,e,c,d⟩:=st;exact⟨o,e,fun v z=>by rw[d] at z; cases z⟩
 keep:=fun i h h' st k=>let ⟨o,ho,r⟩:=st; ⟨o,k it (by simp) o ho,r⟩
 item:=by
  intro X hP hw hK hc i pins s σ H E I hf st hg;subst hP hw hK;obtain⟨f0,f1,f2,f3,f4,f5⟩:=hf it (by simp);refine(W X.A (I.ok.hd hc)).item i s _ _ hg st fun v h' tk hv st' kk=>?_;obtain⟨c,u,hc',rfl⟩:=hv;have I1:Inv X pins σ H { s with heap:=h',toks:=tk }:=I.turned (fun b o hb e=>kk b o (by simpa using hb) e) f0 f1 f3 f4 f5;obtain⟨o,e,cl,d⟩:=id st';exact⟨_,rfl,go_of (s:={ s with heap:=h',toks:=tk }) e cl d hn ⟨.str ⟨#[c]⟩,H,I1,⟨u,rfl⟩,⟨rfl,c,hc',rfl⟩,st',fun b hb=>(hf b hb).1⟩⟩
 done:=by
  intro X hP hw hK hc i pins s σ H E I hf st hg;subst hP hw hK;obtain⟨f0,f1,f2,f3,f4,f5⟩:=hf it (by simp);have hg:i=x.cps.size:=hg;subst hg;exact(W X.A (I.ok.hd hc)).done s _ _ st fun h' tk kk=>⟨rfl,I.turned (fun b o hb e=>kk b o (by simpa using hb) e) f0 f1 f3 f4 f5⟩
 self:=hs
def iStr (tl:TE):TI:=fun σ H R=>tl σ H fun v H1=>∃ x,v=.str x∧R (ItS x) H1
theorem pi_str {tg:Expr}{l:Expr}{tl:TE}(hl:PE X l tl):PI X tg l (iStr tl):=by
 intro pins s σ H R I h;refine thn (hl pins s σ H _ I h) fun v s1 ⟨y,H1,I1,r1,x,e,q⟩=>?_;subst e;obtain⟨t,rfl⟩:=r1;have fp:∀ b∈[s1.heap.objs.size],FpOk X pins H1 b:=fun b hb=>by
  have e:b=s1.heap.objs.size:=by simpa using hb
  subst e;exact I1.fpOk (le_refl _) (I1.hok.fresh (le_refl _))
 cases ha:x.cps.all (·<128) with
 | false=>exact wpAny_pyIter_wide ha ⟨s1.heap.objs.size,[s1.heap.objs.size],_,_,H1,rfl,I1.kept (t':=s1.toks) fun b o e=>get?_push_of_some _ e,turn_str (fun A' hA=>Walks.strWide hA _ x t) (fun A i s Q E st h=>wpAny_pyIter_striter_wide st h) (by decide),⟨_,get?_push_size _ rfl,rfl,rfl⟩,fp,q⟩
 | true=>exact wpAny_pyIter_ascii ha ⟨s1.heap.objs.size,[s1.heap.objs.size],_,_,H1,rfl,I1.kept (t':=s1.toks) fun b o e=>get?_push_of_some _ e,turn_str (fun A' hA=>Walks.strAscii hA _ x t) (fun A i s Q E st h=>wpAny_pyIter_striter_ascii st h) (by decide),⟨_,get?_push_size _ rfl,rfl,rfl⟩,fp,q⟩
def cutS (x:PySem.Str)(lo hi:Option Int):PySem.Str:=if ((Builtin.Str.strSliceIndices lo hi 1 x.length).length==x.length)=true then x else⟨((Builtin.Str.strSliceIndices lo hi 1 x.length).filterMap (x.cps[·]?)).toArray⟩
def rSlS:V→Option Int→Option Int→Hp→VK→Prop:=fun v lo hi H Q=>∃ x:PySem.Str,v=.str x∧x.length≤sizeLine∧Q (.str (cutS x lo hi)) H
theorem sl_str:SlR X rSlS:=by
 intro pins s σ H y v vl vu lo hi sl Q I rx hs pl pu h;obtain⟨x,rfl,hz,q⟩:=h;obtain⟨t,rfl⟩:=rx;have part:∀{v:Value} {o:Option Int},IsPart v o→∃ p:Option (Int×Tok),v=partValue p∧p.map (·.1)=o:=fun{v o} h=>by
  cases h with
  | none=>exact⟨none,rfl,rfl⟩
  | int i t=>exact⟨some (i,t),rfl,rfl⟩
 obtain⟨l,rfl,el⟩:=part pl;obtain⟨u,rfl,eu⟩:=part pu;refine⟨"str", _,F.slot_str_getitem.lookup,typeIs_str _ _ _,?_⟩;refine wpAny_getItem_str_slice (l:=l) (u:=u) (st:=none) hs rfl ?_;have hle:(Builtin.Str.strSliceIndices lo hi 1 x.length).length≤x.length:=sliceIndices_le lo hi x.length;unfold sliceMade slicePicked;rw[el,eu];unfold cutS at q
 show(if (true&&((Builtin.Str.strSliceIndices lo hi 1 x.length).length==x.length))=true then _ else _:Made).post _ s
 rw[Bool.true_and]
 by_cases c:((Builtin.Str.strSliceIndices lo hi 1 x.length).length==x.length)=true
 ·rw[if_pos c];rw[if_pos c] at q;exact⟨.str x,H,I,⟨_,rfl⟩,q⟩
 ·rw[if_neg c];rw[if_neg c] at q;refine⟨?_,.str _,H,I.tok _,⟨_,rfl⟩,q⟩
  show(List.toArray _).size≤sizeLine
  rw[size_toArray];exact le_trans (List.length_filterMap_le _ _) (le_trans hle hz)
end
end L2
namespace L2.VS
open PySem PySem.Spec PyProof.Rows
section
variable {P0:Addr→Hp→Prop}
def saK (x:D)(Q:D→En→Prop)(y:D)(Γ:En):Prop:=∃ a b:PySem.Str,x=.str a∧y=.str b∧(a++b).length≤1000000∧Q (.str (a++b)) Γ
def saJ (mb:ME)(Q:D→En→Prop)(x:D)(Γ:En):Prop:=mb Γ (saK x Q)
def mSAdd (ma mb:ME):ME:=fun Γ Q=>ma Γ (saJ mb Q)
theorem sz1m {n:Nat}(h:n≤1000000):n≤sizeLine:=le_trans h (by rw[sizeLine_eq]; decide)
theorem bZ {ta tb:TE}{ma mb:ME}(ha:VT P0 ta ma)(hb:VT P0 tb mb):VT P0 (tOp rSAdd ta tb) (mSAdd ma mb):=by
 intro F Γ σ G H Q Qm r m k;refine ha F Γ σ G H _ _ r m fun d Γ1 x G1 H1 m1 s1 r1 d1=>?_;refine hb F Γ1 σ G1 H1 _ _ r1 m1 fun e Γ2 y G2 H2 m2 s2 r2 d2=>?_;obtain⟨a,b,rfl,rfl,hz,q⟩:=m2
 cases d1
 cases d2
 exact⟨a,b,rfl,rfl,sz1m hz,k _ _ _ _ _ q (s1.trans s2) r2 (.str _)⟩
def txK (Q:D→En→Prop)(x:D)(Γ:En):Prop:=(∃ i:Int,x=.int i∧i.natAbs.log2<1920∧Q (.str (txI i)) Γ)∨∃ a,x=.str a∧Q (.str a) Γ
def mStr (ma:ME):ME:=fun Γ Q=>ma Γ (txK Q)
theorem vt_str1 {ta:TE}{ma:ME}(ha:VT P0 ta ma):VT P0 (tCB rStrI (cO ta tNil)) (mStr ma):=by
 intro F Γ σ G H Q Qm r m k;refine ha F Γ σ G H _ _ r m fun d Γ1 x G1 H1 m1 s1 r1 d1=>?_;rcases m1 with⟨i,rfl,hi,q⟩|⟨a,rfl,q⟩
 ·cases d1
  exact .inl ⟨i,rfl,hi,k _ _ _ _ _ q s1 r1 (.str _)⟩
 ·cases d1
  exact .inr ⟨a,rfl,k _ _ _ _ _ q s1 r1 (.str _)⟩
def lsK (Q:D→En→Prop)(x:D)(Γ:En):Prop:=∃ a:PySem.Str,x=.str a∧a.length≤1000000∧Q (.int (a.length:Int)) Γ
def mLenS (ma:ME):ME:=fun Γ Q=>ma Γ (lsK Q)
theorem vt_lenS {ta:TE}{ma:ME}(ha:VT P0 ta ma):VT P0 (tCB rLenS (cO ta tNil)) (mLenS ma):=by
 intro F Γ σ G H Q Qm r m k;refine ha F Γ σ G H _ _ r m fun d Γ1 x G1 H1 m1 s1 r1 d1=>?_;obtain⟨a,rfl,hl,q⟩:=m1
 cases d1
 exact⟨a,rfl,sz1m hl,k _ _ _ _ _ q s1 r1 (.int _)⟩
def siK (x:D)(Q:D→En→Prop)(y:D)(Γ:En):Prop:=∃ a b:PySem.Str,x=.str a∧y=.str b∧Q (.bool (inS a b)) Γ
def siJ (mb:ME)(Q:D→En→Prop)(x:D)(Γ:En):Prop:=mb Γ (siK x Q)
def mInS (ma mb:ME):ME:=fun Γ Q=>ma Γ (siJ mb Q)
theorem vt_inS {ta tb:TE}{ma mb:ME}(ha:VT P0 ta ma)(hb:VT P0 tb mb):VT P0 (tOp rInS ta tb) (mInS ma mb):=by
 intro F Γ σ G H Q Qm r m k;refine ha F Γ σ G H _ _ r m fun d Γ1 x G1 H1 m1 s1 r1 d1=>?_;refine hb F Γ1 σ G1 H1 _ _ r1 m1 fun e Γ2 y G2 H2 m2 s2 r2 d2=>?_;obtain⟨a,b,rfl,rfl,q⟩:=m2
 cases d1
 cases d2
 exact⟨a,b,rfl,rfl,k _ _ _ _ _ q (s1.trans s2) r2 (.bl _)⟩
def swK (x:D)(Q:D→En→Prop)(y:D)(Γ:En):Prop:=∃ a b:PySem.Str,x=.str a∧y=.str b∧Q (.bool (Txt.startswith a b)) Γ
def swJ (mb:ME)(Q:D→En→Prop)(x:D)(Γ:En):Prop:=(∃ a,x=.str a)∧mb Γ (swK x Q)
def mStarts (ma mb:ME):ME:=fun Γ Q=>ma Γ (swJ mb Q)
theorem vt_starts {K:Fg}{ta tb:TE}{ma mb:ME}(ha:VT P0 ta ma)(hb:VT P0 tb mb):VT P0 (tBM K "str" rStarts ta (cO tb tNil)) (mStarts ma mb):=by
 intro F Γ σ G H Q Qm r m k;refine ha F Γ σ G H _ _ r m fun d Γ1 x G1 H1 m1 s1 r1 d1=>?_;obtain⟨⟨a,rfl⟩,m1⟩:=m1
 cases d1
 refine⟨rfl,hb F Γ1 σ G1 H1 _ _ r1 m1 fun e Γ2 y G2 H2 m2 s2 r2 d2=>?_⟩;obtain⟨a',b,e1,rfl,q⟩:=m2
 cases e1
 cases d2
 exact⟨a,b,rfl,rfl,k _ _ _ _ _ q (s1.trans s2) r2 (.bl _)⟩
def inK (Q:D→En→Prop)(x:D)(Γ:En):Prop:=∃(a:PySem.Str) (n:Int),x=.str a∧PySem.intText? a=some n∧a.length≤640∧Q (.int n) Γ
def mIntS (ma:ME):ME:=fun Γ Q=>ma Γ (inK Q)
theorem vt_intS {ta:TE}{ma:ME}(ha:VT P0 ta ma):VT P0 (tCB rIntS (cO ta tNil)) (mIntS ma):=by
 intro F Γ σ G H Q Qm r m k;refine ha F Γ σ G H _ _ r m fun d Γ1 x G1 H1 m1 s1 r1 d1=>?_;obtain⟨a,n,rfl,hn,hl,q⟩:=m1
 cases d1
 exact⟨a,n,rfl,hn,hl,k _ _ _ _ _ q s1 r1 (.int _)⟩
theorem strs_dts {G:Hp}:∀ ts:List PySem.Str,Dts G (ts.map V.str) (ts.map PyData.str)
 | []=>.nil
 | a::ts=>.cons (.str a) (strs_dts ts)
def spK (x:D)(Q:Rv→En→Prop)(y:D)(Γ:En):Prop:=∃ a b:PySem.Str,x=.str a∧y=.str b∧(b.length==0)=false∧a.length≤1000000∧(Txt.split a b).length≤1000000∧Q (.own ((Txt.split a b).map PyData.str)) Γ
def spJ (mb:ME)(Q:Rv→En→Prop)(x:D)(Γ:En):Prop:=(∃ a,x=.str a)∧mb Γ (spK x Q)
def mSplit (ma mb:ME):MO:=fun Γ Q=>ma Γ (spJ mb Q)
theorem vo_split {K:Fg}{ta tb:TE}{ma mb:ME}(ha:VT P0 ta ma)(hb:VT P0 tb mb):VO P0 (tBM K "str" rSplit ta (cO tb tNil)) (mSplit ma mb):=by
 intro F Γ σ G H Q Qm r m k;refine ha F Γ σ G H _ _ r m fun d Γ1 x G1 H1 m1 s1 r1 d1=>?_;obtain⟨⟨a,rfl⟩,m1⟩:=m1
 cases d1
 refine⟨rfl,hb F Γ1 σ G1 H1 _ _ r1 m1 fun e Γ2 y G2 H2 m2 s2 r2 d2=>?_⟩;obtain⟨a',b,e1,rfl,h1,h2,h3,q⟩:=m2
 cases e1
 cases d2
 refine⟨a,b,rfl,rfl,h1,sz1m h2,sz1m h3,fun l hl=>?_⟩;obtain⟨x1,x2,x3⟩:=own_new r2 hl (strs_dts (Txt.split a b));exact k _ _ _ _ _ q (s1.trans s2) x1 x2 x3
def xsK (x:D)(Q:D→En→Prop)(y:D)(Γ:En):Prop:=∃(a:PySem.Str) (i:Int) (c:Nat),x=.str a∧y=.int i∧a.length≤1000000∧atI a.cps.toList i=some c∧Q (.str ⟨#[c]⟩) Γ
def xsJ (mb:ME)(Q:D→En→Prop)(x:D)(Γ:En):Prop:=mb Γ (xsK x Q)
def mIxS (ma mb:ME):ME:=fun Γ Q=>ma Γ (xsJ mb Q)
theorem vt_ixS {K:Fg}{ta tb:TE}{ma mb:ME}(ha:VT P0 ta ma)(hb:VT P0 tb mb):VT P0 (tOp (rIx K) ta tb) (mIxS ma mb):=by
 intro F Γ σ G H Q Qm r m k;refine ha F Γ σ G H _ _ r m fun d Γ1 x G1 H1 m1 s1 r1 d1=>?_;refine hb F Γ1 σ G1 H1 _ _ r1 m1 fun e Γ2 y G2 H2 m2 s2 r2 d2=>?_;obtain⟨a,i,c,rfl,rfl,hl,hc,q⟩:=m2
 cases d1
 cases d2
 exact .inr (.inr ⟨a,i,c,rfl,rfl,sz1m hl,hc,k _ _ _ _ _ q (s1.trans s2) r2 (.str _)⟩)
def signs (a:PySem.Str):List D:=a.cps.toList.map fun c=>.str ⟨#[c]⟩
def isK (Q:List D→En→Prop)(x:D)(Γ:En):Prop:=∃ a:PySem.Str,x=.str a∧Q (signs a) Γ
def mItS (ma:ME):MD:=fun Γ Q=>ma Γ (isK Q)
theorem vi_str {ta:TE}{ma:ME}(ha:VT P0 ta ma):VI P0 (iStr ta) (mItS ma):=by
 intro F Γ σ G H Q Qm r m k;refine ha F Γ σ G H _ _ r m fun d Γ1 x G1 H1 m1 s1 r1 d1=>?_;obtain⟨a,rfl,m1⟩:=m1
 cases d1
 have hl:(signs a).length=a.cps.size:=by unfold signs; rw[length_map,length_toList]
 refine⟨a,rfl,k _ _ _ _ _ m1 s1 r1 fun F2 Γ2 σ2 G2 H2 s2 r2=>⟨fun i d e=>?_,hl⟩⟩;have hi:i<a.cps.size:=by rw[← hl]; exact(List.getElem?_eq_some_iff.mp e).1
 refine⟨hi,fun x H' hy=>⟨G2,Same.refl _,?_⟩⟩;obtain⟨rfl,c,hc,rfl⟩:=hy;unfold signs at e;rw[getElem?_map,Array.getElem?_toList,hc] at e
 cases e
 exact⟨r2,.str _⟩
def sliK (x:D)(lo:Option Int)(Q:D→En→Prop)(hi:Option Int)(Γ:En):Prop:=∃ a:PySem.Str,x=.str a∧a.length≤1000000∧Q (.str (cutS a lo hi)) Γ
def mSlS (ma:ME)(ml mh:MP):ME:=fun Γ Q=>ma Γ fun x Γ1=>ml Γ1 fun lo Γ2=>mh Γ2 (sliK x lo Q)
theorem vt_slS {te:TE}{tl th:TO}{ma:ME}{ml mh:MP}(ha:VT P0 te ma)(hl:VP P0 tl ml)(hh:VP P0 th mh):VT P0 (tSl rSlS te tl th) (mSlS ma ml mh):=by
 intro F Γ σ G H Q Qm r m k;refine ha F Γ σ G H _ _ r m fun d Γ1 x G1 H1 m1 s1 r1 d1=>?_;refine hl F Γ1 σ G1 H1 _ _ r1 m1 fun lo Γ2 G2 H2 m2 s2 r2=>?_;refine hh F Γ2 σ G2 H2 _ _ r2 m2 fun hi Γ3 G3 H3 m3 s3 r3=>?_;obtain⟨a,rfl,hz,q⟩:=m3
 cases d1
 exact⟨a,rfl,sz1m hz,k _ _ _ _ _ q ((s1.trans s2).trans s3) r3 (.str _)⟩
section
variable {ma mb:ME}{ml mh:MP}{Γ:En}{Q:D→En→Prop}{Qo:Rv→En→Prop}{Qd:List D→En→Prop}{a b:PySem.Str}
theorem i_sadd (h:ma Γ (saJ mb Q)):mSAdd ma mb Γ Q:=h
theorem i_saJ {x:D}(h:mb Γ (saK x Q)):saJ mb Q x Γ:=h
theorem i_saK (hz:(a++b).length≤1000000)(h:Q (.str (a++b)) Γ):saK (.str a) Q (.str b) Γ:=⟨a,b,rfl,rfl,hz,h⟩
theorem i_str1 (h:ma Γ (txK Q)):mStr ma Γ Q:=h
theorem i_stI {i:Int}(hi:i.natAbs.log2<1920)(h:Q (.str (txI i)) Γ):txK Q (.int i) Γ:=.inl ⟨i,rfl,hi,h⟩
theorem i_lenS (h:ma Γ (lsK Q)):mLenS ma Γ Q:=h
theorem i_lsK (hl:a.length≤1000000)(h:Q (.int (a.length:Int)) Γ):lsK Q (.str a) Γ:=⟨a,rfl,hl,h⟩
theorem i_inS (h:ma Γ (siJ mb Q)):mInS ma mb Γ Q:=h
theorem i_siJ {x:D}(h:mb Γ (siK x Q)):siJ mb Q x Γ:=h
theorem i_siK (h:Q (.bool (inS a b)) Γ):siK (.str a) Q (.str b) Γ:=⟨a,b,rfl,rfl,h⟩
theorem i_starts (h:ma Γ (swJ mb Q)):mStarts ma mb Γ Q:=h
theorem i_swJ (h:mb Γ (swK (.str a) Q)):swJ mb Q (.str a) Γ:=⟨⟨a,rfl⟩,h⟩
theorem i_swK (h:Q (.bool (Txt.startswith a b)) Γ):swK (.str a) Q (.str b) Γ:=⟨a,b,rfl,rfl,h⟩
theorem i_intS (h:ma Γ (inK Q)):mIntS ma Γ Q:=h
theorem i_inK {n:Int}(hn:PySem.intText? a=some n)(hl:a.length≤640)(h:Q (.int n) Γ):inK Q (.str a) Γ:=⟨a,n,rfl,hn,hl,h⟩
theorem i_split (h:ma Γ (spJ mb Qo)):mSplit ma mb Γ Qo:=h
theorem i_spJ (h:mb Γ (spK (.str a) Qo)):spJ mb Qo (.str a) Γ:=⟨⟨a,rfl⟩,h⟩
theorem i_spK (h1:(b.length==0)=false)(h2:a.length≤1000000)(h3:(Txt.split a b).length≤1000000)(h:Qo (.own ((Txt.split a b).map PyData.str)) Γ):spK (.str a) Qo (.str b) Γ:=⟨a,b,rfl,rfl,h1,h2,h3,h⟩
theorem i_ixS (h:ma Γ (xsJ mb Q)):mIxS ma mb Γ Q:=h
theorem i_xsJ {x:D}(h:mb Γ (xsK x Q)):xsJ mb Q x Γ:=h
theorem i_xsK {i:Int}{c:Nat}(hl:a.length≤1000000)(hc:atI a.cps.toList i=some c)(h:Q (.str ⟨#[c]⟩) Γ):xsK (.str a) Q (.int i) Γ:=⟨a,i,c,rfl,rfl,hl,hc,h⟩
theorem i_itS (h:ma Γ (isK Qd)):mItS ma Γ Qd:=h
theorem i_isK (h:Qd (signs a) Γ):isK Qd (.str a) Γ:=⟨a,rfl,h⟩
theorem i_slS (h:ma Γ fun x Γ1=>ml Γ1 fun lo Γ2=>mh Γ2 (sliK x lo Q)):mSlS ma ml mh Γ Q:=h
theorem i_sliK {lo hi:Option Int}(hl:a.length≤1000000)(h:Q (.str (cutS a lo hi)) Γ):sliK (.str a) lo Q hi Γ:=⟨a,rfl,hl,h⟩
end
end
end L2.VS
namespace L2
open PySem PySem.Spec PyProof.Rows
section
variable {X:Cx}
def tFs (m:PySem.Str)(ta tb:TE):TE:=fun σ H Q=>ta σ H fun x H1=>∃ i:Int,x=.int i∧i.natAbs.log2<1920∧(txI i++m).length≤sizeLine∧tb σ H1 fun y H2=>∃ j:Int,y=.int j∧j.natAbs.log2<1920∧((txI i++m)++txI j).length≤sizeLine∧Q (.str ((txI i++m)++txI j)) H2
theorem len_app (a b:PySem.Str):(a++b).length=a.length+b.length:=by
 show(a++b).cps.size=a.cps.size+b.cps.size
 rw[← length_toList,cps_app,length_append,length_toList,length_toList]
theorem empty_app (a:PySem.Str):PySem.Str.empty++a=a:=str_ext (by rw[cps_app]; rfl)
theorem pe_fstr3 {a b:Expr}{ta tb:TE}{m:PySem.Str}{k:Nat}{p1 p2 p3 pos:Pos}(ha:PE X a ta)(hb:PE X b tb):PE X (.JoinedStr [.FormattedValue a (-1) none p1,.Constant (.str m) k p2,.FormattedValue b (-1) none p3] pos) (tFs m ta tb):=by
 intro pins s σ H Q I h;refine wpAny_JoinedStr ?_;show wpAny _ _ (eval (.FormattedValue a (-1) none p1) X.env) _ _ _;refine wpAny_FormattedValue_plain (thn (ha pins s σ H _ I h) fun v s1 ⟨x,H1,I1,r1,i,e,hi,hm,q1⟩=>?_);subst e;obtain⟨t,rfl⟩:=r1;refine wpAny_formatField_int hi ⟨txI i,_,rfl,?_,?_⟩
 ·rw[empty_app];rw[len_app] at hm;omega
 show wpAny _ _ (eval (.Constant (.str m) k p2) X.env) _ _ _;refine Calls.Constant_str ⟨m,_,rfl,?_,?_⟩
 ·rw[empty_app];exact hm
 show wpAny _ _ (eval (.FormattedValue b (-1) none p3) X.env) _ _ _;refine wpAny_FormattedValue_plain (thn (hb pins _ σ H1 _ (I1.tok _) q1) fun v s2 ⟨y,H2,I2,r2,j,e,hj,hz,q2⟩=>?_);subst e;obtain⟨t2,rfl⟩:=r2;refine wpAny_formatField_int hj ⟨txI j,_,rfl,?_,?_⟩
 ·rw[empty_app]; exact hz
 ·rw[empty_app];exact⟨hz,.str _,H2,I2.tok _,⟨_,rfl⟩,q2⟩
end
end L2
namespace L2.VS
open PySem PySem.Spec PyProof.Rows
section
variable {P0:Addr→Hp→Prop}
def f3J (m:PySem.Str)(i:Int)(Q:D→En→Prop)(y:D)(Γ:En):Prop:=∃ j:Int,y=.int j∧j.natAbs.log2<1920∧((txI i++m)++txI j).length≤1000000∧Q (.str ((txI i++m)++txI j)) Γ
def f3K (m:PySem.Str)(mb:ME)(Q:D→En→Prop)(x:D)(Γ:En):Prop:=∃ i:Int,x=.int i∧i.natAbs.log2<1920∧(txI i++m).length≤1000000∧mb Γ (f3J m i Q)
def mFs (m:PySem.Str)(ma mb:ME):ME:=fun Γ Q=>ma Γ (f3K m mb Q)
theorem vt_fs {m:PySem.Str}{ta tb:TE}{ma mb:ME}(ha:VT P0 ta ma)(hb:VT P0 tb mb):VT P0 (tFs m ta tb) (mFs m ma mb):=by
 intro F Γ σ G H Q Qm r hm k;refine ha F Γ σ G H _ _ r hm fun d Γ1 x G1 H1 m1 s1 r1 d1=>?_;obtain⟨i,rfl,hi,hz,m1⟩:=m1
 cases d1
 refine⟨i,rfl,hi,sz1m hz,hb F Γ1 σ G1 H1 _ _ r1 m1 fun e Γ2 y G2 H2 m2 s2 r2 d2=>?_⟩;obtain⟨j,rfl,hj,hz2,q⟩:=m2
 cases d2
 exact⟨j,rfl,hj,sz1m hz2,k _ _ _ _ _ q (s1.trans s2) r2 (.str _)⟩
end
end L2.VS
namespace L2
open PySem PySem.Spec PyProof.Rows
end L2
namespace L2
open PySem PySem.Spec PyProof.Rows
section
variable {prog:Program}{w:World}{A:Around}{E:Value→Shared→Prop}{s:Shared}
end
section
variable {X:Cx}
end
end L2
namespace L2.VS
open PySem PySem.Spec PyProof.Rows
section
variable {P0:Addr→Hp→Prop}{K:Fg}
end
end L2.VS
namespace L2
open PySem PySem.Spec PyProof.Rows
theorem dict_mapF {f:Array Value→Array Value}:∀ o:Obj,(Obj.mapFields f o).dict=o.dict
 | ⟨_,_,dt,_⟩=>by cases dt<;>rfl
section
variable {M:Model}{A:Around}{E:Value→Shared→Prop}{s:Shared}{base:Heap}{env:Env}{outer l:List Env}{L e:Addr}{cls fl:Value}{dct:Option Addr}{Q:Unit→Shared→Prop}
def TrD (h base:Heap)(e:Addr)(cls:Value)(dct:Option Addr)(fl:Value):Prop:=
 ∃ oe vs T oT ts,h.get? e=some oe∧oe.cls=cls∧oe.dict=dct∧oe.data=.fields vs∧vs[1]?=some (.ref T)∧base.get? T=none∧T≠e∧h.get? T=some oT∧oT.data=.fields ts∧ts[3]?=some fl
structure LyD (base:Heap)(l:List Env)(e:Addr)(cls:Value)(dct:Option Addr)(fl:Value)(h:Heap):Prop where
 kb:base.StaysIn h
 en:base.get? e=none
 fr:h.FunFrames base l
 tr:TrD h base e cls dct fl
theorem enD {oe:Obj}{vs:Array Value}{head:Value}{hadNext:Bool}(hfr:A.frames=some (env::outer))(hl:s.heap.FunFrames base (env::outer))(hf:env.frame=some L)
  (he:s.heap.get? e=some oe) (kb:base.StaysIn s.heap) (en:base.get? e=none) (hd:oe.data=.fields vs) (hsz:1<vs.size)
  (h:∀ h',LyD base (env::outer) e oe.cls oe.dict (rawInt L) h'→s.heap.UpToSlots h'→Q () { s with heap:=h' }) :
  wpAny M A (do let a←frameOf env; let pl←entryPlaceOf L hadNext; let b←EntryCells.newEntry head a .none (rawInt L) .none pl; setField (.ref e) 1 b) Q E s:=by
 have nin:e∉(env::outer).filterMap (·.frame):=fun z=>by
  obtain⟨_,o,q,n⟩:=hl.mem z;rw[he] at q; cases q; exact n vs hd
 refine wpAny_bind (wpAny_frameOf_fun hfr hl hf fun h1 hs=>wpAny_bind (wpAny_entryPlaceOf fun pl hpl=>?_));unfold EntryCells.newEntry newFields;refine wpAny_bind (wpAny_newObj_type ?_ (hpl.sizeOk5 _ _ _ _ _));generalize hob:({ cls:=.type "traceback", dict:=none,data:=.fields ([head,.ref L,.none,rawInt L,.none]++(if pl.isEmpty then List.replicate 6 Value.none else pl)).toArray }:Obj)=ob;have obd:ob.data=.fields ([head,.ref L,.none,rawInt L,.none]++(if pl.isEmpty then List.replicate 6 Value.none else pl)).toArray:=by rw[← hob]
 have e1:h1.get? e=some oe:=(hs.2.1 e nin).trans he;have k1:base.StaysIn h1:=fun b o q=>(hs.2.1 b fun z=>by rw[(hl.mem z).1] at q; cases q).trans (kb b o q);have e2:=get?_push_of_some (h:=h1) ob e1;have ne:h1.objs.size≠e:=ne_of_gt (lt_size e1);have d3:=Obj.data_mapFields hd (·.setIfInBounds 1 (Value.ref h1.objs.size));refine wpAny_setField e2 hd hsz (h _ ?_ ?_)
 ·have keep:∀ b o,b≠e→h1.get? b=some o→((h1.push ob).update e (Obj.mapFields (·.setIfInBounds 1 (Value.ref h1.objs.size)))).get? b=some o:=fun b o z q=>by
   rw[get?_update_other _ _ (Ne.symm z)]; exact get?_push_of_some _ q
  refine⟨fun b o q=>keep b o (fun z=>by rw[z,en] at q; cases q) (k1 b o q),en,hl.of_keeps fun b o q nf=>?_,?_⟩
  ·obtain⟨sl,q2⟩:=hs.2.2 b o q;exact⟨_,keep b _ (fun z=>by rw[z,he] at q; cases q; exact nf vs hd) q2,rfl⟩
  ·refine⟨_,_,h1.objs.size,ob,_,get?_update_self _ e2 (Obj.isFreed_of_fields d3),Obj.cls_mapFields _ _,dict_mapF _,d3,by simp[hsz],k1.fresh,ne,?_,obd,?_⟩
   ·rw[get?_update_other _ _ (Ne.symm ne)];exact get?_push_size h1 (Obj.isFreed_of_fields obd)
   ·rcases hpl with rfl|⟨_,_,_,_,_,_,_,rfl⟩<;>simp
 ·intro b o q nf;obtain⟨sl,q2⟩:=hs.2.2 b o q;refine⟨sl,?_⟩;rw[get?_update_other _ _ fun z=>by rw[← z,he] at q; cases q; exact nf vs hd];exact get?_push_of_some _ q2
theorem noteD1 {oe:Obj}{vs:Array Value}(hfr:A.frames=some (env::outer))(hl:s.heap.FunFrames base (env::outer))(hf:env.frame=some L)
  (he:s.heap.get? e=some oe) (kb:base.StaysIn s.heap) (en:base.get? e=none) (hd:oe.data=.fields vs) (h1:vs[1]?=some .none)
  (h:∀ h',LyD base (env::outer) e oe.cls oe.dict (rawInt L) h'→s.heap.UpToSlots h'→Q () { s with heap:=h' }):wpAny M A (noteFrame (.ref e) env) Q E s:=by
 unfold noteFrame;simp only[hf];refine wpAny_bind (wpAny_field he hd h1 ?_);rw[if_neg (by decide)];exact enD hfr hl hf he kb en hd (Array.getElem?_eq_some_iff.mp h1).1 h
theorem noteD2 (hfr:A.frames=some (env::outer))(hf:env.frame=some L)(y:LyD base (env::outer) e cls dct .none s.heap)
  (h:∀ h',LyD base (env::outer) e cls dct (rawInt L) h'→s.heap.UpToSlots h'→Q () { s with heap:=h' }):wpAny M A (noteFrame (.ref e) env) Q E s:=by
 obtain⟨kb,en,hl,oe,vs,T,oT,ts,he,rfl,rfl,hd,h1,nT,ne,hT,dT,h3⟩:=y;unfold noteFrame;simp only[hf];refine wpAny_bind (wpAny_field he hd h1 ?_);rw[if_pos (show(Value.ref T != Value.none)=true from by simp)];refine wpAny_bind (wpAny_field hT dT h3 ?_);rw[if_neg (show ¬((Value.none==rawInt L)=true) from by simp[rawInt])];refine wpAny_bind (wpAny_setField hT dT (Array.getElem?_eq_some_iff.mp h3).1 ?_);have other:∀ b,b≠T→(s.heap.update T (Obj.mapFields (·.setIfInBounds 3 Value.none))).get? b=s.heap.get? b:=fun b z=>get?_update_other _ _ (Ne.symm z);have noT:∀ b o,s.heap.get? b=some o→(∀ vs,o.data≠.fields vs)→b≠T:=fun b o q nf z=>by rw[z,hT] at q; cases q; exact nf ts dT
 refine enD hfr (hl.of_keeps fun b o q nf=>⟨o,(other b (noT b o q nf)).trans q,rfl⟩) hf ((other e (Ne.symm ne)).trans he) (fun b o q=>(other b fun z=>by rw[z,nT] at q; cases q).trans (kb b o q)) en hd (Array.getElem?_eq_some_iff.mp h1).1
  fun h' y u=>h h' y fun b o q nf=>u b o ((other b (noT b o q nf)).trans q) nf
theorem flightD (y:LyD base l e cls dct fl s.heap)(h:∀ h',LyD base l e cls dct .none h'→s.heap.UpToSlots h'→Q () { s with heap:=h' }):wpAny M A (setFlight (.ref e) none) Q E s:=by
 obtain⟨kb,en,hl,oe,vs,T,oT,ts,he,rfl,rfl,hd,h1,nT,ne,hT,dT,h3⟩:=y;have z3:=(Array.getElem?_eq_some_iff.mp h3).1;have other:∀ b,b≠T→(s.heap.update T (Obj.mapFields (·.setIfInBounds 3 ((none:Option Addr).elim Value.none fun f=>rawInt f)))).get? b=s.heap.get? b:=fun b z=>get?_update_other _ _ (Ne.symm z);have noT:∀ b o,s.heap.get? b=some o→(∀ vs,o.data≠.fields vs)→b≠T:=fun b o q nf z=>by rw[z,hT] at q; cases q; exact nf ts dT
 unfold setFlight;refine wpAny_bind (wpAny_field he hd h1 ?_);rw[if_pos (show(Value.ref T != Value.none)=true from by simp)];refine wpAny_setField hT dT z3 (h _ ⟨fun b o q=>(other b fun z=>by rw[z,nT] at q; cases q).trans (kb b o q),en,hl.of_keeps fun b o q nf=>⟨o,(other b (noT b o q nf)).trans q,rfl⟩,?_⟩ fun b o q nf=>⟨o.slots,(other b (noT b o q nf)).trans q⟩);exact⟨oe,vs,T,_,_,(other e (Ne.symm ne)).trans he,rfl,rfl,hd,h1,nT,ne,get?_update_self _ hT (Obj.isFreed_of_fields (Obj.data_mapFields dT _)),Obj.data_mapFields dT _,by simp[z3]⟩
theorem LyD.out (y:LyD base (env::outer) e cls dct fl s.heap):LyD base outer e cls dct fl s.heap:=⟨y.kb,y.en,y.fr.2.2,y.tr⟩
theorem leaveD1 {oe:Obj}{vs:Array Value}(hfr:A.frames=some (env::outer))(hl:s.heap.FunFrames base (env::outer))(hf:env.frame=some L)
  (he:s.heap.get? e=some oe) (kb:base.StaysIn s.heap) (en:base.get? e=none) (hd:oe.data=.fields vs) (h1:vs[1]?=some .none)
  (h:∀ h',LyD base outer e oe.cls oe.dict .none h'→s.heap.UpToSlots h'→Q () { s with heap:=h' }):wpAny M A (leaving env (.ref e)) Q E s:=by
 unfold leaving;exact wpAny_bind (noteD1 hfr hl hf he kb en hd h1 fun h' y u=>flightD (s:={ s with heap:=h' }) y fun h2 y2 u2=>h h2 (LyD.out (s:={ s with heap:=h2 }) y2) (u.trans u2))
end
end L2
namespace L2
open PySem PySem.Spec PyProof.Rows
def CX2 (P:Program)(w:World):CXT:=fun outer H s E e s'=>∃(ea C:Addr) (D:Option Addr) (B:Heap) (H':Hp),e=.ref ea∧s'.os=s.os∧AllBare s'.gens ∧
 LyD B outer ea (.ref C) D .none s'.heap∧UnB (frs outer) H H' s.heap B s'.heap∧HOk P w H' B∧E (.ref C) D H'
def XNh (a C:Addr)(h:Heap):Prop:=∃ t,h.get? a=some { cls:=.ref C,data:=.fields #[.ref t,.none,.none,.none,.bool false,.none] }
def XN (a C:Addr):HO:=.ext (XNh a C)
def XFh (a C:Addr)(D:Option Addr)(h:Heap):Prop:=∃ t,h.get? a=some { cls:=.ref C,dict:=D,data:=.fields #[.ref t,.none,.none,.none,.bool false,.none] }
def XF (a C:Addr)(D:Option Addr):HO:=.ext (XFh a C D)
def XDh (a C:Addr)(D:Option Addr)(h:Heap):Prop:=∃ o vs,h.get? a=some o∧o.cls=.ref C∧o.dict=D∧o.data=.fields vs
def XD (a C:Addr)(D:Option Addr):HO:=.ext (XDh a C D)
theorem xn_ok {P:Program}{w:World}{H:Hp}{h:Heap}{a C:Addr}(q:XNh a C h):ObjOk P w H h a (XN a C):=⟨q,let ⟨_,q⟩:=q; ⟨_,q⟩,fun _ _ ⟨t,q⟩ k=>⟨t,k _ q⟩⟩
theorem xf_ok {P:Program}{w:World}{H:Hp}{h:Heap}{a C:Addr}{D:Option Addr}(q:XFh a C D h):ObjOk P w H h a (XF a C D):=⟨q,let ⟨_,q⟩:=q; ⟨_,q⟩,fun _ _ ⟨t,q⟩ k=>⟨t,k _ q⟩⟩
theorem xd_ok {P:Program}{w:World}{H:Hp}{h:Heap}{a C:Addr}{D:Option Addr}(q:XDh a C D h):ObjOk P w H h a (XD a C D):=⟨q,let ⟨o,_,q,_⟩:=q; ⟨o,q⟩,fun _ _ ⟨o,vs,q,r⟩ k=>⟨o,vs,k _ q,r⟩⟩
section
variable {X:Cx}{pins:List (Addr×Obj)}{σ:St}{H:Hp}{s:Shared}{M:Model}{F:Value→Shared→Prop}{E E':XK}
theorem Inv.leave2 {e C:Addr}{D:Option Addr}(I:Inv X pins σ (upd H e (XF e C D)) s)(hs:X.stack=X.env::X.outer)(hf:X.env.frame=some X.env.locals)(hex:X.ex=[])
  (hn:H e=none) (hnew:X.s₀.heap.get? e=none) (hE:E (.ref C) D H) :
  wpAny M X.A (leaving X.env (.ref e)) (fun _ s2=>CX2 X.prog X.w X.outer X.H₀ X.s₀ E (.ref e) s2) F s:=by
 have nex:∀ b:Addr,b∉X.ex:=fun b z=>by rw[hex] at z; exact nomatch z
 have hin:∀ env∈X.stack,∀ b,env.frame=some b→b∈e::frs X.stack:=fun env he b hb=>mem_cons_of_mem _ (mem_filterMap.mpr ⟨env,he,hb⟩);have stk:=PySem.W.funFrames_hide I.stack hin;obtain⟨t,he⟩:=(show ObjOk X.prog X.w _ s.heap e (XF e C D) from I.hok e _ aO).1;have ne:∀ b o,X.s₀.heap.get? b=some o→b≠e:=fun b o q z=>by rw[z,hnew] at q; cases q
 have nl:∀ b o,X.s₀.heap.get? b=some o→b∉frs X.outer→b∉e::frs X.stack:=fun b o q hb z=>(mem_cons.mp z).elim (ne b o q) (I.nstk hs hf q hb);have up:∀{b:Addr} {o:HO},(upd H e (XF e C D)) b=some o→b≠e→H b=some o:=fun{b o} q z=>by rw[aR z] at q; exact q
 refine leaveD1 (base:=hideAll s.heap (e::frs X.stack)) (outer:=X.outer) (L:=X.env.locals) (by rw[← hs]; exact I.ok.frames) (by rw[← hs]; exact stk) hf he (fun b o q=>of_hideAll _ q) (hideAll_none _ mem_cons_self) rfl rfl fun h2 y ups=>?_;refine⟨e,C,D,_,H,rfl,I.os,I.bare,y,⟨fun b o q n hb=>?_,fun b o q hb=>?_,fun b o q n=>?_,fun b o q hb=>?_,fun b xs q=>?_,fun b o u q=>?_,fun b ps q=>?_⟩,fun b o q=>?_,hE⟩
 ·exact hideAll_get _ (I.base.keep b o q n hb (nex b)) (nl b o q hb)
 ·obtain⟨sl,q1⟩:=I.base.slot b o q (I.ok.frf b hb) hb (nex b);obtain⟨_,o',q2,nf⟩:=I.ok.funs.mem hb;rw[q] at q2
  cases q2
  exact ups b { o with slots:=sl } q1 nf
 ·have z:=I.base.free b o q n (nex b);rw[aR (ne b o q)] at z;exact z
 ·obtain⟨o',q1⟩:=I.base.there b o q (nex b);exact⟨o',hideAll_get _ q1 (nl b o q hb)⟩
 ·have z:=I.base.tups b xs q;exact up z fun y=>by rw[y,aO] at z; cases z
 ·have z:=I.base.frzs b o u q;exact up z fun y=>by rw[y,aO] at z; cases z
 ·obtain⟨more,z⟩:=I.base.tbls b ps q;exact⟨more,up z fun y=>by rw[y,aO] at z; cases z⟩
 ·have nb:∀{c:Addr} {u:HO},H c=some u→c≠e:=fun{c u} q z=>by rw[z,hn] at q; cases q
  refine(I.hok b o (by rw[aR (nb q)]; exact q)).stay (fun c u hc q1=>hideAll_get _ q1 fun z=>?_) (fun c q1=>up q1 fun y=>by rw[y,aO] at q1; cases q1) fun c xs q1=>up q1 fun y=>by rw[y,aO] at q1; cases q1
  rcases mem_cons.mp z with z|z
  ·subst z;rcases hc with hc|hc
   ·exact nb q hc.symm
   ·rw[aO] at hc; cases hc
  ·have hnn:=I.stkFree c z;rcases hc with hc|hc
   ·rw[hc,aR (nb q),q] at hnn; cases hnn
   ·rw[hc] at hnn; cases hnn
theorem Inv.caught2 {H':Hp}{B h h6:Heap}{ea C:Addr}{D:Option Addr}{fl:Value}{g:Array GenState}{d:Drawn}{t:Nat}(I:Inv X pins σ H s)
    (u:UnB (frs X.stack) H H' s.heap B h) (hok:HOk X.prog X.w H' B) (bare:AllBare g) (y:LyD B X.stack ea (.ref C) D fl h6) (ups:h.UpToSlots h6) :
    H' ea=none∧Inv X pins σ (upd H' ea (XD ea C D)) { s with heap:=h6,gens:=g,drawn:=d,toks:=t }:=by
  have tB:∀ b o,H' b=some o→∃ o',B.get? b=some o':=fun b o q=>(hok b o q).has;have hne:H' ea=none:=by
    cases z:H' ea with
    | none=>rfl
    | some o=>
      obtain⟨o',q⟩:=tB ea o z;rw[y.en] at q; cases q
  obtain⟨oe,vs,_,_,_,hoe,hoc,hdd,hod,_⟩:=y.tr;have nfr:ea∉frs X.stack:=fun z=>by
    obtain⟨_,o,q,nf⟩:=y.fr.mem z;rw[hoe] at q; cases q;exact nf _ hod
  have nea:∀ b o,s.heap.get? b=some o→b≠ea:=fun b o q z=>by
    subst z;obtain⟨o',q'⟩:=u.there b o q nfr;rw[y.en] at q'; cases q'
  have slot:∀ b o,s.heap.get? b=some o→b∈frs X.stack→∃ sl,h6.get? b=some { o with slots:=sl }:=fun b o q hb=>by
    obtain⟨sl,q1⟩:=u.slot b o q hb;obtain⟨_,o',q2,nf⟩:=I.stack.mem hb;rw[q] at q2; cases q2;exact ups b { o with slots:=sl } q1 nf
  have un:Un (frs X.stack) [] H (upd H' ea (XD ea C D)) s.heap h6:=
    ⟨fun b o q n hb _=>y.kb b o (u.keep b o q n hb),fun b o q n hb _=>slot b o q hb,fun b o q n _=>by rw[aR (nea b o q)]; exact u.free b o q n,fun b o q _=>by
      by_cases hb:b∈frs X.stack
      · obtain⟨sl,q1⟩:=slot b o q hb; exact⟨_,q1⟩
      · obtain⟨o',q1⟩:=u.there b o q hb; exact⟨o',y.kb b o' q1⟩,
     fun b xs q=>by rw[aR (aZ (u.tups b xs q) hne)]; exact u.tups b xs q,fun b o x q=>by rw[aR (aZ (u.frzs b o x q) hne)]; exact u.frzs b o x q,
     fun b ps q=>by
      obtain⟨more,z⟩:=u.tbls b ps q;exact⟨more,by rw[aR (aZ z hne)]; exact z⟩⟩
  refine⟨hne,I.call (ch:=[]) un (fun b o q=>?_) bare fun _ z=>nomatch z⟩
  by_cases hb:b=ea
  · subst hb;rw[aO] at q
    cases q
    exact xd_ok ⟨oe,vs,hoe,hoc,hdd,hod⟩
  · rw[aR hb] at q;exact(hok b o q).stay (fun c v _ q=>y.kb c v q) (fun c q=>by rw[aR (aZ q hne)]; exact q) fun c xs q=>by rw[aR (aZ q hne)]; exact q
end
section
variable {P:Program}{w:World}{K:Fg}{mg:Mg}{base:Heap}{N:List Str}{qual:Str}{scope:Scope}{f:Addr}{cd:Value}{A:Around}{outer:List Env}{s:Shared}{H:Hp}{E E':XK}
end
def xcIn (K:Fg)(C:Addr):Bool:=match K.lookup C with
 | some ⟨.type "type", _,.cls cd,sl⟩=>(match cd.mro,sl.toList with
  | .ref C'::bm,[_,_,_,_,some (.builtin n),_]=>C'==C&&n == "ValueError.__new__" && !cd.hasDel&&cd.hasDict&&tailIn K vmro bm
  | _,_=>false)
 | _=>false
theorem xc_in {K:Fg}{C:Addr}{h:Heap}(G:K.In h)(z:xcIn K C=true) :
  ∃ bm N nm q bs sn sub ab col dd k0 k1 k2 k3 k5,h.get? C=some (excClassObj nm q C N bs bm true sn sub ab col dd k0 k1 k2 k3 k5 "ValueError.__new__")∧OwnTail h vmro bm ∧
   K.lookup C=some (excClassObj nm q C N bs bm true sn sub ab col dd k0 k1 k2 k3 k5 "ValueError.__new__"):=by
 unfold xcIn at z
 split at z
 next dd cd sl ho=>
  split at z
  next D bm k0 k1 k2 k3 n k5 hm hs=>
   simp only[and_eq_true,beq_iff_eq,Bool.not_eq_true'] at z;obtain⟨⟨⟨⟨e1,e2⟩,e3⟩,e4⟩,e5⟩:=z;obtain⟨nm,bs,mro,ns,qn,hd,sn,sub,ab,col,del⟩:=cd;obtain⟨l⟩:=sl;dsimp only at hm hs e3 e4;subst e1 e2 hm hs e3 e4;exact⟨bm,ns,nm,qn,bs,sn,sub,ab,col,dd,k0,k1,k2,k3,k5,G _ _ ho,PySem.W.tail_of_in G e5,ho⟩
  next=>cases z
 next=>cases z
section
variable {prog:Program}{w:World}{A:Around}{E:Value→Shared→Prop}{h:Heap}{g:Array GenState}{d:Drawn}{t:Nat}{os:OsState}{K:Fg}{C fI:Addr}{rest:List Value}
theorem xi_type {Q:Fin→Shared→Prop}(G:K.In h)(z:xcIn K C=true)(hi:findIn K (.ref C) "__init__" = some (some (.ref fI)))(hf:typeIn K (.ref fI)=some (.type "function"))
  (hq:∀ h' e,(∀ b o,h.get? b=some o→h'.get? b=some o)→h.objs.size≤e→XNh e C h' →
   wpAny (model prog w) A (call (.ref fI) (.ref e::rest)) (fun r s'=>r=.none∧Q (.done (.ret (.ref e))) s') E ⟨h',g,d,t,os⟩) (hrest:rest.length≤sizeLine) :
  wpAny (model prog w) A (Builtin.«type.__call__» ⟨.ref C::rest,[]⟩) Q E ⟨h,g,d,t,os⟩:=by
 obtain⟨bm,N,nm,q,bs,sn,sub,ab,col,dd,k0,k1,k2,k3,k5,hC,T,_⟩:=xc_in G z;have FB:=PySem.F.excBase_ValueError
 repeat (first|with_reducible refine wpAny_loadPart_at hC ?_|with_reducible refine wpAny_madeBy_exc hC ?_|wp_step)
 refine codeAny_call_builtin_code (Code.quiet_builtin _ FB.quiet) (wpAny_check_new_subT FB T hC ?_);refine codeAny_exc_new_subT FB T hC ?_ hrest;show wpAny _ _ _ _ _ _;generalize h2e:(h.push { cls:=.type "tuple", data:=.seq rest.toArray }).push { cls:=.ref C,data:=.fields #[.ref h.objs.size,.none,.none,.none,.bool false,.none] }=h2;have kp:∀ b o,h.get? b=some o→h2.get? b=some o:=fun b o q=>by rw[← h2e]; exact get?_push_of_some _ (get?_push_of_some _ q)
 have hget:h2.get? (h.objs.size+1)=some { cls:=.ref C,data:=.fields #[.ref h.objs.size,.none,.none,.none,.bool false,.none] }:=by rw[← h2e]; heap_get
 have G2:K.In h2:=G.keeps kp;have hC2:=kp _ _ hC;have y2:(Value.ref C::bm).contains (.ref C)=true:=by simp
 unfold isInstance
 repeat (first|with_reducible refine wpAny_loadPart_at hget ?_|(with_reducible refine wpAny_isSubtype_exc hC2 ?_; rw[y2])|wp_step)
 show wpAny _ _ (typeLookup (.ref C) _) _ _ _;refine(looks_findIn G2 hi).at ?_;refine wpAny_holding (wpAny_bind ((PySem.W.bind_fn G2 _ hf).at ?_));refine wpAny_bind (wpAny_mono (hq h2 (h.objs.size+1) kp (Nat.le_succ _) ⟨_,hget⟩) (fun r s' hr=>?_) fun _ _ x=>x);obtain⟨rfl,hQ⟩:=hr
 wp_walk
 exact hQ
theorem xi_call {Q:Value→Shared→Prop}(G:K.In h)(z:xcIn K C=true)(hi:findIn K (.ref C) "__init__" = some (some (.ref fI)))(hf:typeIn K (.ref fI)=some (.type "function"))
  (hq:∀ h' e,(∀ b o,h.get? b=some o→h'.get? b=some o)→h.objs.size≤e→XNh e C h' →
   wpAny (model prog w) (A.under (.builtin "type.__call__" ⟨.ref C::rest,[]⟩)) (call (.ref fI) (.ref e::rest)) (fun r s'=>r=.none∧Q (.ref e) s') E ⟨h',g,d,t,os⟩) (hrest:rest.length≤sizeLine) :
  wpAny (model prog w) A (call (.ref C) rest) Q E ⟨h,g,d,t,os⟩:=by
 obtain⟨bm,N,nm,q,bs,sn,sub,ab,col,dd,k0,k1,k2,k3,k5,hC,T,_⟩:=xc_in G z;have y1:=tc_lookup;have y2:=tc_bind (.ref C);have y3:(⟨h,g,d,t,os⟩:Shared).TypeIs (.ref C) "type" := ⟨_,hC,rfl⟩;refine wpAny_call (codeAny_of_tree ?_);show wpAny _ _ (callAny (.ref C) _) _ _ _
 repeat (any_goals (first|assumption|with_reducible refine wpAny_loadPart_at hC ?_|wp_step))
 refine⟨rfl,?_⟩;exact codeAny_call_builtin_at (Code.quiet_builtin _ (by decide +kernel)) entry_typeCall (wpAny_check_type_call_sub hC (xi_type G z hi hf hq hrest))
end
end L2
namespace L2
open PySem PySem.Spec PyProof.Rows Builtin Builtin.ObjectAttr
section
variable {prog:Program}{w:World}{A:Around}{E:Value→Shared→Prop}{s:Shared}{K:Fg}{C x:Addr}
theorem xb_init {rest:List Value}{Q:Value→Shared→Prop}(G:K.In s.heap)(z:xcIn K C=true)(hx:XNh x C s.heap)
  (h:∀ h',(∀ b o,b≠x→s.heap.get? b=some o→h'.get? b=some o)→XNh x C h'→Q .none { s with heap:=h' }) (hz:rest.length≤sizeLine) :
  wpAny (model prog w) A (call (.builtin "ValueError.__init__") (.ref x::rest)) Q E s:=by
 obtain⟨bm,N,nm,q,bs,sn,sub,ab,col,dd,k0,k1,k2,k3,k5,hC,T,_⟩:=xc_in G z;have FB:=PySem.F.excBase_ValueError;obtain⟨hh,g,d,t,os⟩:=s;obtain⟨t0,hx⟩:=hx;dsimp only at hC T hx h;refine wpAny_call (codeAny_call_builtin FB.init.plain FB.initEntry (wpAny_check_init_subT FB T hC hx rfl ?_));have hx2:=get?_push_of_some { cls:=.type "tuple", data:=.seq rest.toArray } hx
 wp_walk
 refine h _ (fun b o nb q=>?_) ⟨hh.objs.size,?_⟩
 ·rw[get?_update_other _ _ (Ne.symm nb)];exact get?_push_of_some _ q
 ·rw[get?_update_self _ hx2 rfl];rfl
theorem xb_set {f:Str}{v:Value}{Q:Unit→Shared→Prop}(G:K.In s.heap)(z:xcIn K C=true)(hs:findIn K (.ref C) "__setattr__" = some (some (.builtin "object.__setattr__")))(hn:findIn K (.ref C) f=some none)(hx:XNh x C s.heap)
  (h:∀ h' t',(∀ b o,b≠x→s.heap.get? b=some o→h'.get? b=some o)→XFh x C (some s.heap.objs.size) h'→h'.Ns1 s.heap.objs.size (fun y=>if y=f then some v else none)→Q () { s with heap:=h',toks:=t' }) :
  wpAny (model prog w) A (setAttr (.ref x) f v) Q E s:=by
 obtain⟨bm,N,nm,q,bs,sn,sub,ab,col,dd,k0,k1,k2,k3,k5,hC,T,hl⟩:=xc_in G z;have SF:=PySem.F.store_ValueError;obtain⟨t0,hx⟩:=hx;obtain⟨hh,g,d,t,os⟩:=s;dsimp only at hC T hx h G;have J:PySem.W.InstAt hh x _ C none:=⟨hx,rfl,rfl,trivial⟩;refine PySem.W.set_plain G J hs ?_;have ho:(Value.ref C::bm).contains (.type "object")=true:=by rw[contains_cons,T.hasType (by decide:vmro.contains (.type "object")=true),Bool.or_true]
 have rl:∀ self:Value,refuseLoop self "__setattr__" bm=pure ():=fun self=>by
  clear hC ho hl
  induction T with
  | base=>exact SF.passes self
  | own _ _ _ _ ih=>rw[refuseLoop_ref]; exact ih
 have hm:PySem.W.Looks (model prog w) hh (mroOf (.ref C)) (.ref C::bm):=fun A Q E s k q=>wpAny_mroOf_exc (k _ _ hC) q;have hin:PySem.W.Looks (model prog w) hh (isInstance (.ref x) (.type "object")) true:=J.type.andThen fun A Q E s k q=>wpAny_isSubtype_exc (k _ _ hC) (by rw[ho]; exact q);refine codeAny_call_builtin SF.slot.plain SF.entry (@PySem.W.check_slot (model prog w) _ _ ⟨hh,g,d,t+1,os⟩ "object.__setattr__" "object" "__setattr__" (.ref x) [.str f t,v] [] _ SF.kind SF.split hin (SF.args (.ref x) (.str f t) v) ?_);rw[osa_eq,refuse_eq];refine wpAny_bind (wpAny_bind (J.type.at (wpAny_bind (hm.at ?_))));rw[refuseLoop_ref,rl];refine wpAny_pure (wpAny_bind (J.type.at (wpAny_bind ((looks_findIn G hn).at (wpAny_bind (wpAny_pure ?_))))));unfold storeInOwnDict;generalize hsd:storeInDict=sd
 repeat (first|with_reducible refine wpAny_loadPart_at hx ?_|with_reducible refine wpAny_loadPart_at hC ?_|wp_step)
 subst hsd;have hx1:(hh.push { cls:=.type "dict", data:=.dict #[] }).get? x=some { cls:=.ref C,data:=.fields #[.ref t0,.none,.none,.none,.bool false,.none] }:=get?_push_of_some _ hx;have nx:x≠hh.objs.size:=ne_of_lt (lt_size hx);generalize he:((hh.push { cls:=.type "dict", data:=.dict #[] }).update x fun o=>{ cls:=o.cls,dict:=some hh.objs.size,data:=o.data,slots:=o.slots })=h1;have x1:h1.get? x=some { cls:=.ref C,dict:=some hh.objs.size,data:=.fields #[.ref t0,.none,.none,.none,.bool false,.none] }:=by rw[← he]; exact get?_update_self _ hx1 rfl
 have d1:h1.get? hh.objs.size=some { cls:=.type "dict", data:=.dict #[] }:=by rw[← he]; exact(Heap.get?_update_ne _ _ _ _ nx.symm).trans (Heap.get?_push_at rfl rfl)
 have k1:∀ b o,b≠x→hh.get? b=some o→h1.get? b=some o:=fun b o nb q=>by rw[← he]; exact(Heap.get?_update_ne _ _ _ _ nb).trans (get?_push_of_some _ q)
 have n1:h1.Ns hh.objs.size (fun _=>none):=⟨_,#[],_,d1,rfl,fun e z=>absurd z (by simp),fun _=>rfl⟩;unfold storeInDict newKeyGuard;refine wpAny_bind (wpAny_pure (wpAny_bind (wpAny_nsSet1 (Heap.Ns1.of_empty n1) fun h' n2 sb=>?_)));obtain⟨oD,esD,epD,hoD,hdD,hcD⟩:=n2.count (Within.cons f v Within.nil);refine wpAny_bind (wpAny_lookBehind hoD (by rw[hdD]; exact pastItsLine_dict (le_trans hcD (by rw[length_cons,List.length_nil,sizeLine_eq]; omega))) ?_);exact wpAny_pure (h h' _ (fun b o nb q=>(sb.2 b (ne_of_lt (lt_size q))).trans (k1 b o nb q)) ⟨t0,(sb.2 x nx).trans x1⟩ n2)
end
theorem upd_self {H:Hp}{a:Addr}{o:HO}(h:H a=some o):upd H a o=H:=by
 funext b
 unfold upd
 split
 ·rename_i z; rw[z]; exact h.symm
 ·rfl
section
variable {X:Cx}{pins:List (Addr×Obj)}{σ:St}{H:Hp}{s:Shared}
theorem Inv.xset {x C d:Addr}{f:Str}{y:V}{v:Value}{h':Heap}{t':Nat}(I:Inv X pins σ H s)(hx:H x=some (XN x C))(hd:s.heap.objs.size≤d)(ne:d≠x)(k:∀ b o,b≠x→s.heap.get? b=some o→h'.get? b=some o)
  (xf:XFh x C (some d) h') (n:h'.Ns1 d (fun z=>if z=f then some v else none)) (r:RelV y v):Inv X pins σ (upd (upd H d (.xd [(f,y)])) x (XF x C (some d))) { s with heap:=h',toks:=t' }:=by
 have fd:H d=none:=I.hok.fresh hd;have nd:∀{b:Addr} {o:Obj},s.heap.get? b=some o→b≠d:=fun{b o} q z=>absurd (lt_size q) (by rw[z]; exact not_lt.mpr hd);have up:∀{b:Addr},b≠x→b≠d→(upd (upd H d (.xd [(f,y)])) x (XF x C (some d))) b=H b:=fun{b} a c=>by rw[aR a,aR c]
 have nx:∀{b:Addr} {o:HO},H b=some o→o≠XN x C→b≠x:=fun{b o} q z e=>by rw[e,hx] at q; cases q; exact z rfl
 have ndd:∀{b:Addr} {o:HO},H b=some o→b≠d:=fun{b o} q e=>by rw[e,fd] at q; cases q
 refine I.un ⟨fun b o q n _ _=>k b o (fun z=>by rw[z,hx] at n; cases n) q,fun b o q n _ _=>⟨o.slots,k b o (fun z=>by rw[z,hx] at n; cases n) q⟩,fun b o q n _=>?_,fun b o q _=>?_,fun b xs q=>?_,fun b o u q=>?_,fun b ps q=>?_⟩ fun b o q=>?_
 ·rw[up (fun z=>by rw[z,hx] at n; cases n) (nd q)]; exact n
 ·by_cases z:b=x
  ·obtain⟨_,q⟩:=xf;exact⟨_,z▸q⟩
  ·exact⟨o,k b o z q⟩
 ·rw[up (nx q fun z=>nomatch z) (ndd q)]; exact q
 ·rw[up (nx q fun z=>nomatch z) (ndd q)]; exact q
 ·exact⟨#[],by rw[up (nx q fun z=>nomatch z) (ndd q),q,Array.append_empty]⟩
 ·by_cases z:b=x
  ·subst z;rw[aO] at q
   cases q
   exact xf_ok xf
  ·rw[aR z] at q
   by_cases z2:b=d
   ·subst z2;rw[aO] at q
    cases q
    refine⟨_,n,fun g=>?_⟩;show RelO (List.lookup g [(f,y)]) _
    by_cases e:g=f
    ·subst e;simp only[List.lookup,beq_self_eq_true,if_true];exact r
    ·have e2:(g==f)=false:=beq_eq_false_iff_ne.mpr e;simp only[List.lookup,e2,if_neg e];exact trivial
   ·rw[aR z2] at q;refine(I.hok b o q).stay (fun c u hc q1=>k c u (fun e=>?_) q1) (fun c q1=>?_) fun c xs q1=>?_
    ·rcases hc with hc|hc
     ·exact z (hc.symm.trans e)
     ·rw[e,hx] at hc; cases hc
    ·rw[up (nx q1 fun z=>nomatch z) (ndd q1)]; exact q1
    ·rw[up (nx q1 fun z=>nomatch z) (ndd q1)]; exact q1
end
section
variable {X:Cx}{C D0:Addr}{lx f:Str}{lp ap cp p p1 pos pos':Pos}{e1 e2 o value:Expr}{t:TA}{ta tv:TE}
def tBInit (C:Addr)(t:TA):TS:=fun D σ H=>t σ H fun vs H1=>∃ x v,vs=[.ref x,v]∧H1 x=some (XN x C)∧D.nx σ H1
theorem ps_binit {pl:Sem Bool}(hg:Gl X lx)(hm:X.mg lx=some (.ref D0))(hsp:specialIn X.K (.ref D0) "__getattribute__" = some (some (.builtin "type.__getattribute__")))(hr:readsIn X.K D0 (.type "type")=true)
  (hc:findCls X.K (.ref D0) (.type "type") "__init__" = some (.val (.builtin "ValueError.__init__"))) (z:xcIn X.K C=true) (ha:PA X [e1,e2] t)
  (hd:(lx==("__debug__" : Str))=false:=by decide) (hs:swapsWith (.Call (.Attribute (.Name lx lp) "__init__" ap) [e1,e2] [] cp) none p.line X.env=pure false:=by rfl) (hst:starEach [e1,e2] X.env=[(false,eval e1 X.env),(false,eval e2 X.env)]:=by rfl)
  (ht:eval (.Call (.Attribute (.Name lx lp) "__init__" ap) [e1,e2] [] cp) X.env=(do
   let ov←eval (.Name lx lp) X.env
   standAt ap.atName
   let (f,first)←holding [ov] (getMethod ov "__init__" pl)
   callWith cp f first (backTo cp (starEach [e1,e2] X.env)) (backToKw cp (keywordEach [] X.env))):=by rfl) :
  PS X (.Expr (.Call (.Attribute (.Name lx lp) "__init__" ap) [e1,e2] [] cp) p) (tBInit C t):=by
 intro pins s σ H D I h;refine wpAny_Expr_any ?_ I.quiet hs;refine PySem.W.methodCall_KW (pl:=pl) (ld_glob I hg hm ?_ hd) ht;refine PySem.W.method_cls I.kIn hsp (PySem.W.cls_value I.kIn hr hc rfl ?_);have hh:=ha cp pins { s with toks:=s.toks+1 } σ H _ (I.tok _) h;show wpAny _ _ (callWith cp (.builtin "ValueError.__init__") [] (backTo cp (starEach [e1,e2] X.env)) []) _ _ _;rw[hst] at hh ⊢;refine Calls.callWith_builtin rfl (Calls.evalArgs_plain (wpAny_mono hh (fun us s1 y=>?_) fun _ _ y=>y));obtain⟨vs,H1,I1,r,x,v,rfl,hx,q⟩:=y;obtain⟨u1,u2,rfl,r1,_⟩:=vals2 r
 cases r1
 refine xb_init I1.kIn z (show ObjOk X.prog X.w _ s1.heap x (XN x C) from I1.hok x _ hx).1 (fun h' k xn=>⟨σ,H1,?_,q⟩) (by rw[sizeLine_eq]; simp);have I2:=I1.write (x:=x) (e:=x) (o:=XN x C) (h':=h') (t':=s1.toks) (by rw[hx]; exact True.intro) (.inl rfl) (fun b u nb q=>k b u nb q) (let ⟨_,q⟩:=xn; ⟨_,q⟩) (xn_ok xn);rw[upd_self hx] at I2;exact I2
def tXSet (C:Addr)(f:Str)(ta tv:TE):TS:=fun D σ H=>tv σ H fun y H1=>ta σ H1 fun ox H2=>∃ x,ox=.ref x∧H2 x=some (XN x C)∧∀ d,H2 d=none→d≠x→D.nx σ (upd (upd H2 d (.xd [(f,y)])) x (XF x C (some d)))
theorem ps_xset (z:xcIn X.K C=true)(hsa:findIn X.K (.ref C) "__setattr__" = some (some (.builtin "object.__setattr__")))(hn:findIn X.K (.ref C) f=some none)(ha:PE X o ta)(hv:PE X value tv)
  (hs:swapsWith value (some (.Attribute o f pos')) pos.line X.env=pure false:=by rfl):PS X (.Assign [.Attribute o f pos'] value pos) (tXSet C f ta tv):=by
 intro pins s σ H D I h;refine plainObj_wpAny_Assign_Attribute (thn (hv pins s σ H _ I h) fun u s1 ⟨y,H1,I1,ry,q⟩=>thn (ha pins s1 σ H1 _ I1 q) fun ov s2 ⟨ox,H2,I2,rx,x,ex,hx,q2⟩=>?_) hs;subst ex
 cases rx
 refine xb_set I2.kIn z hsa hn (show ObjOk X.prog X.w _ s2.heap x (XN x C) from I2.hok x _ hx).1 fun h' t' k xf n=>?_;have ne:s2.heap.objs.size≠x:=ne_of_gt (I2.hok.lt hx);exact⟨σ,_,I2.xset hx (le_refl _) ne k xf n ry,q2 _ (I2.hok.fresh (le_refl _)) ne⟩
def tFs1 (m:PySem.Str)(ta:TE):TE:=fun σ H Q=>ta σ H fun x H1=>∃ i:Int,x=.int i∧i.natAbs.log2<1920∧(m++txI i).length≤sizeLine∧Q (.str (m++txI i)) H1
theorem pe_fstr1 {m:PySem.Str}{k:Nat}(ha:PE X e1 ta)(hz:m.length≤1000:=by decide):PE X (.JoinedStr [.Constant (.str m) k p,.FormattedValue e1 (-1) none p1] pos) (tFs1 m ta):=by
 intro pins s σ H Q I h;have key:∀ t:Nat,wpAny (model X.prog X.w) X.A (eval (.FormattedValue e1 (-1) none p1) X.env) (fun v s1=>∃ i:Int,(∃ t2,v=Value.str (txI i) t2)∧(m++txI i).length≤sizeLine∧∃ H1,Inv X pins σ H1 s1∧Q (.str (m++txI i)) H1) X.xe { s with toks:=t }:=fun t=>by
  refine wpAny_FormattedValue_plain (thn (ha pins _ σ H _ (I.tok t) h) fun v s1 ⟨x,H1,I1,r1,i,e,hi,hm,q1⟩=>?_);subst e;obtain⟨t,rfl⟩:=r1;exact wpAny_formatField_int hi ⟨i,⟨_,rfl⟩,hm,H1,I1.tok _,q1⟩
 refine wpAny_JoinedStr ?_;show wpAny _ _ (eval (.Constant (.str m) k p) X.env) _ _ _;refine Calls.Constant_str ⟨m,_,rfl,?_,?_⟩
 ·rw[empty_app,sizeLine_eq];exact le_trans hz (by decide)
 show wpAny _ _ (eval (.FormattedValue e1 (-1) none p1) X.env) _ _ _;refine wpAny_mono (key _) (fun v s1 z=>?_) fun _ _ z=>z;obtain⟨i,⟨t2,rfl⟩,hm,H1,I1,q⟩:=z;refine⟨txI i,_,rfl,?_,?_⟩
 ·rw[empty_app]; exact hm
 ·rw[empty_app];exact⟨hm,.str _,H1,I1.tok _,⟨_,rfl⟩,q⟩
theorem xr_stmt {M:Model}{A:Around}{E:Value→Shared→Prop}{s:Shared}{env:Env}{K:Fg}{x:Sem Value}{Q:Flow→Shared→Prop}(z:xcIn K C=true)(hh:A.handled=none)
  (h:wpAny M A x (fun v s1=>∃ e D,v=.ref e∧K.In s1.heap∧XFh e C D s1.heap∧E (.ref e) s1) E s):wpAny M A (raiseStmt env (some x) none) Q E s:=by
 unfold raiseStmt;refine wpAny_bind (wpAny_mono h (fun v s1 h1=>?_) fun _ _ x=>x);obtain⟨e,D,rfl,G,⟨t0,he⟩,hE⟩:=h1;obtain⟨bm,N,nm,q,bs,sn,sub,ab,col,dd,k0,k1,k2,k3,k5,hC,T,_⟩:=xc_in G z;have y:(Value.ref C::bm).contains (.type "BaseException")=true:=by rw[contains_cons,T.hasType (by decide:vmro.contains (.type "BaseException")=true),Bool.or_true]
 obtain⟨hp,g,d,tk,os⟩:=s1;dsimp only at hC he
 repeat (first|with_reducible refine wpAny_loadPart_at he ?_|with_reducible refine wpAny_loadPart_at hC ?_|(with_reducible refine wpAny_isSubtype_exc hC ?_; rw[y])|wp_step)
 exact wpAny_raiseNew_none hh hE
def spXI (C:Addr)(f:Str):Sp:=fun vs H Q _=>∃(x:Addr) (i:Int),vs=[.ref x,.int i]∧H x=some (XN x C)∧i.natAbs<1000∧∀ d,H d=none→d≠x→Q .non (upd (upd H d (.xd [(f,.int i)])) x (XF x C (some d)))
def tRaiseI (C:Addr)(f:Str)(E:XK)(t:TA):TS:=fun _ σ H=>t σ H fun vs H1=>∃ i:Int,vs=[.int i]∧i.natAbs<1000∧∀ d,H1 d=none→E (.ref C) (some d) (upd H1 d (.xd [(f,.int i)]))
theorem ps_raiseI {E:XK}{fI:Addr}{fd:FuncData}{ps:List Str}{k:Nat}{x:Str}{e0:Expr}{np cpos:Pos}
  (hxe:∀(pins:List (Addr×Obj)) (σ:St) (H:Hp) (s:Shared) (e:Addr) (D:Option Addr),Inv X pins σ (upd H e (XF e C D)) s→H e=none→X.s₀.heap.get? e=none→E (.ref C) D H→X.xe (.ref e) s)
  (hex:X.ex=[]) (hcalm:X.calm=true) (hg:Gl X x) (hm:X.mg x=some (.ref C)) (z:xcIn X.K C=true) (hi:findIn X.K (.ref C) "__init__" = some (some (.ref fI))) (hf:typeIn X.K (.ref fI)=some (.type "function"))
  (F:FnOk X.prog X.w X.K X.mg X.base CX0 k fI fd ps (spXI C f)) (hr:Room (k+1) X.A) (hb:Binds X.K fd ps []) (ha:PA X [e0] t)
  (he:starEach [e0] X.env=[(false,eval e0 X.env)]:=by rfl) (hd:(x==("__debug__" : Str))=false:=by decide) :
  PS X (.Raise (some (.Call (.Name x np) [e0] [] cpos)) none pos) (tRaiseI C f E t):=by
 intro pins s σ H D I h;rw[arm_exec_Raise];refine wpAny_bind (wpAny_standAt (xr_stmt z (I.ok.hd hcalm) (wpAny_bind (wpAny_mono (wpAny_Call_ofName (ld_glob I hg hm ?_ hd)) (fun v s3 h3=>wpAny_bind (wpAny_standAt (wpAny_pure h3))) fun _ _ x=>x))));have hh:=ha cpos pins s σ H _ I h;unfold callWith;rw[he] at hh ⊢;refine wpAny_bind (wpAny_holding (Calls.evalArgs_plain (wpAny_mono hh (fun us s2 y=>wpAny_bind (wpAny_standAt ?_)) fun _ _ x=>x)));obtain⟨vs,H1,I1,r,i,rfl,hz,q⟩:=y;obtain⟨u,rfl,ru⟩:=vals1 r;obtain⟨bm,N,nm,qn,bs,sn,sub,ab,col,dd,k0,k1,k2,k3,k5,hC,T,_⟩:=xc_in I1.kIn z;obtain⟨hp,g,d,tk,os⟩:=s2;dsimp only at hC;refine wpAny_bind (wpAny_keeperOf_exc hC ?_);refine wpAny_bind (xi_call I1.kIn z hi hf (fun h' e kp hle xn=>?_) (by rw[sizeLine_eq]; simp));have fe:H1 e=none:=I1.hok.fresh hle;have I2:Inv X pins σ (upd H1 e (XN e C)) ⟨h',g,d,tk,os⟩:=I1.laid (t':=tk) (fun b u q=>kp b u q) hle (xn_ok xn);have hbn:=hb ⟨h',g,d,tk,os⟩ [.ref e,u] I2.kIn (by rw[append_nil]; exact(F.len [.ref e,.int i] (upd H1 e (XN e C)) (fun _ _=>True) (fun _ _ _=>True) ⟨e,i,rfl,aO,hz,fun _ _ _=>trivial⟩));rw[append_nil] at hbn;refine wpAny_call (codeAny_mono (F.run (X.A.under (.builtin "type.__call__" ⟨[.ref C,u],[]⟩)) X.stack ⟨h',g,d,tk,os⟩ (upd H1 e (XN e C)) ⟨[.ref e,u],[]⟩ [.ref e,u] [.ref e,.int i] (fun v H2=>v=.non∧∃ dd,H1 dd=none∧dd≠e∧H2=upd (upd H1 dd (.xd [(f,.int i)])) e (XF e C (some dd))) (fun _ _ _=>False) ?_ (I2.env0.make C [u] []) hbn (.cons rfl (.cons ru .nil)) ⟨e,i,rfl,aO,hz,fun dd h1 h2=>⟨rfl,dd,?_,h2,?_⟩⟩) fun r s' hq=>?_)
 ·exact hr.make C [u] []
 ·rw[aR h2] at h1; exact h1
 ·funext b
  unfold upd
  split
  ·rfl
  ·split<;>rfl
 ·cases r with
  | error ev=>exact False.elim hq
  | ok fl=>
   cases fl with
   | ret v=>
    obtain⟨v',H2,I3,rv,rfl,dd,fd,ne,rfl⟩:=I2.after hq;obtain rfl:v=Value.none:=rv;refine⟨rfl,wpAny_bind (wpAny_holding (wpAny_point (wpAny_pure ?_)))⟩;refine⟨e,some dd,rfl,I3.kIn,(show ObjOk X.prog X.w _ s'.heap e (XF e C (some dd)) from I3.hok e _ aO).1,hxe pins σ _ s' e (some dd) I3 (by rw[aR (Ne.symm ne)]; exact fe) ?_ (q dd fd)⟩
    cases e0:X.s₀.heap.get? e with
    | none=>rfl
    | some o=>
     obtain⟨o',q'⟩:=I1.base.there e o e0 (by rw[hex]; exact fun z=>nomatch z);exact absurd (lt_size q') (not_lt.mpr hle)
   | next=>exact False.elim hq
   | brk=>exact False.elim hq
   | cont=>exact False.elim hq
end
end L2
namespace L2
open PySem PySem.Spec PyProof.Rows Builtin Builtin.ObjectAttr
structure XCl (K:Fg)(C:Addr):Prop where
 ex:xcIn K C=true
 l1:findIn K (.ref C) "__class__" = some (some (.builtin "object.__class__"))
 l2:findIn K (.ref C) "__getattribute__" = some (some (.builtin "BaseException.__getattribute__"))
 l3:findIn K (.ref C) "__getattr__" = some none
theorem XCl.kit {K:Fg}{a C:Addr}{D:Option Addr}(z:XCl K C):PySem.W.KitX K (.ref a) (.ref C) (XDh a C D) where
 ty:=fun M h _ ⟨o,_,q,c,_⟩=>c▸(PySem.W.Looks.ld q).andThen .now
 it:=fun M h G _=>by
  obtain⟨bm,N,nm,q,bs,sn,sub,ab,col,dd,k0,k1,k2,k3,k5,hC,T,_⟩:=xc_in G z.ex;intro A Q E s k r;unfold isType loadHead;exact wpAny_bind (wpAny_loadPart (k _ _ hC) (wpAny_pure r))
 ne:=fun h tp dd its n sl G htp=>by
  obtain⟨bm,N,nm,q,bs,sn,sub,ab,col,dd,k0,k1,k2,k3,k5,hC,T,_⟩:=xc_in G z.ex;refine eq_false_iff.mpr fun q=>?_;have e:C=tp:=Value.ref.inj (beq_iff_eq.mp q);subst e;rw[hC] at htp;have z2:=congrArg Obj.data (Option.some.inj htp)
  cases z2
 ca:=fun{prog w A E Q s} G p k=>by
  obtain⟨bm,N,nm,q,bs,sn,sub,ab,col,dd,k0,k1,k2,k3,k5,hC,T,_⟩:=xc_in G z.ex;obtain⟨hh,g,d,t,os⟩:=s;obtain⟨o,_,q,c,_⟩:=p;exact xc_attr PySem.F.attrBase_ValueError.ga hC (T.hasType (by decide)) (T.hasType (by decide)) (Lk.of G z.l1) (Lk.of G z.l2) (Lk.of G z.l3) q c k
def rIsD (K:Fg):List V→Hp→VK→Prop:=fun xs H Q=>∃(ea C:Addr) (D:Option Addr) (c:V) (b:Bool),xs=[.ref ea,c]∧H ea=some (XD ea C D)∧XCl K C ∧
 ((∃ u,(∀ v,RelV c v→v=u)∧kitOne K (.ref C) u=some b)∨∃(tp:Addr) (cs:List V) (us:List Value),c=.ref tp∧H tp=some (.tup cs)∧(∀ vs,Vals cs vs→vs=us)∧kitAny K (.ref C) us=some b)∧Q (.bl b) H
theorem call_isD {X:Cx}:CallR X (.builtin "isinstance") (rIsD X.K):=by
 intro pins s σ H xs us Q I r h;obtain⟨ea,C,D,c,b,rfl,hE,z,hc,q⟩:=h
 cases r with
 | cons r1 r=>
  cases r with
  | cons r2 r=>
   cases r
   have e1:=(show _=Value.ref ea from r1);subst e1;obtain⟨hx,_,_⟩:=(show ObjOk X.prog X.w H s.heap ea (XD ea C D) from I.hok ea _ hE);rcases hc with⟨u,hu,hk⟩|⟨tp,cs,us,rfl,ht,hu,hk⟩
   ·rw[hu _ r2];exact kia_one z.kit I.kIn hx hk (fun z=>nomatch z) fun tk=>⟨.bl b,H,I.tok _,rfl,q⟩
   ·have e2:=(show _=Value.ref tp from r2);subst e2;obtain⟨_,its,rv,o,h1,h2,n,h3⟩:=(show ObjOk X.prog X.w H s.heap tp (.tup cs) from I.hok tp _ ht);rw[hu _ rv] at h3;obtain⟨oc,od,dt,sl⟩:=o;dsimp only at h2 h3;subst h2 h3;exact PySem.W.kia_tup z.kit I.kIn hx h1 hk (fun z=>nomatch z) fun tk=>⟨.bl b,H,I.tok _,rfl,q⟩
section
variable {prog:Program}{w:World}{A:Around}{E:Value→Shared→Prop}{s:Shared}{K:Fg}{C a:Addr}
theorem xg_attr {f:Str}{v:Value}{o od:Obj}{b:Bool}{Q:Value→Shared→Prop}(G:K.In s.heap)(z:XCl K C)(J:PySem.W.InstAt s.heap a o C (some od))(hf:PySem.W.findObj K C (some od) f=some (.value v))(hv:handedIn v=true)
  (h:Q v { s with toks:=s.toks+1 }):wpAny (model prog w) A (getAttr (.ref a) f b) Q E s:=by
 obtain⟨bm,N,nm,q,bs,sn,sub,ab,col,dd,k0,k1,k2,k3,k5,hC,T,_⟩:=xc_in G z.ex;obtain⟨hh,g,d,t,os⟩:=s;dsimp only at hC G J h;have hx:=J.at_
 have hc:=J.cls;have y1:=PySem.F.attrBase_ValueError.ga.bind (.ref a);have y0:(b&&onTheHeap (Value.builtin "BaseException.__getattribute__"))=false:=by cases b<;>rfl
 have y2:(Value.builtin "BaseException.__getattribute__" == Value.builtin "object.__getattribute__")=false:=by decide +kernel
 have y3:(onTheHeap (Value.ref C)&&Value.builtin "BaseException.__getattribute__" == Value.builtin "object.__getattribute__")=false:=by rw[y2]; rfl
 have l2:=Lk.of (prog:=prog) (w:=w) G z.l2;have l3:=Lk.of (prog:=prog) (w:=w) G z.l3;have ht:∀ t,(⟨hh,g,d,t,os⟩:Shared).heap=hh:=fun _=>rfl;unfold getAttr getAttrBy
 repeat (any_goals (first|assumption|(with_reducible refine wpAny_loadPart_at hx ?_; rw[hc])|with_reducible refine l2.at ?_|with_reducible refine l3.at ?_|wp_step))
 refine codeAny_call_builtin PySem.F.attrBase_ValueError.ga.plain F.entry_bexc_ga (xc_check hC (T.hasType (by decide)) hx hc ?_);refine wpAny_bind (wpAny_pure (wpAny_bind (wpAny_pure (wpAny_bind (J.type.at (wpAny_bind ((PySem.W.looks_find G J hf).at ?_)))))));refine wpAny_pure ?_;have hv2:=PySem.W.handedOut_of hv
 repeat (any_goals (first|assumption|rw[hv2]|wp_step))
end
end L2
namespace L2
open PySem PySem.Spec PyProof.Rows
theorem Fun.ok2 {P:Program}{w:World}{K:Fg}{mg:Mg}{base:Heap}{x qual:Str}{st:Stmt}{f:Addr}{fd:FuncData}{N ps:List Str}{k:Nat}{sp:Sp}(F:Fun K x qual st f fd)(S:FnScope N ps (aN st))(len:∀ vs H Q E,sp vs H Q E→vs.length=ps.length)
  (hb:∀(cdv:Value) (A:Around) (outer:List Env) (s:Shared) (H:Hp) (vs:List V) (Q:VK) (E:XK),Room k (A.deeper (envOfC qual (aN st) s.heap.objs.size f cdv))→sp vs H Q E →
   ∃ t,PSs (cxOf (CX2 P w) P w K mg base N qual (aN st) f cdv A outer s H E) (defBody st) t∧t { nx:=fun _ H'=>Q .non H',rt:=Q } (start N vs) H):FnOk P w K mg base (CX2 P w) (k+1) f fd ps sp:=by
 obtain⟨oc,od,kV,doc,pm,an,cdv,ct,osl,rfl,lk,hcd⟩:=F.ex;exact fn_of lk hcd S len fun A outer s H vs Q E hr hsp=>hb cdv A outer s H vs Q E hr hsp
end L2
namespace L2.VS
open PySem PySem.Spec PyProof.Rows
section
variable {P0:Addr→Hp→Prop}{A:Nat→Bool}
abbrev XO:=Option (Str×D)
def xoD:XO→D
 | none=>.none
 | some (n,d)=>.tuple [.str n,d]
def bExc (C:Addr)(o:XO):Bx where
 P:=fun _ _ _ _=>False
 mono:=fun _ h=>h
 loc:=fun _ h=>h
 dom:=fun h=>False.elim h
 uniq:=fun h=>False.elim h
 nt:=fun h=>False.elim h
 view:=some (.tuple [.int (C:Nat),xoD o])
 vok:=fun h=>False.elim h
theorem bExc_inj {C C':Addr}{o o':XO}(h:Rv.box (bExc C o)=.box (bExc C' o')):C=C'∧o=o':=by
 have h1:=congrArg Bx.view (Rv.box.inj h);simp only[bExc,Option.some.injEq,PyData.tuple.injEq,List.cons.injEq,PyData.int.injEq,and_true] at h1;refine⟨Int.ofNat.inj h1.1,?_⟩;have h2:=h1.2
 cases o with
 | none=>cases o' with
  | none=>rfl
  | some p=>cases h2
 | some p=>cases o' with
  | none=>cases h2
  | some q=>
   obtain⟨n,d⟩:=p;obtain⟨n2,d2⟩:=q;simp only[xoD,PyData.tuple.injEq,List.cons.injEq,PyData.str.injEq,and_true] at h2;rw[h2.1,h2.2]
def XPost (F:Fra P0)(G:Hp)(X0:XK)(C:Addr):XO→Prop
 | none=>∀ G' H',Same G G'→Rf F G' H'→X0 (.ref C) none H'
 | some (n,d)=>∀ D x G' H',Same G G'→Rf F G' H'→G' D=some (.xd [(n,x)])→Dt G' x d→X0 (.ref C) (some D) H'
theorem XPost.same {F:Fra P0}{G G':Hp}{X0:XK}{C:Addr}(g:Same G G'):∀{o:XO},XPost F G X0 C o→XPost F G' X0 C o
 | none,h=>fun G2 H2 s=>h G2 H2 (g.trans s)
 | some _,h=>fun D x G2 H2 s=>h D x G2 H2 (g.trans s)
def VSX (X0:XK)(P0:Addr→Hp→Prop)(A:Nat→Bool)(t:TS)(m:MS):Prop:=∀(F:Fra P0) (Γ:En) (σ:St) (G H:Hp) (E:Ends) (Qm:Fl→Prop),R F Γ σ G H→m Γ Qm→(∀ fl,Qm fl→Post F A σ G E fl) →
 (∀ C o,Qm (.rt (.box (bExc C o)))→XPost F G X0 C o)→t E σ H
variable {X0:XK}
theorem vx_of {t:TS}{m:MS}(h:VSA P0 A t m):VSX X0 P0 A t m:=fun F Γ σ G H E Qm r hm k _=>h F Γ σ G H E Qm r hm k
theorem vx_seq {t u:TS}{a b:MS}(ha:VSX X0 P0 A t a)(hb:VSX X0 P0 A u b):VSX X0 P0 A (tSeq t u) (cA a b):=by
 intro F Γ σ G H E Qm r m k kx;refine ha F Γ σ G H _ _ r m (fun fl q=>?_) fun C o q=>kx C o q
 cases fl with
 | nx Γ1=>exact fun σ1 G1 H1 s1 r1 e1=>hb F Γ1 σ1 G1 H1 E Qm r1 q (fun fl q=>(k fl q).same s1 e1) fun C o q=>(kx C o q).same s1
 | rt rv=>exact k _ q
 | bk Γ1=>exact k _ q
 | ct Γ1=>exact k _ q
theorem vx_if {c:TT}{t u:TS}{mc:MT}{a b:MS}(hc:VTT P0 c mc)(ha:VSX X0 P0 A t a)(hb:VSX X0 P0 A u b):VSX X0 P0 A (tIfS c t u) (mIf mc a b):=by
 intro F Γ σ G H E Qm r m k kx;refine hc F Γ σ G H _ _ r m fun k1 Γ1 G1 H1 m1 s1 r1=>?_
 cases k1 with
 | true=>exact iteT (ha F Γ1 σ G1 H1 E Qm r1 m1 (fun fl q=>(k fl q).same s1 fun _ _=>rfl) fun C o q=>(kx C o q).same s1)
 | false=>exact iteF (hb F Γ1 σ G1 H1 E Qm r1 m1 (fun fl q=>(k fl q).same s1 fun _ _=>rfl) fun C o q=>(kx C o q).same s1)
theorem RvO.noX {F:Fra P0}{G H:Hp}{r:V}{rv:Rv}(h:RvO F G H r rv):∀ C o,rv≠.box (bExc C o):=fun C o e=>by
 subst e;obtain⟨_,h,_⟩:=h;exact h
def mRaise (C:Addr)(n:Str)(m:MD):MS:=fun Γ Q=>m Γ fun ds _=>∃ i:Int,ds=[.int i]∧i.natAbs<1000∧Q (.rt (.box (bExc C (some (n,.int i)))))
theorem vx_raise {C:Addr}{n:Str}{t:TA}{m:MD}(h:VD P0 t m):VSX X0 P0 A (tRaiseI C n X0 t) (mRaise C n m):=by
 intro F Γ σ G H E Qm r hm k kx;refine h F Γ σ G H _ _ r hm fun ds Γ1 rs G1 H1 m1 s1 r1 d1=>?_;obtain⟨i,rfl,hz,q⟩:=m1
 cases d1 with
 | cons a b=>
  cases a
  cases b
  exact⟨i,rfl,hz,fun d hd=>kx _ _ q d (.int i) _ _ (s1.trans (same_new (r1.fr.gfresh hd) _)) (r1.new hd).fr aO (.int _)⟩
def spX (P0:Addr→Hp→Prop)(n:Nat)(f:Fm):Sp:=fun vs H Q E=>∃(F:Fra P0) (as:List Sl) (Qm:Rv→Prop),F.H0=H∧Rf F F.G0 H∧Paired (ArgOk F F.G0) vs as∧as.length=n∧f as Qm ∧
 (∀ rv r G' H',Qm rv→Rf F G' H'→RvO F G' H' r rv→Q r H')∧∀ C o,Qm (.box (bExc C o))→XPost F F.G0 E C o
theorem start_R {F:Fra P0}{n k:Nat}{N:List Str}{vs:List V}{as:List Sl}(hN:N.length=n+k)(rf:Rf F F.G0 F.H0)(pr:Paired (ArgOk F F.G0) vs as)(hl:as.length=n):R F (as++List.replicate k .no) (start N vs) F.G0 F.H0:=by
 have hlen:vs.length=as.length:=Paired.length pr;have get:∀{vs:List V} {as:List Sl} {i:Nat} {s:Sl},Paired (ArgOk F F.G0) vs as→as[i]?=some s→∃ v,vs[i]?=some v∧ArgOk F F.G0 v s:=by
  intro vs as i s pr
  induction pr generalizing i with
  | nil=>intro e; simp at e
  | cons a b ih=>
   cases i with
   | zero=>intro e; simp at e; subst e; exact⟨_,rfl,a⟩
   | succ i=>intro e; simpa using ih (i:=i) (by simpa using e)
 have at_:∀{i:Nat} {s:Sl},(as++List.replicate k Sl.no)[i]?=some s→s≠.no→∃ v,(start N vs)[i]?=some (some v)∧ArgOk F F.G0 v s:=by
  intro i s e hne
  by_cases hi:i<as.length
  ·rw[getElem?_append_left hi] at e;obtain⟨v,ev,av⟩:=get pr e;refine⟨v,?_,av⟩;unfold start;rw[getElem?_append_left (by rw[length_map]; omega),getElem?_map,ev];rfl
  ·rw[getElem?_append_right (by omega),getElem?_replicate] at e
   split at e
   ·cases e; exact absurd rfl hne
   ·cases e
 have r:R F (as++List.replicate k .no) (start N vs) F.G0 F.H0:=by
  refine R.of rf ?_ (fun i s e=>?_) (fun i B e=>?_) (fun i j x y _ e _=>?_)
  ·unfold start;simp only[length_append,length_replicate,length_map];omega
  ·cases s with
   | no=>trivial
   | val d=>
    obtain⟨v,ev,av⟩:=at_ e (by intro z; cases z)
    exact⟨v,ev,av⟩
   | own ds=>
    obtain⟨v,ev,av⟩:=at_ e (by intro z; cases z)
    exact av.elim
   | pen=>
    obtain⟨v,ev,p,rfl,ep⟩:=at_ e (by intro z; cases z)
    exact⟨p,ev,ep⟩
   | con q=>
    obtain⟨v,ev,av⟩:=at_ e (by intro z; cases z)
    have av:v=.ref q:=av;rw[av] at ev;exact ev
   | pub B=>
    obtain⟨v,ev,av⟩:=at_ e (by intro z; cases z)
    exact⟨v,ev,av⟩
   | box B=>
    obtain⟨v,ev,av⟩:=at_ e (by intro z; cases z)
    exact av.elim
  ·obtain⟨v,ev,av⟩:=at_ e (by intro z; cases z)
   exact av.elim
  ·obtain⟨v,ev,av⟩:=at_ e (by intro z; cases z)
   exact av.elim
 exact r
theorem fn_startX {n k:Nat}{N:List Str}{t:TS}{b:MS}{vs:List V}{H:Hp}{Q:VK}{E:XK}(h:VSX E P0 aAll t b)(hN:N.length=n+k)(hs:spX P0 n (mFn k b) vs H Q E) :
  t { nx:=fun _ H'=>Q .non H',rt:=Q } (start N vs) H:=by
 obtain⟨F,as,Qm,rfl,rf,pr,hl,hm,q,qx⟩:=hs;refine h F _ _ _ _ _ _ (start_R hN rf pr hl) hm (fun fl hq=>?_) fun C o hq=>qx C o hq
 cases fl with
 | nx Γ=>exact fun σ G' H' _ r' _=>q _ _ _ _ hq r'.fr .non
 | rt rv=>exact fun v G' H' _ f' v'=>q _ _ _ _ hq f' v'
 | bk Γ=>exact hq.elim
 | ct Γ=>exact hq.elim
theorem spX_len {n:Nat}{f:Fm}{ps:List Str}(h:ps.length=n):∀ vs H Q E,spX P0 n f vs H Q E→vs.length=ps.length:=by
 rintro vs H Q E ⟨F,as,Qm,_,_,pr,hl,_⟩;rw[Paired.length pr,hl,h]
theorem _root_.L2.Fun.okE {P:Program}{w:World}{K:Fg}{mg:Mg}{base:Heap}{x qual:Str}{st:Stmt}{f:Addr}{fd:FuncData}{N ps:List Str}{k n j:Nat}{b:MS}
  (F:Fun K x qual st f fd) (S:FnScope N ps (aN st)) (hn:ps.length=n) (hN:N.length=n+j)
  (hbody:∀(cdv:Value) (A:Around) (outer:List Env) (s:Shared) (H:Hp) (E:XK),Room k (A.deeper (envOfC qual (aN st) s.heap.objs.size f cdv)) →
   ∃ t,PSs (cxOf (CX2 P w) P w K mg base N qual (aN st) f cdv A outer s H E) (defBody st) t∧VSX E P0 aAll t b):FnOk P w K mg base (CX2 P w) (k+1) f fd ps (spX P0 n (mFn j b)):=by
 refine F.ok2 S (spX_len hn) fun cdv A outer s H vs Q E hr hs=>?_;obtain⟨t,h1,h2⟩:=hbody cdv A outer s H E hr;exact⟨t,h1,fn_startX h2 hN hs⟩
end
end L2.VS
namespace L2
open PySem PySem.Spec PyProof.Rows
def XP2 (X:Cx)(pins:List (Addr×Obj))(W:List (Option V)→XK)(e:Value)(s':Shared):Prop:=∃(σ1:List (Option V)) (H1:Hp) (s1:Shared),Inv X pins σ1 H1 s1∧CX2 X.prog X.w X.stack H1 s1 (W σ1) e s'
def PX2 (X:Cx)(sts:List Stmt)(t:TX):Prop:=
 ∀(pins:List (Addr×Obj)) (s:Shared) (σ:List (Option V)) (H:Hp) (D:Ends) (W:List (Option V)→XK),Inv X pins σ H s→t D W σ H→wpAny (model X.prog X.w) X.A (execs sts X.env) (SP X pins D) (XP2 X pins W) s
def trW (K:Fg)(D0:Addr)(i j:Nat)(D:Ends):List (Option V)→XK:=fun σ1 c o H'=>∃ C,c=.ref C∧XCl K C∧mroIn K C (.ref D0)=some true ∧
 ∀ ea,H' ea=none→D.nx (((σ1.set i (some (.ref ea))).set j (some (.ref ea))).set i none) (upd H' ea (XD ea C o))
section
variable {X:Cx}{k:Nat}{f D0:Addr}{fd:FuncData}{ps:List Str}{sp:Sp}{x m lx ex cx:Str}{p cp ep lp p1 p2 p3 hp pos pos' apos:Pos}{o e:Expr}{es:List Expr}{ta:TE}{t:TA}{i j:Nat}
theorem caught2_as {pins:List (Addr×Obj)}{σ:St}{H1:Hp}{s1 s':Shared}{D:Ends}{ev:Value}(hs:X.stack=X.env::X.outer)(hf:X.env.frame=some X.env.locals)
  (hgL:Gl X lx) (hmL:X.mg lx=some (.ref D0)) (zD:XCl X.K D0)
  (hN:X.N.Nodup) (hi:X.N[i]?=some ex) (hl:X.env.kindOf ex=some .local) (hv:Vis X.env.scope ex) (hL:Loc X.env.scope ex) (hj:X.N[j]?=some cx) (hc:Loc X.env.scope cx)
  (hfi:X.fn ex=true∨X.env.scope.names.lookup ex=some .local) (hfj:X.fn cx=true∨X.env.scope.names.lookup cx=some .local) (hdl:(lx==("__debug__" : Str))=false) (hde:(ex==("__debug__" : Str))=false) (hcd:(ex==("__classdict__" : Str))=false)
  (hsw2:swapsWith (.Name ex p2) (some (.Name cx p1)) p3.line X.env=pure false) (I1:Inv X pins σ H1 s1)
  (hq:CX2 X.prog X.w X.stack H1 s1 (trW X.K D0 i j D σ) ev s') :
  wpAny (model X.prog X.w) X.A (noteFrame ev X.env) (fun _ s₂=>wpAny (model X.prog X.w) X.A (setFlight ev none) (fun _ s₃=>wpAny (model X.prog X.w) X.A (handleBy ev X.env [.ExceptHandler (some (.Name lx lp)) (some ex) [.Assign [.Name cx p1] (.Name ex p2) p3] hp]) (SP X pins D) X.xe s₃) X.xe s₂) X.xe s':=by
 obtain⟨ea,C',dct,B,H',rfl,os,bare,fl,u,hok,C,hC',zC,zs,hD⟩:=hq
 cases hC'
 obtain⟨h3,g3,d3,t3,os3⟩:=s';dsimp only at os bare fl u;subst os;have fl':=fl;rw[hs] at fl';refine noteD2 (by rw[← hs]; exact I1.ok.frames) hf fl' fun h4 y4 ups4=>?_;refine flightD (s:=⟨h4,g3,d3,t3,s1.os⟩) y4 fun h5 y5 ups5=>?_;have bK:∀ b o,X.base.get? b=some o→h5.get? b=some o:=fun b o q=>y5.kb b o (u.keep b o (I1.bs b o q).1 (I1.bs b o q).2 fun z=>by
  rw[(I1.stack.mem z).1] at q; cases q)
 have G5:X.K.In h5:=I1.ok.mod.kin.keeps bK;refine wpAny_handleBy_cons (codeAny_handlers_test (Calls.Name_function_global I1.ok.kind hgL (Calls.loadGlobal_global (by rw[I1.ok.glob]; exact I1.mod.glob.keeps bK) hmL ?_) hdl)) (by intro q; cases q);obtain⟨bm,Nn,nm,qn,bs,sn,sub,ab,col,dd,k0,k1,k2,k3,k5,hCo,T,lC⟩:=xc_in G5 zC.ex;obtain⟨bm',Nn',nm',qn',bs',sn',sub',ab',col',dd',j0,j1,j2,j3,j5,hDo,T',lD⟩:=xc_in G5 zD.ex;have hin:(Value.ref C'::bm).contains (.ref D0)=true:=by
  unfold mroIn clsIn at zs;rw[lC] at zs;exact Option.some.inj zs
 obtain⟨oe,_,_,_,_,hoe,hoc,_⟩:=y5.tr;refine xc_matches hCo hDo hoe hoc (T'.hasType (by decide)) hin (codeAny_handlers_suite_as ?_);refine flightD (s:=⟨h5,g3,d3,t3,s1.os⟩) y5 fun h6 y6 ups6=>?_;rw[← hs] at y6;obtain⟨hne,I6⟩:=I1.caught2 (g:=g3) (d:=d3) (t:=t3) u hok bare y6 ((ups4.trans ups5).trans ups6);refine store_ok2 I6 hN hi hL (v:=.ref ea) rfl (fun s7 I7 _=>?_) hfi;have body:PSs (X.marked (.ref ea)) [.Assign [.Name cx p1] (.Name ex p2) p3] (tAsg (tVar i) (gName j)):=aJ (aV (X:=X.marked (.ref ea)) hN hj hc (pe_var (X:=X.marked (.ref ea)) hi hv hde hcd) hsw2 hfj);have hil:i<σ.length:=by rw[I1.len]; exact(List.getElem?_eq_some_iff.mp hi).1
 refine wpAny_mono (body pins s7 _ _ { nx:=fun σ' H2=>σ'=(σ.set i (some (.ref ea))).set j (some (.ref ea))∧H2=upd H' ea (XD ea C' dct),rt:=fun _ _=>False } (I7.marked _) ?_) (fun fl s8 z=>?_) fun _ _ z=>z.elim
 ·exact⟨_,getElem?_set_self hil,rfl,rfl⟩
 ·cases fl with
  | next=>
   obtain⟨σ',H2,I8,rfl,rfl⟩:=z;have I8:=I8.unmarked I1.ok;obtain⟨m,hm8⟩:=I8.loc;refine wpAny_nameGoes_keeps hl hm8.1 (by rw[I1.ok.kind]; rfl) fun h9 v hn9 hs9=>?_;exact⟨_,_,I8.goes hN hi hl hm8 hn9 hs9,hD ea hne⟩
  | ret u=>obtain⟨_,_,_,_,_,z⟩:=z; exact z.elim
  | brk=>obtain⟨_,_,_,z⟩:=z; exact z.elim
  | cont=>obtain⟨_,_,_,z⟩:=z; exact z.elim
def tSetF (i:Nat)(sp:Sp)(t:TA):TX:=fun D W σ H=>t σ H fun vs H1=>sp vs H1 (fun r H2=>D.nx (σ.set i (some r)) H2) (W σ)
theorem px_setF (F:FnOk X.prog X.w X.K X.mg X.base (CX2 X.prog X.w) k f fd ps sp)(hr:Room k X.A)(hg:Gl X m)(hm:X.mg m=some (.ref f))(hk:keepIn X.K (.ref f)=true)(hb:Binds X.K fd ps [])(ha:PA X.nox (e::es) t)
  (hN:X.N.Nodup) (hi:X.N[i]?=some x) (hx:Loc X.env.scope x) (hf:X.fn x=true∨X.env.scope.names.lookup x=some .local)
  (hdb:(m==("__debug__" : Str))=false:=by decide)
  (hs:swapsWith (.Call (.Name m p) (e::es) [] cp) (some (.Name x pos')) pos.line X.env=pure false:=by rfl)
  (he:starEach (e::es) X.env=(false,eval e X.env)::starEach es X.env:=by rfl) (hpl:(backTo cp (starEach es X.env)).any (·.1)=false:=by rfl) :
  PX2 X [.Assign [.Name x pos'] (.Call (.Name m p) (e::es) [] cp) pos] (tSetF i sp t):=by
 intro pins s σ H D W I h;refine wpAny_execs_cons (wpAny_Assign_Name (Q:=fun f s1=>match f with|.next=>wpAny (model X.prog X.w) X.A (execs [] X.env) (SP X pins D) (XP2 X pins W) s1|f=>SP X pins D f s1) (wpAny_Call_Name_kw (ld_glob I hg hm ?_ hdb)) hs);refine callWith_K (h₀:=X.base) I.ok.mod.kin hk (wpAny_mono (ha cp pins s σ H _ (I.wish _) h) (fun us s1 z=>?_) fun _ _ z=>z.elim) he hpl;obtain⟨vs,H1,I1,r,q⟩:=z;have I1:=I1.unwish;refine⟨I1.kIn,?_⟩;have hl2:us.length=ps.length:=by rw[← r.length]; exact F.len _ _ _ _ q
 have hbn:=hb s1 us I1.kIn (by rw[append_nil]; exact hl2);rw[append_nil] at hbn;refine wpAny_call (codeAny_mono (F.run X.A X.stack s1 H1 ⟨us,[]⟩ us vs _ _ hr I1.env0 hbn r q) fun r s' hq=>?_)
 cases r with
 | error ev=>exact⟨σ,H1,s1,I1,hq⟩
 | ok fl=>
  cases fl with
  | ret u=>
   obtain⟨v3,H3,I3,rv3,q3⟩:=I1.after hq;exact store_ok I3 hN hi hx rv3 (fun s4 I4=>wpAny_execs_nil ⟨_,H3,I4,q3⟩) hf
  | next=>exact False.elim hq
  | brk=>exact False.elim hq
  | cont=>exact False.elim hq
def tTry2 (K:Fg)(D0:Addr)(i j:Nat)(t:TX):TS:=fun D σ H=>t D (trW K D0 i j D) σ H
theorem ps_try2 {body:List Stmt}{t:TX}(hbody:PX2 X body t)(hs:X.stack=X.env::X.outer)(hf:X.env.frame=some X.env.locals)
  (hgL:Gl X lx) (hmL:X.mg lx=some (.ref D0)) (zD:XCl X.K D0)
  (hN:X.N.Nodup) (hi:X.N[i]?=some ex) (hl:X.env.kindOf ex=some .local) (hv:Vis X.env.scope ex) (hL:Loc X.env.scope ex) (hj:X.N[j]?=some cx) (hc:Loc X.env.scope cx)
  (hfi:X.fn ex=true∨X.env.scope.names.lookup ex=some .local) (hfj:X.fn cx=true∨X.env.scope.names.lookup cx=some .local)
  (hdl:(lx==("__debug__" : Str))=false:=by decide) (hde:(ex==("__debug__" : Str))=false:=by decide) (hcd:(ex==("__classdict__" : Str))=false:=by decide)
  (hsw2:swapsWith (.Name ex p2) (some (.Name cx p1)) p3.line X.env=pure false:=by rfl) :
  PS X (.Try body [.ExceptHandler (some (.Name lx lp)) (some ex) [.Assign [.Name cx p1] (.Name ex p2) p3] hp] [] [] pos) (tTry2 X.K D0 i j t):=by
 intro pins s σ H D I h;refine wpAny_Try_except (wpAny_mono (hbody pins s σ H D _ I h) (fun f s1 q=>?_) fun ev s' q=>?_)
 ·cases f with
  | next=>exact wpAny_execs_nil q
  | ret v=>exact q
  | brk=>exact q
  | cont=>exact q
 ·obtain⟨σ1,H1,s1,I1,q⟩:=q;exact caught2_as hs hf hgL hmL zD hN hi hl hv hL hj hc hfi hfj hdl hde hcd hsw2 I1 q
def tXFld (K:Fg)(ta:TE)(f:Str):TE:=fun σ H Q=>ta σ H fun x H1=>∃ a C D fs v,x=.ref a∧H1 a=some (XD a C (some D))∧XCl K C∧NoAttr K C f∧hasDictIn K C=true∧H1 D=some (.xd fs)∧fs.lookup f=some v∧Q v H1
theorem pe_xfld {f:Str}(he:PE X e ta)(hb:attributeBase e f X.env (eval e X.env)=eval e X.env):PE X (.Attribute e f pos) (tXFld X.K ta f):=by
 intro pins s σ H Q I h;refine attr_of hb (thn (he pins s σ H _ I h) fun u s1 ⟨x,H1,I1,rx,a,C,D,fs,v,ex,ea,z,n,hd,eD,l,q⟩=>?_);subst ex;obtain rfl:u=Value.ref a:=rx;obtain⟨o,vs,ho,hc,hdd,hdt⟩:=(show ObjOk X.prog X.w _ s1.heap a (XD a C (some D)) from I1.hok a _ ea).1;obtain⟨mA,O,r⟩:=(show ObjOk X.prog X.w _ s1.heap D (.xd fs) from I1.hok D _ eD);obtain⟨od,hod,hlk⟩:=lookIn_ns O;obtain⟨u,hu,ru⟩:=RelO.some_of (v:=v) (o:=mA f) (by rw[← l]; exact r f);have J:PySem.W.InstAt s1.heap a o C (some od):=⟨ho,hc,by unfold notCls; rw[hdt],by rw[hdd]; exact hod⟩;exact xg_attr I1.kIn z J (PySem.W.findObj_own hd n rfl (by rw[hlk,hu])) (handed_of ru) ⟨v,H1,I1.tok _,ru,q⟩
end
end L2
namespace L2.VS
open PySem PySem.Spec PyProof.Rows
section
variable {P0:Addr→Hp→Prop}{A:Nat→Bool}
theorem R.set0 {F:Fra P0}{Γ:En}{σ:St}{G H:Hp}(r:R F Γ σ G H){i:Nat}{x:Option V}{s:Sl}(h:SlF F G H (some x) [] s):R F (Γ.set i s) (σ.set i x) G H:=by
 obtain⟨fps,h1,h2⟩:=r.fps;have back:∀{m z},m≠i→(Γ.set i s)[m]?=some z→Γ[m]?=some z:=fun{m z} hm e=>by rw[getElem?_set_ne (Ne.symm hm)] at e; exact e
 refine⟨r.fr,by rw[length_set,length_set]; exact r.len,fun j=>if j=i then[] else fps j,fun j s' e=>?_,fun j k s t ej ek hjk b hb hc=>?_⟩
 ·dsimp only
  by_cases hj:j=i
  ·subst hj;have hi:j<Γ.length:=by
    have:=(List.getElem?_eq_some_iff.mp e).1;simpa using this
   rw[getElem?_set_self hi] at e
   cases e
   rw[if_pos rfl,getElem?_set_self (by rw[← r.len]; exact hi)];exact h
  ·rw[if_neg hj,getElem?_set_ne (Ne.symm hj)];exact h1 j s' (back hj e)
 ·dsimp only at hb hc
  by_cases hj:j=i
  ·rw[if_pos hj] at hb; cases hb
  ·by_cases hk:k=i
   ·rw[if_pos hk] at hc; cases hc
   ·rw[if_neg hj] at hb;rw[if_neg hk] at hc;exact h2 j k s t (back hj ej) (back hk ek) hjk b hb hc
def pExc (C:Addr)(o:XO):Pb where
 P:=fun v G=>∃ a dct,v=.ref a∧G a=some (XD a C dct)∧∀ n d,o=some (n,d)→∃ dd x,dct=some dd∧G dd=some (.xd [(n,x)])∧Dt G x d
 mono:=fun g h=>let ⟨a,dct,e,h,k⟩:=h; ⟨a,dct,e,g _ _ h,fun n d z=>let ⟨dd,x,e1,e2,e3⟩:=k n d z; ⟨dd,x,e1,g _ _ e2,Dt.same g _ _ e3⟩⟩
def xsp (cs:List Addr)(rv:Rv)(a:Addr→XO→Prop)(b:Prop):Prop:=(∀ C o,rv=.box (bExc C o)→C∈cs∧a C o)∧((∀ C o,rv≠.box (bExc C o))→b)
theorem xsp_val {cs:List Addr}{d:D}{a:Addr→XO→Prop}{b:Prop}(h:b):xsp cs (.val d) a b:=⟨fun _ _ e=>(nomatch e),fun _=>h⟩
theorem xsp_exc {cs:List Addr}{C:Addr}{o:XO}{a:Addr→XO→Prop}{b:Prop}(hc:C∈cs)(h:a C o):xsp cs (.box (bExc C o)) a b:=⟨fun C' o' e=>by
 obtain⟨rfl,rfl⟩:=bExc_inj e;exact⟨hc,h⟩,fun n=>absurd rfl (n C o)⟩
def enX (i j:Nat)(C:Addr)(o:XO)(Γ:En):En:=(Γ.set j (.pub (pExc C o))).set i .no
def mTrySet (x i j:Nat)(cs:List Addr)(n:Nat)(f:Fm)(m:MA):MS:=fun Γ Q=>m Γ fun as Γ1=>as.length=n∧f as fun rv=>xsp cs rv (fun C o=>Q (.nx (enX i j C o Γ1))) (Q (.nx (Γ1.set x rv.sl)))
def VPX (K:Fg)(D0:Addr)(i j:Nat)(P0:Addr→Hp→Prop)(A:Nat→Bool)(t:TX)(m:MS):Prop:=∀(F:Fra P0) (Γ:En) (σ:St) (G H:Hp) (D:Ends) (Qm:Fl→Prop),R F Γ σ G H→m Γ Qm→(∀ fl,Qm fl→Post F A σ G D fl)→t D (trW K D0 i j D) σ H
variable {K:Fg}{D0:Addr}{i j:Nat}{cs:List Addr}
theorem vs_try2 {t:TX}{m:MS}(h:VPX K D0 i j P0 A t m):VSA P0 A (tTry2 K D0 i j t) m:=fun F Γ σ G H E Qm r hm k=>h F Γ σ G H E Qm r hm k
theorem trW_of {F:Fra P0}{Γ1:En}{σ:St}{G G1 H1:Hp}{D:Ends}{Qm:Fl→Prop}{C:Addr}{o:XO}(r1:R F Γ1 σ G1 H1)(s1:Same G G1)(zC:XCl K C)(zs:mroIn K C (.ref D0)=some true)(q:Qm (.nx (enX i j C o Γ1)))
  (k:∀ fl,Qm fl→Post F A σ G D fl) (hij:i≠j) (hA:A i=true) (hB:A j=true):XPost (F.sub r1.fr) G1 (trW K D0 i j D σ) C o:=by
 have fin:∀ dct G2 H2,Rf (F.sub r1.fr) G2 H2→(∀ n d,o=some (n,d)→∃ dd x,dct=some dd∧G2 dd=some (.xd [(n,x)])∧Dt G2 x d)→trW K D0 i j D σ (.ref C) dct H2:=fun dct G2 H2 f2 hx=>by
  refine⟨C,rfl,zC,zs,fun ea hea=>?_⟩;obtain⟨r2,s2⟩:=r1.after f2;have g2:G2 ea=none:=r2.fr.gfresh hea;have sn:Same G2 (upd G2 ea (XD ea C dct)):=same_new g2 _;have r3:=r2.new (o:=XD ea C dct) hea;have hB:(pExc C o).P (.ref ea) (upd G2 ea (XD ea C dct)):=⟨ea,dct,rfl,aO,fun n d z=>by
   obtain⟨dd,x,e1,e2,e3⟩:=hx n d z;exact⟨dd,x,e1,sn _ _ e2,Dt.same sn _ _ e3⟩⟩
  have r4:=(r3.set0 (i:=j) (x:=some (.ref ea)) (s:=.pub (pExc C o)) ⟨rfl,_,rfl,hB⟩).set0 (i:=i) (x:=none) (s:=.no) rfl;have e:((σ.set i (some (V.ref ea))).set j (some (.ref ea))).set i none=(σ.set j (some (.ref ea))).set i none:=by
   rw[set_comm _ _ hij,List.set_set]
  rw[e];refine k _ q _ _ _ ((s1.trans s2).trans sn) r4 fun n hn=>?_;have ni:i≠n:=fun z=>by rw[← z,hA] at hn; cases hn
  have nj:j≠n:=fun z=>by rw[← z] at hn; simp_all
  rw[getElem?_set_ne ni,getElem?_set_ne nj]
 cases o with
 | none=>exact fun G2 H2 s2 f2=>fin none G2 H2 f2 fun n d z=>nomatch z
 | some p=>
  obtain⟨n,d⟩:=p;exact fun D x G2 H2 s2 f2 e1 e2=>fin (some D) G2 H2 f2 fun n' d' z=>by
   cases z
   exact⟨D,x,rfl,e1,e2⟩
theorem vp_set {x n:Nat}{f:Fm}{t:TA}{m:MA}(h:VA P0 t m)(hcs:∀ C∈cs,XCl K C∧mroIn K C (.ref D0)=some true)(hij:i≠j:=by decide)(hA:A i=true:=by rfl)(hB:A j=true:=by rfl)(hX:A x=true:=by rfl) :
  VPX K D0 i j P0 A (tSetF x (spX P0 n f) t) (mTrySet x i j cs n f m):=by
 intro F Γ σ G H D Qm r hm k;refine h F Γ σ G H _ _ r hm fun as Γ1 rs G1 H1 m1 s1 r1 d1=>?_;refine⟨F.sub r1.fr,as,fun rv=>xsp cs rv (fun C o=>Qm (.nx (enX i j C o Γ1))) (Qm (.nx (Γ1.set x rv.sl))),rfl,F.subRf r1.fr,Paired.imp' (fun a s h=>by cases s<;>exact h) d1,m1.1,m1.2,fun rv v G2 H2 q f2 v2=>?_,fun C o q=>?_⟩
 ·obtain⟨r2,s2⟩:=r1.after f2;refine k _ (q.2 v2.noX) _ _ _ (s1.trans s2) (r2.set ?_ ?_) (set_off hX)
  ·cases rv with
   | val d=>exact v2
   | own ds=>
    obtain⟨p,vs,e,e1,e2,e3,e4⟩:=v2;exact⟨p,vs,e,r1.fr.fresh e1,e2,e3,e4⟩
   | box B=>
    obtain⟨fp,e1,e2⟩:=v2;exact⟨fp,e1,fun b hb=>⟨r1.fr.fresh (e2 b hb).1,(e2 b hb).2⟩⟩
  ·have kp:∀ b o,F.H0 b=none→G1 b=none→H1 b=some o→G2 b=none∧H2 b=some o:=fun b o h1 h2 h3=>⟨(f2.g0 b _ h3).trans h2,f2.h0 b _ h3 (F.pen_ne h1)⟩
   cases rv with
   | val d=>trivial
   | own ds=>
    obtain⟨p,vs,rfl,e1,e2,e3,e4⟩:=v2;exact Apart.new r1 e1 s2 kp
   | box B=>
    obtain⟨fp,e1,e2⟩:=v2;exact Apart.newB r1 (fun f hf b hb=>by rw[B.uniq hf e1] at hb; exact(e2 b hb).1) s2 kp
 ·obtain⟨hc,q⟩:=q.1 C o rfl;exact trW_of r1 s1 (hcs C hc).1 (hcs C hc).2 q k hij hA hB
def mIsD (i:Nat)(tbl:Addr→Option Bool):ME:=fun Γ Q=>∃ C o b,Γ[i]?=some (.pub (pExc C o))∧tbl C=some b∧Q (.bool b) Γ
theorem vt_isD1 {c:V}{u:Value}{tbl:Addr→Option Bool}(hu:∀ v,RelV c v→v=u)(h:∀ C b,tbl C=some b→XCl K C∧kitOne K (.ref C) u=some b) :
  VT P0 (tCB (rIsD K) (cO (tVar i) (cO (tC c) tNil))) (mIsD i tbl):=by
 intro F Γ σ G H Q Qm r hm k;obtain⟨C,o,b,e,hb,q⟩:=hm;obtain⟨v,ev,a,dct,rfl,ha,_⟩:=r.sl i _ e;obtain⟨z,hk⟩:=h C b hb;exact⟨_,ev,a,C,dct,c,b,rfl,r.fr.sub _ _ ha,z,.inl ⟨u,hu,hk⟩,k _ _ _ _ _ q (Same.refl _) r (.bl _)⟩
def tCs:List Addr→TA
 | []=>tNil
 | c::r=>cO (tC (.ref c)) (tCs r)
theorem tCs_run:∀{as:List Addr} {σ:St} {H:Hp} {Q:List V→Hp→Prop},Q (as.map V.ref) H→tCs as σ H Q
 | [],_,_,_,h=>h
 | _::r,σ,H,_,h=>tCs_run (as:=r) (σ:=σ) (H:=H) h
theorem vals_refs:∀{as:List Addr} {vs:List Value},Vals (as.map V.ref) vs→vs=as.map Value.ref
 | [],_,.nil=>rfl
 | _::_,_,.cons a b=>by rw[vals_refs b,show _=Value.ref _ from a]; rfl
theorem vt_isDT {as:List Addr}{tbl:Addr→Option Bool}(hz:as.length≤100)(h:∀ C b,tbl C=some b→XCl K C∧kitAny K (.ref C) (as.map Value.ref)=some b) :
  VT P0 (tCB (rIsD K) (cO (tVar i) (cO (tTup (tCs as)) tNil))) (mIsD i tbl):=by
 intro F Γ σ G H Q Qm r hm k;obtain⟨C,o,b,e,hb,q⟩:=hm;obtain⟨v,ev,a,dct,rfl,ha,_⟩:=r.sl i _ e;obtain⟨z,hk⟩:=h C b hb;refine⟨_,ev,tCs_run ⟨by rw[length_map,sizeLine_eq]; omega,fun p hp=>?_⟩⟩;have g:=same_new (r.fr.gfresh hp) (.tup (as.map V.ref));have r2:=r.new (o:=.tup (as.map V.ref)) hp;exact⟨a,C,dct,_,b,rfl,r2.fr.sub _ _ (g _ _ ha),z,.inr ⟨p,_,_,rfl,aO,fun vs hv=>vals_refs hv,hk⟩,k _ _ _ _ _ q g r2 (.bl _)⟩
def mXFld (i:Nat)(f:Str)(cs:List Addr):ME:=fun Γ Q=>∃ C d,Γ[i]?=some (.pub (pExc C (some (f,d))))∧C∈cs∧Q d Γ
theorem vt_xfld {f:Str}(h:∀ C∈cs,XCl K C∧NoAttr K C f∧hasDictIn K C=true):VT P0 (tXFld K (tVar i) f) (mXFld i f cs):=by
 intro F Γ σ G H Q Qm r hm k;obtain⟨C,d,e,hC,q⟩:=hm;obtain⟨v,ev,a,dct,rfl,ha,hx⟩:=r.sl i _ e;obtain⟨dd,x,rfl,e2,e3⟩:=hx f d rfl;obtain⟨z,n,hd⟩:=h C hC;exact⟨_,ev,a,C,dd,_,x,rfl,r.fr.sub _ _ ha,z,n,hd,r.fr.sub _ _ e2,by simp[List.lookup],k _ _ _ _ _ q (Same.refl _) r e3⟩
def mIsNX (i:Nat):ME:=fun Γ Q=>(∃ d,Γ[i]?=some (.val d)∧Q (.bool (isN d)) Γ)∨∃ C o,Γ[i]?=some (.pub (pExc C o))∧Q (.bool false) Γ
theorem vt_isNX:VT P0 (tOp (fun x y H Q=>y=.non∧Q (.bl (decide (x=.non))) H) (tVar i) (tC .non)) (mIsNX i):=by
 intro F Γ σ G H Q Qm r hm k;rcases hm with⟨d,e,q⟩|⟨C,o,e,q⟩
 ·exact vt_isN (aB (i:=i)) F Γ σ G H Q Qm r (by unfold mIsN aQ; rw[e]; exact q) k
 ·obtain⟨v,ev,a,dct,rfl,ha,_⟩:=r.sl i _ e;exact⟨_,ev,rfl,k _ _ _ _ _ q (Same.refl _) r (by simp only[reduceCtorEq,decide_false]; exact .bl _)⟩
end
end L2.VS
namespace L2
open PySem PySem.Spec PyProof.Rows
theorem tx3:∀ n:Fin 1000,(txI ((n.val:Nat):Int)).length≤10∧(txI (-((n.val:Nat):Int))).length≤10:=by decide +kernel
theorem tx_small {i:Int}(h:i.natAbs<1000):(txI i).length≤10:=by
 rcases eq_nat_or_neg i with⟨m,rfl|rfl⟩
 ·exact(tx3 ⟨m,by omega⟩).1
 ·exact(tx3 ⟨m,by omega⟩).2
theorem log_small {i:Int}(h:i.natAbs<1000):i.natAbs.log2<1920:=by
 by_cases z:i.natAbs=0
 ·rw[z]; decide
 ·exact(log2_lt z).mpr (lt_of_lt_of_le (lt_trans h (by decide:1000<2^10)) (pow_le_pow_right (by decide) (by decide)))
theorem tx_pre {i:Int}{m:PySem.Str}(h:i.natAbs<1000)(hm:m.length≤1000:=by decide):(m++txI i).length≤sizeLine:=by
 have:=tx_small h;rw[len_app,sizeLine_eq];omega
structure CalX (P:Program)(w:World)(K:Fg)(mg:Mg)(base:Heap)(k:Nat)(x:Str)(ps:List Str)(sp:Sp):Prop where
 ex:∃(f:Addr) (fd:FuncData),FnOk P w K mg base (CX2 P w) k f fd ps sp∧mg x=some (.ref f)∧keepIn K (.ref f)=true∧Binds K fd ps []
structure Ini (P:Program)(w:World)(K:Fg)(mg:Mg)(base:Heap)(k:Nat)(C:Addr)(f:Str):Prop where
 ex:∃(fI:Addr) (fd:FuncData) (ps:List Str),FnOk P w K mg base CX0 k fI fd ps (spXI C f)∧findIn K (.ref C) "__init__" = some (some (.ref fI))∧typeIn K (.ref fI)=some (.type "function")∧Binds K fd ps []
section
variable {X:Cx}{j k:Nat}{x m:Str}{ps:List Str}{sp:Sp}{e:Expr}{es:List Expr}{t:TA}{p pos pos' cp np cpos:Pos}{i:Nat}{E:XK}{C:Addr}{f:Str}{e0:Expr}
theorem px_setX (c:CalX X.prog X.w X.K X.mg X.base j m ps sp)(hr:Room k X.A)(hg:Gl X m)(ha:PA X.nox (e::es) t)
  (hN:X.N.Nodup) (hi:X.N[i]?=some x) (hx:Loc X.env.scope x) (hf:X.fn x=true∨X.env.scope.names.lookup x=some .local) (hjk:j≤k:=by decide)
  (hdb:(m==("__debug__" : Str))=false:=by decide)
  (hs:swapsWith (.Call (.Name m p) (e::es) [] cp) (some (.Name x pos')) pos.line X.env=pure false:=by rfl)
  (he:starEach (e::es) X.env=(false,eval e X.env)::starEach es X.env:=by rfl) (hpl:(backTo cp (starEach es X.env)).any (·.1)=false:=by rfl) :
  PX2 X [.Assign [.Name x pos'] (.Call (.Name m p) (e::es) [] cp) pos] (tSetF i sp t):=by
 obtain⟨f,fd,F,hm,hk,hb⟩:=c.ex;exact px_setF F (hr.mono hjk) hg hm hk hb ha hN hi hx hf hdb hs he hpl
theorem ps_raiseC (c:Ini X.prog X.w X.K X.mg X.base j C f)(hr:Room k X.A)
  (hxe:∀(pins:List (Addr×Obj)) (σ:St) (H:Hp) (s:Shared) (e:Addr) (D:Option Addr),Inv X pins σ (upd H e (XF e C D)) s→H e=none→X.s₀.heap.get? e=none→E (.ref C) D H→X.xe (.ref e) s)
  (hex:X.ex=[]) (hcalm:X.calm=true) (hg:Gl X x) (hm:X.mg x=some (.ref C)) (z:XCl X.K C) (ha:PA X [e0] t) (hjk:j+1≤k:=by decide)
  (he:starEach [e0] X.env=[(false,eval e0 X.env)]:=by rfl) (hd:(x==("__debug__" : Str))=false:=by decide) :
  PS X (.Raise (some (.Call (.Name x np) [e0] [] cpos)) none pos) (tRaiseI C f E t):=by
 obtain⟨fI,fd,ps,F,hi,hf,hb⟩:=c.ex;exact ps_raiseI hxe hex hcalm hg hm z.ex hi hf F (hr.mono hjk) hb ha he hd
end
theorem xc_mk0 {K:Fg}{D0 ns:Addr}{dd:Option Addr}{nm qn:Str}{bs sub:List Value}{sn:List Str}{ab:Bool}{col:Option Bool}{k0 k1 k2 k3 k5:Option Value}
  (l:K.lookup D0=some ⟨.type "type", dd,.cls ⟨nm,bs,[.ref D0,.type "ValueError", .type "Exception", .type "BaseException", .type "object"],ns,qn,true,sn,sub,ab,col,false⟩,#[k0,k1,k2,k3,some (.builtin "ValueError.__new__"),k5]⟩):xcIn K D0=true:=by
 unfold xcIn;rw[l];simp[tailIn,vmro]
theorem xc_mk1 {K:Fg}{C D0 ns:Addr}{dd:Option Addr}{nm qn:Str}{bs sub:List Value}{sn:List Str}{ab:Bool}{col:Option Bool}{k0 k1 k2 k3 k5:Option Value}
  (l:K.lookup C=some ⟨.type "type", dd,.cls ⟨nm,bs,[.ref C,.ref D0,.type "ValueError", .type "Exception", .type "BaseException", .type "object"],ns,qn,true,sn,sub,ab,col,false⟩,#[k0,k1,k2,k3,some (.builtin "ValueError.__new__"),k5]⟩)
  (d:excIn K D0 [.type "ValueError", .type "Exception", .type "BaseException", .type "object"] "ValueError.__new__" = true):xcIn K C=true:=by
 have hD:tailIn K vmro (.ref D0::vmro)=true:=by
  unfold excIn at d
  split at d
  next dd cd sl ho=>
   split at d
   next D bm k0 k1 k2 k3 n k5 hm hs=>
    simp only[and_eq_true] at d;unfold tailIn;dsimp only;rw[ho];have t2:tailIn K vmro vmro=true:=by simp[tailIn,vmro]
    simp only[d.1.2,d.2,t2];simp
   next=>cases d
  next=>cases d
 unfold xcIn;rw[l];have hD:tailIn K vmro [.ref D0,.type "ValueError", .type "Exception", .type "BaseException", .type "object"]=true:=hD;simp[hD]
theorem fa_nil {α:Type}{Φ:α→Prop}:∀ p∈([]:List α),Φ p:=fun _ h=>nomatch h
theorem fa_cons {α:Type}{Φ:α→Prop}{a:α}{r:List α}(h:Φ a)(k:∀ p∈r,Φ p):∀ p∈a::r,Φ p:=fun p hp=>(mem_cons.mp hp).elim (fun e=>e▸h) (k p)
end L2
namespace L2.VS
open PySem PySem.Spec PyProof.Rows
section
variable {P0:Addr→Hp→Prop}{A:Nat→Bool}{X0:XK}{K:Fg}{i:Nat}
def mIsL (i:Nat)(tb:List (Addr×Bool)):ME:=mIsD i fun C=>tb.lookup C
theorem lookup_mem {tb:List (Addr×Bool)}{C:Addr}{b:Bool}(h:tb.lookup C=some b):(C,b)∈tb:=by
 induction tb with
 | nil=>cases h
 | cons p r ih=>
  obtain⟨a,c⟩:=p;rw[lookup_cons] at h
  split at h
  ·rename_i e
   cases h
   rw[beq_iff_eq.mp e];exact mem_cons_self
  ·exact mem_cons_of_mem _ (ih h)
theorem vt_isL1 {c:V}{u:Value}{tb:List (Addr×Bool)}(hu:∀ v,RelV c v→v=u)(h:∀ p∈tb,XCl K p.1∧kitOne K (.ref p.1) u=some p.2) :
  VT P0 (tCB (rIsD K) (cO (tVar i) (cO (tC c) tNil))) (mIsL i tb):=vt_isD1 hu fun _ _ e=>h _ (lookup_mem e)
theorem vt_isLT {as:List Addr}{tb:List (Addr×Bool)}(hz:as.length≤100)(h:∀ p∈tb,XCl K p.1∧kitAny K (.ref p.1) (as.map Value.ref)=some p.2) :
  VT P0 (tCB (rIsD K) (cO (tVar i) (cO (tTup (tCs as)) tNil))) (mIsL i tb):=vt_isDT hz fun _ _ e=>h _ (lookup_mem e)
theorem i_raise {C:Addr}{n:Str}{m:MD}{Γ:En}{Q:Fl→Prop}(h:m Γ fun ds _=>∃ i:Int,ds=[.int i]∧i.natAbs<1000∧Q (.rt (.box (bExc C (some (n,.int i)))))):mRaise C n m Γ Q:=h
theorem i_isL {tb:List (Addr×Bool)}{Γ:En}{Q:D→En→Prop}{C:Addr}{o:XO}{b:Bool}(h1:Γ[i]?=some (.pub (pExc C o)))(h2:tb.lookup C=some b)(h:Q (.bool b) Γ):mIsL i tb Γ Q:=⟨C,o,b,h1,h2,h⟩
theorem i_xfld {f:Str}{cs:List Addr}{Γ:En}{Q:D→En→Prop}{C:Addr}{d:D}(h1:Γ[i]?=some (.pub (pExc C (some (f,d)))))(h2:C∈cs)(h:Q d Γ):mXFld i f cs Γ Q:=⟨C,d,h1,h2,h⟩
theorem i_isNX1 {Γ:En}{Q:D→En→Prop}{d:D}(h1:Γ[i]?=some (.val d))(h:Q (.bool (isN d)) Γ):mIsNX i Γ Q:=.inl ⟨d,h1,h⟩
theorem i_isNX2 {Γ:En}{Q:D→En→Prop}{C:Addr}{o:XO}(h1:Γ[i]?=some (.pub (pExc C o)))(h:Q (.bool false) Γ):mIsNX i Γ Q:=.inr ⟨C,o,h1,h⟩
end
section
structure XA where
 nt:Addr
 nl:Addr
 tm:Addr
 rw:Addr
def noXr (rv:Rv):Prop:=∀ C o,rv≠.box (bExc C o)
theorem noX_val {d:D}:noXr (.val d):=fun _ _ e=>nomatch e
theorem _root_.L2.FnOk.noX2 {P0:Addr→Hp→Prop}{P:Program}{w:World}{K:Fg}{mg:Mg}{base:Heap}{k n:Nat}{f:Addr}{fd:FuncData}{ps:List Str}{m m':Fm}(F:FnOk P w K mg base (CX2 P w) k f fd ps (spX P0 n m))
  (hm:∀ as Q,m' as Q→m as fun rv=>noXr rv∧Q rv):FnOk P w K mg base CX0 k f fd ps (spM P0 n m'):=by
 have key:∀ vs H Q E,spM P0 n m' vs H Q E→spX P0 n m vs H Q fun _ _ _=>False:=by
  rintro vs H Q E ⟨F,as,Qm,h1,h2,h3,h4,h5,h6⟩;exact⟨F,as,_,h1,h2,h3,h4,hm _ _ h5,fun rv r G' H' q=>h6 rv r G' H' q.2,fun C o q=>absurd rfl (q.1 C o)⟩
 exact⟨fun vs H Q E h=>F.len vs H Q _ (key _ _ _ _ h),fun A outer s H args us vs Q E hr he hb hv hs=>codeAny_mono (F.run A outer s H args us vs Q _ hr he hb hv (key _ _ _ _ hs)) fun r s' hq=>by
  cases r with
  | ok fl=>
   cases fl with
   | ret u=>exact hq
   | next=>exact hq
   | brk=>exact hq
   | cont=>exact hq
  | error e=>
   obtain⟨_,_,_,_,_,_,_,_,_,_,_,z⟩:=hq;exact z.elim⟩
end
end L2.VS
namespace L2
open PySem PySem.Spec PyProof.Rows
section
variable {X:Cx}
def rIndexS:V→List V→Hp→VK→Prop:=fun x vs H Q=>∃(a b:PySem.Str) (i:Nat) (r:List Nat),x=.str a∧vs=[.str b]∧Builtin.Str.occurrences a b 0 a.length 1=i::r∧Q (.int (i:Int)) H
theorem mt_indexS:MtR X "str.index" rIndexS:=by
 intro pins s σ H x vs v us Q I rx rv h;obtain⟨a,b,i,r,rfl,rfl,ho,q⟩:=h;obtain⟨t,rfl⟩:=rx;obtain⟨u,rfl,t',rfl⟩:=rv.one;exact SC.index ho ⟨.int (i:Int),H,I.tok _,⟨_,rfl⟩,q⟩
def rSMul:R2:=fun x y H Q=>∃(a:PySem.Str) (n:Int),x=.str a∧y=.int n∧MulOk a n∧Q (.str (Txt.mul a n)) H
theorem op_smul:OpR X (binaryOp .Mult) rSMul:=by
 intro pins s σ H x y v u Q I rx ry h;obtain⟨a,n,rfl,rfl,hk,q⟩:=h;obtain⟨t,rfl⟩:=rx;obtain⟨t',rfl⟩:=ry;exact SB.mul hk fun t' k=>⟨.str (Txt.mul a n),H,I.tok _,⟨_,rfl⟩,q⟩
def rNinS:R2:=fun x y H Q=>∃ a b:PySem.Str,x=.str a∧y=.str b∧Q (.bl (!inS a b)) H
theorem op_ninS:OpR X (compareOp .NotIn) rNinS:=by
 intro pins s σ H x y v u Q I rx ry h;obtain⟨a,b,rfl,rfl,q⟩:=h;obtain⟨t,rfl⟩:=rx;obtain⟨t',rfl⟩:=ry;exact P.notIn_str ⟨.bl (!inS a b),H,I,rfl,q⟩
end
end L2
namespace L2.VS
open PySem PySem.Spec PyProof.Rows
section
variable {P0:Addr→Hp→Prop}{ta tb:TE}{ma mb:ME}{Γ:En}{Q:D→En→Prop}
def ixsJ (Q:D→En→Prop)(x y:D)(Γ2:En):Prop:=∃(a b:PySem.Str) (i:Nat) (r:List Nat),x=.str a∧y=.str b∧Builtin.Str.occurrences a b 0 a.length 1=i::r∧Q (.int (i:Int)) Γ2
def ixsI (mb:ME)(Q:D→En→Prop)(x:D)(Γ1:En):Prop:=(∃ a,x=.str a)∧mb Γ1 (ixsJ Q x)
def mIndexS (ma mb:ME):ME:=fun Γ Q=>ma Γ (ixsI mb Q)
theorem vt_indexS {K:Fg}(ha:VT P0 ta ma)(hb:VT P0 tb mb):VT P0 (tBM K "str" rIndexS ta (cO tb tNil)) (mIndexS ma mb):=by
 intro F Γ σ G H Q Qm r hm k;refine ha F Γ σ G H _ _ r hm fun x Γ1 v G1 H1 m1 g1 r1 d1=>?_;obtain⟨⟨a,rfl⟩,m1⟩:=m1
 cases d1
 refine⟨rfl,hb F Γ1 σ G1 H1 _ _ r1 m1 fun e Γ2 y G2 H2 m2 s2 r2 d2=>?_⟩;obtain⟨a',b,i,rr,e1,rfl,ho,q⟩:=m2
 cases e1
 cases d2
 exact⟨a,b,i,rr,rfl,rfl,ho,k _ _ _ _ _ q (g1.trans s2) r2 (.int _)⟩
theorem i_indexS (h:ma Γ (ixsI mb Q)):mIndexS ma mb Γ Q:=h
theorem i_ixsI {a:PySem.Str}(h:mb Γ (ixsJ Q (.str a))):ixsI mb Q (.str a) Γ:=⟨⟨a,rfl⟩,h⟩
theorem i_ixsJ {a b:PySem.Str}{i:Nat}{r:List Nat}(ho:Builtin.Str.occurrences a b 0 a.length 1=i::r)(h:Q (.int (i:Int)) Γ):ixsJ Q (.str a) (.str b) Γ:=⟨a,b,i,r,rfl,rfl,ho,h⟩
def smJ (Q:D→En→Prop)(x y:D)(Γ2:En):Prop:=∃(a:PySem.Str) (n:Int),x=.str a∧y=.int n∧MulOk a n∧Q (.str (Txt.mul a n)) Γ2
def smI (mb:ME)(Q:D→En→Prop)(x:D)(Γ1:En):Prop:=mb Γ1 (smJ Q x)
def mSMul (ma mb:ME):ME:=fun Γ Q=>ma Γ (smI mb Q)
theorem i_smul (h:ma Γ (smI mb Q)):mSMul ma mb Γ Q:=h
theorem i_smI {x:D}(h:mb Γ (smJ Q x)):smI mb Q x Γ:=h
theorem i_smJ {a:PySem.Str}{n:Int}(hk:MulOk a n)(h:Q (.str (Txt.mul a n)) Γ):smJ Q (.str a) (.int n) Γ:=⟨a,n,rfl,rfl,hk,h⟩
theorem vt_smul (ha:VT P0 ta ma)(hb:VT P0 tb mb):VT P0 (tOp rSMul ta tb) (mSMul ma mb):=by
 intro F Γ σ G H Q Qm r hm k;refine ha F Γ σ G H _ _ r hm fun x Γ1 v G1 H1 m1 g1 r1 d1=>?_;refine hb F Γ1 σ G1 H1 _ _ r1 m1 fun y Γ2 u G2 H2 m2 g2 r2 d2=>?_;obtain⟨a,n,rfl,rfl,hk,q⟩:=m2
 cases d1
 cases d2
 exact⟨a,n,rfl,rfl,hk,k _ _ _ _ _ q (g1.trans g2) r2 (.str _)⟩
def nsJ (Q:D→En→Prop)(x y:D)(Γ2:En):Prop:=∃ a b:PySem.Str,x=.str a∧y=.str b∧Q (.bool (!inS a b)) Γ2
def nsI (mb:ME)(Q:D→En→Prop)(x:D)(Γ1:En):Prop:=mb Γ1 (nsJ Q x)
def mNinS (ma mb:ME):ME:=fun Γ Q=>ma Γ (nsI mb Q)
theorem i_ninS (h:ma Γ (nsI mb Q)):mNinS ma mb Γ Q:=h
theorem i_nsI {x:D}(h:mb Γ (nsJ Q x)):nsI mb Q x Γ:=h
theorem i_nsJ {a b:PySem.Str}(h:Q (.bool (!inS a b)) Γ):nsJ Q (.str a) (.str b) Γ:=⟨a,b,rfl,rfl,h⟩
theorem vt_ninS (ha:VT P0 ta ma)(hb:VT P0 tb mb):VT P0 (tOp rNinS ta tb) (mNinS ma mb):=by
 intro F Γ σ G H Q Qm r hm k;refine ha F Γ σ G H _ _ r hm fun x Γ1 v G1 H1 m1 g1 r1 d1=>?_;refine hb F Γ1 σ G1 H1 _ _ r1 m1 fun y Γ2 u G2 H2 m2 g2 r2 d2=>?_;obtain⟨a,b,rfl,rfl,q⟩:=m2
 cases d1
 cases d2
 exact⟨a,b,rfl,rfl,k _ _ _ _ _ q (g1.trans g2) r2 (.bl _)⟩
end
end L2.VS
namespace My
open PySem PySem.Spec PyProof.Rows L2 L2.VS LT
def top (i:Nat):Stmt:=PySem.Challenge.pw_leadtimes_k41_numbers_written.main.body.getD i (.Pass ⟨0,0,0,0⟩)
set_option hygiene false in
local macro_rules|`(tactic| walk_at "vn")=>`(tactic| dsimp only[List.set_cons_zero,List.set_cons_succ,List.set_nil,Rv.sl,Rv.d,nbQ,List.replicate,List.cons_append,nil_append,map_cons,map_nil])
set_option hygiene false in
local macro_rules|`(tactic| walk_at "v1")=>`(tactic| first
 | (with_reducible first
  | apply i_seq|apply i_set|apply i_val|apply i_ret|apply i_if|apply i_tst
  | refine i_var (by with_unfolding_all rfl) ?_
  | apply i_c|apply i_pub|apply i_call|apply i_aval
  | refine i_apen (by with_unfolding_all rfl) ?_
  | apply i_anil|apply i_nil|apply i_cons|apply i_tup|apply i_lst|apply i_ix|apply i_I0|apply i_I|apply i_U|apply i_eq|apply i_ne
  | apply i_and|apply i_or|apply i_not|apply i_andV|apply i_notV|apply i_isN|apply i_notN|apply i_isi|apply i_len|apply i_abs|apply i_int1|apply i_ifE|apply i_ifO
  | apply i_for|apply i_itT|apply i_rng1|apply i_gN
  | refine i_gT (by with_unfolding_all rfl) ?_
  | apply i_par|apply i_nx|apply i_pNo|apply i_pSo|apply i_cat
  | refine i_append (by with_unfolding_all rfl) ?_
  | refine i_clear (by with_unfolding_all rfl) ?_
  | refine i_pubS (by with_unfolding_all rfl) ?_
  | refine i_pubS0 (by with_unfolding_all rfl) ?_
  | refine i_move (by with_unfolding_all rfl) ?_
  | refine i_moveV (by with_unfolding_all rfl) ?_
  | apply i_oQ (ix_num0 _)|apply i_oQ (ix_num1 _)|apply i_oQ (ix_line0 _)|apply i_oQ (ix_line1 _)
  | apply iteT|apply iteF
  | refine isT (by with_unfolding_all rfl) ?_
  | refine isF (by with_unfolding_all rfl) ?_
  | refine isNT (by with_unfolding_all rfl) ?_
  | refine isNF (by with_unfolding_all rfl) ?_
  | apply iteNT|apply iteNF
  | refine And.intro rfl ?_
  | refine And.intro (Nat.le_of_ble_eq_true (by with_unfolding_all rfl)) ?_
  | refine And.intro (mulB (by assumption) (by assumption)) ?_
  | (refine And.intro (good_int _) (And.intro (good_int _) ?_); rw[eqv_int])
  | (refine And.intro (good_num _) (And.intro (good_num _) ?_); rw[eqv_num])
  | (refine And.intro (good_line _) (And.intro (good_line _) ?_); rw[eqv_line])
  | (refine And.intro (good_bool _) (And.intro (good_bool _) ?_); rw[eqv_bool]))
 | dsimp only[Rv.d,Rv.sl,nbQ,Bool.not_true,Bool.not_false,isN])
set_option hygiene false in
local macro_rules|`(tactic| walk_at "vs")=>`(tactic| repeat (walk_at "v1"))
set_option hygiene false in
local macro_rules|`(tactic| walk_at "w1")=>`(tactic| first
 | walk_at "v1"
 | with_reducible apply i_comp
 | with_reducible apply i_bs
 | with_reducible apply i_dic0
 | with_reducible refine i_ixC (by with_unfolding_all rfl) ?_)
set_option hygiene false in
local macro_rules|`(tactic| walk_at "ws")=>`(tactic| repeat (walk_at "w1"))
set_option hygiene false in
local macro_rules|`(tactic| walk_at "t1")=>`(tactic| first
 | walk_at "w1"
 | with_reducible apply i_sadd
 | with_reducible apply i_saJ
 | with_reducible apply i_str1
 | with_reducible apply i_lenS
 | with_reducible apply i_inS
 | with_reducible apply i_siJ
 | with_reducible apply i_siK
 | with_reducible apply i_starts
 | with_reducible apply i_swJ
 | with_reducible apply i_swK
 | with_reducible apply i_intS
 | with_reducible apply i_split
 | with_reducible apply i_spJ
 | with_reducible apply i_ixS
 | with_reducible apply i_xsJ
 | with_reducible apply i_itS
 | with_reducible apply i_isK
 | with_reducible apply i_slS
 | with_reducible apply i_tupL)
set_option hygiene false in
local macro_rules|`(tactic| walk_at "ts")=>`(tactic| repeat (walk_at "t1"))
set_option hygiene false in
local macro_rules|`(tactic| walk_at "u1")=>`(tactic| first
 | walk_at "t1"
 | with_reducible apply i_indexS
 | with_reducible apply i_ixsI
 | with_reducible apply i_smul
 | with_reducible apply i_smI
 | with_reducible apply i_ninS
 | with_reducible apply i_nsI
 | with_reducible apply i_nsJ
 | with_reducible apply i_raise)
set_option hygiene false in
local macro_rules|`(tactic| walk_at "us")=>`(tactic| repeat (walk_at "u1"))
structure Xcs (K:Fg)(mg:Mg)(c:XA)(D0 c0 c1 c2 c3 c4:Addr):Prop where
 h_NoText:mg "NoText" = some (.ref c.nt)
 z_NoText:XCl K c.nt
 s_NoText:mroIn K c.nt (.ref D0)=some true
 a_NoText:findIn K (.ref c.nt) "__setattr__" = some (some (.builtin "object.__setattr__"))
 n_NoText:findIn K (.ref c.nt) "line" = some none
 d_NoText:hasDictIn K c.nt=true
 hD:mg "LeadError" = some (.ref D0)
 zD:XCl K D0
 pD:specialIn K (.ref D0) "__getattribute__" = some (some (.builtin "type.__getattribute__"))
 rD:readsIn K D0 (.type "type")=true
 fD:findCls K (.ref D0) (.type "type") "__init__" = some (.val (.builtin "ValueError.__init__"))
 hV:mg "ValueError" = none
 h_NoKey:mg "NoKey" = some (.ref c0)
 h_NoLog:mg "NoLog" = some (.ref c1)
 h_NoNumber:mg "NoNumber" = some (.ref c2)
 h_NoRow:mg "NoRow" = some (.ref c3)
 h_NoTime:mg "NoTime" = some (.ref c4)
 t_NoText_KLNRT:kitAny K (.ref c.nt) [.ref c0,.ref c1,.ref c2,.ref c3,.ref c4]=some false
 k_NoText_NoText:kitOne K (.ref c.nt) (.ref c.nt)=some true
 k_NoText_ValueError:kitOne K (.ref c.nt) (.type "ValueError")=some true
def aX:Fm:=mTake
def b_is_whole:MS:=
 (mRet (bT (mAndV (mIsi "int" (aQ 0)) (mNotV (mIsi "bool" (aQ 0))))))
def m_is_whole:Fm:=mFn 0 b_is_whole
def b_greatest_divisor_r1:MS:=
 (mRet (bT (aQ 2)))
def b_greatest_divisor_l1:MS:=
 (cA (mSet 4 (bT (mMod (aQ 2) (aQ 3))))
  (cA (mSet 2 (bT (aQ 3)))
  (mSet 3 (bT (aQ 4)))))
def b_greatest_divisor:MS:=
 (cA (mSet 2 (bT (mAbs (aQ 0))))
  (cA (mSet 3 (bT (mAbs (aQ 1))))
  (cA (mWhile (mTst (mNe (aQ 3) (mC (.int 0))))
  b_greatest_divisor_l1)
  b_greatest_divisor_r1)))
def bO:Fm:=mFn 3 b_greatest_divisor
def b_is_number_r1:MS:=
 (mRet (bT (mAndV (mGe (mIx (aQ 0) (mC (.int 1))) (mC (.int 1))) (mEq (mPub (bV 2 bO (aVal (mIx (aQ 0) (mC (.int 0))) (aVal (mIx (aQ 0) (mC (.int 1))) aNil)))) (mC (.int 1))))))
def b_is_number_r2:MS:=
 (cA (mIf (mOr (mNot (mTst (mPub (bV 1 m_is_whole (aVal (mIx (aQ 0) (mC (.int 0))) aNil))))) (mNot (mTst (mPub (bV 1 m_is_whole (aVal (mIx (aQ 0) (mC (.int 1))) aNil))))))
  (mRet (bT (mC (.bool false))))
  mNx)
  b_is_number_r1)
def b_is_number:MS:=
 (cA (mIf (mOr (mNot (mTst (mIsi "tuple" (aQ 0)))) (mTst (mNe (mLen (aQ 0)) (mC (.int 2)))))
  (mRet (bT (mC (.bool false))))
  mNx)
  b_is_number_r2)
def cF:Fm:=mFn 0 b_is_number
def b_whole_in_r1:MS:=
 (mRet (bT (mIntS (aQ 0))))
def b_whole_in_r2:MS:=
 (cA (mIf (mAnd (mTst (mEq (mIxS (aQ 0) (mC (.int 0))) (mC (.str "0")))) (mTst (mNe (aQ 0) (mC (.str "0")))))
  (mRet (bT (mC .none)))
  mNx)
  b_whole_in_r1)
def b_whole_in:MS:=
 (cA (mIf (mOr (mTst (mEq (aQ 0) (mC (.str "")))) (mOr (mTst (mGt (mLenS (aQ 0)) (mC (.int 60)))) (mNot (mTst (mAll (mPub (mComp 1 [] (mItS (aQ 0)) (gN 0) mTrue (mInS (aQ 0) (mC (.str "0123456789"))))))))))
  (mRet (bT (mC .none)))
  mNx)
  b_whole_in_r2)
def cL:Fm:=mFn 1 b_whole_in
def b_top_in_r1:MS:=
 (cA (mSet 1 (bT (mPub (bV 1 cL (aVal (mSlS (aQ 0) (pSo (mC (.int 1))) pNo) aNil)))))
  (mRet (mIfO (mOr (mTst (mIsN (aQ 1))) (mTst (mEq (aQ 1) (mC (.int 0))))) (bT (mC .none)) (bT (mNeg (aQ 1))))))
def b_top_in:MS:=
 (cA (mIf (mNot (mTst (mStarts (aQ 0) (mC (.str "-")))))
  (mRet (bV 1 cL (aVal (aQ 0) aNil)))
  mNx)
  b_top_in_r1)
def m_top_in:Fm:=mFn 1 b_top_in
def b_number_in_r1:MS:=
 (cA (mSet 3 (bT (mPub (bV 1 cL (aVal (mIx (aQ 1) (mC (.int 1))) aNil)))))
  (mRet (mIfO (mAnd (mTst (mNe (aQ 3) (mC (.int 1)))) (mTst (mPub (bV 1 cF (aVal (mTup (bM (aQ 2) (bM (aQ 3) mNil))) aNil))))) (bT (mTup (bM (aQ 2) (bM (aQ 3) mNil)))) (bT (mC .none)))))
def b_number_in_r2:MS:=
 (cA (mSet 2 (bT (mPub (bV 1 m_top_in (aVal (mIx (aQ 1) (mC (.int 0))) aNil)))))
  (cA (mIf (mTst (mEq (mLen (aQ 1)) (mC (.int 1))))
  (mRet (mIfO (mTst (mIsN (aQ 2))) (bT (mC .none)) (bT (mTup (bM (aQ 2) (bM (mC (.int 1)) mNil))))))
  mNx)
  b_number_in_r1))
def b_number_in:MS:=
 (cA (mSet 1 (bT (mPub (mSplit (aQ 0) (mC (.str "/"))))))
  (cA (mIf (mTst (mGt (mLen (aQ 1)) (mC (.int 2))))
  (mRet (bT (mC .none)))
  mNx)
  b_number_in_r2))
def m_number_in:Fm:=mFn 3 b_number_in
def b_show_number:MS:=
 (cA (mSet 1 (bT (mIx (aQ 0) (mC (.int 0)))))
  (cA (mSet 2 (bT (mIx (aQ 0) (mC (.int 1)))))
  (mRet (mIfO (mTst (mEq (aQ 2) (mC (.int 1)))) (bT (mStr (aQ 1))) (bT (mFs "/" (aQ 1) (aQ 2)))))))
def bQ:Fm:=mFn 2 b_show_number
def b_read_number_c_r1 (c:XA):MS:=
 (mRet (bT (aQ 1)))
def b_read_number_c (c:XA):MS:=
 (cA (mSet 1 (bT (mIfE (mTst (mIsi "str" (aQ 0))) (mPub (bV 1 m_number_in (aVal (aQ 0) aNil))) (mC .none))))
  (cA (mIf (mTst (mIsN (aQ 1)))
  (mRaise c.nt "line" (bM (mC (.int 0)) mNil))
  mNx)
  (b_read_number_c_r1 c)))
def bA (c:XA):Fm:=mFn 1 (b_read_number_c c)
def m_read_number:Fm:=fun as Q=>∀ c,bA c as fun rv=>noXr rv∧Q rv
def b_law_lowest_r1:MS:=
 (mRet (bT (mTup (bM (mDivX (aQ 0) (aQ 2)) (bM (mDivX (aQ 1) (aQ 2)) mNil)))))
def b_law_lowest_l1:MS:=
 (mPar 2 3 (bM (aQ 3) (bM (mMod (aQ 2) (aQ 3)) mNil)))
def b_law_lowest:MS:=
 (cA (mSet 2 (bT (mAbs (aQ 0))))
  (cA (mSet 3 (bT (aQ 1)))
  (cA (mWhile (mTst (mGt (aQ 3) (mC (.int 0))))
  b_law_lowest_l1)
  b_law_lowest_r1)))
def bR:Fm:=mFn 2 b_law_lowest
def b_law_great_r1:MS:=
 (mRet (bT (mMod (aQ 2) (mC (.int 1000000000000000000000000000000000000000000000000000000000000)))))
def b_law_great_l1:MS:=
 (mSet 2 (bT (mAdd (mMul (aQ 2) (mC (.int 1000000000))) (mPub (bV 2 aX (aPen 0 (aVal (mC (.int 1000000000)) aNil)))))))
def b_law_great:MS:=
 (cA (mSet 2 (bT (mC (.int 0))))
  (cA (mFor (mRng1 (bM (mAdd (mC (.int 1)) (mDiv (aQ 1) (mC (.int 9)))) mNil)) (gN 3)
  b_law_great_l1)
  b_law_great_r1))
def cQ:Fm:=mFn 2 b_law_great
def b_law_number_r1:MS:=
 (cA (mSet 2 (bT (mMul (mPub (bV 2 cQ (aPen 0 (aVal (mPub (bV 2 aX (aPen 0 (aVal (mC (.int 61)) aNil)))) aNil)))) (mIx (mPub (mLst (bM (mC (.int 1)) (bM (mNeg (mC (.int 1))) mNil)))) (mPub (bV 2 aX (aPen 0 (aVal (mC (.int 2)) aNil))))))))
  (mRet (bV 2 bR (aVal (aQ 2) (aVal (mAdd (mC (.int 1)) (mMul (mMod (mPub (bV 2 cQ (aPen 0 (aVal (mPub (bV 2 aX (aPen 0 (aVal (mC (.int 61)) aNil)))) aNil)))) (mSub (mC (.int 1000000000000000000000000000000000000000000000000000000000000)) (mC (.int 1)))) (mInt1 (mEq (aQ 1) (mC (.int 3)))))) aNil)))))
def b_law_number_r2:MS:=
 (cA (mIf (mTst (mEq (aQ 1) (mC (.int 1))))
  (mRet (bV 2 bR (aVal (mSub (mPub (bV 2 aX (aPen 0 (aVal (mC (.int 41)) aNil)))) (mC (.int 20))) (aVal (mAdd (mC (.int 1)) (mPub (bV 2 aX (aPen 0 (aVal (mC (.int 12)) aNil))))) aNil))))
  mNx)
  b_law_number_r1)
def b_law_number:MS:=
 (cA (mSet 1 (bT (mPub (bV 2 aX (aPen 0 (aVal (mC (.int 4)) aNil))))))
  (cA (mIf (mTst (mEq (aQ 1) (mC (.int 0))))
  (mRet (bT (mTup (bM (mSub (mPub (bV 2 aX (aPen 0 (aVal (mC (.int 21)) aNil)))) (mC (.int 10))) (bM (mC (.int 1)) mNil)))))
  mNx)
  b_law_number_r2))
def m_law_number:Fm:=mFn 2 b_law_number
def b_law_whole_r1:MS:=
 (mRet (bT (aQ 1)))
def b_law_whole_r2:MS:=
 (mSet 1 (bT (mAdd (mMul (mC (.int 10)) (aQ 1)) (mIndexS (mC (.str "0123456789")) (aQ 2)))))
def b_law_whole_l1:MS:=
 (cA (mIf (mTst (mNinS (aQ 2) (mC (.str "0123456789"))))
  (mRet (bT (mC .none)))
  mNx)
  b_law_whole_r2)
def b_law_whole_r3:MS:=
 (cA (mSet 1 (bT (mC (.int 0))))
  (cA (mFor (mItS (aQ 0)) (gN 2)
  b_law_whole_l1)
  b_law_whole_r1))
def b_law_whole:MS:=
 (cA (mIf (mOr (mTst (mEq (aQ 0) (mC (.str "")))) (mOr (mTst (mGt (mLenS (aQ 0)) (mC (.int 60)))) (mAnd (mTst (mEq (mIxS (aQ 0) (mC (.int 0))) (mC (.str "0")))) (mTst (mNe (aQ 0) (mC (.str "0")))))))
  (mRet (bT (mC .none)))
  mNx)
  b_law_whole_r3)
def cP:Fm:=mFn 2 b_law_whole
def b_law_due_r1:MS:=
 (mRet (bT (mTup (bM (mMul (aQ 4) (aQ 5)) (bM (aQ 2) mNil)))))
def b_law_due_r2:MS:=
 (cA (mSet 5 (bT (mPub (bV 1 cP (aVal (aQ 1) aNil)))))
  (cA (mIf (mOr (mTst (mIsN (aQ 5))) (mOr (mAnd (mTst (mEq (aQ 4) (mNeg (mC (.int 1))))) (mTst (mEq (aQ 5) (mC (.int 0))))) (mTst (mNe (mPub (bV 2 bR (aVal (aQ 5) (aVal (aQ 2) aNil)))) (mTup (bM (aQ 5) (bM (aQ 2) mNil)))))))
  (mRet (bT (mC .none)))
  mNx)
  b_law_due_r1))
def b_law_due_r3:MS:=
 (cA (mSet 4 (bT (mC (.int 1))))
  (cA (mIf (mTst (mEq (mSlS (aQ 1) pNo (pSo (mC (.int 1)))) (mC (.str "-"))))
  (cA (mSet 4 (bT (mNeg (mC (.int 1)))))
  (mSet 1 (bT (mSlS (aQ 1) (pSo (mC (.int 1))) pNo))))
  mNx)
  b_law_due_r2))
def b_law_due:MS:=
 (cA (mSet 1 (bT (aQ 0)))
  (cA (mSet 2 (bT (mC (.int 1))))
  (cA (mIf (mTst (mInS (mC (.str "/")) (aQ 0)))
  (cA (mSet 3 (bT (mIndexS (aQ 0) (mC (.str "/")))))
  (cA (mSet 1 (bT (mSlS (aQ 0) pNo (pSo (aQ 3)))))
  (cA (mSet 2 (bT (mPub (bV 1 cP (aVal (mSlS (aQ 0) (pSo (mAdd (aQ 3) (mC (.int 1)))) pNo) aNil)))))
  (mIf (mOr (mTst (mIsN (aQ 2))) (mTst (mLt (aQ 2) (mC (.int 2)))))
  (mRet (bT (mC .none)))
  mNx))))
  mNx)
  b_law_due_r3)))
def m_law_due:Fm:=mFn 5 b_law_due
def b_law_bent:MS:=
 (cA (mSet 3 (bT (mPub (bV 2 aX (aPen 0 (aVal (mAdd (mLenS (aQ 2)) (mC (.int 1))) aNil))))))
  (cA (mSet 4 (bT (mIxS (mC (.str "0123456789-/ .+a;_")) (mPub (bV 2 aX (aPen 0 (aVal (mC (.int 18)) aNil)))))))
  (cA (mSet 5 (bT (mSAdd (mSAdd (mStr (mMul (mC (.int 2)) (mIx (aQ 1) (mC (.int 0))))) (mC (.str "/"))) (mStr (mMul (mC (.int 2)) (mIx (aQ 1) (mC (.int 1))))))))
  (cA (mSet 6 (bT (mPub (mLst (bM (mSAdd (mSAdd (mSlS (aQ 2) pNo (pSo (aQ 3))) (aQ 4)) (mSlS (aQ 2) (pSo (aQ 3)) pNo)) (bM (mSAdd (mSlS (aQ 2) pNo (pSo (aQ 3))) (mSlS (aQ 2) (pSo (mAdd (aQ 3) (mC (.int 1)))) pNo)) (bM (mSAdd (mSAdd (mSlS (aQ 2) pNo (pSo (aQ 3))) (aQ 4)) (mSlS (aQ 2) (pSo (mAdd (aQ 3) (mC (.int 1)))) pNo)) (bM (aQ 5) mNil))))))))
  (cA (mSet 6 (bT (mPub (mCat (aQ 6) (mPub (mLst (bM (mSAdd (mC (.str "0")) (aQ 2)) (bM (mSAdd (aQ 2) (mC (.str "/1"))) (bM (mSAdd (aQ 2) (mC (.str " "))) (bM (mSAdd (mC (.str " ")) (aQ 2)) (bM (mSAdd (mC (.str "-")) (aQ 2)) (bM (mSAdd (aQ 2) (mC (.str "/0"))) mNil))))))))))))
  (cA (mSet 6 (bT (mPub (mCat (aQ 6) (mPub (mLst (bM (mSAdd (mC (.str "+")) (aQ 2)) (bM (mSAdd (aQ 2) (mSMul (mC (.str "0")) (mC (.int 60)))) mNil))))))))
  (mRet (bT (mIx (aQ 6) (mPub (bV 2 aX (aPen 0 (aVal (mC (.int 12)) aNil)))))))))))))
def m_law_bent:Fm:=mFn 4 b_law_bent
def b_law_read_c_r1 (c:XA):MS:=
 (mRet (bT (mC .none)))
def b_law_read_c_r2 (c:XA):MS:=
 (cA (mIf (mOr (mTst (mIsL 2 [(c.nt,false)])) (mOr (mTst (mIsi "bool" (mXFld 2 "line" [c.nt]))) (mTst (mNe (mXFld 2 "line" [c.nt]) (mC (.int 0))))))
  (mRet (bT (mC (.bool false))))
  mNx)
  (b_law_read_c_r1 c))
def b_law_read_c_r3 (c:XA):MS:=
 (cA (mIf (mOr (mNot (mTst (mIsL 2 [(c.nt,true)]))) (mNot (mTst (mIsL 2 [(c.nt,true)]))))
  (mRet (bT (mC (.bool false))))
  mNx)
  (b_law_read_c_r2 c))
def b_law_read_c (c:XA):MS:=
 (cA (mSet 1 (bT (mC .none)))
  (cA (mSet 2 (bT (mC .none)))
  (cA (mTrySet 1 3 2 [c.nt] 1 (bA c) (aVal (aQ 0) aNil))
  (cA (mIf (mTst (mIsNX 2))
  (mRet (bT (aQ 1)))
  mNx)
  (b_law_read_c_r3 c)))))
def m_law_read_c (c:XA):Fm:=mFn 3 (b_law_read_c c)
def cM:Fm:=fun as Q=>∀ c,m_law_read_c c as Q
def b_law_far_right_r1:MS:=
 (mRet (bT (mC (.bool true))))
def b_law_far_right_r2:MS:=
 (mIf (mOr (mTst (mNe (mPub (bV 1 bQ (aVal (aQ 3) aNil))) (aQ 4))) (mTst (mNotN (mPub (bV 1 cM (aVal (aQ 4) aNil))))))
  (mRet (bT (mC (.bool false))))
  mNx)
def b_law_far_right_l1:MS:=
 (cA (mSet 4 (bT (mStr (mIx (aQ 3) (mC (.int 0))))))
  (cA (mIf (mTst (mNe (mIx (aQ 3) (mC (.int 1))) (mC (.int 1))))
  (mSet 4 (bT (mSAdd (mSAdd (aQ 4) (mC (.str "/"))) (mStr (mIx (aQ 3) (mC (.int 1)))))))
  mNx)
  b_law_far_right_r2))
def b_law_far_right_r3:MS:=
 (cA (mSet 1 (bT (mAdd (mAdd (aQ 1) (mC (.int 1))) (mPub (bV 2 aX (aPen 0 (aVal (mC (.int 1000000000)) aNil)))))))
  (cA (mFor (mItT (mTup (bM (mTup (bM (aQ 1) (bM (mC (.int 1)) mNil))) (bM (mTup (bM (mSub (mC (.int 0)) (aQ 1)) (bM (mC (.int 1)) mNil))) (bM (mTup (bM (mC (.int 1)) (bM (aQ 1) mNil))) (bM (mTup (bM (aQ 1) (bM (mSub (aQ 1) (mC (.int 1))) mNil))) mNil)))))) (gN 3)
  b_law_far_right_l1)
  b_law_far_right_r1))
def b_law_far_right_l2:MS:=
 (mSet 1 (bT (mMul (mC (.int 10)) (aQ 1))))
def b_law_far_right:MS:=
 (cA (mSet 1 (bT (mC (.int 1000000000000000000000000000000000000000000000000000000000000))))
  (cA (mFor (mRng1 (bM (mPub (bV 2 aX (aPen 0 (aVal (mC (.int 140)) aNil)))) mNil)) (gN 2)
  b_law_far_right_l2)
  b_law_far_right_r3))
def cH:Fm:=mFn 4 b_law_far_right
def b_law_r1:MS:=
 (mRet (bV 1 cH (aPen 1 aNil)))
def b_law_r2:MS:=
 (mIf (mTst (mNotN (mPub (bV 1 cM (aVal (mIx (mPub (mLst (bM (mC .none) (bM (mC (.int 5)) (bM (mC (.bool true)) (bM (aQ 3) (bM (mPub (mLst (bM (aQ 5) mNil))) (bM (mC (.int 0)) (bM mDic0 mNil))))))))) (mPub (bV 2 aX (aPen 1 (aVal (mC (.int 7)) aNil))))) aNil)))))
  (mRet (bT (mC (.bool false))))
  mNx)
def b_law_r3:MS:=
 (cA (mSet 8 (bT (mPub (bV 3 m_law_bent (aPen 1 (aVal (aQ 3) (aVal (aQ 5) aNil)))))))
  (cA (mIf (mTst (mNe (mPub (bV 1 cM (aVal (aQ 8) aNil))) (mPub (bV 1 m_law_due (aVal (aQ 8) aNil)))))
  (mRet (bT (mC (.bool false))))
  mNx)
  b_law_r2))
def b_law_r4:MS:=
 (cA (mSet 6 (bT (mPub (bV 1 m_read_number (aVal (aQ 5) aNil)))))
  (cA (mIf (mOr (mNot (mTst (mIsi "tuple" (aQ 6)))) (mOr (mTst (mNe (aQ 6) (aQ 3))) (mTst (mAny (mPub (mComp 1 [] (mItT (aQ 6)) (gN 0) mTrue (mIsi "bool" (aQ 0))))))))
  (mRet (bT (mC (.bool false))))
  mNx)
  b_law_r3))
def b_law_r5:MS:=
 (cA (mSet 5 (bT (mPub (bV 1 bQ (aVal (aQ 3) aNil)))))
  (cA (mIf (mOr (mNot (mTst (mIsi "str" (aQ 5)))) (mTst (mNe (aQ 5) (aQ 4))))
  (mRet (bT (mC (.bool false))))
  mNx)
  b_law_r4))
def b_law_l1:MS:=
 (cA (mSet 3 (bT (mPub (bV 1 m_law_number (aPen 1 aNil)))))
  (cA (mSet 4 (bT (mStr (mIx (aQ 3) (mC (.int 0))))))
  (cA (mIf (mTst (mNe (mIx (aQ 3) (mC (.int 1))) (mC (.int 1))))
  (mSet 4 (bT (mSAdd (mSAdd (aQ 4) (mC (.str "/"))) (mStr (mIx (aQ 3) (mC (.int 1)))))))
  mNx)
  b_law_r5)))
def b_law:MS:=
 (cA (mFor (mRng1 (bM (mC (.int 10)) mNil)) (gN 2)
  b_law_l1)
  b_law_r1)
local macro_rules|`(tactic| walk_at "rd1")=>`(tactic| first
 | refine⟨_,rfl,?_⟩
 | refine⟨_,_,rfl,rfl,?_⟩
 | refine And.intro rfl ?_
 | refine And.intro (small_b rfl) ?_
 | refine⟨_,_,_,_,rfl,rfl,SqT.of (by assumption),rfl,?_⟩
 | refine⟨_,_,_,_,rfl,rfl,SqL.of (by assumption),rfl,?_⟩
 | refine⟨_,_,_,_,rfl,rfl,SqL.of aO,rfl,?_⟩
 | refine⟨_,_,_,_,rfl,rfl,(by assumption),rfl,?_⟩
 | refine⟨_,_,_,_,rfl,rfl,aO,rfl,?_⟩
 | refine⟨_,_,by assumption,by assumption,good_num _,good_num _,?_⟩
 | refine⟨_,_,by assumption,by assumption,good_line _,good_line _,?_⟩
 | refine And.intro (mulB (by assumption) (by assumption)) ?_
 | refine And.intro (.inl (by decide)) ?_
 | refine And.intro (CMul_mod (by decide) (by decide)) ?_
 | refine And.intro (.inr (by decide)) ?_
 | refine⟨_,_,rfl,.inl (by assumption),?_⟩
 | refine⟨_,_,rfl,.inr (SqT.of (by assumption)),?_⟩
 | refine And.intro (by assumption) ?_
 | refine And.intro ⟨by decide,by decide⟩ ?_
 | refine And.intro ⟨by decide,by decide,by decide⟩ ?_
 | refine And.intro (show(0:Int)<_ by decide) ?_
 | refine And.intro (by decide) ?_
 | refine⟨_,_,rfl,?_⟩)
local macro_rules|`(tactic| walk_at "rd")=>`(tactic| repeat walk_at "rd1")
section
variable (P0:Addr→Hp→Prop)(P:Program)(w:World)(K:Fg)(mg:Mg)(base:Heap)
abbrev qcgreatest_divisor:Prop:=Cal P w K mg base 1 "greatest_divisor" ["one", "other"] (spM P0 2 bO)
abbrev qcis_whole:Prop:=Cal P w K mg base 1 "is_whole" ["thing"] (spM P0 1 m_is_whole)
abbrev qcwhole_in:Prop:=Cal P w K mg base 1 "whole_in" ["word"] (spM P0 1 cL)
abbrev qcis_number:Prop:=Cal P w K mg base 2 "is_number" ["thing"] (spM P0 1 cF)
abbrev qctop_in:Prop:=Cal P w K mg base 2 "top_in" ["word"] (spM P0 1 m_top_in)
abbrev qcnumber_in:Prop:=Cal P w K mg base 3 "number_in" ["word"] (spM P0 1 m_number_in)
abbrev qc_law_take:Prop:=Cal P w K mg base 1 "_law_take" ["_law_pen", "_law_many"] (spM P0 2 aX)
abbrev qc_law_lowest:Prop:=Cal P w K mg base 1 "_law_lowest" ["_law_top", "_law_bottom"] (spM P0 2 bR)
abbrev qc_law_great:Prop:=Cal P w K mg base 2 "_law_great" ["_law_pen", "_law_figures"] (spM P0 2 cQ)
abbrev qc_law_whole:Prop:=Cal P w K mg base 1 "_law_whole" ["_law_word"] (spM P0 1 cP)
abbrev qc_law_read:Prop:=Cal P w K mg base 5 "_law_read" ["_law_thing"] (spM P0 1 cM)
abbrev qcshow_number:Prop:=Cal P w K mg base 1 "show_number" ["number"] (spM P0 1 bQ)
end
theorem scM {N ps:List Str}{sc:Scope}(a:sc.kind=.function:=by rfl)(b:sc.isCoroutine=false:=by rfl)(c:sc.isGenerator=false:=by rfl)(d:N.Nodup:=by decide +kernel)(e:N.take ps.length=ps:=by rfl)(f:∀ x∈ps,sc.names.lookup x=some .local∨sc.names.lookup x=some .cell:=by decide +kernel)(g:∀ y∈sc.names,y.2≠.free:=by decide +kernel):FnScope N ps sc:=⟨a,b,c,d,e,f,g⟩
set_option hygiene false in
local macro_rules|`(tactic| walk_at "lc")=>`(tactic| first|exact Or.inl rfl|exact Or.inr rfl)
section
variable {P0:Addr→Hp→Prop}{P:Program}{w:World}{K:Fg}{mg:Mg}{base:Heap}{f:Addr}{fd:FuncData}
abbrev s_law_take:Stmt:=top 21
theorem sc_law_take:FnScope ["_law_pen", "_law_many", "_law_cell", "_law_digit"] ["_law_pen", "_law_many"] (aN s_law_take):=scM
theorem ok_law_take  (F:Fun K "_law_take" "_law_take" s_law_take f fd)(B:Bl K mg) :
  FnOk P w K mg base CX0 1 f fd ["_law_pen", "_law_many"] (spTake2 K):=by
 refine F.ok sc_law_take (fun vs H Q E h=>?_) (fun cdv A outer s H vs Q E hr h=>?_)
 ·obtain⟨pen,a,ns,m,rfl,⟨z,k,hz,hk,hp,hS⟩,hm,hm2,q⟩:=h;rfl
 have hu:=hr.units;obtain⟨pen,a,ns,m,rfl,⟨z,k,hz,hk,hp,hS⟩,hm,hm2,q⟩:=h;refine⟨_,(aC (ps_if (aP op_eq (cD ix_list (pv 0) aD (fun _ _=>rfl)) aD (bF _)) (aC (ps_asg (bC op_add (cD ix_list (pv 0) aD (fun _ _=>rfl)) aD) (pg_sub (pv 0) aD set_list))
   (aC (aV (i:=2) sc_law_take.nd rfl (Or.inl rfl) aD)
   (aC (ps_if (aP op_gt (bD call_len_seq rfl B.len_ boot_len (aA (cD ix_list (pv 0) aD (fun _ _=>rfl)) aF)) aD (bF _)) (aJ (aV (i:=2) sc_law_take.nd rfl (Or.inl rfl) (cD ix_list (cD ix_list (pv 0) aD (fun _ _=>rfl)) (bC op_mod (cD ix_list (pv 0) aD (fun _ _=>rfl)) (bD call_len_seq rfl B.len_ boot_len (aA (cD ix_list (pv 0) aD (fun _ _=>rfl)) aF))) (fun _ _=>rfl)))) bL)
   (aJ (ps_if (PW.pt (pw_and (aP op_lt (cD ix_list (pv 0) aD (fun _ _=>rfl)) (bD call_len_seq rfl B.len_ boot_len (aA (cD ix_list (pv 0) aD (fun _ _=>rfl)) aF)) (bF _)) (pw_and1 (aP op_ge (bD call_abs rfl B.abs_ boot_abs (aA (pv 2) aF)) (pe_powC (v:=1000000000000000000) (by decide) ⟨by decide,by decide,by decide⟩) (bF _))))) (aJ (ps_asg (bD call_abs rfl B.abs_ boot_abs (aA (pv 2) aF)) (pg_sub (pv 0) aD set_list))) (aC (aV (i:=2) sc_law_take.nd rfl (Or.inl rfl) (bC op_mod (bC op_mul (bC op_add (bC op_add (bC op_mod (pv 2) aD) (bC op_mul aD (cD ix_list (pv 0) aD (fun _ _=>rfl)))) aD) aD) aD))
   (aJ (bI (bC op_mod (bC op_fdiv (bC op_mod (bC op_mul (pv 2) (bC op_add (bC op_add (bC op_mod (pv 2) aD) (cD ix_list (pv 0) aD (fun _ _=>rfl))) aD)) aD) aD) (pv 1)))))))))) bL)
   (aC (aV (i:=3) sc_law_take.nd rfl (Or.inl rfl) (bC op_mod (cD ix_list (pv 0) aD (fun _ _=>rfl)) (pv 1)))
   (aC (ps_asg (bC op_fdiv (cD ix_list (pv 0) aD (fun _ _=>rfl)) (pv 1)) (pg_sub (pv 0) aD set_list))
   (aJ (bI (pv 3)))))),?_⟩
 have hl:(ns.map V.int).length=ns.length:=length_map _;have hS3:∀ o,SqL K (upd H pen o) a (ns.map V.int):=fun o=>penS2 hp hS (sameX_upd o);have fin:∀(z k:Int) (H2:Hp),0≤z→0≤k→H2 pen=some (.lst [.int z,.int k,.ref a])→SqL K H2 a (ns.map V.int)→SameX pen H H2→Q (.int (z%m)) (upd H2 pen (.lst [.int (z/m),.int k,.ref a])):=fun z k H2 hz hk hp2 hS2 hX=>
  q _ _ (emod_nonneg _ (by omega)) (emod_lt_of_pos _ hm) ⟨z/m,k,Int.ediv_nonneg hz (by omega),hk,aO,penS2 hp2 hS2 (sameX_upd _)⟩ (hX.trans (sameX_upd _))
 walk_at "rd";refine iteD2 (fun e=>?_) (fun e=>?_)
 ·have e0:z=0:=eq_of_int e;subst e0;have hS4:=hS3 (.lst [.int 0,.int (k+1),.ref a]);walk_at "rd";refine iteD2 (fun e1=>?a) (fun e1=>?b)
  case' a=>
   have e1':0<(ns.length:Int):=by
    rw[hl] at e1;exact e1
   have h1:=emod_nonneg (k+1) (b:=(ns.length:Int)) (by omega);have h2:=emod_lt_of_pos (k+1) e1';obtain⟨j,hj⟩:∃ j:Nat,(k+1)%(ns.length:Int)=(j:Int):=⟨((k+1)%(ns.length:Int)).toNat,by omega⟩;have hi:j<ns.length:=by omega
   have hv:atI (ns.map V.int) ((k+1)%((ns.map V.int).length:Int))=some (.int ns[j]):=by
    rw[hl,hj];refine atI_nat ?_;rw[getElem?_map,getElem?_eq_getElem hi];rfl
   have hpos:0<((ns.map V.int).length:Int):=by rw[hl]; exact e1'
   walk_at "rd";refine⟨_,_,_,_,rfl,rfl,hS4,hv,?_⟩
  case' b=>
   have e2:¬k+1<((ns.map V.int).length:Int):=fun c=>e1 (by omega);walk_at "rd";refine iteD0 e2 ?_;walk_at "rd";exact q _ _ (emod_nonneg _ (by omega)) (emod_lt_of_pos _ hm) ⟨0,k+1,by omega,by omega,aO,hS4⟩ (sameX_upd _)
  case' a=>
   walk_at "rd";refine iteD2 (fun e2=>?_) (fun e2=>?_)
   ·walk_at "rd";refine iteD2 (fun e3=>?_) (fun e3=>?_)
    ·have hcd:∀ z,CDiv z m:=fun z=>⟨hm,hm2⟩;walk_at "rd";refine And.intro (hcd _) ?_;walk_at "rd";exact fin _ (k+1) _ (abs_nn _) (by omega) aO (penS2 aO hS4 (sameX_upd _)) ((sameX_upd _).trans (sameX_upd _))
    ·walk_at "rd";exact q _ _ (emod_nonneg _ (by omega)) (emod_lt_of_pos _ hm) ⟨0,k+1,by omega,by omega,aO,hS4⟩ (sameX_upd _)
   ·walk_at "rd";exact q _ _ (emod_nonneg _ (by omega)) (emod_lt_of_pos _ hm) ⟨0,k+1,by omega,by omega,aO,hS4⟩ (sameX_upd _)
 ·have hcd:CDiv z m:=⟨hm,hm2⟩;walk_at "rd";exact fin z k H hz hk hp hS (SameX.refl _ _)
theorem ok2_law_take {a:Addr}{ns:List Int}  (F:Fun K "_law_take" "_law_take" s_law_take f fd)(B:Bl K mg) :
  FnOk P w K mg base CX0 1 f fd ["_law_pen", "_law_many"] (spM (bN K a ns) 2 aX):=(ok_law_take F B).imp take_of2
abbrev s_is_whole:Stmt:=top 9
theorem sc_is_whole:FnScope ["thing"] ["thing"] (aN s_is_whole):=scM
theorem ok_is_whole  (F:Fun K "is_whole" "is_whole" s_is_whole f fd)(B:Bl K mg)(Kt:Kit K) :
  FnOk P w K mg base CX0 1 f fd ["thing"] (spM P0 1 m_is_whole):=
 F.okV sc_is_whole rfl rfl fun cdv A outer s H E hr=>
 have hu:=hr.units
 ⟨_,(aJ (bI (pe_and (bD call_isi rfl B.isinstance_ boot_isinstance (aA (pv 0) (aA (pe_bltn (v:=.ty "int") rfl B.int_ boot_int rfl) aF))) (pe_one (pe_not (bD call_isi rfl B.isinstance_ boot_isinstance (aA (pv 0) (aA (pe_bltn (v:=.ty "bool") rfl B.bool_ boot_bool rfl) aF)))))))),
  ((bJ (aH (vt_and (vt_isi Kt (by decide) aB) (vt_not (vt_isi Kt (by decide) aB))))):VS P0 _ b_is_whole)⟩
abbrev cC:Stmt:=top 10
theorem sc_greatest_divisor:FnScope ["one", "other", "divisor", "rest", "left_over"] ["one", "other"] (aN cC):=scM
theorem ok_greatest_divisor  (F:Fun K "greatest_divisor" "greatest_divisor" cC f fd)(B:Bl K mg)(Kt:Kit K) :
  FnOk P w K mg base CX0 1 f fd ["one", "other"] (spM P0 2 bO):=
 F.okV sc_greatest_divisor rfl rfl fun cdv A outer s H E hr=>
 have hu:=hr.units
 ⟨_,(aC (aV (i:=2) sc_greatest_divisor.nd rfl (by walk_at "lc") (bD call_abs rfl B.abs_ boot_abs (aA (pv 0) aF)))
   (aC (aV (i:=3) sc_greatest_divisor.nd rfl (by walk_at "lc") (bD call_abs rfl B.abs_ boot_abs (aA (pv 1) aF)))
   (aC (ps_while PassesOwn.never (aP (op_neD hu) (pv 3) aD (bF _)) (aC (aV (i:=4) sc_greatest_divisor.nd rfl (by walk_at "lc") (bC op_mod (pv 2) (pv 3)))
   (aC (aV (i:=2) sc_greatest_divisor.nd rfl (by walk_at "lc") (pv 3))
   (aJ (aV (i:=3) sc_greatest_divisor.nd rfl (by walk_at "lc") (pv 4))))))
   (aJ (bI (pv 2)))))),
  ((aL (aY (aH (vt_abs aB)))
   (aL (aY (aH (vt_abs aB)))
   (aL (vs_while (aU (vt_ne aB aG)) (aL (aY (aH (vt_mod aB aB)))
   (aL (aY (aH aB))
   (aY (aH aB)))))
   (bJ (aH aB))))):VS P0 _ b_greatest_divisor)⟩
abbrev s_is_number:Stmt:=top 11
theorem sc_is_number:FnScope ["thing"] ["thing"] (aN s_is_number):=scM
theorem ok_is_number  (F:Fun K "is_number" "is_number" s_is_number f fd)(B:Bl K mg)(Kt:Kit K)
  (b6:qcgreatest_divisor P0 P w K mg base)
  (ay:qcis_whole P0 P w K mg base) :
  FnOk P w K mg base CX0 2 f fd ["thing"] (spM P0 1 cF):=
 F.okV sc_is_number rfl rfl fun cdv A outer s H E hr=>
 have hu:=hr.units
 ⟨_,(aC (ps_if (PW.pt (pw_or (pt_not (pt_val (bD call_isi rfl B.isinstance_ boot_isinstance (aA (pv 0) (aA (pe_bltn (v:=.ty "tuple") rfl B.tuple_ boot_tuple rfl) aF))))) (pw_or1 (aP (op_neD hu) (bD call_len_seq rfl B.len_ boot_len (aA (pv 0) aF)) aD (bF _))))) (aJ (bI pe_bl)) bL)
   (aC (ps_if (PW.pt (pw_or (pt_not (pt_val (aM ay hr rfl (aA (cD cI (pv 0) aD (fun _ _=>rfl)) aF)))) (pw_or1 (pt_not (pt_val (aM ay hr rfl (aA (cD cI (pv 0) aD (fun _ _=>rfl)) aF))))))) (aJ (bI pe_bl)) bL)
   (aJ (bI (pe_and (pe_cmpR op_ge (cD cI (pv 0) aD (fun _ _=>rfl)) aD (bF _)) (pe_one (pe_cmpR (op_eqD hu) (aM b6 hr rfl (aA (cD cI (pv 0) aD (fun _ _=>rfl)) (aA (cD cI (pv 0) aD (fun _ _=>rfl)) aF))) aD (bF _)))))))),
  ((aL (vs_if (vtt_or (vtt_not (vtt_b (vt_isi Kt (by decide) aB))) (aU (vt_ne (vt_len aB) aG))) (bJ (aH vt_bl)) vs_nx)
   (aL (vs_if (vtt_or (vtt_not (vtt_b (bB (aW (bG (vt_ix aB aG) bH))))) (vtt_not (vtt_b (bB (aW (bG (vt_ix aB aG) bH)))))) (bJ (aH vt_bl)) vs_nx)
   (bJ (aH (vt_and (vt_ge (vt_ix aB aG) aG) (vt_eq (bB (aW (bG (vt_ix aB aG) (bG (vt_ix aB aG) bH)))) aG)))))):VS P0 _ b_is_number)⟩
abbrev s_whole_in:Stmt:=top 15
theorem sc_whole_in:FnScope ["word", "sign"] ["word"] (aN s_whole_in):=scM
theorem ok_whole_in  {tk_FIGURES:Tok}(hg_FIGURES:mg "FIGURES" = some (.str "0123456789" tk_FIGURES)){tk_MOST_FIGURES:Tok}(hg_MOST_FIGURES:mg "MOST_FIGURES" = some (.int 60 tk_MOST_FIGURES))(F:Fun K "whole_in" "whole_in" s_whole_in f fd)(B:Bl K mg)(Kt:Kit K) :
  FnOk P w K mg base CX0 1 f fd ["word"] (spM P0 1 cL):=
 F.okV sc_whole_in rfl rfl fun cdv A outer s H E hr=>
 have hu:=hr.units
 ⟨_,(aC (ps_if (PW.pt (pw_or (aP (op_eqD hu) (pv 0) c7 (bF _)) (pw_or (aP op_gt (bD call_lenS rfl B.len_ boot_len (aA (pv 0) aF)) (pe_glob (v:=.int 60) rfl hg_MOST_FIGURES ⟨_,rfl⟩) (bF _)) (pw_or1 (pt_not (pt_val (bD (call_allL rfl) rfl B.all_ boot_all (aA (pe_lcomp (N:=["sign"]) (nt:=1) (fv:=[]) rfl (blk_of (osc:=aN s_whole_in) (ON:=["word", "sign"]) (by decide +kernel)) (pi_str (pv 0)) (fun _ _ _ _=>(pg_name (i:=0) (show(["sign"]:List Str).Nodup by decide +kernel) rfl (by walk_at "lc"))) (fun _ _ _ _=>pts_nil) (fun _ _ _ _=>(pe_cmpR op_inS (pv 0) (pe_glob (v:=.str "0123456789") rfl hg_FIGURES ⟨_,rfl⟩) (by with_unfolding_all rfl)))) aF)))))))) (aJ (bI cJ)) bL)
   (aC (ps_if (PW.pt (pw_and (aP (op_eqD hu) (cD cI (pv 0) aD (fun _ _=>rfl)) c7 (bF _)) (pw_and1 (aP (op_neD hu) (pv 0) c7 (bF _))))) (aJ (bI cJ)) bL)
   (aJ (bI (pe_callTy call_intS rfl B.int_ boot_int (aA (pv 0) aF)))))),
  ((aL (vs_if (vtt_or (aU (vt_eq aB bW)) (vtt_or (aU (vt_gt (vt_lenS aB) aG)) (vtt_not (vtt_b (vt_all (bB (vo_comp (vi_str aB) vg_name vtt_true (vt_inS aB bW)))))))) (bJ (aH vt_non)) vs_nx)
   (aL (vs_if (vtt_and (aU (vt_eq (vt_ixS aB aG) bW)) (aU (vt_ne aB bW))) (bJ (aH vt_non)) vs_nx)
   (bJ (aH (vt_intS aB))))):VS P0 _ b_whole_in)⟩
abbrev s_top_in:Stmt:=top 16
theorem sc_top_in:FnScope ["word", "top"] ["word"] (aN s_top_in):=scM
theorem ok_top_in  (F:Fun K "top_in" "top_in" s_top_in f fd)(B:Bl K mg)(Kt:Kit K)
  (ac:qcwhole_in P0 P w K mg base) :
  FnOk P w K mg base CX0 2 f fd ["word"] (spM P0 1 m_top_in):=
 F.okV sc_top_in rfl rfl fun cdv A outer s H E hr=>
 have hu:=hr.units
 ⟨_,(aC (ps_if (pt_not (pt_val (pe_bm PySem.F.plainAttrs_str PySem.F.slot_str_startswith PySem.F.type_str_startswith mt_starts (pv 0) (aA c7 aF)))) (aJ (bI (aM ac hr rfl (aA (pv 0) aF)))) bL)
   (aC (aV (i:=1) sc_top_in.nd rfl (by walk_at "lc") (aM ac hr rfl (aA (pe_slice sl_str (pv 0) (po_some aD) po_none) aF)))
   (aJ (bI (pe_ifExp (PW.pt (pw_or (aP op_isN (pv 1) cJ (bF _)) (pw_or1 (aP (op_eqD hu) (pv 1) aD (bF _))))) cJ (pe_un un_neg (pv 1))))))),
  ((aL (vs_if (vtt_not (vtt_b (vt_starts aB bW))) (bJ (aW (bG aB bH))) vs_nx)
   (aL (aY (aH (bB (aW (bG (vt_slS aB (vp_so aG) vp_no) bH)))))
   (bJ (vo_ifE (vtt_or (aU (vt_isN aB)) (aU (vt_eq aB aG))) (aH vt_non) (aH (vt_neg aB)))))):VS P0 _ b_top_in)⟩
abbrev s_number_in:Stmt:=top 17
theorem sc_number_in:FnScope ["word", "parts", "top", "bottom"] ["word"] (aN s_number_in):=scM
theorem ok_number_in  (F:Fun K "number_in" "number_in" s_number_in f fd)(B:Bl K mg)(Kt:Kit K)
  (b7:qcis_number P0 P w K mg base)
  (ac:qcwhole_in P0 P w K mg base)
  (b8:qctop_in P0 P w K mg base) :
  FnOk P w K mg base CX0 3 f fd ["word"] (spM P0 1 m_number_in):=
 F.okV sc_number_in rfl rfl fun cdv A outer s H E hr=>
 have hu:=hr.units
 ⟨_,(aC (aV (i:=1) sc_number_in.nd rfl (by walk_at "lc") (pe_bm PySem.F.plainAttrs_str PySem.F.slot_str_split PySem.F.type_str_split mt_split (pv 0) (aA c7 aF)))
   (aC (ps_if (aP op_gt (bD call_len_seq rfl B.len_ boot_len (aA (pv 1) aF)) aD (bF _)) (aJ (bI cJ)) bL)
   (aC (aV (i:=2) sc_number_in.nd rfl (by walk_at "lc") (aM b8 hr rfl (aA (cD cI (pv 1) aD (fun _ _=>rfl)) aF)))
   (aC (ps_if (aP (op_eqD hu) (bD call_len_seq rfl B.len_ boot_len (aA (pv 1) aF)) aD (bF _)) (aJ (bI (pe_ifExp (aP op_isN (pv 2) cJ (bF _)) cJ (pe_tup (aA (pv 2) (aA aD aF)))))) bL)
   (aC (aV (i:=3) sc_number_in.nd rfl (by walk_at "lc") (aM ac hr rfl (aA (cD cI (pv 1) aD (fun _ _=>rfl)) aF)))
   (aJ (bI (pe_ifExp (PW.pt (pw_and (aP (op_neD hu) (pv 3) aD (bF _)) (pw_and1 (pt_val (aM b7 hr rfl (aA (pe_tup (aA (pv 2) (aA (pv 3) aF))) aF)))))) (pe_tup (aA (pv 2) (aA (pv 3) aF))) cJ)))))))),
  ((aL (aY (aH (bB (vo_split aB bW))))
   (aL (vs_if (aU (vt_gt (vt_len aB) aG)) (bJ (aH vt_non)) vs_nx)
   (aL (aY (aH (bB (aW (bG (vt_ix aB aG) bH)))))
   (aL (vs_if (aU (vt_eq (vt_len aB) aG)) (bJ (vo_ifE (aU (vt_isN aB)) (aH vt_non) (aH (vt_tup (aK aB (aK aG cG)))))) vs_nx)
   (aL (aY (aH (bB (aW (bG (vt_ix aB aG) bH)))))
   (bJ (vo_ifE (vtt_and (aU (vt_ne aB aG)) (vtt_b (bB (aW (bG (vt_tup (aK aB (aK aB cG))) bH))))) (aH (vt_tup (aK aB (aK aB cG)))) (aH vt_non)))))))):VS P0 _ b_number_in)⟩
abbrev s_show_number:Stmt:=top 19
theorem sc_show_number:FnScope ["number", "top", "bottom"] ["number"] (aN s_show_number):=scM
theorem ok_show_number  (F:Fun K "show_number" "show_number" s_show_number f fd)(B:Bl K mg)(Kt:Kit K) :
  FnOk P w K mg base CX0 1 f fd ["number"] (spM P0 1 bQ):=
 F.okV sc_show_number rfl rfl fun cdv A outer s H E hr=>
 have hu:=hr.units
 ⟨_,(aC (aV (i:=1) sc_show_number.nd rfl (by walk_at "lc") (cD cI (pv 0) aD (fun _ _=>rfl)))
   (aC (aV (i:=2) sc_show_number.nd rfl (by walk_at "lc") (cD cI (pv 0) aD (fun _ _=>rfl)))
   (aJ (bI (pe_ifExp (aP (op_eqD hu) (pv 2) aD (bF _)) (pe_callTy call_strI rfl B.str_ boot_str (aA (pv 1) aF)) (pe_fstr3 (pv 1) (pv 2))))))),
  ((aL (aY (aH (vt_ix aB aG)))
   (aL (aY (aH (vt_ix aB aG)))
   (bJ (vo_ifE (aU (vt_eq aB aG)) (aH (vt_str1 aB)) (aH (vt_fs aB aB)))))):VS P0 _ b_show_number)⟩
abbrev s_i_NoText:Stmt:=inClass (top 6) 0
theorem sc_i_NoText:FnScope ["self", "line"] ["self", "line"] (aN s_i_NoText):=scM
theorem ok_i_NoText  {c:XA}{D0 c0 c1 c2 c3 c4:Addr}(F:Fun K "__init__" "NoText.__init__" s_i_NoText f fd)(x:Xcs K mg c D0 c0 c1 c2 c3 c4) :
  FnOk P w K mg base CX0 1 f fd ["self", "line"] (spXI c.nt "line"):=by
 refine F.ok sc_i_NoText (fun vs H Q E h=>?_) (fun cdv A outer s H vs Q E hr h=>?_)
 ·obtain⟨e,i,rfl,_⟩:=h;rfl
 have hu:=hr.units;obtain⟨e,i,rfl,hx,hz,q⟩:=h;refine⟨_,(aC (ps_binit (D0:=D0) (C:=c.nt) rfl x.hD x.pD x.rD x.fD x.z_NoText.ex (aA (pv 0) (aA (pe_fstr1 (pv 1)) aF)))
  (aJ (ps_xset (C:=c.nt) x.z_NoText.ex x.a_NoText x.n_NoText (pv 0) (pv 1)))),?_⟩
 exact⟨_,rfl,_,rfl,i,rfl,log_small hz,tx_pre hz,e,_,rfl,hx,_,rfl,_,rfl,e,rfl,hx,q⟩
abbrev s_read_number:Stmt:=top 18
theorem sc_read_number:FnScope ["text", "number"] ["text"] (aN s_read_number):=scM
theorem okx_read_number  {c:XA}{D0 c0 c1 c2 c3 c4:Addr}(F:Fun K "read_number" "read_number" s_read_number f fd)(B:Bl K mg)(Kt:Kit K)(x:Xcs K mg c D0 c0 c1 c2 c3 c4)(i_NoText:Ini P w K mg base 1 c.nt "line")
  (b9:qcnumber_in P0 P w K mg base) :
  FnOk P w K mg base (CX2 P w) 4 f fd ["text"] (spX P0 1 (bA c)):=
 F.okE sc_read_number rfl rfl fun cdv A outer s H E hr=>
 have hu:=hr.units
 ⟨_,(aC (aV (i:=1) sc_read_number.nd rfl (by walk_at "lc") (pe_ifExp (pt_val (bD call_isi rfl B.isinstance_ boot_isinstance (aA (pv 0) (aA (pe_bltn (v:=.ty "str") rfl B.str_ boot_str rfl) aF)))) (aM b9 hr rfl (aA (pv 0) aF)) cJ))
   (aC (ps_if (aP op_isN (pv 1) cJ (bF _)) (aJ (ps_raiseC (E:=E) i_NoText hr (fun _ _ _ _ _ _ I h1 h2 hE=>I.leave2 rfl rfl rfl h1 h2 hE) rfl rfl rfl x.h_NoText x.z_NoText (aA aD aF))) bL)
   (aJ (bI (pv 1))))),
  ((vx_seq (vx_of (aY (aH (vt_ifE (vtt_b (vt_isi Kt (by decide) aB)) (bB (aW (bG aB bH))) vt_non))))
   (vx_seq (vx_if (aU (vt_isN aB)) (vx_raise (aK aG cG)) (vx_of vs_nx))
   (vx_of (bJ (aH aB))))):VSX E P0 aAll _ (b_read_number_c c))⟩
abbrev s_law_lowest:Stmt:=top 22
theorem sc_law_lowest:FnScope ["_law_top", "_law_bottom", "_law_one", "_law_other"] ["_law_top", "_law_bottom"] (aN s_law_lowest):=scM
theorem ok_law_lowest  (F:Fun K "_law_lowest" "_law_lowest" s_law_lowest f fd)(B:Bl K mg)(Kt:Kit K) :
  FnOk P w K mg base CX0 1 f fd ["_law_top", "_law_bottom"] (spM P0 2 bR):=
 F.okV sc_law_lowest rfl rfl fun cdv A outer s H E hr=>
 have hu:=hr.units
 ⟨_,(aC (aV (i:=2) sc_law_lowest.nd rfl (by walk_at "lc") (bD call_abs rfl B.abs_ boot_abs (aA (pv 0) aF)))
   (aC (aV (i:=3) sc_law_lowest.nd rfl (by walk_at "lc") (pv 1))
   (aC (ps_while PassesOwn.never (aP op_gt (pv 3) aD (bF _)) (aJ (ps_par (i:=2) (j:=3) rfl sc_law_lowest.nd rfl rfl (by decide) rfl rfl (aA (pv 3) (aA (bC op_mod (pv 2) (pv 3)) aF)) rfl)))
   (aJ (bI (pe_tup (aA (bC op_fdivX (pv 0) (pv 2)) (aA (bC op_fdivX (pv 1) (pv 2)) aF)))))))),
  ((aL (aY (aH (vt_abs aB)))
   (aL (aY (aH aB))
   (aL (vs_while (aU (vt_gt aB aG)) (vs_par (aK aB (aK (vt_mod aB aB) cG))))
   (bJ (aH (vt_tup (aK (vt_divX aB aB) (aK (vt_divX aB aB) cG)))))))):VS P0 _ b_law_lowest)⟩
abbrev s_law_great:Stmt:=top 23
theorem sc_law_great:FnScope ["_law_pen", "_law_figures", "_law_found", "_law_k"] ["_law_pen", "_law_figures"] (aN s_law_great):=scM
theorem ok_law_great  (F:Fun K "_law_great" "_law_great" s_law_great f fd)(B:Bl K mg)(Kt:Kit K)
  (a4:qc_law_take P0 P w K mg base) :
  FnOk P w K mg base CX0 2 f fd ["_law_pen", "_law_figures"] (spM P0 2 cQ):=
 F.okV sc_law_great rfl rfl fun cdv A outer s H E hr=>
 have hu:=hr.units
 ⟨_,(aC (aV (i:=2) sc_law_great.nd rfl (by walk_at "lc") aD)
   (aC (ps_for PassesOwn.never rfl (pi_range1 rfl B.range_ (aA (bC op_add aD (bC op_fdiv (pv 1) aD)) aF)) (pg_name (i:=3) sc_law_great.nd rfl (by walk_at "lc")) (aJ (aV (i:=2) sc_law_great.nd rfl (by walk_at "lc") (bC op_add (bC op_mulX (pv 2) (pe_powC (v:=1000000000) (by decide) ⟨by decide,by decide,by decide⟩)) (aM a4 hr rfl (aA (pv 0) (aA (pe_powC (v:=1000000000) (by decide) ⟨by decide,by decide,by decide⟩) aF)))))))
   (aJ (bI (bC op_mod (pv 2) (pe_powC (v:=1000000000000000000000000000000000000000000000000000000000000) (by decide) ⟨by decide,by decide,by decide⟩)))))),
  ((aL (aY (aH aG))
   (aL (vs_for (vi_rng1 (aK (vt_add aG (vt_div aB aG)) cG)) vg_name (aY (aH (vt_add (vt_mul aB aG) (bB (aW (va_pen (bG aG bH))))))))
   (bJ (aH (vt_mod aB aG))))):VS P0 _ b_law_great)⟩
abbrev s_law_number:Stmt:=top 24
theorem sc_law_number:FnScope ["_law_pen", "_law_way", "_law_top"] ["_law_pen"] (aN s_law_number):=scM
theorem ok_law_number  (F:Fun K "_law_number" "_law_number" s_law_number f fd)(B:Bl K mg)(Kt:Kit K)
  (ae:qc_law_lowest P0 P w K mg base)
  (az:qc_law_great P0 P w K mg base)
  (a4:qc_law_take P0 P w K mg base) :
  FnOk P w K mg base CX0 3 f fd ["_law_pen"] (spM P0 1 m_law_number):=
 F.okV sc_law_number rfl rfl fun cdv A outer s H E hr=>
 have hu:=hr.units
 ⟨_,(aC (aV (i:=1) sc_law_number.nd rfl (by walk_at "lc") (aM a4 hr rfl (aA (pv 0) (aA aD aF))))
   (aC (ps_if (aP (op_eqD hu) (pv 1) aD (bF _)) (aJ (bI (pe_tup (aA (bC op_sub (aM a4 hr rfl (aA (pv 0) (aA aD aF))) aD) (aA aD aF))))) bL)
   (aC (ps_if (aP (op_eqD hu) (pv 1) aD (bF _)) (aJ (bI (aM ae hr rfl (aA (bC op_sub (aM a4 hr rfl (aA (pv 0) (aA aD aF))) aD) (aA (bC op_add aD (aM a4 hr rfl (aA (pv 0) (aA aD aF)))) aF))))) bL)
   (aC (aV (i:=2) sc_law_number.nd rfl (by walk_at "lc") (bC op_mulX (aM az hr rfl (aA (pv 0) (aA (aM a4 hr rfl (aA (pv 0) (aA aD aF))) aF))) (cD cI (pe_lst (aA aD (aA (pe_un un_neg aD) aF))) (aM a4 hr rfl (aA (pv 0) (aA aD aF))) (fun _ _=>rfl))))
   (aJ (bI (aM ae hr rfl (aA (pv 2) (aA (bC op_add aD (bC op_mulX (bC op_mod (aM az hr rfl (aA (pv 0) (aA (aM a4 hr rfl (aA (pv 0) (aA aD aF))) aF))) (bC op_sub (pe_powC (v:=1000000000000000000000000000000000000000000000000000000000000) (by decide) ⟨by decide,by decide,by decide⟩) aD)) (pe_callTy call_int1 rfl B.int_ boot_int (aA (pe_cmpR (op_eqD hu) (pv 1) aD (bF _)) aF)))) aF))))))))),
  ((aL (aY (aH (bB (aW (va_pen (bG aG bH))))))
   (aL (vs_if (aU (vt_eq aB aG)) (bJ (aH (vt_tup (aK (vt_sub (bB (aW (va_pen (bG aG bH)))) aG) (aK aG cG))))) vs_nx)
   (aL (vs_if (aU (vt_eq aB aG)) (bJ (aW (bG (vt_sub (bB (aW (va_pen (bG aG bH)))) aG) (bG (vt_add aG (bB (aW (va_pen (bG aG bH))))) bH)))) vs_nx)
   (aL (aY (aH (vt_mul (bB (aW (va_pen (bG (bB (aW (va_pen (bG aG bH)))) bH)))) (vt_ix (bB (vo_lst (aK aG (aK (vt_neg aG) cG)))) (bB (aW (va_pen (bG aG bH))))))))
   (bJ (aW (bG aB (bG (vt_add aG (vt_mul (vt_mod (bB (aW (va_pen (bG (bB (aW (va_pen (bG aG bH)))) bH)))) (vt_sub aG aG)) (vt_int1 (vt_eq aB aG)))) bH)))))))):VS P0 _ b_law_number)⟩
abbrev s_law_whole:Stmt:=top 25
theorem sc_law_whole:FnScope ["_law_word", "_law_found", "_law_sign"] ["_law_word"] (aN s_law_whole):=scM
theorem ok_law_whole  (F:Fun K "_law_whole" "_law_whole" s_law_whole f fd)(B:Bl K mg)(Kt:Kit K) :
  FnOk P w K mg base CX0 1 f fd ["_law_word"] (spM P0 1 cP):=
 F.okV sc_law_whole rfl rfl fun cdv A outer s H E hr=>
 have hu:=hr.units
 ⟨_,(aC (ps_if (PW.pt (pw_or (aP (op_eqD hu) (pv 0) c7 (bF _)) (pw_or (aP op_gt (bD call_lenS rfl B.len_ boot_len (aA (pv 0) aF)) aD (bF _)) (pw_or1 (PW.pt (pw_and (aP (op_eqD hu) (cD cI (pv 0) aD (fun _ _=>rfl)) c7 (bF _)) (pw_and1 (aP (op_neD hu) (pv 0) c7 (bF _))))))))) (aJ (bI cJ)) bL)
   (aC (aV (i:=1) sc_law_whole.nd rfl (by walk_at "lc") aD)
   (aC (ps_for PassesOwn.never rfl (pi_str (pv 0)) (pg_name (i:=2) sc_law_whole.nd rfl (by walk_at "lc")) (aC (ps_if (aP op_ninS (pv 2) c7 (by with_unfolding_all rfl)) (aJ (bI cJ)) bL)
   (aJ (aV (i:=1) sc_law_whole.nd rfl (by walk_at "lc") (bC op_add (bC op_mulX aD (pv 1)) (pe_bm PySem.F.plainAttrs_str PySem.F.slot_str_index PySem.F.type_str_index mt_indexS c7 (aA (pv 2) aF)))))))
   (aJ (bI (pv 1)))))),
  ((aL (vs_if (vtt_or (aU (vt_eq aB bW)) (vtt_or (aU (vt_gt (vt_lenS aB) aG)) (vtt_and (aU (vt_eq (vt_ixS aB aG) bW)) (aU (vt_ne aB bW))))) (bJ (aH vt_non)) vs_nx)
   (aL (aY (aH aG))
   (aL (vs_for (vi_str aB) vg_name (aL (vs_if (aU (vt_ninS aB bW)) (bJ (aH vt_non)) vs_nx)
   (aY (aH (vt_add (vt_mul aG aB) (vt_indexS bW aB))))))
   (bJ (aH aB))))):VS P0 _ b_law_whole)⟩
abbrev s_law_due:Stmt:=top 26
theorem sc_law_due:FnScope ["_law_text", "_law_top", "_law_bottom", "_law_at", "_law_sign", "_law_above"] ["_law_text"] (aN s_law_due):=scM
theorem ok_law_due  (F:Fun K "_law_due" "_law_due" s_law_due f fd)(B:Bl K mg)(Kt:Kit K)
  (ae:qc_law_lowest P0 P w K mg base)
  (b5:qc_law_whole P0 P w K mg base) :
  FnOk P w K mg base CX0 2 f fd ["_law_text"] (spM P0 1 m_law_due):=
 F.okV sc_law_due rfl rfl fun cdv A outer s H E hr=>
 have hu:=hr.units
 ⟨_,(aC (aV (i:=1) sc_law_due.nd rfl (by walk_at "lc") (pv 0))
   (aC (aV (i:=2) sc_law_due.nd rfl (by walk_at "lc") aD)
   (aC (ps_if (aP op_inS c7 (pv 0) (by with_unfolding_all rfl)) (aC (aV (i:=3) sc_law_due.nd rfl (by walk_at "lc") (pe_bm PySem.F.plainAttrs_str PySem.F.slot_str_index PySem.F.type_str_index mt_indexS (pv 0) (aA c7 aF)))
   (aC (aV (i:=1) sc_law_due.nd rfl (by walk_at "lc") (pe_slice sl_str (pv 0) po_none (po_some (pv 3))))
   (aC (aV (i:=2) sc_law_due.nd rfl (by walk_at "lc") (aM b5 hr rfl (aA (pe_slice sl_str (pv 0) (po_some (bC op_add (pv 3) aD)) po_none) aF)))
   (aJ (ps_if (PW.pt (pw_or (aP op_isN (pv 2) cJ (bF _)) (pw_or1 (aP op_lt (pv 2) aD (bF _))))) (aJ (bI cJ)) bL))))) bL)
   (aC (aV (i:=4) sc_law_due.nd rfl (by walk_at "lc") aD)
   (aC (ps_if (aP (op_eqD hu) (pe_slice sl_str (pv 1) po_none (po_some aD)) c7 (bF _)) (aC (aV (i:=4) sc_law_due.nd rfl (by walk_at "lc") (pe_un un_neg aD))
   (aJ (aV (i:=1) sc_law_due.nd rfl (by walk_at "lc") (pe_slice sl_str (pv 1) (po_some aD) po_none)))) bL)
   (aC (aV (i:=5) sc_law_due.nd rfl (by walk_at "lc") (aM b5 hr rfl (aA (pv 1) aF)))
   (aC (ps_if (PW.pt (pw_or (aP op_isN (pv 5) cJ (bF _)) (pw_or (PW.pt (pw_and (aP (op_eqD hu) (pv 4) (pe_un un_neg aD) (bF _)) (pw_and1 (aP (op_eqD hu) (pv 5) aD (bF _))))) (pw_or1 (aP (op_neD hu) (aM ae hr rfl (aA (pv 5) (aA (pv 2) aF))) (pe_tup (aA (pv 5) (aA (pv 2) aF))) (bF _)))))) (aJ (bI cJ)) bL)
   (aJ (bI (pe_tup (aA (bC op_mulX (pv 4) (pv 5)) (aA (pv 2) aF)))))))))))),
  ((aL (aY (aH aB))
   (aL (aY (aH aG))
   (aL (vs_if (aU (vt_inS bW aB)) (aL (aY (aH (vt_indexS aB bW)))
   (aL (aY (aH (vt_slS aB vp_no (vp_so aB))))
   (aL (aY (aH (bB (aW (bG (vt_slS aB (vp_so (vt_add aB aG)) vp_no) bH)))))
   (vs_if (vtt_or (aU (vt_isN aB)) (aU (vt_lt aB aG))) (bJ (aH vt_non)) vs_nx)))) vs_nx)
   (aL (aY (aH aG))
   (aL (vs_if (aU (vt_eq (vt_slS aB vp_no (vp_so aG)) bW)) (aL (aY (aH (vt_neg aG)))
   (aY (aH (vt_slS aB (vp_so aG) vp_no)))) vs_nx)
   (aL (aY (aH (bB (aW (bG aB bH)))))
   (aL (vs_if (vtt_or (aU (vt_isN aB)) (vtt_or (vtt_and (aU (vt_eq aB (vt_neg aG))) (aU (vt_eq aB aG))) (aU (vt_ne (bB (aW (bG aB (bG aB bH)))) (vt_tup (aK aB (aK aB cG))))))) (bJ (aH vt_non)) vs_nx)
   (bJ (aH (vt_tup (aK (vt_mul aB aB) (aK aB cG)))))))))))):VS P0 _ b_law_due)⟩
abbrev s_law_bent:Stmt:=top 27
theorem sc_law_bent:FnScope ["_law_pen", "_law_number_here", "_law_text", "_law_at", "_law_sign", "_law_double", "_law_some"] ["_law_pen", "_law_number_here", "_law_text"] (aN s_law_bent):=scM
theorem ok_law_bent  (F:Fun K "_law_bent" "_law_bent" s_law_bent f fd)(B:Bl K mg)(Kt:Kit K)
  (a4:qc_law_take P0 P w K mg base) :
  FnOk P w K mg base CX0 2 f fd ["_law_pen", "_law_number_here", "_law_text"] (spM P0 3 m_law_bent):=
 F.okV sc_law_bent rfl rfl fun cdv A outer s H E hr=>
 have hu:=hr.units
 ⟨_,(aC (aV (i:=3) sc_law_bent.nd rfl (by walk_at "lc") (aM a4 hr rfl (aA (pv 0) (aA (bC op_add (bD call_lenS rfl B.len_ boot_len (aA (pv 2) aF)) aD) aF))))
   (aC (aV (i:=4) sc_law_bent.nd rfl (by walk_at "lc") (cD cI c7 (aM a4 hr rfl (aA (pv 0) (aA aD aF))) (fun _ _=>rfl)))
   (aC (aV (i:=5) sc_law_bent.nd rfl (by walk_at "lc") (bC bY (bC bY (pe_callTy call_strI rfl B.str_ boot_str (aA (bC op_mulX aD (cD cI (pv 1) aD (fun _ _=>rfl))) aF)) c7) (pe_callTy call_strI rfl B.str_ boot_str (aA (bC op_mulX aD (cD cI (pv 1) aD (fun _ _=>rfl))) aF))))
   (aC (aV (i:=6) sc_law_bent.nd rfl (by walk_at "lc") (pe_lst (aA (bC bY (bC bY (pe_slice sl_str (pv 2) po_none (po_some (pv 3))) (pv 4)) (pe_slice sl_str (pv 2) (po_some (pv 3)) po_none)) (aA (bC bY (pe_slice sl_str (pv 2) po_none (po_some (pv 3))) (pe_slice sl_str (pv 2) (po_some (bC op_add (pv 3) aD)) po_none)) (aA (bC bY (bC bY (pe_slice sl_str (pv 2) po_none (po_some (pv 3))) (pv 4)) (pe_slice sl_str (pv 2) (po_some (bC op_add (pv 3) aD)) po_none)) (aA (pv 5) aF))))))
   (aC (aV (i:=6) sc_law_bent.nd rfl (by walk_at "lc") (bC op_cat (pv 6) (pe_lst (aA (bC bY c7 (pv 2)) (aA (bC bY (pv 2) c7) (aA (bC bY (pv 2) c7) (aA (bC bY c7 (pv 2)) (aA (bC bY c7 (pv 2)) (aA (bC bY (pv 2) c7) aF)))))))))
   (aC (aV (i:=6) sc_law_bent.nd rfl (by walk_at "lc") (bC op_cat (pv 6) (pe_lst (aA (bC bY c7 (pv 2)) (aA (bC bY (pv 2) (bC op_smul c7 aD)) aF)))))
   (aJ (bI (cD cI (pv 6) (aM a4 hr rfl (aA (pv 0) (aA aD aF))) (fun _ _=>rfl)))))))))),
  ((aL (aY (aH (bB (aW (va_pen (bG (vt_add (vt_lenS aB) aG) bH))))))
   (aL (aY (aH (vt_ixS bW (bB (aW (va_pen (bG aG bH)))))))
   (aL (aY (aH (bZ (bZ (vt_str1 (vt_mul aG (vt_ix aB aG))) bW) (vt_str1 (vt_mul aG (vt_ix aB aG))))))
   (aL (aY (aH (bB (vo_lst (aK (bZ (bZ (vt_slS aB vp_no (vp_so aB)) aB) (vt_slS aB (vp_so aB) vp_no)) (aK (bZ (vt_slS aB vp_no (vp_so aB)) (vt_slS aB (vp_so (vt_add aB aG)) vp_no)) (aK (bZ (bZ (vt_slS aB vp_no (vp_so aB)) aB) (vt_slS aB (vp_so (vt_add aB aG)) vp_no)) (aK aB cG))))))))
   (aL (aY (aH (bB (vo_cat aB (bB (vo_lst (aK (bZ bW aB) (aK (bZ aB bW) (aK (bZ aB bW) (aK (bZ bW aB) (aK (bZ bW aB) (aK (bZ aB bW) cG))))))))))))
   (aL (aY (aH (bB (vo_cat aB (bB (vo_lst (aK (bZ bW aB) (aK (bZ aB (vt_smul bW aG)) cG))))))))
   (bJ (aH (vt_ix aB (bB (aW (va_pen (bG aG bH))))))))))))):VS P0 _ b_law_bent)⟩
abbrev s_law_read:Stmt:=top 29
theorem sc_law_read:FnScope ["_law_thing", "_law_found", "_law_caught", "e"] ["_law_thing"] (aN s_law_read):=scM
theorem okc_law_read  {c:XA}{D0 c0 c1 c2 c3 c4:Addr}(F:Fun K "_law_read" "_law_read" s_law_read f fd)(B:Bl K mg)(Kt:Kit K)(x:Xcs K mg c D0 c0 c1 c2 c3 c4)(i_NoText:Ini P w K mg base 1 c.nt "line")
  (cx_read_number:CalX P w K mg base 4 "read_number" ["text"] (spX P0 1 (bA c))) :
  FnOk P w K mg base CX0 5 f fd ["_law_thing"] (spM P0 1 (m_law_read_c c)):=
 F.okV sc_law_read rfl rfl fun cdv A outer s H E hr=>
 have hu:=hr.units
 ⟨_,(aC (aV (i:=1) sc_law_read.nd rfl (by walk_at "lc") cJ)
   (aC (aV (i:=2) sc_law_read.nd rfl (by walk_at "lc") cJ)
   (aC (ps_try2 (i:=3) (j:=2) (px_setX (i:=1) cx_read_number hr rfl (aA (pv 0) aF) sc_law_read.nd rfl (by walk_at "lc") (.inl rfl)) rfl rfl rfl x.hD x.zD sc_law_read.nd rfl rfl (Or.inl rfl) (Or.inl rfl) rfl (Or.inl rfl) (.inl rfl) (.inl rfl))
   (aC (ps_if (aP op_isN (pv 2) cJ (bF _)) (aJ (bI (pv 1))) bL)
   (aC (ps_if (PW.pt (pw_or (pt_not (pt_val (bD call_isD rfl B.isinstance_ boot_isinstance (aA (pv 2) (aA (pe_glob (v:=.ref c.nt) rfl x.h_NoText rfl) aF))))) (pw_or1 (pt_not (pt_val (bD call_isD rfl B.isinstance_ boot_isinstance (aA (pv 2) (aA (pe_bltn (v:=.ty "ValueError") rfl x.hV PyProof.Rows.Boot.«ValueError» rfl) aF)))))))) (aJ (bI pe_bl)) bL)
   (aC (ps_if (PW.pt (pw_or (pt_val (bD call_isD rfl B.isinstance_ boot_isinstance (aA (pv 2) (aA (pe_tup (aA (pe_glob (v:=.ref c0) rfl x.h_NoKey rfl) (aA (pe_glob (v:=.ref c1) rfl x.h_NoLog rfl) (aA (pe_glob (v:=.ref c2) rfl x.h_NoNumber rfl) (aA (pe_glob (v:=.ref c3) rfl x.h_NoRow rfl) (aA (pe_glob (v:=.ref c4) rfl x.h_NoTime rfl) aF)))))) aF)))) (pw_or (pt_val (bD call_isi rfl B.isinstance_ boot_isinstance (aA (pe_xfld (pv 2) rfl) (aA (pe_bltn (v:=.ty "bool") rfl B.bool_ boot_bool rfl) aF)))) (pw_or1 (aP (op_neD hu) (pe_xfld (pv 2) rfl) aD (bF _)))))) (aJ (bI pe_bl)) bL)
   (aJ (bI cJ)))))))),
  ((aL (aY (aH vt_non))
   (aL (aY (aH vt_non))
   (aL (vs_try2 (vp_set (cs:=[c.nt]) (bG aB bH) (fa_cons ⟨x.z_NoText,x.s_NoText⟩ fa_nil)))
   (aL (vs_if (aU vt_isNX) (bJ (aH aB)) vs_nx)
   (aL (vs_if (vtt_or (vtt_not (vtt_b (vt_isL1 (c:=.ref c.nt) (u:=.ref c.nt) (fun _ h=>h) (fa_cons ⟨x.z_NoText,x.k_NoText_NoText⟩ fa_nil)))) (vtt_not (vtt_b (vt_isL1 (c:=.ty "ValueError") (u:=.type "ValueError") (fun _ h=>h) (fa_cons ⟨x.z_NoText,x.k_NoText_ValueError⟩ fa_nil))))) (bJ (aH vt_bl)) vs_nx)
   (aL (vs_if (vtt_or (vtt_b (vt_isLT (as:=[c0,c1,c2,c3,c4]) (by simp) (fa_cons ⟨x.z_NoText,x.t_NoText_KLNRT⟩ fa_nil))) (vtt_or (vtt_b (vt_isi Kt (by decide) (vt_xfld (fa_cons ⟨x.z_NoText,x.n_NoText,x.d_NoText⟩ fa_nil)))) (aU (vt_ne (vt_xfld (fa_cons ⟨x.z_NoText,x.n_NoText,x.d_NoText⟩ fa_nil)) aG)))) (bJ (aH vt_bl)) vs_nx)
   (bJ (aH vt_non)))))))):VS P0 _ (b_law_read_c c))⟩
abbrev s_law_far_right:Stmt:=top 28
theorem sc_law_far_right:FnScope ["_law_pen", "_law_top", "_law_k", "_law_number_here", "_law_text"] ["_law_pen"] (aN s_law_far_right):=scM
theorem ok_law_far_right  (F:Fun K "_law_far_right" "_law_far_right" s_law_far_right f fd)(B:Bl K mg)(Kt:Kit K)
  (a6:qc_law_read P0 P w K mg base)
  (a9:qcshow_number P0 P w K mg base)
  (a4:qc_law_take P0 P w K mg base) :
  FnOk P w K mg base CX0 6 f fd ["_law_pen"] (spM P0 1 cH):=
 F.okV sc_law_far_right rfl rfl fun cdv A outer s H E hr=>
 have hu:=hr.units
 ⟨_,(aC (aV (i:=1) sc_law_far_right.nd rfl (by walk_at "lc") (pe_powC (v:=1000000000000000000000000000000000000000000000000000000000000) (by decide) ⟨by decide,by decide,by decide⟩))
   (aC (ps_for PassesOwn.never rfl (pi_range1 rfl B.range_ (aA (aM a4 hr rfl (aA (pv 0) (aA aD aF))) aF)) (pg_name (i:=2) sc_law_far_right.nd rfl (by walk_at "lc")) (aJ (aV (i:=1) sc_law_far_right.nd rfl (by walk_at "lc") (bC op_mulX aD (pv 1)))))
   (aC (aV (i:=1) sc_law_far_right.nd rfl (by walk_at "lc") (bC op_add (bC op_add (pv 1) aD) (aM a4 hr rfl (aA (pv 0) (aA (pe_powC (v:=1000000000) (by decide) ⟨by decide,by decide,by decide⟩) aF)))))
   (aC (ps_for PassesOwn.never rfl (pi_tup (pe_tup (aA (pe_tup (aA (pv 1) (aA aD aF))) (aA (pe_tup (aA (bC op_sub aD (pv 1)) (aA aD aF))) (aA (pe_tup (aA aD (aA (pv 1) aF))) (aA (pe_tup (aA (pv 1) (aA (bC op_sub (pv 1) aD) aF))) aF)))))) (pg_name (i:=3) sc_law_far_right.nd rfl (by walk_at "lc")) (aC (aV (i:=4) sc_law_far_right.nd rfl (by walk_at "lc") (pe_callTy call_strI rfl B.str_ boot_str (aA (cD cI (pv 3) aD (fun _ _=>rfl)) aF)))
   (aC (ps_if (aP (op_neD hu) (cD cI (pv 3) aD (fun _ _=>rfl)) aD (bF _)) (aJ (aV (i:=4) sc_law_far_right.nd rfl (by walk_at "lc") (bC bY (bC bY (pv 4) c7) (pe_callTy call_strI rfl B.str_ boot_str (aA (cD cI (pv 3) aD (fun _ _=>rfl)) aF))))) bL)
   (aJ (ps_if (PW.pt (pw_or (aP (op_neD hu) (aM a9 hr rfl (aA (pv 3) aF)) (pv 4) (bF _)) (pw_or1 (aP op_notN (aM a6 hr rfl (aA (pv 4) aF)) cJ (bF _))))) (aJ (bI pe_bl)) bL)))))
   (aJ (bI pe_bl)))))),
  ((aL (aY (aH aG))
   (aL (vs_for (vi_rng1 (aK (bB (aW (va_pen (bG aG bH)))) cG)) vg_name (aY (aH (vt_mul aG aB))))
   (aL (aY (aH (vt_add (vt_add aB aG) (bB (aW (va_pen (bG aG bH)))))))
   (aL (vs_for (vi_tup (vt_tup (aK (vt_tup (aK aB (aK aG cG))) (aK (vt_tup (aK (vt_sub aG aB) (aK aG cG))) (aK (vt_tup (aK aG (aK aB cG))) (aK (vt_tup (aK aB (aK (vt_sub aB aG) cG))) cG)))))) vg_name (aL (aY (aH (vt_str1 (vt_ix aB aG))))
   (aL (vs_if (aU (vt_ne (vt_ix aB aG) aG)) (aY (aH (bZ (bZ aB bW) (vt_str1 (vt_ix aB aG))))) vs_nx)
   (vs_if (vtt_or (aU (vt_ne (bB (aW (bG aB bH))) aB)) (aU (vt_notN (bB (aW (bG aB bH)))))) (bJ (aH vt_bl)) vs_nx))))
   (bJ (aH vt_bl)))))):VS P0 _ b_law_far_right)⟩
abbrev s_law:Stmt:=top 30
theorem sc_law:FnScope ["_law_script", "_law_pen", "_law_k", "_law_number_here", "_law_due_here", "_law_text", "_law_found", "_law_part", "_law_bent_here"] ["_law_script"] (aN s_law):=scM
theorem ok_law  (F:Fun K "law" "law" s_law f fd)(B:Bl K mg)(Kt:Kit K)
  (ah:∀ a ns,Cal P w K mg base 6 "_law_far_right" ["_law_pen"] (spM (bN K a ns) 1 cH))
  (a6:∀ a ns,Cal P w K mg base 5 "_law_read" ["_law_thing"] (spM (bN K a ns) 1 cM))
  (a4:∀ a ns,Cal P w K mg base 1 "_law_take" ["_law_pen", "_law_many"] (spM (bN K a ns) 2 aX))
  (ai:∀ a ns,Cal P w K mg base 2 "_law_due" ["_law_text"] (spM (bN K a ns) 1 m_law_due))
  (aj:∀ a ns,Cal P w K mg base 2 "_law_bent" ["_law_pen", "_law_number_here", "_law_text"] (spM (bN K a ns) 3 m_law_bent))
  (ak:∀ a ns,Cal P w K mg base 4 "read_number" ["text"] (spM (bN K a ns) 1 m_read_number))
  (a9:∀ a ns,Cal P w K mg base 1 "show_number" ["number"] (spM (bN K a ns) 1 bQ))
  (al:∀ a ns,Cal P w K mg base 3 "_law_number" ["_law_pen"] (spM (bN K a ns) 1 m_law_number))
  (hL:b_law (.no::.pen::List.replicate 7 .no) TrueEnd) :
  FnOk P w K mg base CX0 7 f fd ["_law_script"] (spLaw K):=by
 refine F.ok sc_law (fun vs H Q E h=>?_) (fun cdv A outer s H vs Q E hr h=>?_)
 ·obtain⟨a,ns,rfl,hS,h63,q⟩:=h;rfl
 have hu:=hr.units;obtain⟨a,ns,rfl,hS,h63,q⟩:=h;have ah:=ah a ns;have a6:=a6 a ns;have a4:=a4 a ns;have ai:=ai a ns;have aj:=aj a ns;have ak:=ak a ns;have a9:=a9 a ns;have al:=al a ns;exact law_body2 (k:=7) (aV (i:=1) sc_law.nd rfl (by walk_at "lc") (pe_lst (aA aD (aA aD (aA (pv 0) aF))))) ⟨_,(aC (ps_for PassesOwn.never rfl (pi_range1 rfl B.range_ (aA aD aF)) (pg_name (i:=2) sc_law.nd rfl (by walk_at "lc")) (aC (aV (i:=3) sc_law.nd rfl (by walk_at "lc") (aM al hr rfl (aA (pv 1) aF)))
   (aC (aV (i:=4) sc_law.nd rfl (by walk_at "lc") (pe_callTy call_strI rfl B.str_ boot_str (aA (cD cI (pv 3) aD (fun _ _=>rfl)) aF)))
   (aC (ps_if (aP (op_neD hu) (cD cI (pv 3) aD (fun _ _=>rfl)) aD (bF _)) (aJ (aV (i:=4) sc_law.nd rfl (by walk_at "lc") (bC bY (bC bY (pv 4) c7) (pe_callTy call_strI rfl B.str_ boot_str (aA (cD cI (pv 3) aD (fun _ _=>rfl)) aF))))) bL)
   (aC (aV (i:=5) sc_law.nd rfl (by walk_at "lc") (aM a9 hr rfl (aA (pv 3) aF)))
   (aC (ps_if (PW.pt (pw_or (pt_not (pt_val (bD call_isi rfl B.isinstance_ boot_isinstance (aA (pv 5) (aA (pe_bltn (v:=.ty "str") rfl B.str_ boot_str rfl) aF))))) (pw_or1 (aP (op_neD hu) (pv 5) (pv 4) (bF _))))) (aJ (bI pe_bl)) bL)
   (aC (aV (i:=6) sc_law.nd rfl (by walk_at "lc") (aM ak hr rfl (aA (pv 5) aF)))
   (aC (ps_if (PW.pt (pw_or (pt_not (pt_val (bD call_isi rfl B.isinstance_ boot_isinstance (aA (pv 6) (aA (pe_bltn (v:=.ty "tuple") rfl B.tuple_ boot_tuple rfl) aF))))) (pw_or (aP (op_neD hu) (pv 6) (pv 3) (bF _)) (pw_or1 (pt_val (bD (call_anyL rfl) rfl B.any_ boot_any (aA (pe_lcomp (N:=["_law_part"]) (nt:=1) (fv:=[]) rfl (blk_of (osc:=aN s_law) (ON:=["_law_script", "_law_pen", "_law_k", "_law_number_here", "_law_due_here", "_law_text", "_law_found", "_law_part", "_law_bent_here"]) (by decide +kernel)) (pi_tup (pv 6)) (fun _ _ _ _=>(pg_name (i:=0) (show(["_law_part"]:List Str).Nodup by decide +kernel) rfl (by walk_at "lc"))) (fun _ _ _ _=>pts_nil) (fun _ _ _ _=>(bD call_isi rfl B.isinstance_ boot_isinstance (aA (pv 0) (aA (pe_bltn (v:=.ty "bool") rfl B.bool_ boot_bool rfl) aF))))) aF))))))) (aJ (bI pe_bl)) bL)
   (aC (aV (i:=8) sc_law.nd rfl (by walk_at "lc") (aM aj hr rfl (aA (pv 1) (aA (pv 3) (aA (pv 5) aF)))))
   (aC (ps_if (aP (op_neD hu) (aM a6 hr rfl (aA (pv 8) aF)) (aM ai hr rfl (aA (pv 8) aF)) (bF _)) (aJ (bI pe_bl)) bL)
   (aJ (ps_if (aP op_notN (aM a6 hr rfl (aA (cD cI (pe_lst (aA cJ (aA aD (aA pe_bl (aA (pv 3) (aA (pe_lst (aA (pv 5) aF)) (aA aD (aA pe_dic0 aF)))))))) (aM a4 hr rfl (aA (pv 1) (aA aD aF))) (fun _ _=>rfl)) aF)) cJ (bF _)) (aJ (bI pe_bl)) bL))))))))))))
   (aJ (bI (aM ah hr rfl (aA (pv 1) aF))))),
  ((aL (vs_for (vi_rng1 (aK aG cG)) vg_name (aL (aY (aH (bB (aW (va_pen bH)))))
   (aL (aY (aH (vt_str1 (vt_ix aB aG))))
   (aL (vs_if (aU (vt_ne (vt_ix aB aG) aG)) (aY (aH (bZ (bZ aB bW) (vt_str1 (vt_ix aB aG))))) vs_nx)
   (aL (aY (aH (bB (aW (bG aB bH)))))
   (aL (vs_if (vtt_or (vtt_not (vtt_b (vt_isi Kt (by decide) aB))) (aU (vt_ne aB aB))) (bJ (aH vt_bl)) vs_nx)
   (aL (aY (aH (bB (aW (bG aB bH)))))
   (aL (vs_if (vtt_or (vtt_not (vtt_b (vt_isi Kt (by decide) aB))) (vtt_or (aU (vt_ne aB aB)) (vtt_b (vt_any (bB (vo_comp (vi_tup aB) vg_name vtt_true (vt_isi Kt (by decide) aB))))))) (bJ (aH vt_bl)) vs_nx)
   (aL (aY (aH (bB (aW (va_pen (bG aB (bG aB bH)))))))
   (aL (vs_if (aU (vt_ne (bB (aW (bG aB bH))) (bB (aW (bG aB bH))))) (bJ (aH vt_bl)) vs_nx)
   (vs_if (aU (vt_notN (bB (aW (bG (vt_ix (bB (vo_lst (aK vt_non (aK aG (aK vt_bl (aK aB (aK (bB (vo_lst (aK aB cG))) (aK aG (aK vt_dic0 cG))))))))) (bB (aW (va_pen (bG aG bH))))) bH))))) (bJ (aH vt_bl)) vs_nx)))))))))))
   (bJ (aW (va_pen bH)))):VS (bN K a ns) _ b_law)⟩ rfl hS hL q
end
section
variable {Q:Rv→Prop}
theorem t_whole {i:Int}(q:Q (.val (.bool true))):m_is_whole [.val (.int i)] Q:=by
 refine i_fn ?_;unfold b_is_whole;walk_at "vs";exact q
theorem t_gcd {a b:Int}(q:Q (.val (.int (Int.gcd a b:Nat)))):bO [.val (.int a),.val (.int b)] Q:=by
 refine i_fn ?_;unfold b_greatest_divisor b_greatest_divisor_r1 b_greatest_divisor_l1;walk_at "vs";refine while_inv (fun n Γ=>∃ d r x,Γ=[.val (.int a),.val (.int b),.val (.int d),.val (.int r),x]∧0≤d∧0≤r∧Int.gcd d r=Int.gcd a b∧n=r.toNat) _ ⟨_,_,.no,rfl,abs_nn a,abs_nn b,abs_gcd a b,rfl⟩ ?_;rintro m Γ ⟨d,r,x,rfl,hd,hr,hg,rfl⟩;walk_at "vs";refine iteN2 (fun c=>?_) (fun c=>?_)
 ·have hp:0<r:=by omega
  walk_at "vs";refine⟨hp,?_⟩;walk_at "vs";have h1:=emod_nonneg d (b:=r) (by omega);have h2:=emod_lt_of_pos d hp;exact⟨_,by omega,_,_,_,rfl,hr,h1,(gcd_step hd hp).trans hg,rfl⟩
 ·subst c;have e:=gcd_end hd;rw[hg] at e;walk_at "vs";rw[e] at q;exact q
end
section
variable {p:Addr}{n:Nat}{Q:Rv→Nat→Prop}
theorem t_lowestC {Q:Rv→Prop}{t b:Int}(h0:0<b)(hb:Bt 9000 b)(q:Q (.val (dNum (Rat.divInt t b)))):bR [.val (.int t),.val (.int b)] Q:=by
 have g0:=gcd_ne (t:=t) (b:=b) (by omega);have g1:=gcd_bt (t:=t) hb (by omega);refine i_fn ?_;unfold b_law_lowest b_law_lowest_l1 b_law_lowest_r1;walk_at "vs";refine while_inv (fun n Γ=>∃ d r,Γ=[.val (.int t),.val (.int b),.val (.int d),.val (.int r)]∧0≤d∧0≤r∧Int.gcd d r=Int.gcd t b∧n=r.toNat) _ ⟨_,_,rfl,abs_nn t,by omega,by
  have:=abs_gcd t b;rwa[if_neg (c:=b<0) (by omega)] at this,rfl⟩ ?_
 rintro m Γ ⟨d,r,rfl,hd,hr,hg,rfl⟩;walk_at "vs";refine iteD2 (fun c=>?_) (fun c=>?_)
 ·walk_at "vs";refine⟨c,?_⟩;walk_at "vs";have h1:=emod_nonneg d (b:=r) (by omega);have h2:=emod_lt_of_pos d c;exact⟨_,by omega,_,_,rfl,hr,h1,(gcd_step hd c).trans hg,rfl⟩
 ·have c':r=0:=by omega
  subst c';have e:=gcd_end hd;rw[hg] at e;subst e;have n:=norm_pos (t:=t) (b:=b) h0;walk_at "vs";refine⟨⟨g0,g1⟩,?_⟩;walk_at "vs";refine⟨⟨g0,g1⟩,?_⟩;walk_at "vs";rw[n.1,n.2];exact q
end
section
open PySem.NumText
def dg (m:Nat):List Nat:=(Nat.toDigits 10 m).map Char.toNat
theorem dg_small {m:Nat}(h:m<10):dg m=[(Nat.digitChar m).toNat]:=by unfold dg; rw[Nat.toDigits_of_lt_base h]; rfl
theorem dg_snoc {m:Nat}(h:10≤m):dg m=dg (m/10)++[(Nat.digitChar (m%10)).toNat]:=by
 have hm:m%10<10:=mod_lt m (by decide);have t:Nat.toDigits 10 (m/10)++Nat.toDigits 10 (m%10)=Nat.toDigits 10 (10*(m/10)+m%10):=Nat.toDigits_append_toDigits (by decide) (by omega) hm;rw[Nat.div_add_mod] at t;unfold dg;rw[← t,List.map_append,Nat.toDigits_of_lt_base hm];rfl
theorem dg1:∀ d:Nat,d<10→48≤(Nat.digitChar d).toNat∧(Nat.digitChar d).toNat≤57:=by decide
theorem dg1':∀ d:Nat,d<10→(Nat.digitChar d).toNat=48→d=0:=by decide
theorem dg_all (m:Nat):AllDigits (dg m):=by
 induction m using Nat.strongRecOn with
 | _ m ih=>
  intro c hc
  by_cases h:m<10
  ·rw[dg_small h] at hc;rw[mem_singleton.mp hc];exact dg1 m h
  ·rw[dg_snoc (by omega)] at hc;rcases mem_append.mp hc with q|q
   ·exact ih (m/10) (by omega) c q
   ·rw[mem_singleton.mp q];exact dg1 _ (mod_lt m (by decide))
theorem dg_val (m:Nat):digitsVal (dg m)=m:=PySem.W.KIN.val_back m
theorem dg_len:∀{k m:Nat},1≤k→m<10^k→(dg m).length≤k
 | k,m,hk,h=>by
  by_cases q:m<10
  ·rw[dg_small q]; exact hk
  ·rw[dg_snoc (by omega),length_append]
   match k,hk,h with
   | 1,_,h=>exact absurd h (by omega)
   | k+2,_,h=>
    have:=dg_len (k:=k+1) (m:=m/10) (by omega) (by rw[Nat.pow_succ] at h; omega)
    show(dg (m/10)).length+1≤k+2
    omega
theorem dg_ne (m:Nat):dg m≠[]:=by
 by_cases h:m<10
 ·rw[dg_small h]; exact cons_ne_nil _ _
 ·rw[dg_snoc (by omega)]; exact List.append_ne_nil_of_right_ne_nil _ (cons_ne_nil _ _)
theorem dg_head (m:Nat):(dg m)[0]?=some 48→m=0:=by
 induction m using Nat.strongRecOn with
 | _ m ih=>
  intro e
  by_cases h:m<10
  ·rw[dg_small h] at e;exact dg1' m h (by simpa using e)
  ·rw[dg_snoc (by omega)] at e;have l:0<(dg (m/10)).length:=List.length_pos_iff.mpr (dg_ne _);rw[getElem?_append_left l] at e;have:=ih (m/10) (by omega) e;omega
theorem tx_nat (m:Nat):(txI (m:Int)).cps.toList=dg m:=PySem.W.KIN.signs_num m
theorem tx_neg {m:Nat}(h:0<m):(txI (-(m:Int))).cps.toList=45::dg m:=by
 obtain⟨k,rfl⟩:∃ k,m=k+1:=⟨m-1,by omega⟩
 show(PySem.Str.ofString (toString (Int.negSucc k))).cps.toList=_
 rw[Str.ofString_eq_toList]
 show("-" ++ Nat.repr (k+1)).toList.map Char.toNat=_
 rw[String.toList_append,List.map_append,Nat.toList_repr];rfl
theorem str_ext {a b:PySem.Str}(h:a.cps.toList=b.cps.toList):a=b:=PySem.Str.ext' (toList_inj.mp h)
theorem tx_neg' {m:Nat}(h:0<m):txI (-(m:Int))=("-" : PySem.Str)++txI (m:Int):=str_ext (by rw[tx_neg h,PySem.Str.cps_append,toList_append,tx_nat]; rfl)
theorem tx_len (m:Nat)(h:m<10^60):(txI (m:Int)).length≤60:=by
 have:=dg_len (k:=60) (by decide) h;rw[← tx_nat] at this;simpa [PySem.Str.length] using this
theorem tx_signs (i:Int):∀ c∈(txI i).cps.toList,c=45∨(48≤c∧c≤57):=by
 intro c hc;rcases eq_nat_or_neg i with⟨m,rfl|rfl⟩
 ·rw[tx_nat] at hc;exact .inr (dg_all m c hc)
 ·by_cases z:0<m
  ·rw[tx_neg z] at hc;rcases mem_cons.mp hc with q|q
   ·exact .inl q
   ·exact .inr (dg_all m c q)
  ·have:m=0:=by omega
   subst this;exact .inr (dg_all 0 c (by rw[← tx_nat]; exact hc))
theorem jn_cons (c:Nat)(x y:PySem.Str)(r:List PySem.Str):(PySem.Str.join ⟨#[c]⟩ (x::y::r)).cps.toList=x.cps.toList++c::(PySem.Str.join ⟨#[c]⟩ (y::r)).cps.toList:=by
 show(x++(⟨#[c]⟩:PySem.Str)++PySem.Str.join ⟨#[c]⟩ (y::r)).cps.toList=_
 rw[PySem.Str.cps_append,PySem.Str.cps_append,toList_append,toList_append,append_assoc];rfl
theorem cut_at {c:Nat}:∀{a a' b b':List Nat},c∉a→c∉a'→a++c::b=a'++c::b'→a=a'∧b=b'
 | [],[],_,_,_,_,e=>⟨rfl,by simpa using e⟩
 | [],y::a',_,_,_,h',e=>by simp at e; exact absurd (mem_cons.mpr (.inl e.1)) h'
 | x::a,[],_,_,h,_,e=>by simp at e; exact absurd (mem_cons.mpr (.inl e.1.symm)) h
 | x::a,y::a',b,b',h,h',e=>by
  simp only[List.cons_append,List.cons.injEq] at e;obtain⟨q1,q2⟩:=cut_at (fun z=>h (mem_cons_of_mem _ z)) (fun z=>h' (mem_cons_of_mem _ z)) e.2;exact⟨by rw[e.1,q1],q2⟩
theorem join_inj {c:Nat}:∀{ps qs:List PySem.Str},ps≠[]→qs≠[]→(∀ p∈ps,c∉p.cps.toList)→(∀ p∈qs,c∉p.cps.toList)→PySem.Str.join ⟨#[c]⟩ ps=PySem.Str.join ⟨#[c]⟩ qs→ps=qs
 | [],_,h,_,_,_,_=>absurd rfl h
 | _,[],_,h,_,_,_=>absurd rfl h
 | [x],[y],_,_,_,_,e=>by rw[show x=y from e]
 | [x],y::z::r,_,_,hp,_,e=>by
  have e:=congrArg (fun s:PySem.Str=>s.cps.toList) e;simp only[jn_cons] at e;exact absurd (show c∈x.cps.toList from by rw[show x.cps.toList=_ from e]; simp) (hp x (mem_cons_self ..))
 | x::w::r,[y],_,_,_,hq,e=>by
  have e:=congrArg (fun s:PySem.Str=>s.cps.toList) e;simp only[jn_cons] at e;exact absurd (show c∈y.cps.toList from by rw[show y.cps.toList=_ from e.symm]; simp) (hq y (mem_cons_self ..))
 | x::w::r,y::z::r',_,_,hp,hq,e=>by
  have e:=congrArg (fun s:PySem.Str=>s.cps.toList) e;simp only[jn_cons] at e;obtain⟨q1,q2⟩:=cut_at (hp x (mem_cons_self ..)) (hq y (mem_cons_self ..)) e;rw[str_ext q1,join_inj (cons_ne_nil _ _) (cons_ne_nil _ _) (fun p h=>hp p (mem_cons_of_mem _ h)) (fun p h=>hq p (mem_cons_of_mem _ h)) (str_ext q2)]
theorem split_ne (x y:PySem.Str):Txt.split x y≠[]:=by
 unfold Txt.split
 split
 ·exact cons_ne_nil _ _
 ·split
  ·exact cons_ne_nil _ _
  ·rw[StrLaws.partsBetween_eq];obtain⟨p,r,e⟩:=StrLaws.partsFrom_ne x y.length 0 (Builtin.Str.occurrences x y 0 x.length (x.length+1));rw[e];exact cons_ne_nil _ _
theorem split_join {c:Nat}{ps:List PySem.Str}(h:ps≠[])(hp:∀ p∈ps,c∉p.cps.toList):Txt.split (Txt.join ⟨#[c]⟩ ps) ⟨#[c]⟩=ps:=by
 refine join_inj (split_ne _ _) h (StrLaws.split_free _ c) hp ?_;rw[StrLaws.join_split];exact StrLaws.glued_eq_join _ _
end
section
open PySem.NumText
def numT (r:Rat):PySem.Str:=if r.den=1 then txI r.num else txI r.num++("/" : PySem.Str)++txI (r.den:Int)
def Few60 (r:Rat):Prop:=r.num.natAbs<10^60∧r.den<10^60
def Asc (a:PySem.Str):Prop:=∀ c∈a.cps.toList,c<128
theorem asc_of {a:PySem.Str}(h:(a.cps.toList.all fun c=>decide (c<128))=true):Asc a:=fun c hc=>of_decide_eq_true (all_eq_true.mp h c hc)
theorem few_divInt {t b:Int}(ht:t.natAbs<10^60)(h0:0<b)(hb:b<10^60):Few60 (Rat.divInt t b):=by
 obtain⟨n1,n2⟩:=norm_pos (t:=t) (b:=b) h0;rw[fd] at n1 n2;have h1:(Rat.divInt t b).num.natAbs≤t.natAbs:=by
  rw[← n1];exact Int.natAbs_ediv_le_natAbs _ _
 have h2:((Rat.divInt t b).den:Int)≤b:=by
  rw[← n2];exact Int.ediv_le_self _ (by omega)
 exact⟨by omega,by omega⟩
end
section
variable {Q:Rv→Prop}
theorem p9 (j:Nat):(10:Int)^(9*(j+1))=10^(9*j)*1000000000:=by
 rw[show 9*(j+1)=9*j+9 by omega,Int.pow_add];rfl
theorem bt_p9 {i:Int}{j:Nat}(h0:0≤i)(h1:i<10^(9*j))(hj:j≤7):Bt 240 i:=by
 show i.natAbs<2^240;have h2:(10:Nat)^(9*j)≤10^63:=pow_le_pow_right (by decide) (by omega);have h3:(10:Nat)^63<2^240:=by decide
 have h4:((10:Int)^(9*j))=(((10:Nat)^(9*j):Nat):Int):=by simp
 rw[h4] at h1;omega
theorem bt_60 {i:Int}(h:i.natAbs<10^60):Bt 9000 i:=lt_of_lt_of_le (lt_trans h (by decide:10^60<2^240)) (pow_le_pow_right (by decide) (by decide))
end
section
open PySem.NumText PySem.StrLaws
def dgB (c:Nat):Bool:=decide (48≤c)&&decide (c≤57)
theorem dgB_iff {c:Nat}:dgB c=true↔48≤c∧c≤57:=by unfold dgB; rw[and_eq_true,decide_eq_true_iff,decide_eq_true_iff]
def whB (l:List Nat):Bool := !l.isEmpty&&decide (l.length≤60)&&l.all dgB&&(!decide (l[0]?=some 48)||decide (l=[48]))
def whO (l:List Nat):Option Nat:=if whB l=true then some (digitsVal l) else none
def oN:Option Nat→D
 | some n=>.int (n:Int)
 | none=>.none
def oI:Option Int→D
 | some n=>.int n
 | none=>.none
def oT:Option (Int×Nat)→D
 | some p=>.tuple [.int p.1,.int (p.2:Int)]
 | none=>.none
theorem oN_s (n:Nat):oN (some n)=.int (n:Int):=rfl
theorem oN_n:oN none=.none:=rfl
theorem oI_s (n:Int):oI (some n)=.int n:=rfl
theorem oI_n:oI none=.none:=rfl
def whD (l:List Nat):D:=oN (whO l)
def topO (l:List Nat):Option Int:=if l[0]?=some 45 then(match whO l.tail with
  | some n=>if n=0 then none else some (-(n:Int))
  | none=>none)
 else(whO l).map Int.ofNat
def topD (l:List Nat):D:=oI (topO l)
def cut47:List Nat→Option (List Nat×List Nat)
 | []=>none
 | c::r=>if c=47 then some ([],r) else(cut47 r).map fun p=>(c::p.1,p.2)
def numO (l:List Nat):Option (Int×Nat):=match cut47 l with
 | none=>(topO l).map fun t=>(t,1)
 | some (a,b)=>match topO a,whO b with
  | some t,some n=>if 2≤n∧Int.gcd t n=1 then some (t,n) else none
  | _,_=>none
def numD (l:List Nat):D:=oT (numO l)
theorem cut47_none {l:List Nat}:cut47 l=none↔47∉l:=by
 induction l with
 | nil=>simp[cut47]
 | cons c r ih=>
  unfold cut47
  by_cases h:c=47
  ·simp[h]
  ·rw[if_neg h,Option.map_eq_none_iff,ih];simp[Ne.symm h]
theorem cut47_some {l a b:List Nat}(h:cut47 l=some (a,b)):l=a++47::b∧47∉a:=by
 induction l generalizing a with
 | nil=>cases h
 | cons c r ih=>
  unfold cut47 at h
  by_cases z:c=47
  ·rw[if_pos z] at h; cases h; exact⟨by rw[z]; rfl,fun z=>nomatch z⟩
  ·rw[if_neg z,Option.map_eq_some_iff] at h;obtain⟨⟨a',b'⟩,h1,h2⟩:=h
   cases h2
   obtain⟨e,n⟩:=ih h1;exact⟨by rw[e]; rfl,fun q=>(mem_cons.mp q).elim (fun e=>z e.symm) n⟩
theorem len_list (x:PySem.Str):x.cps.toList.length=x.length:=by simp[PySem.Str.length]
theorem split_none {x:PySem.Str}(h:47∉x.cps.toList):Txt.split x ⟨#[47]⟩=[x]:=
 split_join (ps:=[x]) (cons_ne_nil _ _) fun p hp=>by rw[mem_singleton.mp hp]; exact h
theorem split_cut {x:PySem.Str}{a b:List Nat}(h:x.cps.toList=a++47::b)(ha:47∉a):Txt.split x ⟨#[47]⟩=⟨a.toArray⟩::Txt.split ⟨b.toArray⟩ ⟨#[47]⟩:=by
 refine join_inj (c:=47) (split_ne _ _) (cons_ne_nil _ _) (split_free _ 47) (fun p hp=>?_) ?_
 ·rcases mem_cons.mp hp with e|e
  ·rw[e]; exact ha
  ·exact split_free _ 47 p e
 ·rw[join_split];obtain⟨y,r,e⟩:=List.exists_cons_of_ne_nil (split_ne ⟨b.toArray⟩ ⟨#[47]⟩);refine str_ext ?_;have jb:=congrArg (fun s:PySem.Str=>s.cps.toList) (join_split (⟨b.toArray⟩:PySem.Str) ⟨#[47]⟩);rw[e] at jb ⊢;rw[jn_cons,h];dsimp only at jb;rw[jb]
theorem split_two {b:List Nat}(h:47∈b):2≤(Txt.split (⟨b.toArray⟩:PySem.Str) ⟨#[47]⟩).length:=by
 cases e:cut47 b with
 | none=>exact absurd h (cut47_none.mp e)
 | some p=>
  obtain⟨a,c⟩:=p;obtain⟨e1,e2⟩:=cut47_some e;rw[split_cut (x:=⟨b.toArray⟩) e1 e2,length_cons];have:=List.length_pos_iff.mpr (split_ne (⟨c.toArray⟩:PySem.Str) ⟨#[47]⟩);omega
theorem join_many {c:Nat}:∀ ps:List PySem.Str,ps.length≤(PySem.Str.join ⟨#[c]⟩ ps).cps.toList.length+1
 | []=>by simp
 | [x]=>by simp
 | x::y::r=>by
  have:=join_many (c:=c) (y::r);rw[jn_cons,length_append];simp only[length_cons] at this ⊢;omega
theorem split_many (x:PySem.Str)(c:Nat):(Txt.split x ⟨#[c]⟩).length≤x.length+1:=by
 have:=join_many (c:=c) (Txt.split x ⟨#[c]⟩);rw[join_split,len_list] at this;exact this
theorem occ_stuck (s sub:PySem.Str)(hi:Nat):∀(l:List Nat) (st:Array Nat×Nat),1≤st.fst.size→(forIn l st (occBody s sub hi 1)).run=st
 | [],_,_=>rfl
 | i::l,st,h=>by
  rw[forIn_cons];unfold occBody;rw[if_neg (by omega)];exact occ_stuck s sub hi l st h
theorem occ_go (x:PySem.Str)(c:Nat){k:Nat}(hk:x.cps.toList[k]?=some c)(hn:∀ j,j<k→x.cps.toList[j]?≠some c):∀(m cur:Nat),cur≤k→k<cur+m→(forIn (List.range' cur m) (#[],0) (occBody x ⟨#[c]⟩ x.length 1)).run.fst.toList=[k]
 | 0,cur,h1,h2=>absurd h2 (by omega)
 | m+1,cur,h1,h2=>by
  rw[List.range'_succ,forIn_cons];unfold occBody
  by_cases e:cur=k
  ·subst e;obtain⟨q1,q2⟩:=(subAt_one x c cur).mpr hk;rw[if_pos ⟨⟨⟨by decide,zero_le _⟩,q1⟩,q2⟩];have:=occ_stuck x ⟨#[c]⟩ x.length (List.range' (cur+1) m) (#[].push cur,cur+(⟨#[c]⟩:PySem.Str).length) (by simp)
   show(forIn (List.range' (cur+1) m) _ (occBody x ⟨#[c]⟩ x.length 1)).run.fst.toList=_
   rw[this];rfl
  ·rw[if_neg (fun z=>hn cur (by omega) ((subAt_one x c cur).mp ⟨z.1.2,z.2⟩))];exact occ_go x c hk hn m (cur+1) (by omega) (by omega)
theorem occ_first {x:PySem.Str}{c:Nat}{a b:List Nat}(h:x.cps.toList=a++c::b)(ha:c∉a):Builtin.Str.occurrences x ⟨#[c]⟩ 0 x.length 1=[a.length]:=by
 rw[occ_eq];have hl:a.length<x.length:=by rw[← len_list,h]; simp
 refine occ_go x c (by rw[h]; simp) (fun j hj e=>?_) _ 0 (by omega) (by omega);rw[h,getElem?_append_left hj] at e;exact ha (mem_of_getElem? e)
theorem dg_zero:dg 0=[48]:=by decide +kernel
theorem wh_dg {n:Nat}(h:n<10^60):whO (dg n)=some n:=by
 unfold whO whB;rw[if_pos,dg_val];rw[and_eq_true,and_eq_true,and_eq_true];refine⟨⟨⟨?_,decide_eq_true (dg_len (by decide) h)⟩,all_eq_true.mpr fun c hc=>dgB_iff.mpr (dg_all n c hc)⟩,?_⟩
 ·cases e:dg n with
  | nil=>exact absurd e (dg_ne n)
  | cons a b=>rfl
 ·by_cases z:(dg n)[0]?=some 48
  ·rw[dg_head n z,dg_zero];decide
  ·rw[decide_eq_false z]; rfl
theorem top_tx {i:Int}(h:i.natAbs<10^60):topO (txI i).cps.toList=some i:=by
 unfold topO;rcases eq_nat_or_neg i with⟨m,rfl|rfl⟩
 ·rw[tx_nat,if_neg,wh_dg (by omega)]
  ·rfl
  ·intro e;have:=dg_all m 45 (mem_of_getElem? e);omega
 ·by_cases z:0<m
  ·rw[tx_neg z,if_pos (show(45::dg m)[0]?=some 45 from rfl)]
   show(match whO (dg m) with|some n=>if n=0 then none else some (-(n:Int))|none=>none)=_
   rw[wh_dg (by omega)]
   show(if m=0 then none else some (-(m:Int)))=_
   rw[if_neg (by omega)]
  ·have:m=0:=by omega
   subst this;decide +kernel
theorem num_tx {r:Rat}(h:Few60 r):numO (numT r).cps.toList=some (r.num,r.den):=by
 have f1:∀ i,47∉(txI i).cps.toList:=fun i hc=>by have:=tx_signs i 47 hc; omega
 have hd:=r.den_pos;unfold numT
 split
 ·rename_i z
  unfold numO;rw[cut47_none.mpr (f1 _),top_tx h.1,z];rfl
 ·rename_i z
  have e:(txI r.num++("/" : PySem.Str)++txI (r.den:Int)).cps.toList=(txI r.num).cps.toList++47::(txI (r.den:Int)).cps.toList:=by
   rw[PySem.Str.cps_append,PySem.Str.cps_append,toList_append,toList_append,append_assoc];rfl
  have c:cut47 ((txI r.num).cps.toList++47::(txI (r.den:Int)).cps.toList)=some ((txI r.num).cps.toList,(txI (r.den:Int)).cps.toList):=by
   cases q:cut47 ((txI r.num).cps.toList++47::(txI (r.den:Int)).cps.toList) with
   | none=>exact absurd (show 47∈_ from by simp) (cut47_none.mp q)
   | some p=>
    obtain⟨a,b⟩:=p;obtain⟨e1,e2⟩:=cut47_some q;obtain⟨rfl,rfl⟩:=cut_at (f1 _) e2 e1;rfl
  rw[e];unfold numO;rw[c,tx_nat];dsimp only;rw[top_tx h.1,wh_dg h.2];dsimp only;rw[if_pos ⟨by omega,r.reduced⟩]
theorem wh_long {l:List Nat}(h:60<l.length):whO l=none:=by
 unfold whO whB;rw[if_neg];rw[decide_eq_false (by omega)];simp
end
theorem i_yes {Γ:En}{Q:Bool→En→Prop}(h:Q true Γ):mTrue Γ Q:=h
section
variable {Q:Rv→Prop}{fs:Forms}
theorem l2_60 {i:Int}(h:i.natAbs<10^60):i.natAbs.log2<1920:=by
 by_cases z:i.natAbs=0
 ·rw[z]; decide
 ·exact(log2_lt z).mpr (lt_of_lt_of_le (lt_trans h (by decide:10^60<2^240)) (pow_le_pow_right (by decide) (by decide)))
theorem txi_len {i:Int}(h:i.natAbs<10^60):(txI i).length≤61:=by
 rcases eq_nat_or_neg i with⟨m,rfl|rfl⟩
 ·exact le_trans (tx_len m (by omega)) (by decide)
 ·by_cases z:0<m
  ·rw[tx_neg' z,PySem.Str.length_append];have:=tx_len m (by omega);have e:PySem.Str.length ("-" : PySem.Str)=1:=rfl;omega
  ·have:m=0:=by omega
   subst this;exact le_trans (tx_len 0 (by decide)) (by decide)
theorem cN:PySem.Str.length ("/" : PySem.Str)=1:=rfl
theorem numT_len {r:Rat}(h:Few60 r):(numT r).length≤130:=by
 have h1:=txi_len h.1;have h2:=txi_len (i:=(r.den:Int)) (by have:=h.2; omega);unfold numT
 split
 ·omega
 ·rw[PySem.Str.length_append,PySem.Str.length_append,cN];omega
theorem t_show_number {r:Rat}(h:Few60 r)(q:Q (.val (.str (numT r)))):bQ [.val (dNum r)] Q:=by
 have h1:=l2_60 h.1;have h2:=l2_60 (i:=(r.den:Int)) (by have:=h.2; omega);have h3:=txi_len h.1;have h4:=txi_len (i:=(r.den:Int)) (by have:=h.2; omega);refine i_fn ?_;unfold b_show_number;walk_at "ts";refine iteD2 (fun c=>?_) (fun c=>?_)
 ·walk_at "ts";refine i_stI h1 ?_;unfold numT at q;rw[if_pos (by omega)] at q;walk_at "ts";exact q
 ·unfold numT at q;rw[if_neg (by omega)] at q;walk_at "ts";refine⟨_,rfl,h1,by rw[PySem.Str.length_append,cN]; omega,?_⟩;walk_at "ts";refine⟨_,rfl,h2,by rw[PySem.Str.length_append,PySem.Str.length_append,cN]; omega,?_⟩;walk_at "ts";exact q
end
section
variable {Q:Rv→Prop}
theorem eqv_st (a b:PySem.Str):PyData.eqv (.str a) (.str b)=decide (a=b):=by
 show(a==b)=decide (a=b)
 by_cases h:a=b
 ·subst h; simp
 ·rw[decide_eq_false h]; exact beq_eq_false_iff_ne.mpr h
theorem starts1 (x:PySem.Str)(c:Nat):Txt.startswith x ⟨#[c]⟩=decide (x.cps.toList[0]?=some c):=by
 unfold Txt.startswith
 have h:=StrLaws.subAt_one x c 0
 by_cases q:x.cps.toList[0]?=some c
 ·obtain⟨h1,h2⟩:=h.mpr q;rw[decide_eq_true q,h2,decide_eq_true h1];rfl
 ·rw[decide_eq_false q,Bool.and_eq_false_iff]
  by_cases z:0+(⟨#[c]⟩:PySem.Str).length≤x.length
  ·right
   cases e:Builtin.Str.subAt x ⟨#[c]⟩ 0
   ·rfl
   ·exact absurd (h.mp ⟨z,e⟩) q
  ·exact .inl (decide_eq_false z)
theorem at0 (c:Nat)(r:List Nat):atI (c::r) 0=some c:=by simp[atI,ixN]
theorem minus1:(("-" : PySem.Str))=⟨#[45]⟩:=rfl
theorem cut1 {x:PySem.Str}{c:Nat}{r:List Nat}(h:x.cps.toList=c::r):cutS x (some 1) none=⟨r.toArray⟩:=by
 have e:cutS x (some 1) none=StrLaws.sliceText x (some 1) none:=rfl;rw[e,StrLaws.sliceText_from ⟨by decide,by rw[h,length_cons]; omega⟩,h];simp
theorem asc_tx (i:Int):Asc (txI i):=fun c hc=>by have:=tx_signs i c hc; omega
theorem Asc.app {a b:PySem.Str}(ha:Asc a)(hb:Asc b):Asc (a++b):=fun c hc=>by
 rw[PySem.Str.cps_append,toList_append] at hc;rcases mem_append.mp hc with z|z
 ·exact ha c z
 ·exact hb c z
theorem asc_num (r:Rat):Asc (numT r):=by
 unfold numT
 split
 ·exact asc_tx _
 ·exact((asc_tx _).app (asc_of (by decide +kernel))).app (asc_tx _)
theorem gd_st {a:PySem.Str}(h:Asc a):Gd 0 (.str a):=gd_str a (by
 show a.cps.all (fun c=>decide (c<0x110000))=true;rw[← Array.all_toList];exact all_eq_true.mpr fun c hc=>decide_eq_true (by have:=h c hc; omega))
theorem cB {a:PySem.Str}(h:Asc a):Good (.str a):=(gd_st h).good
end
section
theorem slash1:(("/" : PySem.Str))=⟨#[47]⟩:=rfl
end
section
open PySem.NumText
variable {Q:Rv→Prop}
theorem fig_list:("0123456789" : PySem.Str).cps.toList=[48,49,50,51,52,53,54,55,56,57]:=by decide +kernel
theorem inS_fig (c:Nat):inS ⟨#[c]⟩ ("0123456789" : PySem.Str)=dgB c:=by
 unfold inS;rw[StrLaws.found_one,fig_list]
 by_cases h:48≤c∧c≤57
 ·rw[dgB_iff.mpr h];have:c=48∨c=49∨c=50∨c=51∨c=52∨c=53∨c=54∨c=55∨c=56∨c=57:=by omega
  exact decide_eq_true (by simp only[mem_cons,not_mem_nil,or_false]; exact this)
 ·rw[eq_false_iff.mpr (fun z=>h (dgB_iff.mp z))];refine decide_eq_false fun z=>h ?_;simp only[mem_cons,not_mem_nil,or_false] at z;omega
theorem asc_mk {l:List Nat}{x:PySem.Str}(hx:Asc x)(h:∀ c∈l,c∈x.cps.toList):Asc ⟨l.toArray⟩:=fun c hc=>hx c (h c (by simpa using hc))
theorem str_nil {x:PySem.Str}(h:x.cps.toList=[]):x = "" := str_ext (by rw[h]; rfl)
theorem one_zero {c:Nat}:((⟨#[c]⟩:PySem.Str) = "0")↔c=48:=by
 have e:(PySem.Str.ofString "0").cps.toList=[48]:=by decide +kernel
 constructor
 ·intro z;have:=congrArg (fun s:PySem.Str=>s.cps.toList) z;simpa [e] using this
 ·intro z; subst z; exact str_ext (by rw[e])
theorem t_wh {x:PySem.Str}(hx:Asc x)(hl:x.length≤700)(q:Q (.val (whD x.cps.toList))):cL [.val (.str x)] Q:=by
 have ln:=len_list x;refine i_fn ?_;unfold b_whole_in;walk_at "ts";refine⟨cB hx,cB (asc_of (by decide +kernel)),?_⟩;rw[eqv_st]
 by_cases z0:x = ""
 ·rw[decide_eq_true z0];walk_at "ts";rw[z0] at q;exact q
 have ne:x.cps.toList≠[]:=fun e=>z0 (str_nil e);rw[decide_eq_false z0];walk_at "ts";refine i_lsK (by omega) ?_;walk_at "ts"
 by_cases z1:60<x.length
 ·rw[decide_eq_true (show(60:Int)<(x.length:Int) by omega)];walk_at "ts";unfold whD at q;rw[wh_long (by omega)] at q;exact q
 rw[decide_eq_false (show ¬((60:Int)<(x.length:Int)) by omega)];walk_at "ts";refine⟨by unfold L2.VS.signs; rw[length_map,ln]; omega,?_⟩;refine comp_fm (α:=Nat) (fun _=>true) (fun c=>.bool (dgB c)) (fun c=>.str ⟨#[c]⟩) x.cps.toList [] _ (fun c hc _ k k0 h1 h0=>?_) ?_
 ·walk_at "ts";refine i_yes ?_;walk_at "ts";rw[inS_fig];exact h1 rfl
 have e:(([]:List D)++(List.filter (fun _=>true) x.cps.toList).map fun c=>PyData.bool (dgB c))=(x.cps.toList.map dgB).map PyData.bool:=by
  rw[List.filter_eq_self.mpr fun _ _=>rfl,nil_append,List.map_map];rfl
 walk_at "ts";rw[e,boolsD_map];walk_at "ts";have e2:(x.cps.toList.map dgB).all id=x.cps.toList.all dgB:=by rw[List.all_map]; rfl
 rw[e2]
 cases ha:x.cps.toList.all dgB with
 | false=>
  walk_at "ts";unfold whD whO whB at q;rw[ha,if_neg (by simp)] at q;exact q
 | true=>
  walk_at "ts";unfold b_whole_in_r2;walk_at "ts";obtain⟨c,r,hcr⟩:=List.exists_cons_of_ne_nil ne;refine i_xsK (c:=c) (by omega) (by rw[hcr]; exact at0 c r) ?_;walk_at "ts";refine⟨cB (fun z hz=>by
   have:z=c:=by simpa using hz
   rw[this];exact hx c (by rw[hcr]; simp)),cB (asc_of (by decide +kernel)),?_⟩
  have ad:PySem.NumText.AllDigits x.cps.toList:=fun c hc=>dgB_iff.mp (all_eq_true.mp ha c hc);have good:(c=48→x = "0")→whD x.cps.toList=.int ((PySem.NumText.digitsVal x.cps.toList:Nat):Int):=fun h=>by
   show oN (whO _)=_;refine(congrArg oN (if_pos ?_)).trans rfl;unfold whB;rw[ha,decide_eq_true (show x.cps.toList.length≤60 by omega),hcr]
   by_cases z:c=48
   ·have h3:=congrArg (fun s:PySem.Str=>s.cps.toList) (h z);rw[show x.cps.toList=_ from rfl,hcr] at h3;rw[show(c::r)=[48] from h3.trans (by decide +kernel)];decide
   ·rw[show decide ((c::r)[0]?=some 48)=false from decide_eq_false (by simpa using z)];rfl
  have fin:(c=48→x = "0")→b_whole_in_r1 [.val (.str x),.no] fun fl=>match fl with
   | .rt rv=>Q rv
   | _=>False:=fun h=>by
   unfold b_whole_in_r1;walk_at "ts";refine i_inK (intText_digits ad ne (by omega)) (by omega) ?_;walk_at "ts";rw[good h] at q;exact q
  rw[eqv_st]
  by_cases z:c=48
  ·rw[decide_eq_true (one_zero.mpr z)];walk_at "ts";refine⟨cB hx,cB (asc_of (by decide +kernel)),?_⟩;rw[eqv_st]
   by_cases z2:x = "0"
   ·rw[decide_eq_true z2];walk_at "ts";exact fin fun _=>z2
   ·rw[decide_eq_false z2];walk_at "ts";have n:whD x.cps.toList=.none:=by
     show oN (whO _)=_;refine(congrArg oN (if_neg ?_)).trans rfl;unfold whB;rw[hcr,show decide ((c::r)[0]?=some 48)=true from decide_eq_true (by simp[z]),show decide ((c::r)=[48])=false from decide_eq_false fun e=>z2 (str_ext (by rw[hcr,e]; decide +kernel))];simp
    rw[n] at q;exact q
  ·rw[decide_eq_false (fun e=>z (one_zero.mp e))];walk_at "ts";exact fin fun e=>absurd e z
theorem wd_int {l:List Nat}{n:Nat}(h:whO l=some n):whD l=.int (n:Int):=by unfold whD; rw[h]; rfl
theorem wd_none {l:List Nat}(h:whO l=none):whD l=.none:=by unfold whD; rw[h]; rfl
theorem t_top {x:PySem.Str}(hx:Asc x)(hl:x.length≤700)(q:Q (.val (topD x.cps.toList))):m_top_in [.val (.str x)] Q:=by
 have ln:=len_list x;refine i_fn ?_;unfold b_top_in;walk_at "ts";rw[minus1,starts1]
 by_cases z:x.cps.toList[0]?=some 45
 ·rw[decide_eq_true z];walk_at "ts";unfold b_top_in_r1;walk_at "ts";refine i_sliK (by omega) ?_;walk_at "ts";obtain⟨r,hr⟩:∃ r,x.cps.toList=45::r:=by
   cases e:x.cps.toList with
   | nil=>rw[e] at z; cases z
   | cons a b=>rw[e] at z; exact⟨b,by rw[show a=45 by simpa using z]⟩
  rw[cut1 hr];refine t_wh (asc_mk hx fun c hc=>by rw[hr]; exact mem_cons_of_mem _ hc) (by show(r.toArray).size≤700; rw[hr] at ln; simp at ln ⊢; omega) ?_;have tl:topO x.cps.toList=match whO r with
   | some n=>if n=0 then none else some (-(n:Int))
   | none=>none:=by unfold topO; rw[if_pos z,hr]; rfl
  cases e:whO r with
  | none=>
   rw[wd_none e];walk_at "ts";rw[e] at tl;unfold topD at q;rw[tl] at q;exact q
  | some n=>
   rw[wd_int e];walk_at "ts";rw[e] at tl;unfold topD at q;rw[tl] at q
   by_cases n0:n=0
   ·rw[decide_eq_true (show(n:Int)=0 by omega)];walk_at "ts";rw[show(match some n with|some n=>if n=0 then none else some (-(n:Int))|none=>none)=none from if_pos n0] at q;exact q
   ·rw[decide_eq_false (show ¬(n:Int)=0 by omega)];walk_at "ts";rw[show(match some n with|some n=>if n=0 then none else some (-(n:Int))|none=>none)=some (-(n:Int)) from if_neg n0] at q;exact q
 ·rw[decide_eq_false z];walk_at "ts";refine t_wh hx hl ?_;walk_at "ts";have tl:topD x.cps.toList=whD x.cps.toList:=by
   unfold topD topO whD;rw[if_neg z]
   cases whO x.cps.toList<;>rfl
  rw[tl] at q;exact q
theorem t_whole0 (q:Q (.val (.bool false))):m_is_whole [.val .none] Q:=by
 refine i_fn ?_;unfold b_is_whole;walk_at "ws";exact q
theorem t_isn {a b:D}(h:(a=.none∧(b=.none∨∃ j,b=.int j))∨(∃ i,a=.int i)∧b=.none)(q:Q (.val (.bool false))):cF [.val (.tuple [a,b])] Q:=by
 have go:∀ a b:D,b_is_number_r2 [.val (.tuple [a,b])] (fun fl=>match fl with|.rt rv=>Q rv|.nx _=>Q (.val .none)|_=>False)→cF [.val (.tuple [a,b])] Q:=fun a b k=>by
  refine i_fn ?_;unfold b_is_number;walk_at "ws";refine i_oQ (d:=.int 2) rfl ?_;walk_at "ws";rw[decide_eq_true rfl];walk_at "ws";exact k
 refine go a b ?_;unfold b_is_number_r2;rcases h with⟨rfl,rfl|⟨j,rfl⟩⟩|⟨⟨i,rfl⟩,rfl⟩
 ·walk_at "ws";refine i_oQ (d:=.none) rfl ?_;walk_at "ws";refine t_whole0 ?_;walk_at "ws";exact q
 ·walk_at "ws";refine i_oQ (d:=.none) rfl ?_;walk_at "ws";refine t_whole0 ?_;walk_at "ws";exact q
 ·walk_at "ws";refine i_oQ (d:=.int i) rfl ?_;walk_at "ws";refine t_whole ?_;walk_at "ws";refine i_oQ (d:=.none) rfl ?_;walk_at "ws";refine t_whole0 ?_;walk_at "ws";exact q
theorem t_isn2 {t:Int}{n:Nat}(q:Q (.val (.bool (decide (1≤n)&&decide (Int.gcd t n=1))))):cF [.val (.tuple [.int t,.int (n:Int)])] Q:=by
 refine i_fn ?_;unfold b_is_number;walk_at "ws";refine i_oQ (d:=.int 2) rfl ?_;walk_at "ws";rw[decide_eq_true rfl];walk_at "ws";unfold b_is_number_r2;walk_at "ws";refine i_oQ (d:=.int t) rfl ?_;walk_at "ws";refine t_whole ?_;walk_at "ws";refine i_oQ (d:=.int (n:Int)) rfl ?_;walk_at "ws";refine t_whole ?_;walk_at "ws";unfold b_is_number_r1;walk_at "ws";refine i_oQ (d:=.int (n:Int)) rfl ?_;walk_at "ws"
 by_cases h:1≤n
 ·rw[decide_eq_true (show(1:Int)≤(n:Int) by omega)];rw[decide_eq_true h] at q;walk_at "ws";refine i_oQ (d:=.int t) rfl ?_;walk_at "ws";refine i_oQ (d:=.int (n:Int)) rfl ?_;walk_at "ws";refine t_gcd ?_;walk_at "ws"
  by_cases g:Int.gcd t n=1
  ·rw[g] at q ⊢;exact q
  ·rw[decide_eq_false (fun e=>g (by omega))];rw[decide_eq_false g] at q;exact q
 ·rw[decide_eq_false (show ¬(1:Int)≤(n:Int) by omega)];rw[decide_eq_false h] at q;walk_at "ws";exact q
theorem t_num {x:PySem.Str}(hx:Asc x)(hl:x.length≤700)(q:Q (.val (numD x.cps.toList))):m_number_in [.val (.str x)] Q:=by
 have ln:=len_list x;refine i_fn ?_;unfold b_number_in;walk_at "ts";rw[slash1]
 cases e:cut47 x.cps.toList with
 | none=>
  have n47:=cut47_none.mp e;have sp:=split_none n47;refine i_spK rfl (by omega) (by rw[sp]; exact Nat.le_of_ble_eq_true rfl) ?_;rw[sp];walk_at "ts";refine i_oQ (d:=.int 1) rfl ?_;walk_at "ts";rw[decide_eq_false (show ¬((2:Int)<1) by decide)];walk_at "ts";unfold b_number_in_r2;walk_at "ts";refine i_oQ (d:=.str x) rfl ?_;walk_at "ts";refine t_top hx hl ?_;walk_at "ts";refine i_oQ (d:=.int 1) rfl ?_;walk_at "ts";rw[decide_eq_true (show(1:Int)=1 from rfl)];walk_at "ts";have nu:numO x.cps.toList=(topO x.cps.toList).map fun t=>(t,1):=by unfold numO; rw[e]
  unfold numD at q;rw[nu] at q
  cases z:topO x.cps.toList with
  | none=>
   unfold topD;rw[z,oI_n];rw[z] at q;walk_at "ts";exact q
  | some t=>
   unfold topD;rw[z,oI_s];rw[z] at q;walk_at "ts";exact q
 | some p=>
  obtain⟨a,b⟩:=p;obtain⟨e1,e2⟩:=cut47_some e;have la:a.length+b.length+1=x.length:=by rw[← ln,e1,length_append,length_cons]; omega
  have sc:=split_cut e1 e2;have aa:Asc ⟨a.toArray⟩:=asc_mk hx fun c hc=>by rw[e1]; exact mem_append_left _ hc
  have ab:Asc ⟨b.toArray⟩:=asc_mk hx fun c hc=>by rw[e1]; exact mem_append_right _ (mem_cons_of_mem _ hc)
  have nu:numO x.cps.toList=match topO a,whO b with
   | some t,some n=>if 2≤n∧Int.gcd t n=1 then some (t,n) else none
   | _,_=>none:=by unfold numO; rw[e] <;> rfl
  by_cases hb:47∈b
  ·have s2:=split_two hb;have wb:whO b=none:=by
    unfold whO;rw[if_neg];unfold whB;rw[show b.all dgB=false from List.all_eq_false.mpr ⟨47,hb,by decide⟩];simp
   refine i_spK rfl (by omega) (le_trans (split_many x 47) (by omega)) ?_;rw[sc];walk_at "ts";refine i_oQ (d:=.int ((⟨a.toArray⟩::Txt.split (⟨b.toArray⟩:PySem.Str) ⟨#[47]⟩).map PyData.str).length) rfl ?_;walk_at "ts";rw[decide_eq_true (show(2:Int)<(((⟨a.toArray⟩::Txt.split (⟨b.toArray⟩:PySem.Str) ⟨#[47]⟩).map PyData.str).length:Int) by rw[length_map,length_cons]; omega)];walk_at "ts";unfold numD at q;rw[nu,wb] at q
   cases h:topO a with
   | none=>rw[h] at q; exact q
   | some t=>rw[h] at q; exact q
  have sb:Txt.split (⟨b.toArray⟩:PySem.Str) ⟨#[47]⟩=[⟨b.toArray⟩]:=split_none hb;rw[sb] at sc;refine i_spK rfl (by omega) (by rw[sc]; exact Nat.le_of_ble_eq_true rfl) ?_;rw[sc];walk_at "ts";refine i_oQ (d:=.int 2) rfl ?_;walk_at "ts";rw[decide_eq_false (show ¬((2:Int)<2) by decide)];walk_at "ts";unfold b_number_in_r2;walk_at "ts";refine i_oQ (d:=.str ⟨a.toArray⟩) rfl ?_;walk_at "ts";refine t_top aa (by show a.toArray.size≤700; simp; omega) ?_;walk_at "ts";refine i_oQ (d:=.int 2) rfl ?_;walk_at "ts";rw[decide_eq_false (show ¬((2:Int)=1) by decide)];walk_at "ts";unfold b_number_in_r1;walk_at "ts";refine i_oQ (d:=.str ⟨b.toArray⟩) rfl ?_;walk_at "ts";refine t_wh ab (by show b.toArray.size≤700; simp; omega) ?_;walk_at "ts";unfold numD at q;rw[nu] at q;unfold topD whD
  cases h1:topO a with
  | none=>
   rw[h1] at q;rw[oI_n]
   cases h2:whO b with
   | none=>
    rw[oN_n];walk_at "ts";refine⟨good_none,good_int _,iteT ?_⟩;walk_at "ts";refine t_isn (.inl ⟨rfl,.inl rfl⟩) ?_;walk_at "ts";exact q
   | some n=>
    rw[oN_s];walk_at "ts"
    by_cases n1:n=1
    ·rw[decide_eq_true (show(n:Int)=1 by omega)];walk_at "ts";exact q
    ·rw[decide_eq_false (show ¬(n:Int)=1 by omega)];walk_at "ts";refine t_isn (.inl ⟨rfl,.inr ⟨_,rfl⟩⟩) ?_;walk_at "ts";exact q
  | some t=>
   rw[h1] at q;rw[oI_s]
   cases h2:whO b with
   | none=>
    rw[h2] at q;rw[oN_n];walk_at "ts";refine⟨good_none,good_int _,iteT ?_⟩;walk_at "ts";refine t_isn (.inr ⟨⟨_,rfl⟩,rfl⟩) ?_;walk_at "ts";exact q
   | some n=>
    rw[h2] at q;dsimp only at q;rw[oN_s];walk_at "ts"
    by_cases n1:n=1
    ·rw[decide_eq_true (show(n:Int)=1 by omega)];rw[if_neg (by omega)] at q;walk_at "ts";exact q
    ·rw[decide_eq_false (show ¬(n:Int)=1 by omega)];walk_at "ts";refine t_isn2 ?_
     by_cases g:1≤n∧Int.gcd t n=1
     ·rw[if_pos ⟨by omega,g.2⟩] at q;rw[decide_eq_true g.1,decide_eq_true g.2,Bool.and_true];walk_at "ts";exact q
     ·rw[if_neg (fun z=>g ⟨by omega,z.2⟩)] at q;rw[show(decide (1≤n)&&decide (Int.gcd t n=1))=false from by rw[← Bool.decide_and]; exact decide_eq_false g];walk_at "ts";exact q
end
section
open PySem.NumText
variable {Q:Rv→Prop}
theorem dv_snoc (l:List Nat)(c:Nat):digitsVal (l++[c])=digitsVal l*10+(c-48):=by
 unfold digitsVal;rw[List.foldl_append];rfl
theorem dv_go:∀(l:List Nat) (a:Nat),AllDigits l→l.foldl (fun acc c=>acc*10+(c-48)) a<(a+1)*10^l.length
 | [],a,_=>by simp
 | c::r,a,h=>by
  have h1:=dv_go r (a*10+(c-48)) h.tail;have h2:=h.head;have h3:(a*10+(c-48)+1)*10^r.length≤((a+1)*10)*10^r.length:=Nat.mul_le_mul_right _ (by omega);rw[List.foldl_cons,length_cons,Nat.pow_succ,Nat.mul_comm (10^r.length) 10,←Nat.mul_assoc];exact lt_of_lt_of_le h1 h3
theorem dv_lt (l:List Nat)(h:AllDigits l):digitsVal l<10^l.length:=by
 have:=dv_go l 0 h;rw[Nat.zero_add,Nat.one_mul] at this;exact this
theorem idx_fig {c:Nat}(h:48≤c∧c≤57):Builtin.Str.occurrences ("0123456789" : PySem.Str) ⟨#[c]⟩ 0 ("0123456789" : PySem.Str).length 1=[c-48]:=by
 obtain⟨h1,h2⟩:=h;have:c=48∨c=49∨c=50∨c=51∨c=52∨c=53∨c=54∨c=55∨c=56∨c=57:=by omega
 rcases this with rfl|rfl|rfl|rfl|rfl|rfl|rfl|rfl|rfl|rfl<;>decide +kernel
theorem wo_some {l:List Nat}(h1:l≠[])(h2:l.length≤60)(h3:l.all dgB=true)(h4:l[0]?=some 48→l=[48]):whO l=some (digitsVal l):=by
 refine if_pos ?_;unfold whB;rw[h3,decide_eq_true h2]
 cases l with
 | nil=>exact absurd rfl h1
 | cons c r=>
  by_cases z:(c::r)[0]?=some 48
  ·rw[h4 z]; decide
  ·rw[decide_eq_false z]; rfl
theorem wo_none {l:List Nat}(h:l.all dgB=false∨(l[0]?=some 48∧l≠[48])):whO l=none:=by
 refine if_neg ?_;unfold whB;rcases h with h|⟨h,h2⟩
 ·rw[h]; simp
 ·rw[decide_eq_true h,decide_eq_false h2]; simp
theorem t_lw {x:PySem.Str}(hx:Asc x)(hl:x.length≤700)(q:Q (.val (whD x.cps.toList))):cP [.val (.str x)] Q:=by
 have ln:=len_list x;refine i_fn ?_;unfold b_law_whole;walk_at "us";refine⟨cB hx,cB (asc_of (by decide +kernel)),?_⟩;rw[eqv_st]
 by_cases z0:x = ""
 ·rw[decide_eq_true z0];walk_at "us";rw[z0] at q;exact q
 have ne:x.cps.toList≠[]:=fun e=>z0 (str_nil e);rw[decide_eq_false z0];walk_at "us";refine i_lsK (by omega) ?_;walk_at "us"
 by_cases z1:60<x.length
 ·rw[decide_eq_true (show(60:Int)<(x.length:Int) by omega)];walk_at "us";rw[wd_none (wh_long (by omega))] at q;exact q
 rw[decide_eq_false (show ¬((60:Int)<(x.length:Int)) by omega)];walk_at "us";obtain⟨c,r,hcr⟩:=List.exists_cons_of_ne_nil ne;refine i_xsK (c:=c) (by omega) (by rw[hcr]; exact at0 c r) ?_;walk_at "us";refine⟨cB (fun z hz=>by
  have:z=c:=by simpa using hz
  rw[this];exact hx c (by rw[hcr]; simp)),cB (asc_of (by decide +kernel)),?_⟩
 have fin:(c=48→x = "0")→b_law_whole_r3 [.val (.str x),.no,.no] fun fl=>match fl with
   | .rt rv=>Q rv
   | .nx _=>Q (.val .none)
   | _=>False:=fun h=>by
  unfold b_law_whole_r3;walk_at "us";refine for_inv (fun i Γ=>∃ z,Γ=[.val (.str x),.val (.int ((digitsVal (x.cps.toList.take i):Nat):Int)),z]∧(x.cps.toList.take i).all dgB=true) ⟨_,rfl,rfl⟩ ?_ ?_
  ·rintro i d Γ K hd ⟨z,rfl,ha⟩ hK;obtain⟨c,hc,rfl⟩:∃ c,x.cps.toList[i]?=some c∧d=.str ⟨#[c]⟩:=by
    unfold L2.VS.signs at hd;rw[getElem?_map,Option.map_eq_some_iff] at hd;obtain⟨c,h1,h2⟩:=hd;exact⟨c,h1,h2.symm⟩
   have il:i<x.cps.toList.length:=(List.getElem?_eq_some_iff.mp hc).1;have tk:x.cps.toList.take (i+1)=x.cps.toList.take i++[c]:=by rw[List.take_succ,hc]; rfl
   unfold b_law_whole_l1;walk_at "us";rw[inS_fig]
   cases hb:dgB c with
   | false=>
    walk_at "us";refine hK.rt _ ?_;rw[wd_none (wo_none (.inl (List.all_eq_false.mpr ⟨c,mem_of_getElem? hc,by rw[hb]; decide⟩)))] at q;exact q
   | true=>
    walk_at "us";unfold b_law_whole_r2;walk_at "us";have dl:=dv_lt (x.cps.toList.take i) fun d hd=>dgB_iff.mp (all_eq_true.mp ha d hd);have d2:digitsVal (x.cps.toList.take i)<10^60:=lt_of_lt_of_le dl (pow_le_pow_right (by decide) (by rw[List.length_take]; omega));refine⟨mulB (k:=31) (m:=240) (by show Int.natAbs 10<2^31; decide) (by show Int.natAbs _<2^240; exact lt_trans (by rw[natAbs_natCast]; exact d2) (by decide)),?_⟩;walk_at "us";refine i_ixsJ (idx_fig (dgB_iff.mp hb)) ?_;walk_at "us";refine hK.nx _ ⟨.val (.str ⟨#[c]⟩),?_,by rw[tk,List.all_append,ha]; simp[hb]⟩;have e:(10:Int)*((digitsVal (x.cps.toList.take i):Nat):Int)+((c-48:Nat):Int)=((digitsVal (x.cps.toList.take (i+1)):Nat):Int):=by
     rw[tk,dv_snoc]
     push_cast
     omega
    rw[e];rfl
  ·rintro Γ ⟨z,rfl,ha⟩;have sl:(L2.VS.signs x).length=x.cps.toList.length:=by unfold L2.VS.signs; rw[length_map]
   rw[sl,List.take_length] at ha ⊢;unfold b_law_whole_r1;walk_at "us";rw[wd_int (wo_some ne (by omega) ha fun e=>by
    rw[hcr] at e;have:=h (by simpa using e);rw[this];decide +kernel)] at q
   exact q
 rw[eqv_st]
 by_cases z:c=48
 ·rw[decide_eq_true (one_zero.mpr z)];walk_at "us";refine⟨cB hx,cB (asc_of (by decide +kernel)),?_⟩;rw[eqv_st]
  by_cases z2:x = "0"
  ·rw[decide_eq_true z2];walk_at "us";exact fin fun _=>z2
  ·rw[decide_eq_false z2];walk_at "us";rw[wd_none (wo_none (.inr ⟨by rw[hcr,z]; rfl,fun e=>z2 (str_ext (by rw[e]; decide +kernel))⟩))] at q;exact q
 ·rw[decide_eq_false (fun e=>z (one_zero.mp e))];walk_at "us";exact fin fun e=>absurd e z
end
section
open PySem.NumText
variable {Q:Rv→Prop}
theorem cutTo {x:PySem.Str}{a b:List Nat}(h:x.cps.toList=a++b):cutS x none (some (a.length:Int))=⟨a.toArray⟩:=by
 have e:cutS x none (some (a.length:Int))=StrLaws.sliceText x none (some (a.length:Int)):=rfl;rw[e,StrLaws.sliceText_to ⟨by omega,by rw[h,length_append]; omega⟩,h];simp
theorem cutFrom {x:PySem.Str}{a b:List Nat}(h:x.cps.toList=a++b):cutS x (some (a.length:Int)) none=⟨b.toArray⟩:=by
 have e:cutS x (some (a.length:Int)) none=StrLaws.sliceText x (some (a.length:Int)) none:=rfl;rw[e,StrLaws.sliceText_from ⟨by omega,by rw[h,length_append]; omega⟩,h];simp;exact List.take_of_length_le (by omega)
theorem asc_cut {x:PySem.Str}{lo hi:Option Int}(hx:Asc x):Asc (cutS x lo hi):=by
 unfold cutS
 split
 ·exact hx
 ·refine asc_mk hx fun c hc=>?_;obtain⟨i,_,h⟩:=mem_filterMap.mp hc;exact Array.mem_toList_iff.mpr (Array.mem_of_getElem? h)
theorem len_cut {x:PySem.Str}{lo hi:Option Int}:(cutS x lo hi).length≤x.length:=by
 unfold cutS
 split
 ·exact le_refl _
 ·show(List.toArray _).size≤_
  rw[size_toArray];refine le_trans (List.length_filterMap_le _ _) ?_;unfold Builtin.Str.strSliceIndices;dsimp only;refine sliceRange_length_le _ _ _ _ (fun _=>⟨?_,?_⟩) fun z=>absurd (by decide) z
  ·cases lo with
   | none=>simp
   | some i=>simp only[]; split<;>omega
  ·cases hi with
   | none=>simp
   | some i=>simp only[]; split<;>omega
theorem cut_head {x:PySem.Str}:(cutS x none (some 1) = "-")↔x.cps.toList[0]?=some 45:=by
 cases e:x.cps.toList with
 | nil=>
  have:x = "" := str_nil e;subst this;constructor
  ·intro z; exact absurd z (by decide +kernel)
  ·intro z; cases z
 | cons c r=>
  rw[show(1:Int)=(([c]:List Nat).length:Int) from rfl,cutTo (a:=[c]) (b:=r) e];constructor
  ·intro z;have:=congrArg (fun s:PySem.Str=>s.cps.toList) z;have e2:(PySem.Str.ofString "-").cps.toList=[45]:=by decide +kernel
   simpa [e2] using this
  ·intro z;have:c=45:=by simpa using z
   subst this;exact str_ext (by decide +kernel)
theorem eqv_two (a b c d:Int):PyData.eqv (.tuple [.int a,.int b]) (.tuple [.int c,.int d])=decide (a=c∧b=d):=by
 show(PyData.eqv (.int a) (.int c)&&(PyData.eqv (.int b) (.int d)&&true))=_
 rw[eqv_int,eqv_int,Bool.and_true,Bool.decide_and]
theorem gd_two (a b:Int):Gd 1 (.tuple [.int a,.int b]):=gd_tup (n:=0) fun d h=>by
 simp only[mem_cons,not_mem_nil,or_false] at h;rcases h with rfl|rfl<;>exact gd_int _
theorem low_same {a b:Int}(h:0<b):((Rat.divInt a b).num=a∧((Rat.divInt a b).den:Int)=b)↔Int.gcd a b=1:=by
 obtain⟨h1,h2⟩:=norm_pos (t:=a) (b:=b) h;rw[fd] at h1 h2;constructor
 ·rintro⟨_,e⟩
  rw[← h2] at e;have g0:(Int.gcd a b)≠0:=fun z=>by have:=Int.gcd_eq_zero_iff.mp z; omega
  rcases Nat.lt_or_ge 1 (Int.gcd a b) with z|z
  ·have:=Int.ediv_lt_self_of_pos_of_ne_one h (y:=((Int.gcd a b:Nat):Int)) (by omega);omega
  ·omega
 ·intro g;rw[g] at h1 h2;exact⟨by rw[← h1]; simp,by rw[← h2]; simp⟩
theorem wo_lt {l:List Nat}{m:Nat}(h:whO l=some m):m<10^60:=by
 unfold whO at h
 split at h
 ·rename_i z
  cases h
  unfold whB at z;rw[and_eq_true,and_eq_true,and_eq_true] at z;exact lt_of_lt_of_le (dv_lt l fun c hc=>dgB_iff.mp (all_eq_true.mp z.1.2 c hc)) (pow_le_pow_right (by decide) (of_decide_eq_true z.1.1.2))
 ·cases h
abbrev rtK (Q:Rv→Prop):Fl→Prop:=fun fl=>match fl with
 | .rt rv=>Q rv
 | .nx _=>Q (.val .none)
 | _=>False
def dueO (o:Option Int)(n:Nat):Option (Int×Nat):=o.bind fun t=>if Int.gcd t n=1 then some (t,n) else none
theorem t_due2 {u w:Sl}{z:PySem.Str}{n:Nat}{s:Int}(hs:s=1∨s = -1)(hz:Asc z)(hl:z.length≤700)(hn:1≤n)(hn2:n<10^60)
  (q:Q (.val (oT (dueO ((whO z.cps.toList).bind fun m=>if s = -1∧m=0 then none else some (s*m)) n)))):b_law_due_r2 [u,.val (.str z),.val (.int (n:Int)),w,.val (.int s),.no] (rtK Q):=by
 unfold b_law_due_r2;walk_at "us";refine t_lw hz hl ?_
 cases e:whO z.cps.toList with
 | none=>
  rw[wd_none e];rw[e] at q;walk_at "us";exact q
 | some m=>
  rw[wd_int e];rw[e] at q;have fin:(dueO (some (s*m)) n=if Int.gcd m n=1 then some (s*(m:Int),n) else none):=by
   show(if Int.gcd (s*m) n=1 then some (s*(m:Int),n) else none)=_
   have:Int.gcd (s*m) n=Int.gcd m n:=by
    rcases hs with rfl|rfl
    ·rw[one_mul]
    ·rw[Int.neg_mul,one_mul,Int.neg_gcd]
   rw[this]
  have hm:m<10^60:=wo_lt e;walk_at "us";rcases hs with rfl|rfl
  ·rw[decide_eq_false (show ¬(1:Int) = -1 by decide)];rw[show((some m).bind fun m=>if (1:Int) = -1∧m=0 then none else some ((1:Int)*(m:Int)))=some ((1:Int)*(m:Int)) from by show(if (1:Int) = -1∧m=0 then none else some ((1:Int)*(m:Int)))=_; rw[if_neg (fun z=>absurd z.1 (by decide))],fin] at q;walk_at "us";refine t_lowestC (t:=(m:Int)) (b:=(n:Int)) (by omega) (bt_60 (by omega)) ?_;walk_at "us";refine⟨(gd_num _).good,(gd_two _ _).good,?_⟩;unfold dNum;rw[eqv_two]
   by_cases g:Int.gcd m n=1
   ·rw[decide_eq_true ((low_same (by omega)).mpr g)];walk_at "us";unfold b_law_due_r1;walk_at "us";refine⟨mulB (k:=31) (m:=240) (by show Int.natAbs _<2^31; decide) (by show Int.natAbs _<2^240; exact lt_trans (by rw[natAbs_natCast]; exact hm) (by decide)),?_⟩;walk_at "us";rw[if_pos g] at q;exact q
   ·rw[decide_eq_false (fun z=>g ((low_same (by omega)).mp z))];walk_at "us";rw[if_neg g] at q;exact q
  ·rw[decide_eq_true rfl];walk_at "us"
   by_cases m0:m=0
   ·rw[decide_eq_true (show(m:Int)=0 by omega)];walk_at "us";rw[show((some m).bind fun m=>if (-1:Int) = -1∧m=0 then none else some ((-1:Int)*(m:Int)))=none from if_pos ⟨rfl,m0⟩] at q;exact q
   rw[decide_eq_false (show ¬(m:Int)=0 by omega)];rw[show((some m).bind fun m=>if (-1:Int) = -1∧m=0 then none else some ((-1:Int)*(m:Int)))=some ((-1:Int)*(m:Int)) from if_neg (fun z=>m0 z.2),fin] at q;walk_at "us";refine t_lowestC (t:=(m:Int)) (b:=(n:Int)) (by omega) (bt_60 (by omega)) ?_;walk_at "us";refine⟨(gd_num _).good,(gd_two _ _).good,?_⟩;unfold dNum;rw[eqv_two]
   by_cases g:Int.gcd m n=1
   ·rw[decide_eq_true ((low_same (by omega)).mpr g)];walk_at "us";unfold b_law_due_r1;walk_at "us";refine⟨mulB (k:=31) (m:=240) (by show Int.natAbs _<2^31; decide) (by show Int.natAbs _<2^240; exact lt_trans (by rw[natAbs_natCast]; exact hm) (by decide)),?_⟩;walk_at "us";rw[if_pos g] at q;exact q
   ·rw[decide_eq_false (fun z=>g ((low_same (by omega)).mp z))];walk_at "us";rw[if_neg g] at q;exact q
theorem t_due3 {u w:Sl}{y:PySem.Str}{n:Nat}(hy:Asc y)(hl:y.length≤700)(hn:1≤n)(hn2:n<10^60)(q:Q (.val (oT (dueO (topO y.cps.toList) n)))):b_law_due_r3 [u,.val (.str y),.val (.int (n:Int)),w,.no,.no] (rtK Q):=by
 have ln:=len_list y;unfold b_law_due_r3;walk_at "us";refine i_sliK (by omega) ?_;walk_at "us";refine⟨cB (asc_cut hy),cB (asc_of (by decide +kernel)),?_⟩;rw[eqv_st]
 by_cases z:y.cps.toList[0]?=some 45
 ·rw[decide_eq_true (cut_head.mpr z)];walk_at "us";refine i_sliK (by omega) ?_;walk_at "us";obtain⟨r,hr⟩:∃ r,y.cps.toList=45::r:=by
   cases e:y.cps.toList with
   | nil=>rw[e] at z; cases z
   | cons a b=>rw[e] at z; exact⟨b,by rw[show a=45 by simpa using z]⟩
  rw[cut1 hr];refine t_due2 (.inr rfl) (asc_mk hy fun c hc=>by rw[hr]; exact mem_cons_of_mem _ hc) (by show(r.toArray).size≤700; rw[hr] at ln; simp at ln ⊢; omega) hn hn2 ?_;have tl:topO y.cps.toList=(whO r).bind fun m=>if (-1:Int) = -1∧m=0 then none else some ((-1:Int)*(m:Int)):=by
   unfold topO;rw[if_pos z,hr]
   show(match whO r with|some n=>if n=0 then none else some (-(n:Int))|none=>none)=_
   cases whO r with
   | none=>rfl
   | some m=>
    by_cases m0:m=0
    ·show(if m=0 then none else some (-(m:Int)))=(if (-1:Int) = -1∧m=0 then none else some ((-1:Int)*(m:Int)))
     rw[if_pos m0,if_pos ⟨rfl,m0⟩]
    ·show(if m=0 then none else some (-(m:Int)))=(if (-1:Int) = -1∧m=0 then none else some ((-1:Int)*(m:Int)))
     rw[if_neg m0,if_neg (fun z=>m0 z.2),Int.neg_mul,one_mul]
  rw[tl] at q;exact q
 ·rw[decide_eq_false (fun e=>z (cut_head.mp e))];walk_at "us";refine t_due2 (.inl rfl) hy hl hn hn2 ?_;have tl:topO y.cps.toList=(whO y.cps.toList).bind fun m=>if (1:Int) = -1∧m=0 then none else some ((1:Int)*(m:Int)):=by
   unfold topO;rw[if_neg z]
   cases whO y.cps.toList with
   | none=>rfl
   | some m=>
    show some (m:Int)=(if (1:Int) = -1∧m=0 then none else some ((1:Int)*(m:Int)));rw[if_neg (fun z=>absurd z.1 (by decide)),one_mul]
  rw[tl] at q;exact q
theorem slash_in (x:PySem.Str):inS ("/" : PySem.Str) x=decide (47∈x.cps.toList):=by
 unfold inS;rw[slash1,StrLaws.found_one]
theorem top_due (l:List Nat):dueO (topO l) 1=(topO l).map fun t=>(t,1):=by
 cases topO l with
 | none=>rfl
 | some t=>
  show(if Int.gcd t ((1:Nat):Int)=1 then some (t,1) else none)=some (t,1)
  rw[if_pos (by simp)]
theorem t_due {x:PySem.Str}(hx:Asc x)(hl:x.length≤700)(q:Q (.val (numD x.cps.toList))):m_law_due [.val (.str x)] Q:=by
 have ln:=len_list x;refine i_fn ?_;unfold b_law_due;walk_at "us";rw[slash_in];unfold numD at q
 cases e:cut47 x.cps.toList with
 | none=>
  rw[decide_eq_false (cut47_none.mp e)];walk_at "us";refine t_due3 (n:=1) hx hl (by decide) (by decide) ?_;have nu:numO x.cps.toList=(topO x.cps.toList).map fun t=>(t,1):=by unfold numO; rw[e]
  rw[nu] at q;rw[top_due];exact q
 | some p=>
  obtain⟨a,b⟩:=p;obtain⟨e1,e2⟩:=cut47_some e;have la:a.length+b.length+1=x.length:=by rw[← ln,e1,length_append,length_cons]; omega
  have aa:Asc ⟨a.toArray⟩:=asc_mk hx fun c hc=>by rw[e1]; exact mem_append_left _ hc
  have ab:Asc ⟨b.toArray⟩:=asc_mk hx fun c hc=>by rw[e1]; exact mem_append_right _ (mem_cons_of_mem _ hc)
  have nu:numO x.cps.toList=match topO a,whO b with
   | some t,some n=>if 2≤n∧Int.gcd t n=1 then some (t,n) else none
   | _,_=>none:=by unfold numO; rw[e] <;> rfl
  rw[nu] at q;rw[decide_eq_true (show 47∈x.cps.toList by rw[e1]; simp)];walk_at "us";refine i_ixsJ (r:=[]) (by rw[slash1]; exact occ_first e1 e2) ?_;walk_at "us";refine i_sliK (by omega) ?_;walk_at "us";rw[cutTo e1];refine i_sliK (by omega) ?_;walk_at "us";have e3:x.cps.toList=(a++[47])++b:=by rw[e1]; simp
  have e4:(a.length:Int)+1=((a++[47]).length:Int):=by simp
  rw[e4,cutFrom e3];refine t_lw ab (by show b.toArray.size≤700; simp; omega) ?_
  cases h2:whO b with
  | none=>
   rw[wd_none (l:=b) h2];rw[h2] at q;walk_at "us"
   cases h1:topO a with
   | none=>rw[h1] at q; exact q
   | some t=>rw[h1] at q; exact q
  | some n=>
   rw[wd_int (l:=b) h2];rw[h2] at q;walk_at "us"
   by_cases n2:n<2
   ·rw[decide_eq_true (show(n:Int)<2 by omega)];walk_at "us"
    cases h1:topO a with
    | none=>rw[h1] at q; exact q
    | some t=>
     rw[h1] at q;dsimp only at q;rw[if_neg (by omega)] at q;exact q
   ·rw[decide_eq_false (show ¬(n:Int)<2 by omega)];walk_at "us";refine t_due3 (n:=n) aa (by show a.toArray.size≤700; simp; omega) (by omega) (wo_lt h2) ?_;show Q (.val (oT (dueO (topO a) n)))
    cases h1:topO a with
    | none=>rw[h1] at q; exact q
    | some t=>
     rw[h1] at q;dsimp only at q;have:dueO (some t) n=if 2≤n∧Int.gcd t n=1 then some (t,n) else none:=by
      show(if Int.gcd t n=1 then some (t,n) else none)=_
      by_cases g:Int.gcd t n=1
      ·rw[if_pos g,if_pos ⟨by omega,g⟩]
      ·rw[if_neg g,if_neg (fun z=>g z.2)]
     rw[this];exact q
end
section
open PySem.NumText
variable {Q:Rv→Prop}
abbrev noTx (c:XA):Rv:=.box (bExc c.nt (some ("line", .int 0)))
theorem t_rn {c:XA}{x:PySem.Str}(hx:Asc x)(hl:x.length≤700)(q:match numO x.cps.toList with|some _=>Q (.val (numD x.cps.toList))|none=>Q (noTx c)):bA c [.val (.str x)] Q:=by
 refine i_fn ?_;unfold b_read_number_c;walk_at "us";refine t_num hx hl ?_;unfold numD at q ⊢
 cases e:numO x.cps.toList with
 | none=>
  rw[e] at q;rw[show oT none=.none from rfl];walk_at "us";exact⟨0,rfl,by decide,q⟩
 | some p=>
  rw[e] at q;rw[show oT (some p)=.tuple [.int p.1,.int (p.2:Int)] from rfl] at q ⊢;walk_at "us";unfold b_read_number_c_r1;walk_at "us";exact q
theorem t_rn0 {c:XA}{d:D}(hd:subT (kindD d) "str" = false)(q:Q (noTx c)):bA c [.val d] Q:=by
 refine i_fn ?_;unfold b_read_number_c;walk_at "us";rw[hd];walk_at "us";exact⟨0,rfl,by decide,q⟩
theorem t_rd3 {c:XA}{u v:Sl}(q:Q (.val .none)):b_law_read_c_r3 c [u,v,.pub (pExc c.nt (some ("line", .int 0))),.no] (rtK Q):=by
 have lk:∀ b:Bool,List.lookup c.nt [(c.nt,b)]=some b:=fun b=>by simp[List.lookup]
 unfold b_law_read_c_r3;walk_at "us";refine i_isL (C:=c.nt) (o:=some ("line", .int 0)) rfl (lk true) ?_;walk_at "us";refine i_isL (C:=c.nt) (o:=some ("line", .int 0)) rfl (lk true) ?_;walk_at "us";unfold b_law_read_c_r2;walk_at "us";refine i_isL (C:=c.nt) (o:=some ("line", .int 0)) rfl (lk false) ?_;walk_at "us";refine i_xfld (C:=c.nt) (d:=.int 0) rfl (mem_singleton.mpr rfl) ?_;walk_at "us";refine i_xfld (C:=c.nt) (d:=.int 0) rfl (mem_singleton.mpr rfl) ?_;walk_at "us";unfold b_law_read_c_r1;walk_at "us";exact q
theorem t_read {x:PySem.Str}(hx:Asc x)(hl:x.length≤700)(q:Q (.val (numD x.cps.toList))):cM [.val (.str x)] Q:=by
 intro c;refine i_fn ?_;unfold b_law_read_c;walk_at "us";unfold mTrySet
 show(1:Nat)=1∧bA c [.val (.str x)] _
 refine⟨rfl,t_rn hx hl ?_⟩
 cases e:numO x.cps.toList with
 | none=>
  refine xsp_exc (mem_singleton.mpr rfl) ?_;unfold enX;walk_at "us";refine i_isNX2 (C:=c.nt) (o:=some ("line", .int 0)) rfl ?_;walk_at "us";refine t_rd3 ?_;unfold numD at q;rw[e] at q;exact q
 | some p=>
  refine xsp_val ?_;walk_at "us";refine i_isNX1 (d:=.none) rfl ?_;walk_at "us";exact q
theorem t_read0 {d:D}(hd:subT (kindD d) "str" = false)(q:Q (.val .none)):cM [.val d] Q:=by
 intro c;refine i_fn ?_;unfold b_law_read_c;walk_at "us";unfold mTrySet
 show(1:Nat)=1∧bA c [.val d] _
 refine⟨rfl,t_rn0 hd ?_⟩;refine xsp_exc (mem_singleton.mpr rfl) ?_;unfold enX;walk_at "us";refine i_isNX2 (C:=c.nt) (o:=some ("line", .int 0)) rfl ?_;walk_at "us";exact t_rd3 q
end
section
open PySem.NumText
variable {Q:Rv→Prop}
theorem t_great2 {f:Int}(f0:0≤f)(f1:f≤60)(q:∀ n:Nat,n<10^60→Q (.val (.int (n:Int)))):cQ [.pen,.val (.int f)] Q:=by
 refine i_fn ?_;unfold b_law_great;walk_at "us";refine⟨by unfold CDiv; omega,?_⟩;walk_at "us";refine⟨by omega,by omega,?_⟩;refine range_inv (fun j Γ=>∃ x r,Γ=[.pen,.val (.int f),.val (.int r),x]∧0≤r∧r<10^(9*j)) ⟨_,_,rfl,by decide,by decide⟩ ?_ ?_
 ·rintro j Γ K hj ⟨x,r,rfl,r0,r1⟩ hK;unfold b_law_great_l1;walk_at "us";refine⟨mulB (k:=240) (bt_p9 r0 r1 (by omega)) (m:=31) (by show Int.natAbs 1000000000<2^31; decide),?_⟩;walk_at "us";refine i_take (by decide) (by decide) fun d d0 d1=>?_;walk_at "us";refine hK.nx _ ⟨_,_,rfl,by omega,?_⟩;rw[p9];omega
 ·rintro Γ ⟨x,r,rfl,r0,r1⟩;unfold b_law_great_r1;walk_at "us";have h1:=emod_nonneg r (b:=1000000000000000000000000000000000000000000000000000000000000) (by decide);have h2:=emod_lt_of_pos r (b:=1000000000000000000000000000000000000000000000000000000000000) (by decide);refine⟨by decide,?_⟩;walk_at "us";obtain⟨n,hn⟩:=Int.eq_ofNat_of_zero_le h1;rw[hn] at h2 ⊢;exact q n (by omega)
theorem t_number (q:∀ r:Rat,Few60 r→Q (.val (dNum r))):m_law_number [.pen] Q:=by
 refine i_fn ?_;unfold b_law_number;walk_at "us";refine i_take (by decide) (by decide) fun w w0 w1=>?_;walk_at "us";refine iteD2 (fun c=>?_) (fun c=>?_)
 ·walk_at "us";refine i_take (by decide) (by decide) fun m m0 m1=>?_;walk_at "us";have:=q ((m-10:Int):Rat) ⟨by rw[Rat.num_intCast]; omega,by rw[Rat.den_intCast]; decide⟩;unfold dNum at this;rw[Rat.num_intCast,Rat.den_intCast] at this;exact this
 ·walk_at "us";unfold b_law_number_r2;walk_at "us";refine iteD2 (fun c2=>?_) (fun c2=>?_)
  ·walk_at "us";refine i_take (by decide) (by decide) fun m m0 m1=>?_;walk_at "us";refine i_take (by decide) (by decide) fun b b0 b1=>?_;walk_at "us";exact t_lowestC (by omega) (bt_60 (by omega)) (q _ (few_divInt (by omega) (by omega) (by omega)))
  ·walk_at "us";unfold b_law_number_r1;walk_at "us";refine i_take (by decide) (by decide) fun f f0 f1=>?_;walk_at "us";refine t_great2 f0 (by omega) fun m hm=>?_;walk_at "us";refine i_take (by decide) (by decide) fun s s0 s1=>?_;walk_at "us";obtain⟨e,he,he'⟩:∃ e:Int,ixD (.list [.int 1,.int (-1)]) (.int s)=some (.int e)∧(e=1∨e = -1):=by
    have hd:s=0∨s=1:=by omega
    rcases hd with rfl|rfl
    ·exact⟨1,rfl,.inl rfl⟩
    ·exact⟨-1,rfl,.inr rfl⟩
   refine i_oQ he ?_;walk_at "us";refine⟨mulB (k:=240) (m:=31) (show Int.natAbs _<2^240 from lt_trans (show _<10^60 by omega) (by decide)) (by show Int.natAbs _<2^31; rcases he' with rfl|rfl<;>decide),?_⟩;walk_at "us";refine i_take (by decide) (by decide) fun f' f0' f1'=>?_;walk_at "us";refine t_great2 f0' (by omega) fun n hn=>?_;walk_at "us";have h1:=emod_nonneg (n:Int) (b:=1000000000000000000000000000000000000000000000000000000000000-1) (by decide);have h2:=emod_lt_of_pos (n:Int) (b:=1000000000000000000000000000000000000000000000000000000000000-1) (by decide);refine⟨by decide,?_⟩;walk_at "us";obtain⟨i,hi,hi'⟩:∃ i:Int,(if decide (w=3)=true then(1:Int) else 0)=i∧(i=0∨i=1):=⟨_,rfl,by split<;>simp⟩;rw[hi];refine⟨mulB (k:=240) (m:=31) (show Int.natAbs _<2^240 from lt_trans (show _<10^60 by omega) (by decide)) (by show Int.natAbs _<2^31; rcases hi' with rfl|rfl<;>decide),?_⟩;walk_at "us";exact t_lowestC (by rcases hi' with rfl|rfl<;>omega) (bt_60 (by rcases hi' with rfl|rfl<;>omega)) (q _ (few_divInt (by rcases he' with rfl|rfl<;>omega) (by rcases hi' with rfl|rfl<;>omega) (by rcases hi' with rfl|rfl<;>omega)))
end
section
open PySem.NumText
variable {Q:Rv→Prop}
theorem at_some {l:List Nat}{i:Int}(h0:0≤i)(h1:i<(l.length:Int)):∃ c,atI l i=some c∧c∈l:=by
 obtain⟨k,rfl⟩:=Int.eq_ofNat_of_zero_le h0;have hk:k<l.length:=by omega
 exact⟨l[k],atI_nat (getElem?_eq_getElem hk),getElem_mem hk⟩
theorem ix_some {ds:List D}{i:Int}(h0:0≤i)(h1:i<(ds.length:Int)):∃ d,ixD (.list ds) (.int i)=some d∧d∈ds:=by
 obtain⟨k,rfl⟩:=Int.eq_ofNat_of_zero_le h0;have hk:k<ds.length:=by omega
 exact⟨ds[k],atI_nat (getElem?_eq_getElem hk),getElem_mem hk⟩
theorem tx_lenB {k m:Nat}(hk:1≤k)(h:m<10^k):(txI (m:Int)).length≤k:=by
 have:=dg_len (k:=k) hk h;rw[← tx_nat,len_list] at this;exact this
theorem txi_lenB {k:Nat}(hk:1≤k){i:Int}(h:i.natAbs<10^k):(txI i).length≤k+1:=by
 rcases eq_nat_or_neg i with⟨m,rfl|rfl⟩
 ·have:=tx_lenB (m:=m) hk (by omega); omega
 ·by_cases z:0<m
  ·rw[tx_neg' z,PySem.Str.length_append];have:=tx_lenB (m:=m) hk (by omega);have e:PySem.Str.length ("-" : PySem.Str)=1:=rfl;omega
  ·have:m=0:=by omega
   subst this;have:=tx_lenB (k:=k) (m:=0) hk (Nat.pow_pos (by decide));exact Nat.le_succ_of_le this
theorem l2_210 {i:Int}(h:i.natAbs<10^210):i.natAbs.log2<1920:=by
 by_cases z:i.natAbs=0
 ·rw[z]; decide
 ·exact(log2_lt z).mpr (lt_of_lt_of_le (lt_trans h (by decide:10^210<2^700)) (pow_le_pow_right (by decide) (by decide)))
theorem mul_ok:MulOk ("0" : PySem.Str) 60:=⟨by decide,fun _ _=>by decide +kernel,fun _ _=>by decide +kernel⟩
theorem mul_len:(Txt.mul ("0" : PySem.Str) 60).length=60:=by decide +kernel
theorem mul_asc:Asc (Txt.mul ("0" : PySem.Str) 60):=asc_of (by decide +kernel)
theorem asc_one {c:Nat}(h:c<128):Asc ⟨#[c]⟩:=fun z hz=>by
 have:z=c:=by simpa using hz
 omega
theorem sgn_asc:Asc ("0123456789-/ .+a;_" : PySem.Str):=asc_of (by decide +kernel)
structure Tx (x:PySem.Str):Prop where
 a:Asc x
 l:x.length≤700
theorem t_bent {r:Rat}(hr:Few60 r)(q:∀ x,Tx x→Q (.val (.str x))):m_law_bent [.pen,.val (dNum r),.val (.str (numT r))] Q:=by
 have hl:=numT_len hr;have ha:=asc_num r;have hd:=r.den_pos;refine i_fn ?_;unfold b_law_bent;walk_at "us";refine i_lsK (by omega) ?_;walk_at "us";refine i_take (by omega) (by omega) fun at' a0 a1=>?_;walk_at "us";refine i_take (by decide) (by decide) fun s s0 s1=>?_;walk_at "us";obtain⟨c,hc,hm⟩:=at_some (l:=("0123456789-/ .+a;_" : PySem.Str).cps.toList) s0 (by rw[len_list]; exact s1);have c1:=sgn_asc c hm;refine i_xsK (c:=c) (by decide +kernel) hc ?_;walk_at "us";have n1:(2*r.num).natAbs<10^61:=by have:=hr.1; omega
 have n2:(2*(r.den:Int)).natAbs<10^61:=by have:=hr.2; omega
 have b2:Bt 31 2:=by show Int.natAbs 2<2^31; decide
 have b3:Bt 240 r.num:=by show Int.natAbs _<2^240; exact lt_trans hr.1 (by decide)
 have b4:Bt 240 (r.den:Int):=by show Int.natAbs _<2^240; exact lt_trans (by rw[natAbs_natCast]; exact hr.2) (by decide)
 have t1:=txi_lenB (k:=61) (by decide) n1;have t2:=txi_lenB (k:=61) (by decide) n2;have s1':PySem.Str.length ("/" : PySem.Str)=1:=rfl;have sc:PySem.Str.length (⟨#[c]⟩:PySem.Str)=1:=rfl;have k1:=len_cut (x:=numT r) (lo:=none) (hi:=some at');have k2:=len_cut (x:=numT r) (lo:=some at') (hi:=none);have k3:=len_cut (x:=numT r) (lo:=some (at'+1)) (hi:=none);refine⟨mulB b2 b3,?_⟩;walk_at "us";refine i_stI (l2_210 (lt_trans n1 (by decide))) ?_;walk_at "us";refine i_saK (by rw[PySem.Str.length_append]; omega) ?_;walk_at "us";refine i_stI (l2_210 (lt_trans n2 (by decide))) ?_;walk_at "us";have u1:PySem.Str.length ("0" : PySem.Str)=1:=rfl;have u2:PySem.Str.length ("/1" : PySem.Str)=2:=rfl;have u3:PySem.Str.length (" " : PySem.Str)=1:=rfl;have u4:PySem.Str.length ("-" : PySem.Str)=1:=rfl;have u5:PySem.Str.length ("/0" : PySem.Str)=2:=rfl;have u6:PySem.Str.length ("+" : PySem.Str)=1:=rfl;have u7:=mul_len
 repeat ((first|refine i_saK (by simp only[PySem.Str.length_append]; omega) ?_|refine i_sliK (by omega) ?_|refine i_smJ mul_ok ?_); walk_at "us")
 refine i_take (by decide) (by decide) fun k k0 k1'=>?_;obtain⟨d,hd1,hd2⟩:=ix_some (ds:=[PyData.str (cutS (numT r) none (some at')++⟨#[c]⟩++cutS (numT r) (some at') none),.str (cutS (numT r) none (some at')++cutS (numT r) (some (at'+1)) none),.str (cutS (numT r) none (some at')++⟨#[c]⟩++cutS (numT r) (some (at'+1)) none),.str (txI (2*r.num)++("/" : PySem.Str)++txI (2*(r.den:Int)))]++[.str (("0" : PySem.Str)++numT r),.str (numT r++("/1" : PySem.Str)),.str (numT r++(" " : PySem.Str)),.str ((" " : PySem.Str)++numT r),.str (("-" : PySem.Str)++numT r),.str (numT r++("/0" : PySem.Str))]++[.str (("+" : PySem.Str)++numT r),.str (numT r++Txt.mul ("0" : PySem.Str) 60)]) k0 (by show k<12; exact k1');refine i_oQ hd1 ?_;have A1:=asc_cut (lo:=none) (hi:=some at') ha;have A2:=asc_cut (lo:=some at') (hi:=none) ha;have A3:=asc_cut (lo:=some (at'+1)) (hi:=none) ha;have A4:=asc_one c1;have L:∀{x:PySem.Str},(x.cps.toList.all fun c=>decide (c<128))=true→Asc x:=fun h=>asc_of h;simp only[mem_append,mem_cons,not_mem_nil,or_false] at hd2;have fin:∀ x:PySem.Str,d=.str x→Asc x→x.length≤700→Q (.val d):=fun x e h1 h2=>by rw[e]; exact q x ⟨h1,h2⟩
 rcases hd2 with((h|h|h|h)|(h|h|h|h|h|h))|(h|h)
 ·exact fin _ h ((A1.app A4).app A2) (by simp only[PySem.Str.length_append]; omega)
 ·exact fin _ h (A1.app A3) (by simp only[PySem.Str.length_append]; omega)
 ·exact fin _ h ((A1.app A4).app A3) (by simp only[PySem.Str.length_append]; omega)
 ·exact fin _ h (((asc_tx _).app (L (by decide +kernel))).app (asc_tx _)) (by simp only[PySem.Str.length_append]; omega)
 ·exact fin _ h (Asc.app (L (by decide +kernel)) ha) (by simp only[PySem.Str.length_append]; omega)
 ·exact fin _ h (ha.app (L (by decide +kernel))) (by simp only[PySem.Str.length_append]; omega)
 ·exact fin _ h (ha.app (L (by decide +kernel))) (by simp only[PySem.Str.length_append]; omega)
 ·exact fin _ h (Asc.app (L (by decide +kernel)) ha) (by simp only[PySem.Str.length_append]; omega)
 ·exact fin _ h (Asc.app (L (by decide +kernel)) ha) (by simp only[PySem.Str.length_append]; omega)
 ·exact fin _ h (ha.app (L (by decide +kernel))) (by simp only[PySem.Str.length_append]; omega)
 ·exact fin _ h (Asc.app (L (by decide +kernel)) ha) (by simp only[PySem.Str.length_append]; omega)
 ·exact fin _ h (ha.app mul_asc) (by simp only[PySem.Str.length_append]; omega)
end
section
open PySem.NumText
variable {Q:Rv→Prop}
def shT (t b:Int):PySem.Str:=if b=1 then txI t else txI t++("/" : PySem.Str)++txI b
theorem asc_sh (t b:Int):Asc (shT t b):=by
 unfold shT
 split
 ·exact asc_tx _
 ·exact((asc_tx _).app (asc_of (by decide +kernel))).app (asc_tx _)
theorem sh_len {t b:Int}(ht:t.natAbs<10^210)(hb:b.natAbs<10^210):(shT t b).length≤423:=by
 have h1:=txi_lenB (k:=210) (by decide) ht;have h2:=txi_lenB (k:=210) (by decide) hb;unfold shT
 split
 ·omega
 ·simp only[PySem.Str.length_append,cN]; omega
theorem t_showB {t b:Int}(ht:t.natAbs<10^210)(hb:b.natAbs<10^210)(q:Q (.val (.str (shT t b)))):bQ [.val (.tuple [.int t,.int b])] Q:=by
 have h3:=txi_lenB (k:=210) (by decide) ht;have h4:=txi_lenB (k:=210) (by decide) hb;refine i_fn ?_;unfold b_show_number;walk_at "us";refine i_oQ (d:=.int t) rfl ?_;walk_at "us";refine i_oQ (d:=.int b) rfl ?_;walk_at "us";unfold shT at q;refine iteD2 (fun c=>?_) (fun c=>?_)
 ·walk_at "us";refine i_stI (l2_210 ht) ?_;rw[if_pos c] at q;walk_at "us";exact q
 ·rw[if_neg c] at q;walk_at "us";refine⟨_,rfl,l2_210 ht,by rw[PySem.Str.length_append,cN]; omega,?_⟩;walk_at "us";refine⟨_,rfl,l2_210 hb,by rw[PySem.Str.length_append,PySem.Str.length_append,cN]; omega,?_⟩;walk_at "us";exact q
theorem dg_long {m:Nat}(h:10^60≤m):60<(dg m).length:=by
 apply Classical.byContradiction;intro n;have:=dv_lt (dg m) (dg_all m);rw[dg_val] at this;have h2:(10:Nat)^(dg m).length≤10^60:=pow_le_pow_right (by decide) (by omega);omega
theorem top_far {i:Int}(h:10^60≤i.natAbs):topO (txI i).cps.toList=none:=by
 unfold topO;rcases eq_nat_or_neg i with⟨m,rfl|rfl⟩
 ·rw[tx_nat,if_neg,wh_long (dg_long (by omega))]
  ·rfl
  ·intro e;have:=dg_all m 45 (mem_of_getElem? e);omega
 ·have z:0<m:=by omega
  rw[tx_neg z,if_pos (show(45::dg m)[0]?=some 45 from rfl)]
  show(match whO (dg m) with|some n=>if n=0 then none else some (-(n:Int))|none=>none)=none
  rw[wh_long (dg_long (by omega))]
theorem num_far {t b:Int}(hb:1≤b)(h:10^60≤t.natAbs∨10^60≤b):numO (shT t b).cps.toList=none:=by
 have f1:∀ i,47∉(txI i).cps.toList:=fun i hc=>by have:=tx_signs i 47 hc; omega
 unfold shT
 by_cases z:b=1
 ·rw[if_pos z];unfold numO;rw[cut47_none.mpr (f1 _)];dsimp only;rw[top_far (h.resolve_right (by omega))];rfl
 ·rw[if_neg z];obtain⟨m,rfl⟩:=Int.eq_ofNat_of_zero_le (show 0≤b by omega);have e:(txI t++("/" : PySem.Str)++txI (m:Int)).cps.toList=(txI t).cps.toList++47::(txI (m:Int)).cps.toList:=by
   rw[PySem.Str.cps_append,PySem.Str.cps_append,toList_append,toList_append,append_assoc];rfl
  have c:cut47 ((txI t).cps.toList++47::(txI (m:Int)).cps.toList)=some ((txI t).cps.toList,(txI (m:Int)).cps.toList):=by
   cases q:cut47 ((txI t).cps.toList++47::(txI (m:Int)).cps.toList) with
   | none=>exact absurd (show 47∈_ from by simp) (cut47_none.mp q)
   | some p=>
    obtain⟨a,b⟩:=p;obtain⟨e1,e2⟩:=cut47_some q;obtain⟨rfl,rfl⟩:=cut_at (f1 _) e2 e1;rfl
  rw[e];unfold numO;rw[c,tx_nat];dsimp only;rcases h with h|h
  ·rw[top_far h]
  ·rw[wh_long (dg_long (by omega))]
   cases topO (txI t).cps.toList<;>rfl
end
section
open PySem.NumText
variable {Q:Rv→Prop}
theorem far_one {t b T:Int}{u z:Sl}{K:Fl→Prop}(ht:t.natAbs<10^210)(hb:1≤b)(hb2:b.natAbs<10^210)(h:10^60≤t.natAbs∨10^60≤b)(hK:∀ y z,K (.nx [.pen,.val (.int T),u,y,z])):b_law_far_right_l1 [.pen,.val (.int T),u,.val (.tuple [.int t,.int b]),z] K:=by
 have h3:=txi_lenB (k:=210) (by decide) ht;have h4:=txi_lenB (k:=210) (by decide) hb2;have hs:=sh_len ht hb2;have fin:b_law_far_right_r2 [.pen,.val (.int T),u,.val (.tuple [.int t,.int b]),.val (.str (shT t b))] K:=by
  unfold b_law_far_right_r2;walk_at "us";refine t_showB ht hb2 ?_;walk_at "us";refine⟨cB (asc_sh t b),cB (asc_sh t b),?_⟩;rw[eqv_st,decide_eq_true rfl];walk_at "us";refine t_read (asc_sh t b) (by omega) ?_;unfold numD;rw[num_far hb h,show oT none=.none from rfl];walk_at "us";exact hK _ _
 unfold b_law_far_right_l1;walk_at "us";refine i_oQ (d:=.int t) rfl ?_;walk_at "us";refine i_stI (l2_210 ht) ?_;walk_at "us";refine i_oQ (d:=.int b) rfl ?_;walk_at "us";unfold shT at fin;refine iteN2 (fun c=>?_) (fun c=>?_)
 ·rw[if_neg c] at fin;walk_at "us";refine i_saK (by rw[PySem.Str.length_append,cN]; omega) ?_;walk_at "us";refine i_oQ (d:=.int b) rfl ?_;walk_at "us";refine i_stI (l2_210 hb2) ?_;walk_at "us";refine i_saK (by rw[PySem.Str.length_append,PySem.Str.length_append,cN]; omega) ?_;walk_at "us";exact fin
 ·rw[if_pos c] at fin;walk_at "us";exact fin
theorem t_far (q:Q (.val (.bool true))):cH [.pen] Q:=by
 refine i_fn ?_;unfold b_law_far_right;walk_at "us";refine i_take (by decide) (by decide) fun n n0 n1=>?_;walk_at "us";refine⟨by omega,by omega,?_⟩;refine range_inv (fun j Γ=>∃ x r,Γ=[.pen,.val (.int r),x,.no,.no]∧(10^60:Int)≤r∧r≤10^(60+j)) ⟨_,_,rfl,by decide,by decide⟩ ?_ ?_
 ·rintro j Γ K hj ⟨x,r,rfl,r0,r1⟩ hK;have hj:j<140:=by omega
  unfold b_law_far_right_l2;walk_at "us";have r2:(10:Int)^(60+j)≤10^200:=by
   have h:(10:Nat)^(60+j)≤10^200:=pow_le_pow_right (by decide) (by omega);have h4:((10:Int)^(60+j))=(((10:Nat)^(60+j):Nat):Int):=by simp
   rw[h4];exact_mod_cast h
  refine⟨mulB (k:=31) (m:=800) (by show Int.natAbs 10<2^31; decide) (by show Int.natAbs _<2^800; exact Nat.lt_of_le_of_lt (show r.natAbs≤10^200 by omega) (by decide)),?_⟩;walk_at "us";refine hK.nx _ ⟨_,_,rfl,by omega,?_⟩;rw[show 60+(j+1)=(60+j)+1 by omega,Int.pow_succ];omega
 ·rintro Γ ⟨x,r,rfl,r0,r1⟩;have r2:(10:Int)^(60+n.toNat)≤10^200:=by
   have h:(10:Nat)^(60+n.toNat)≤10^200:=pow_le_pow_right (by decide) (by omega);have h4:((10:Int)^(60+n.toNat))=(((10:Nat)^(60+n.toNat):Nat):Int):=by simp
   rw[h4];exact_mod_cast h
  unfold b_law_far_right_r3;walk_at "us";refine i_take (by decide) (by decide) fun m m0 m1=>?_;walk_at "us";generalize hT:r+1+m=T;have T0:(10^60:Int)<T:=by omega
  have T1:T<10^205:=by omega
  refine for_inv (fun i Γ=>∃ y z,Γ=[.pen,.val (.int T),x,y,z]) ⟨_,_,rfl⟩ ?_ ?_
  ·rintro i d Γ K hd ⟨y,z,rfl⟩ hK;have hm:=mem_of_getElem? hd;simp only[mem_cons,not_mem_nil,or_false] at hm;walk_at "us";rcases hm with rfl|rfl|rfl|rfl
   ·exact far_one (by omega) (by omega) (by decide) (.inl (by omega)) fun y z=>hK.nx _ ⟨y,z,rfl⟩
   ·exact far_one (by omega) (by omega) (by decide) (.inl (by omega)) fun y z=>hK.nx _ ⟨y,z,rfl⟩
   ·exact far_one (by decide) (by omega) (by omega) (.inr (by omega)) fun y z=>hK.nx _ ⟨y,z,rfl⟩
   ·exact far_one (by omega) (by omega) (by omega) (.inl (by omega)) fun y z=>hK.nx _ ⟨y,z,rfl⟩
  ·rintro Γ ⟨y,z,rfl⟩;unfold b_law_far_right_r1;walk_at "us";exact q
end
theorem odd_none {r:Rat}{x:PySem.Str}{k:Int}(h0:0≤k)(h1:k<7):∃ d,ixD (.list [.none,.int 5,.bool true,dNum r,.list [.str x],.int 0,.dict []]) (.int k)=some d∧subT (kindD d) "str" = false:=by
 have:k=0∨k=1∨k=2∨k=3∨k=4∨k=5∨k=6:=by omega
 rcases this with rfl|rfl|rfl|rfl|rfl|rfl|rfl<;>exact⟨_,rfl,rfl⟩
theorem good_num' {l:List Nat}:Good (numD l):=by
 unfold numD
 cases numO l with
 | none=>exact good_none
 | some p=>exact(gd_two _ _).good
theorem ite_no {c:Prop}{h:Decidable c}{a b:Prop}(n:¬c)(k:b):@ite Prop c h a b:=by rw[if_neg n]; exact k
theorem law_true:b_law (.no::.pen::List.replicate 7 .no) TrueEnd:=by
 unfold b_law;walk_at "us";refine⟨by decide,by decide,?_⟩;refine range_inv (fun i Γ=>∃ a b c d e f g,Γ=[.no,.pen,a,b,c,d,e,f,g]) ⟨_,_,_,_,_,_,_,rfl⟩ ?_ ?_
 ·rintro i Γ K hi ⟨a,b,c,d,e,f,g,rfl⟩ hk;unfold b_law_l1;walk_at "us";refine t_number fun r hr=>?_;have h1:r.num.natAbs<10^210:=lt_trans hr.1 (by decide);have h2:((r.den:Int)).natAbs<10^210:=by rw[natAbs_natCast]; exact lt_trans hr.2 (by decide)
  have h3:=txi_lenB (k:=210) (by decide) h1;have h4:=txi_lenB (k:=210) (by decide) h2;have hl:=numT_len hr;have ha:=asc_num r;have fin:∀ Γ,Γ=[.no,.pen,.val (.int (0+(i:Int))),.val (dNum r),.val (.str (numT r)),d,e,f,g]→b_law_r5 Γ K:=by
   rintro _ rfl;unfold b_law_r5;walk_at "us";refine t_show_number hr ?_;walk_at "us";refine⟨cB ha,cB ha,?_⟩;rw[eqv_st,decide_eq_true rfl];walk_at "us";unfold b_law_r4;walk_at "us";have nd:numD (numT r).cps.toList=dNum r:=by unfold numD; rw[num_tx hr]; rfl
   refine(show m_read_number [.val (.str (numT r))] _ from fun c=>t_rn ha (by omega) ?_);rw[num_tx hr];show _∧_;rw[nd];refine⟨noX_val,?_⟩;walk_at "us";rw[decide_eq_true rfl];walk_at "us";refine⟨(show(2:Nat)≤1000 by decide),comp_fm (α:=Int) (fun _=>true) (fun _=>.bool false) (fun c=>.int c) [r.num,(r.den:Int)] [] _ (fun c hc _ k k0 h1 h0=>?_) ?_⟩
   ·walk_at "us";refine i_yes ?_;walk_at "us";exact h1 rfl
   walk_at "us";rw[show boolsD (([]:List D)++(List.filter (fun _=>true) [r.num,(r.den:Int)]).map fun _=>PyData.bool false)=some [false,false] from rfl];refine iteF ?_;walk_at "us";unfold b_law_r3;walk_at "us";refine t_bent hr fun x hx=>?_;walk_at "us";refine t_read hx.a hx.l ?_;walk_at "us";refine t_due hx.a hx.l ?_;walk_at "us";refine⟨good_num',good_num',?_⟩;refine ite_no (by show ¬(!PyData.eqv (numD x.cps.toList) (numD x.cps.toList))=true; rw[eqv_self good_num']; decide) ?_;walk_at "us";unfold b_law_r2;walk_at "us";refine i_take (by decide) (by decide) fun k k0 k1=>?_;walk_at "us";obtain⟨dd,e1,e2⟩:=odd_none (r:=r) (x:=numT r) k0 k1;refine i_oQ e1 ?_;walk_at "us";refine t_read0 e2 ?_;walk_at "us";exact hk.nx _ ⟨_,_,_,_,_,_,_,rfl⟩
  walk_at "us";refine i_stI (l2_210 h1) ?_;walk_at "us";refine iteN2 (fun c=>?_) (fun c=>?_)
  ·walk_at "us";refine i_saK (by rw[PySem.Str.length_append,cN]; omega) ?_;walk_at "us";refine i_stI (l2_210 h2) ?_;walk_at "us";refine i_saK (by rw[PySem.Str.length_append,PySem.Str.length_append,cN]; omega) ?_;walk_at "us";exact fin _ (by unfold numT; rw[if_neg (by omega)]; rfl)
  ·walk_at "us";exact fin _ (by unfold numT; rw[if_pos (by omega)]; rfl)
 ·rintro Γ ⟨a,b,c,d,e,f,g,rfl⟩;unfold b_law_r1;walk_at "us";refine t_far ?_;walk_at "us";rfl
theorem ln1 {α:Type}{us:List α}(h:us.length=1):∃ x0,us=[x0]:=by
 match us,h with
 | [_],_=>exact⟨_,rfl⟩
theorem ln2 {α:Type}{us:List α}(h:us.length=2):∃ x0 x1,us=[x0,x1]:=by
 match us,h with
 | [_,_],_=>exact⟨_,_,rfl⟩
theorem ln3 {α:Type}{us:List α}(h:us.length=3):∃ x0 x1 x2,us=[x0,x1,x2]:=by
 match us,h with
 | [_,_,_],_=>exact⟨_,_,_,rfl⟩
theorem bl_mk {K:Fg}{h:Heap}{mg:Mg}(X:K.In h)(G:h.Ns mainGlobals mg)
  (z_len:nsIn K mainGlobals "len" = some none)
  (z_abs:nsIn K mainGlobals "abs" = some none)
  (z_range:nsIn K mainGlobals "range" = some none)
  (z_isinstance:nsIn K mainGlobals "isinstance" = some none)
  (z_int:nsIn K mainGlobals "int" = some none)
  (z_bool:nsIn K mainGlobals "bool" = some none)
  (z_tuple:nsIn K mainGlobals "tuple" = some none)
  (z_max:nsIn K mainGlobals "max" = some none)
  (z_min:nsIn K mainGlobals "min" = some none)
  (z_list:nsIn K mainGlobals "list" = some none)
  (z_all:nsIn K mainGlobals "all" = some none)
  (z_any:nsIn K mainGlobals "any" = some none)
  (z_sorted:nsIn K mainGlobals "sorted" = some none)
  (z_zip:nsIn K mainGlobals "zip" = some none)
  (z_set:nsIn K mainGlobals "set" = some none)
  (z_sum:nsIn K mainGlobals "sum" = some none)
  (z_str:nsIn K mainGlobals "str" = some none)
  (z_enumerate:nsIn K mainGlobals "enumerate" = some none)
  (kt_int_bool:kitOne K (.type "int") (.type "bool")=some false)    (kt_bool_int:kitOne K (.type "bool") (.type "int")=some true):Bl K mg:=⟨mg_none_of X G z_len,mg_none_of X G z_abs,mg_none_of X G z_range,mg_none_of X G z_isinstance,mg_none_of X G z_int,mg_none_of X G z_bool,mg_none_of X G z_tuple,mg_none_of X G z_max,mg_none_of X G z_min,mg_none_of X G z_list,mg_none_of X G z_all,mg_none_of X G z_any,mg_none_of X G z_sorted,mg_none_of X G z_zip,mg_none_of X G z_set,mg_none_of X G z_sum,mg_none_of X G z_str,mg_none_of X G z_enumerate,kt_int_bool,kt_bool_int⟩
theorem kit_mk {K:Fg}
  (kt_NoneType_bool:kitOne K (.type "NoneType") (.type "bool")=some false)
  (kt_NoneType_int:kitOne K (.type "NoneType") (.type "int")=some false)
  (kt_NoneType_str:kitOne K (.type "NoneType") (.type "str")=some false)
  (kt_NoneType_list:kitOne K (.type "NoneType") (.type "list")=some false)
  (kt_NoneType_tuple:kitOne K (.type "NoneType") (.type "tuple")=some false)
  (kt_NoneType_dict:kitOne K (.type "NoneType") (.type "dict")=some false)
  (kt_bool_NoneType:kitOne K (.type "bool") (.type "NoneType")=some false)
  (kt_bool_int:kitOne K (.type "bool") (.type "int")=some true)
  (kt_bool_str:kitOne K (.type "bool") (.type "str")=some false)
  (kt_bool_list:kitOne K (.type "bool") (.type "list")=some false)
  (kt_bool_tuple:kitOne K (.type "bool") (.type "tuple")=some false)
  (kt_bool_dict:kitOne K (.type "bool") (.type "dict")=some false)
  (kt_int_NoneType:kitOne K (.type "int") (.type "NoneType")=some false)
  (kt_int_bool:kitOne K (.type "int") (.type "bool")=some false)
  (kt_int_str:kitOne K (.type "int") (.type "str")=some false)
  (kt_int_list:kitOne K (.type "int") (.type "list")=some false)
  (kt_int_tuple:kitOne K (.type "int") (.type "tuple")=some false)
  (kt_int_dict:kitOne K (.type "int") (.type "dict")=some false)
  (kt_str_NoneType:kitOne K (.type "str") (.type "NoneType")=some false)
  (kt_str_bool:kitOne K (.type "str") (.type "bool")=some false)
  (kt_str_int:kitOne K (.type "str") (.type "int")=some false)
  (kt_str_list:kitOne K (.type "str") (.type "list")=some false)
  (kt_str_tuple:kitOne K (.type "str") (.type "tuple")=some false)
  (kt_str_dict:kitOne K (.type "str") (.type "dict")=some false)
  (kt_list_NoneType:kitOne K (.type "list") (.type "NoneType")=some false)
  (kt_list_bool:kitOne K (.type "list") (.type "bool")=some false)
  (kt_list_int:kitOne K (.type "list") (.type "int")=some false)
  (kt_list_str:kitOne K (.type "list") (.type "str")=some false)
  (kt_list_tuple:kitOne K (.type "list") (.type "tuple")=some false)
  (kt_list_dict:kitOne K (.type "list") (.type "dict")=some false)
  (kt_tuple_NoneType:kitOne K (.type "tuple") (.type "NoneType")=some false)
  (kt_tuple_bool:kitOne K (.type "tuple") (.type "bool")=some false)
  (kt_tuple_int:kitOne K (.type "tuple") (.type "int")=some false)
  (kt_tuple_str:kitOne K (.type "tuple") (.type "str")=some false)
  (kt_tuple_list:kitOne K (.type "tuple") (.type "list")=some false)
  (kt_tuple_dict:kitOne K (.type "tuple") (.type "dict")=some false)
  (kt_dict_NoneType:kitOne K (.type "dict") (.type "NoneType")=some false)
  (kt_dict_bool:kitOne K (.type "dict") (.type "bool")=some false)
  (kt_dict_int:kitOne K (.type "dict") (.type "int")=some false)
  (kt_dict_str:kitOne K (.type "dict") (.type "str")=some false)
  (kt_dict_list:kitOne K (.type "dict") (.type "list")=some false)
  (kt_dict_tuple:kitOne K (.type "dict") (.type "tuple")=some false)
  : Kit K:=Kit.mk' (by
  intro a ha b hb;simp only[tyL,mem_cons,not_mem_nil,or_false] at ha hb;rcases ha with rfl|rfl|rfl|rfl|rfl|rfl|rfl<;>rcases hb with rfl|rfl|rfl|rfl|rfl|rfl|rfl<;>intro e<;>first|assumption|exact absurd e (by decide))
def DfP (K:Fg)(mg:Mg)(x:Str)(st:Stmt):Prop:=∃(f:Addr) (fd:FuncData),Fun K x x st f fd∧mg x=some (.ref f)
theorem df_mk {K:Fg}{h:Heap}{mg:Mg}(X:K.In h)(G:h.Ns mainGlobals mg){x:Str}{st:Stmt}{f:Addr}{od an:Option Addr}{sl:Array (Option Value)}{oc kV dc pm cd ct:Value}
  (a:nsIn K mainGlobals x=some (some (.ref f))) (l:K.lookup f=some ⟨oc,od,.func (fnOf x x (defArgs st) (defBody st) (aN st) .none kV dc pm an cd ct),sl⟩) (c:codeIn K cd x=true) (k:keepIn K (.ref f)=true):DfP K mg x st:=
 ⟨f,_,fun_mk l c k,mg_of X G a⟩
def InX (K:Fg)(C:Addr)(q:Str)(st:Stmt):Prop:=∃(f:Addr) (fd:FuncData),Fun K "__init__" q st f fd∧findIn K (.ref C) "__init__" = some (some (.ref f))∧typeIn K (.ref f)=some (.type "function")
theorem inx_mk {K:Fg}{C:Addr}{q:Str}{st:Stmt}{f:Addr}{od an:Option Addr}{sl:Array (Option Value)}{oc kV dc pm cd ct:Value}
  (a:findIn K (.ref C) "__init__" = some (some (.ref f))) (n:typeIn K (.ref f)=some (.type "function")) (l:K.lookup f=some ⟨oc,od,.func (fnOf "__init__" q (defArgs st) (defBody st) (aN st) .none kV dc pm an cd ct),sl⟩) (c:codeIn K cd q=true) (k:keepIn K (.ref f)=true):InX K C q st:=⟨f,_,fun_mk l c k,a,n⟩
theorem mki_NoText {P:Program}{w:World}{K:Fg}{mg:Mg}{base:Heap}{V:XA}{D0 c0 c1 c2 c3 c4:Addr}(x:Xcs K mg V D0 c0 c1 c2 c3 c4)(d:InX K V.nt "NoText.__init__" s_i_NoText):Ini P w K mg base 1 V.nt "line" := by
 obtain⟨f,fd,F,h1,h2⟩:=d;exact⟨f,fd,_,ok_i_NoText F x,h1,h2,F.binds fun _ _ _ _ _ _ us hl=>by
  obtain⟨_,_,rfl⟩:=ln2 hl;rfl⟩
section
variable {P:Program}{w:World}{K:Fg}{mg:Mg}{base:Heap}
theorem mk_law_take  (B:Bl K mg)(Kt:Kit K)(d:DfP K mg "_law_take" s_law_take) :
  ∀ a ns,Cal P w K mg base 1 "_law_take" ["_law_pen", "_law_many"] (spM (bN K a ns) 2 aX):=by
 obtain⟨f,fd,F,hm⟩:=d;exact fun a ns=>⟨f,fd,ok2_law_take F B,hm,F.kp,F.binds fun _ _ _ _ _ _ us hl=>by
  obtain⟨_,_,rfl⟩:=ln2 hl;rfl⟩
theorem mk_is_whole  (B:Bl K mg)(Kt:Kit K)(d:DfP K mg "is_whole" s_is_whole) :
  ∀ a ns,Cal P w K mg base 1 "is_whole" ["thing"] (spM (bN K a ns) 1 m_is_whole):=by
 obtain⟨f,fd,F,hm⟩:=d;exact fun a ns=>⟨f,fd,ok_is_whole F B Kt,hm,F.kp,F.binds fun _ _ _ _ _ _ us hl=>by
  obtain⟨_,rfl⟩:=ln1 hl;rfl⟩
theorem mk_greatest_divisor  (B:Bl K mg)(Kt:Kit K)(d:DfP K mg "greatest_divisor" cC) :
  ∀ a ns,Cal P w K mg base 1 "greatest_divisor" ["one", "other"] (spM (bN K a ns) 2 bO):=by
 obtain⟨f,fd,F,hm⟩:=d;exact fun a ns=>⟨f,fd,ok_greatest_divisor F B Kt,hm,F.kp,F.binds fun _ _ _ _ _ _ us hl=>by
  obtain⟨_,_,rfl⟩:=ln2 hl;rfl⟩
theorem mk_is_number  (B:Bl K mg)(Kt:Kit K)(d:DfP K mg "is_number" s_is_number)(am:∀ a ns,Cal P w K mg base 1 "greatest_divisor" ["one", "other"] (spM (bN K a ns) 2 bO))(ao:∀ a ns,Cal P w K mg base 1 "is_whole" ["thing"] (spM (bN K a ns) 1 m_is_whole)) :
  ∀ a ns,Cal P w K mg base 2 "is_number" ["thing"] (spM (bN K a ns) 1 cF):=by
 obtain⟨f,fd,F,hm⟩:=d;exact fun a ns=>⟨f,fd,ok_is_number F B Kt (am a ns) (ao a ns),hm,F.kp,F.binds fun _ _ _ _ _ _ us hl=>by
  obtain⟨_,rfl⟩:=ln1 hl;rfl⟩
theorem mk_whole_in  {tk_FIGURES:Tok}(hg_FIGURES:mg "FIGURES" = some (.str "0123456789" tk_FIGURES)){tk_MOST_FIGURES:Tok}(hg_MOST_FIGURES:mg "MOST_FIGURES" = some (.int 60 tk_MOST_FIGURES))(B:Bl K mg)(Kt:Kit K)(d:DfP K mg "whole_in" s_whole_in) :
  ∀ a ns,Cal P w K mg base 1 "whole_in" ["word"] (spM (bN K a ns) 1 cL):=by
 obtain⟨f,fd,F,hm⟩:=d;exact fun a ns=>⟨f,fd,ok_whole_in hg_FIGURES hg_MOST_FIGURES F B Kt,hm,F.kp,F.binds fun _ _ _ _ _ _ us hl=>by
  obtain⟨_,rfl⟩:=ln1 hl;rfl⟩
theorem mk_top_in  (B:Bl K mg)(Kt:Kit K)(d:DfP K mg "top_in" s_top_in)(a7:∀ a ns,Cal P w K mg base 1 "whole_in" ["word"] (spM (bN K a ns) 1 cL)) :
  ∀ a ns,Cal P w K mg base 2 "top_in" ["word"] (spM (bN K a ns) 1 m_top_in):=by
 obtain⟨f,fd,F,hm⟩:=d;exact fun a ns=>⟨f,fd,ok_top_in F B Kt (a7 a ns),hm,F.kp,F.binds fun _ _ _ _ _ _ us hl=>by
  obtain⟨_,rfl⟩:=ln1 hl;rfl⟩
theorem mk_number_in  (B:Bl K mg)(Kt:Kit K)(d:DfP K mg "number_in" s_number_in)(aq:∀ a ns,Cal P w K mg base 2 "is_number" ["thing"] (spM (bN K a ns) 1 cF))(a7:∀ a ns,Cal P w K mg base 1 "whole_in" ["word"] (spM (bN K a ns) 1 cL))(ar:∀ a ns,Cal P w K mg base 2 "top_in" ["word"] (spM (bN K a ns) 1 m_top_in)) :
  ∀ a ns,Cal P w K mg base 3 "number_in" ["word"] (spM (bN K a ns) 1 m_number_in):=by
 obtain⟨f,fd,F,hm⟩:=d;exact fun a ns=>⟨f,fd,ok_number_in F B Kt (aq a ns) (a7 a ns) (ar a ns),hm,F.kp,F.binds fun _ _ _ _ _ _ us hl=>by
  obtain⟨_,rfl⟩:=ln1 hl;rfl⟩
theorem mk_show_number  (B:Bl K mg)(Kt:Kit K)(d:DfP K mg "show_number" s_show_number) :
  ∀ a ns,Cal P w K mg base 1 "show_number" ["number"] (spM (bN K a ns) 1 bQ):=by
 obtain⟨f,fd,F,hm⟩:=d;exact fun a ns=>⟨f,fd,ok_show_number F B Kt,hm,F.kp,F.binds fun _ _ _ _ _ _ us hl=>by
  obtain⟨_,rfl⟩:=ln1 hl;rfl⟩
theorem mkx_read_number  {c:XA}{D0 c0 c1 c2 c3 c4:Addr}(B:Bl K mg)(Kt:Kit K)(x:Xcs K mg c D0 c0 c1 c2 c3 c4)(i_NoText:Ini P w K mg base 1 c.nt "line")(d:DfP K mg "read_number" s_read_number)(au:∀ a ns,Cal P w K mg base 3 "number_in" ["word"] (spM (bN K a ns) 1 m_number_in)) :
  ∀ a ns,CalX P w K mg base 4 "read_number" ["text"] (spX (bN K a ns) 1 (bA c)):=by
 obtain⟨f,fd,F,hm⟩:=d;exact fun a ns=>⟨f,fd,okx_read_number F B Kt x i_NoText (au a ns),hm,F.kp,F.binds fun _ _ _ _ _ _ us hl=>by
  obtain⟨_,rfl⟩:=ln1 hl;rfl⟩
theorem mk_read_number  {c:XA}(h:∀ a ns,CalX P w K mg base 4 "read_number" ["text"] (spX (bN K a ns) 1 (bA c))) :
  ∀ a ns,Cal P w K mg base 4 "read_number" ["text"] (spM (bN K a ns) 1 m_read_number):=fun a ns=>(let ⟨f,fd,F,r⟩:=(h a ns).ex; ⟨f,fd,F.noX2 fun _ _ z=>z c,r⟩)
theorem mk_law_lowest  (B:Bl K mg)(Kt:Kit K)(d:DfP K mg "_law_lowest" s_law_lowest) :
  ∀ a ns,Cal P w K mg base 1 "_law_lowest" ["_law_top", "_law_bottom"] (spM (bN K a ns) 2 bR):=by
 obtain⟨f,fd,F,hm⟩:=d;exact fun a ns=>⟨f,fd,ok_law_lowest F B Kt,hm,F.kp,F.binds fun _ _ _ _ _ _ us hl=>by
  obtain⟨_,_,rfl⟩:=ln2 hl;rfl⟩
theorem mk_law_great  (B:Bl K mg)(Kt:Kit K)(d:DfP K mg "_law_great" s_law_great)(a5:∀ a ns,Cal P w K mg base 1 "_law_take" ["_law_pen", "_law_many"] (spM (bN K a ns) 2 aX)) :
  ∀ a ns,Cal P w K mg base 2 "_law_great" ["_law_pen", "_law_figures"] (spM (bN K a ns) 2 cQ):=by
 obtain⟨f,fd,F,hm⟩:=d;exact fun a ns=>⟨f,fd,ok_law_great F B Kt (a5 a ns),hm,F.kp,F.binds fun _ _ _ _ _ _ us hl=>by
  obtain⟨_,_,rfl⟩:=ln2 hl;rfl⟩
theorem mk_law_number  (B:Bl K mg)(Kt:Kit K)(d:DfP K mg "_law_number" s_law_number)(a8:∀ a ns,Cal P w K mg base 1 "_law_lowest" ["_law_top", "_law_bottom"] (spM (bN K a ns) 2 bR))(aw:∀ a ns,Cal P w K mg base 2 "_law_great" ["_law_pen", "_law_figures"] (spM (bN K a ns) 2 cQ))(a5:∀ a ns,Cal P w K mg base 1 "_law_take" ["_law_pen", "_law_many"] (spM (bN K a ns) 2 aX)) :
  ∀ a ns,Cal P w K mg base 3 "_law_number" ["_law_pen"] (spM (bN K a ns) 1 m_law_number):=by
 obtain⟨f,fd,F,hm⟩:=d;exact fun a ns=>⟨f,fd,ok_law_number F B Kt (a8 a ns) (aw a ns) (a5 a ns),hm,F.kp,F.binds fun _ _ _ _ _ _ us hl=>by
  obtain⟨_,rfl⟩:=ln1 hl;rfl⟩
theorem mk_law_whole  (B:Bl K mg)(Kt:Kit K)(d:DfP K mg "_law_whole" s_law_whole) :
  ∀ a ns,Cal P w K mg base 1 "_law_whole" ["_law_word"] (spM (bN K a ns) 1 cP):=by
 obtain⟨f,fd,F,hm⟩:=d;exact fun a ns=>⟨f,fd,ok_law_whole F B Kt,hm,F.kp,F.binds fun _ _ _ _ _ _ us hl=>by
  obtain⟨_,rfl⟩:=ln1 hl;rfl⟩
theorem mk_law_due  (B:Bl K mg)(Kt:Kit K)(d:DfP K mg "_law_due" s_law_due)(a8:∀ a ns,Cal P w K mg base 1 "_law_lowest" ["_law_top", "_law_bottom"] (spM (bN K a ns) 2 bR))(ax:∀ a ns,Cal P w K mg base 1 "_law_whole" ["_law_word"] (spM (bN K a ns) 1 cP)) :
  ∀ a ns,Cal P w K mg base 2 "_law_due" ["_law_text"] (spM (bN K a ns) 1 m_law_due):=by
 obtain⟨f,fd,F,hm⟩:=d;exact fun a ns=>⟨f,fd,ok_law_due F B Kt (a8 a ns) (ax a ns),hm,F.kp,F.binds fun _ _ _ _ _ _ us hl=>by
  obtain⟨_,rfl⟩:=ln1 hl;rfl⟩
theorem mk_law_bent  (B:Bl K mg)(Kt:Kit K)(d:DfP K mg "_law_bent" s_law_bent)(a5:∀ a ns,Cal P w K mg base 1 "_law_take" ["_law_pen", "_law_many"] (spM (bN K a ns) 2 aX)) :
  ∀ a ns,Cal P w K mg base 2 "_law_bent" ["_law_pen", "_law_number_here", "_law_text"] (spM (bN K a ns) 3 m_law_bent):=by
 obtain⟨f,fd,F,hm⟩:=d;exact fun a ns=>⟨f,fd,ok_law_bent F B Kt (a5 a ns),hm,F.kp,F.binds fun _ _ _ _ _ _ us hl=>by
  obtain⟨_,_,_,rfl⟩:=ln3 hl;rfl⟩
theorem mk_law_read  {c:XA}{D0 c0 c1 c2 c3 c4:Addr}(B:Bl K mg)(Kt:Kit K)(x:Xcs K mg c D0 c0 c1 c2 c3 c4)(i_NoText:Ini P w K mg base 1 c.nt "line")(d:DfP K mg "_law_read" s_law_read)(CX_read_number:∀ a ns,CalX P w K mg base 4 "read_number" ["text"] (spX (bN K a ns) 1 (bA c))) :
  ∀ a ns,Cal P w K mg base 5 "_law_read" ["_law_thing"] (spM (bN K a ns) 1 cM):=by
 obtain⟨f,fd,F,hm⟩:=d;exact fun a ns=>⟨f,fd,(okc_law_read F B Kt x i_NoText (CX_read_number a ns)).imp (fun vs H Q E ⟨F,as,Qm,h1,h2,h3,h4,h5,h6⟩=>⟨F,as,Qm,h1,h2,h3,h4,h5 c,h6⟩),hm,F.kp,F.binds fun _ _ _ _ _ _ us hl=>by
  obtain⟨_,rfl⟩:=ln1 hl;rfl⟩
theorem mk_law_far_right  (B:Bl K mg)(Kt:Kit K)(d:DfP K mg "_law_far_right" s_law_far_right)(af:∀ a ns,Cal P w K mg base 5 "_law_read" ["_law_thing"] (spM (bN K a ns) 1 cM))(ag:∀ a ns,Cal P w K mg base 1 "show_number" ["number"] (spM (bN K a ns) 1 bQ))(a5:∀ a ns,Cal P w K mg base 1 "_law_take" ["_law_pen", "_law_many"] (spM (bN K a ns) 2 aX)) :
  ∀ a ns,Cal P w K mg base 6 "_law_far_right" ["_law_pen"] (spM (bN K a ns) 1 cH):=by
 obtain⟨f,fd,F,hm⟩:=d;exact fun a ns=>⟨f,fd,ok_law_far_right F B Kt (af a ns) (ag a ns) (a5 a ns),hm,F.kp,F.binds fun _ _ _ _ _ _ us hl=>by
  obtain⟨_,rfl⟩:=ln1 hl;rfl⟩
end
theorem all_mk {l:PySem.W.OpenLaw}{w:World}{K:Fg}{mg:Mg}{fa:Addr}(hfa:mg "law" = some (.ref fa))(B:Bl K mg)(Kt:Kit K)
  (d0:DfP K mg "_law_take" s_law_take)
  (d1:DfP K mg "is_whole" s_is_whole)
  (d2:DfP K mg "greatest_divisor" cC)
  (d3:DfP K mg "is_number" s_is_number)
  (d4:DfP K mg "whole_in" s_whole_in)
  (d5:DfP K mg "top_in" s_top_in)
  (d6:DfP K mg "number_in" s_number_in)
  (d7:DfP K mg "show_number" s_show_number)
  (d8:DfP K mg "read_number" s_read_number)
  (d9:DfP K mg "_law_lowest" s_law_lowest)
  (d10:DfP K mg "_law_great" s_law_great)
  (d11:DfP K mg "_law_number" s_law_number)
  (d12:DfP K mg "_law_whole" s_law_whole)
  (d13:DfP K mg "_law_due" s_law_due)
  (d14:DfP K mg "_law_bent" s_law_bent)
  (d15:DfP K mg "_law_read" s_law_read)
  (d16:DfP K mg "_law_far_right" s_law_far_right)
  (d17:DfP K mg "law" s_law)
  {tk_FIGURES:Tok} (hg_FIGURES:mg "FIGURES" = some (.str "0123456789" tk_FIGURES)) {tk_MOST_FIGURES:Tok} (hg_MOST_FIGURES:mg "MOST_FIGURES" = some (.int 60 tk_MOST_FIGURES))
  {nt D0 c0 c1 c2 c3 c4:Addr} (xc:Xcs K mg ⟨nt,0,0,0⟩ D0 c0 c1 c2 c3 c4) (ix_NoText:InX K nt "NoText.__init__" s_i_NoText)
  (hL:b_law (.no::.pen::List.replicate 7 .no) TrueEnd) :
  ∃ fd:FuncData,(∀(s:Shared) (v:Value),BindsTo s fd ⟨[v],[]⟩ [("_law_script", v)])∧∀ base:Heap,K.In base→base.Ns mainGlobals mg→FnOk l.prog w K mg base CX0 7 fa fd ["_law_script"] (spLaw K):=by
 obtain⟨f,fd,F,hm⟩:=d17
 cases hfa.symm.trans hm
 refine⟨fd,?_,fun base _ _=>?_⟩
 ·obtain⟨oc,od,kV,doc,pm,an,cdv,ct,osl,rfl,lk,hcd⟩:=F.ex;exact fun s v=>.of_eq rfl
 have i_NoText:=mki_NoText (P:=l.prog) (w:=w) (base:=base) xc ix_NoText;have a5:=mk_law_take (P:=l.prog) (w:=w) (base:=base) B Kt d0;have ao:=mk_is_whole (P:=l.prog) (w:=w) (base:=base) B Kt d1;have am:=mk_greatest_divisor (P:=l.prog) (w:=w) (base:=base) B Kt d2;have aq:=mk_is_number B Kt d3 am ao;have a7:=mk_whole_in (P:=l.prog) (w:=w) (base:=base) hg_FIGURES hg_MOST_FIGURES B Kt d4;have ar:=mk_top_in B Kt d5 a7;have au:=mk_number_in B Kt d6 aq a7 ar;have ag:=mk_show_number (P:=l.prog) (w:=w) (base:=base) B Kt d7;have CX_read_number:=mkx_read_number (P:=l.prog) (w:=w) (base:=base) B Kt xc i_NoText d8 au;have ba:=mk_read_number CX_read_number;have a8:=mk_law_lowest (P:=l.prog) (w:=w) (base:=base) B Kt d9;have aw:=mk_law_great B Kt d10 a5;have bb:=mk_law_number B Kt d11 a8 aw a5;have ax:=mk_law_whole (P:=l.prog) (w:=w) (base:=base) B Kt d12;have bc:=mk_law_due B Kt d13 a8 ax;have bd:=mk_law_bent B Kt d14 a5;have af:=mk_law_read (P:=l.prog) (w:=w) (base:=base) B Kt xc i_NoText d15 CX_read_number;have bf:=mk_law_far_right B Kt d16 af ag a5;exact ok_law F B Kt bf af a5 bc bd ba ag bb hL
theorem xcs_mk {K:Fg}{h:Heap}{mg:Mg}(X:K.In h)(G:h.Ns mainGlobals mg){nt D0 c0 c1 c2 c3 c4:Addr}
  {dd_D:Option Addr} {nm_D qn_D:Str} {bs_D sub_D:List Value} {sn_D:List Str} {ab_D:Bool} {col_D:Option Bool} {k0_D k1_D k2_D k3_D k5_D:Option Value} {ns_D:Addr}
  {dd_NoText:Option Addr} {nm_NoText qn_NoText:Str} {bs_NoText sub_NoText:List Value} {sn_NoText:List Str} {ab_NoText:Bool} {col_NoText:Option Bool} {k0_NoText k1_NoText k2_NoText k3_NoText k5_NoText:Option Value} {ns_NoText:Addr}
  (gh_NoText:nsIn K mainGlobals "NoText" = some (some (.ref nt)))
  (ghD:nsIn K mainGlobals "LeadError" = some (some (.ref D0)))
  (ghV:nsIn K mainGlobals "ValueError" = some none)
  (gh_NoKey:nsIn K mainGlobals "NoKey" = some (some (.ref c0)))
  (gh_NoLog:nsIn K mainGlobals "NoLog" = some (some (.ref c1)))
  (gh_NoNumber:nsIn K mainGlobals "NoNumber" = some (some (.ref c2)))
  (gh_NoRow:nsIn K mainGlobals "NoRow" = some (some (.ref c3)))
  (gh_NoTime:nsIn K mainGlobals "NoTime" = some (some (.ref c4)))
  (xl_D:K.lookup D0=some ⟨.type "type", dd_D,.cls ⟨nm_D,bs_D,[.ref D0,.type "ValueError", .type "Exception", .type "BaseException", .type "object"],ns_D,qn_D,true,sn_D,sub_D,ab_D,col_D,false⟩,#[k0_D,k1_D,k2_D,k3_D,some (.builtin "ValueError.__new__"),k5_D]⟩)
  (x1_D:findIn K (.ref D0) "__class__" = some (some (.builtin "object.__class__")))
  (x2_D:findIn K (.ref D0) "__getattribute__" = some (some (.builtin "BaseException.__getattribute__")))
  (x3_D:findIn K (.ref D0) "__getattr__" = some none)
  (xeD:excIn K D0 [.type "ValueError", .type "Exception", .type "BaseException", .type "object"] "ValueError.__new__" = true)
  (xl_NoText:K.lookup nt=some ⟨.type "type", dd_NoText,.cls ⟨nm_NoText,bs_NoText,[.ref nt,.ref D0,.type "ValueError", .type "Exception", .type "BaseException", .type "object"],ns_NoText,qn_NoText,true,sn_NoText,sub_NoText,ab_NoText,col_NoText,false⟩,#[k0_NoText,k1_NoText,k2_NoText,k3_NoText,some (.builtin "ValueError.__new__"),k5_NoText]⟩)
  (x1_NoText:findIn K (.ref nt) "__class__" = some (some (.builtin "object.__class__")))
  (x2_NoText:findIn K (.ref nt) "__getattribute__" = some (some (.builtin "BaseException.__getattribute__")))
  (x3_NoText:findIn K (.ref nt) "__getattr__" = some none)
  (gs_NoText:mroIn K nt (.ref D0)=some true)
  (ga_NoText:findIn K (.ref nt) "__setattr__" = some (some (.builtin "object.__setattr__")))
  (gn_NoText:findIn K (.ref nt) "line" = some none)
  (gd_NoText:hasDictIn K nt=true)
  (gpD:specialIn K (.ref D0) "__getattribute__" = some (some (.builtin "type.__getattribute__")))
  (grD:readsIn K D0 (.type "type")=true)
  (gfD:findCls K (.ref D0) (.type "type") "__init__" = some (.val (.builtin "ValueError.__init__")))
  (gt_NoText_KLNRT:kitAny K (.ref nt) [.ref c0,.ref c1,.ref c2,.ref c3,.ref c4]=some false)
  (gk_NoText_NoText:kitOne K (.ref nt) (.ref nt)=some true)
  (gk_NoText_ValueError:kitOne K (.ref nt) (.type "ValueError")=some true):Xcs K mg ⟨nt,0,0,0⟩ D0 c0 c1 c2 c3 c4:=
 ⟨mg_of X G gh_NoText,⟨xc_mk1 xl_NoText xeD,x1_NoText,x2_NoText,x3_NoText⟩,gs_NoText,ga_NoText,gn_NoText,gd_NoText,mg_of X G ghD,⟨xc_mk0 xl_D,x1_D,x2_D,x3_D⟩,gpD,grD,gfD,mg_none_of X G ghV,mg_of X G gh_NoKey,mg_of X G gh_NoLog,mg_of X G gh_NoNumber,mg_of X G gh_NoRow,mg_of X G gh_NoTime,gt_NoText_KLNRT,gk_NoText_NoText,gk_NoText_ValueError⟩
theorem walk {l:PySem.W.OpenLaw}{q:Program}{loose:List Str}{XP:Mg→Heap→Prop}{YP:World→Heap→Prop}{d:DefRec}{K:Params→Fg}(hn:l.most=some 63)(hdf:d.params.defaults=[])
  (hY:∀(w:World) (h:Heap),YP w h→(K w.params).In h)
  (F:∀(w:World) (mg:Mg) (fa:Addr) (h:Heap),(K w.params).In h→h.Ns mainGlobals mg→mg d.name=some (.ref fa) →
   ∃ fd:FuncData,(∀(s:Shared) (u:Value),BindsTo s fd ⟨[u],[]⟩ [("_law_script", u)])∧∀ base:Heap,(K w.params).In base→base.Ns mainGlobals mg→FnOk l.prog w (K w.params) mg base CX0 7 fa fd ["_law_script"] (spLaw (K w.params))) :
  PySem.W.WalkO q loose XP YP l.row.toRowW d [] (fun f vs=>PySem.call f vs):=
 L2.walk_of (n:=63) (k:=7) (x := "_law_script") (CX:=fun _=>CX0) (sp:=fun w=>spLaw (K w.params)) hn (by decide) hdf ⟨rfl,by decide,by decide⟩ hY F (fun _ _ a ns hl _ hS=>⟨a,ns,rfl,hS,hl,fun _=>rfl⟩) fun _ _ _ _ _ z=>z
end My
def PySem.W.Fast.tw1085588267903096705:Unit:=()
def PySem.W.Fast.tw10965632332662609122:Unit:=()
def PySem.W.Fast.tw13603223354256000113:Unit:=()
def PySem.W.Fast.tw14910858572125388308:Unit:=()
def PySem.W.Fast.tw15680534955038161667:Unit:=()
def PySem.W.Fast.tw2194433820908663075:Unit:=()
def PySem.W.Fast.tw5698067656921691545:Unit:=()
def PySem.W.Fast.tw8078065497265393825:Unit:=()
def PySem.W.Fast.tw8379231249524935552:Unit:=()
def PySem.W.Fast.tw7970182676237284134:Unit:=()
def PySem.W.Fast.tw3992503743296025740:Unit:=()
def PySem.W.Fast.tw9813117230160841667:Unit:=()
open PySem PySem.W PyProof.Rows
set_option maxRecDepth 100000 in
set_option maxHeartbeats 0 in
theorem PySem.Challenge.cw_leadtimes_k41_numbers_written_holds : PySem.Challenge.rw_leadtimes_k41_numbers_written.Holds := by
 w_on; o_law; k_head; (case hw => w_witness2)
 k_fill
 refine My.walk (l := PySem.Challenge.rw_leadtimes_k41_numbers_written) rfl rfl (fun w h Y => kIn_of Y) ?F
 case F =>
  intro w mg fa h KX G hmg
  refine' My.all_mk hmg (My.bl_mk KX G ?x0 ?x1 ?x2 ?x3 ?x4 ?x5 ?x6 ?x7 ?x8 ?x9 ?xa ?xb ?xc ?xd ?xe ?xf ?xg ?xh ?xi ?xj) (My.kit_mk ?xk ?xl ?xm ?xn ?xo ?xp ?xq ?xj ?xr ?xs ?xt ?xu ?xv ?xi ?xw ?xx ?xy ?xz ?x10 ?x11 ?x12 ?x13 ?x14 ?x15 ?x16 ?x17 ?x18 ?x19 ?x1a ?x1b ?x1c ?x1d ?x1e ?x1f ?x1g ?x1h ?x1i ?x1j ?x1k ?x1l ?x1m ?x1n) (My.df_mk KX G ?x1o ?x1p ?x1q ?x1r) (My.df_mk KX G ?x1s ?x1t ?x1u ?x1v) (My.df_mk KX G ?x1w ?x1x ?x1y ?x1z) (My.df_mk KX G ?x20 ?x21 ?x22 ?x23) (My.df_mk KX G ?x24 ?x25 ?x26 ?x27) (My.df_mk KX G ?x28 ?x29 ?x2a ?x2b) (My.df_mk KX G ?x2c ?x2d ?x2e ?x2f) (My.df_mk KX G ?x2g ?x2h ?x2i ?x2j) (My.df_mk KX G ?x2k ?x2l ?x2m ?x2n) (My.df_mk KX G ?x2o ?x2p ?x2q ?x2r) (My.df_mk KX G ?x2s ?x2t ?x2u ?x2v) (My.df_mk KX G ?x2w ?x2x ?x2y ?x2z) (My.df_mk KX G ?x30 ?x31 ?x32 ?x33) (My.df_mk KX G ?x34 ?x35 ?x36 ?x37) (My.df_mk KX G ?x38 ?x39 ?x3a ?x3b) (My.df_mk KX G ?x3c ?x3d ?x3e ?x3f) (My.df_mk KX G ?x3g ?x3h ?x3i ?x3j) (My.df_mk KX G ?x3k ?x3l ?x3m ?x3n) (mg_of KX G ?x3o) (mg_of KX G ?x3p) (My.xcs_mk KX G ?x3q ?x3r ?x3s ?x3t ?x3u ?x3v ?x3w ?x3x ?x3y ?x3z ?x40 ?x41 ?x42 ?x43 ?x44 ?x45 ?x46 ?x47 ?x48 ?x49 ?x4a ?x4b ?x4c ?x4d ?x4e ?x4f ?x4g) (My.inx_mk ?x4h ?x4i ?x4j ?x4k ?x4l) My.law_true
  (case x1o|x1p|x1q|x1r|x1s|x1t|x1u|x1v|x1w|x1x|x1y|x1z|x20|x21|x22|x23|x24|x25|x26|x27|x28|x29|x2a|x2b|x2c|x2d|x2e|x2f|x2g|x2h|x2i|x2j|x2k|x2l|x2m|x2n|x2o|x2p|x2q|x2r|x2s|x2t|x2u|x2v|x2w|x2x|x2y|x2z|x30|x31|x32|x33|x34|x35|x36|x37|x38|x39|x3a|x3b|x3c|x3d|x3e|x3f|x3g|x3h|x3i|x3j|x3k|x3l|x3m|x3n|x0|x1|x2|x3|x4|x5|x6|x7|x8|x9|xa|xb|xc|xd|xe|xf|xg|xh|x3o|x3p|x3q|x3r|x3s|x3t|x3u|x3v|x3w|x3x|x3y|x3z|x40|x41|x43|x44|x45|x46|x47|x48|x49|x4a|x4b|x4c|x4d|x4h|x4i|x4j|x4k|x4l => k_is)
  (case x42 => k_exc)
  (case x4e|x4f|x4g|xk|xl|xm|xn|xo|xp|xq|xj|xr|xs|xt|xu|xv|xi|xw|xx|xy|xz|x10|x11|x12|x13|x14|x15|x16|x17|x18|x19|x1a|x1b|x1c|x1d|x1e|x1f|x1g|x1h|x1i|x1j|x1k|x1l|x1m|x1n => kit_is)
#print axioms PySem.Challenge.cw_leadtimes_k41_numbers_written_holds
