import PyProof.Rows.All
import Wide.All
import OpenK.AllK
import Wide.FinOn
import Lean
import PyProof.EqAt
import PyProof.EqKinds
import PyProof.TupleCall
import PyProof.P3Eq
import PyProof.P3In
import PyProof.NeData
import PyProof.FitsBits
import PyProof.StrCalls2
import PyProof.CallStr
import PyProof.SliceStr2
import PyProof.StrWalks
import PyProof.FString
import PyProof.StrBlockI
import PyProof.TupleOfSeq
import PyProof.DictTable
import KE.KIntText
import PyProof.ReprRoads
import PyProof.CallFns
import PyProof.StrOps
import PySem.Challenge.RW_leadtimes_k30_no_logs
open List (all_eq_true any_cons append_assoc append_nil contains_cons drop_length filterMap_cons filter_cons find?_cons flatten_cons forIn_cons getD_eq_getElem?_getD getElem?_append_left getElem?_append_right getElem?_eq_getElem getElem?_map getElem?_of_mem getElem?_range getElem?_replicate getElem?_set_ne getElem?_set_self getElem_mem length_append length_cons length_drop length_map length_nil length_range length_replicate length_set length_singleton length_take lookup_cons map_append map_cons map_map map_nil map_take mem_append mem_append_left mem_append_right mem_cons mem_cons_of_mem mem_cons_self mem_filter mem_filterMap mem_map mem_of_getElem? mem_of_mem_take mem_range mem_singleton nil_append nodup_cons not_mem_nil of_mem_zip replicate_succ set_comm set_cons_succ set_cons_zero size_toArray take_length take_sublist take_succ)
open PySem.W (bind_fn callWith_K cellsFrom_some clsIn codeIn emptyDict excIn findCls findIn findObj_own fnOf handedIn hasDictIn hideAll hideAll_get hideAll_none instObj isFn kIn_of keepIn kia_one kitAny kitOne kitx_dict kitx_list lookIn looks_findIn makesIn methodCall_KW methodObj mg_none_of mg_of mroIn notCls nsIn of_hideAll osa_eq plainGet plainGet_of plainOver readsIn set_plain specialIn tailIn takerIn typeIn)
open Nat (le_of_lt le_refl le_succ le_trans log2_lt lt_irrefl lt_of_le_of_lt lt_of_lt_of_le lt_succ_self lt_trans mul_le_mul ne_of_gt ne_of_lt not_lt sub_self succ_mul zero_le)
open PySem.Heap (get?_push_of_some get?_push_size get?_update_other get?_update_self lt_size size_push)
open Option (getD_none isSome_iff_exists isSome_map isSome_some)
open Int (emod_lt_of_pos emod_nonneg mul_ne_zero natAbs_mul)
open Rat (divInt_eq_div intCast_mul num_divInt_den)
open Bool (and_eq_true false_eq_true)
open Array (length_toList)
noncomputable section
set_option compiler.extract_closed false
set_option Elab.async false
set_option linter.all false
set_option maxRecDepth 100000
namespace L2
open PySem PySem.Spec PyProof.Rows
abbrev Key:=Sum Int Str
noncomputable def yW:Key→Value→Bool
 | .inl k,v=>Value.isInt k v
 | .inr x,v=>Value.isStrOf x v
noncomputable def aJP (w:World):Key→Int
 | .inl k=>hashInt k
 | .inr x=>hashStr w x
theorem cQ:∀{k:Key} {v:Value},yW k v=true→(∃ i t,k=Sum.inl i∧v=Value.int i t)∨(∃ x t,k=Sum.inr x∧v=Value.str x t)
 | .inl i,v,h=>by
  obtain⟨t,e⟩:=Value.isInt_shape (k:=i) (v:=v) h;exact .inl ⟨i,t,rfl,e⟩
 | .inr x,v,h=>by
  obtain⟨t,e⟩:=Value.isStrOf_shape (x:=x) (v:=v) h;exact .inr ⟨x,t,rfl,e⟩
theorem a6W (i:Int)(t:Tok):yW (.inl i) (.int i t)=true:=by simp[yW,Value.isInt]
theorem a5B (x:Str)(t:Tok):yW (.inr x) (.str x t)=true:=by simp[yW,Value.isStrOf]
theorem aFB (a b:Int):decide ((Sum.inl a:Key)=Sum.inl b)=(a==b):=by
 by_cases e:a=b
 ·subst e; simp
 ·have h:¬(Sum.inl a:Key)=Sum.inl b:=fun q=>e (Sum.inl.inj q);rw[decide_eq_false h];exact(beq_eq_false_iff_ne.mpr e).symm
theorem aDZ (a b:Str):decide ((Sum.inr a:Key)=Sum.inr b)=decide (a=b):=by
 by_cases e:a=b
 ·subst e; simp
 ·have h:¬(Sum.inr a:Key)=Sum.inr b:=fun q=>e (Sum.inr.inj q);rw[decide_eq_false h,decide_eq_false e]
theorem aE5 (a:Int)(b:Str):decide ((Sum.inl a:Key)=Sum.inr b)=false:=decide_eq_false (fun q=>nomatch q)
theorem aFO (a:Str)(b:Int):decide ((Sum.inr a:Key)=Sum.inl b)=false:=decide_eq_false (fun q=>nomatch q)
noncomputable def dH (prog:Program)(w:World):PySem.KeyKind prog w Key where
 is:=yW
 hash:=aJP w
 inj:=fun v a b ha hb=>by
  rcases cQ ha with⟨i,t,rfl,rfl⟩|⟨x,t,rfl,rfl⟩
  ·rcases cQ hb with⟨j,u,rfl,e⟩|⟨y,u,rfl,e⟩
   ·injection e with e1 _; rw[e1]
   ·exact nomatch e
  ·rcases cQ hb with⟨j,u,rfl,e⟩|⟨y,u,rfl,e⟩
   ·exact nomatch e
   ·injection e with e1 _; rw[e1]
 byValue:=fun k v h=>by
  rcases cQ h with⟨i,t,rfl,rfl⟩|⟨x,t,rfl,rfl⟩<;>rfl
 pyHash:=fun hv h=>by
  rcases cQ hv with⟨i,t,rfl,rfl⟩|⟨x,t,rfl,rfl⟩
  ·exact wpAny_pyHash_int h
  ·exact wpAny_pyHash_str h
 eqBool:=fun hu hv h=>by
  rcases cQ hu with⟨i,t,rfl,rfl⟩|⟨x,t,rfl,rfl⟩
  ·rcases cQ hv with⟨j,u,rfl,rfl⟩|⟨y,u,rfl,rfl⟩
   ·rw[aFB] at h; exact wpAny_eqBool_int h
   ·rw[aE5] at h; exact SeqAt.EqAt.int_str i t y u _ _ _ _ h
  ·rcases cQ hv with⟨j,u,rfl,rfl⟩|⟨y,u,rfl,rfl⟩
   ·rw[aFO] at h; exact SeqAt.EqAt.str_int x t j u _ _ _ _ h
   ·rw[aDZ] at h; exact wpAny_eqBool_str h
 «strs»:=fun k x t v h=>by
  rcases cQ h with⟨i,u,rfl,e⟩|⟨y,u,rfl,e⟩
  ·exact nomatch e
  ·injection e with e1 _;subst e1
   cases v<;>rfl
theorem uP (prog:Program)(w:World)(k:Key)(v:Value):(dH prog w).is k v=yW k v:=rfl
theorem zP (prog:Program)(w:World)(i:Int)(t:Tok):(dH prog w).is (.inl i) (.int i t)=true:=a6W i t
theorem zZ (prog:Program)(w:World)(x:Str)(t:Tok):(dH prog w).is (.inr x) (.str x t)=true:=a5B x t
end L2
namespace L2
open PySem PySem.Spec PyProof.Rows
inductive V where
 | non|bl (b:Bool)|int (i:Int)|str (x:Str)|byt (b:Array UInt8)|flt (b:UInt64)|ref (a:Addr)|ty (n:String)
 deriving DecidableEq
noncomputable def RelV:V→Value→Prop
 | .non,u=>u=Value.none
 | .bl b,u=>u=Value.bool b
 | .int i,u=>∃ t,u=Value.int i t
 | .str x,u=>∃ t,u=Value.str x t
 | .byt b,u=>∃ t,u=Value.bytes b t
 | .flt b,u=>∃ t,u=Value.float b t
 | .ref a,u=>u=Value.ref a
 | .ty n,u=>u=Value.type n
abbrev Vals:List V→List Value→Prop:=Paired RelV
theorem Vals.length {xs:List V}{us:List Value}(r:Vals xs us):xs.length=us.length:=Paired.length r
theorem Vals.get:∀{xs:List V} {us:List Value} {i:Nat} {x:V},Vals xs us→xs[i]?=some x→∃ u,us[i]?=some u∧RelV x u
 | _,_,_,_,.nil,e=>by simp at e
 | _,_,0,_,.cons r _,e=>by simp at e; subst e; exact⟨_,rfl,r⟩
 | _,_,i+1,x,.cons _ t,e=>by
  obtain⟨u,h1,h2⟩:=Vals.get (i:=i) (x:=x) t (by simpa using e);exact⟨u,by simpa using h1,h2⟩
theorem Vals.set {x:V}{u:Value}(r:RelV x u):∀{xs:List V} {us:List Value} (i:Nat),Vals xs us→Vals (xs.set i x) (us.set i u)
 | _,_,_,.nil=>.nil
 | _,_,0,.cons _ t=>.cons r t
 | _,_,i+1,.cons q t=>.cons q (Vals.set r i t)
theorem Vals.append:∀{xs ys:List V} {us ws:List Value},Vals xs us→Vals ys ws→Vals (xs++ys) (us++ws):=by
 intro xs ys us ws h q
 induction h with
 | nil=>exact q
 | cons r t ih=>exact .cons r ih
theorem Vals.take:∀{xs:List V} {us:List Value} (n:Nat),Vals xs us→Vals (xs.take n) (us.take n)
 | _,_,0,_=>.nil
 | _,_,_+1,.nil=>.nil
 | _,_,n+1,.cons r t=>.cons r (Vals.take n t)
theorem Vals.drop:∀{xs:List V} {us:List Value} (n:Nat),Vals xs us→Vals (xs.drop n) (us.drop n)
 | _,_,0,r=>r
 | _,_,_+1,.nil=>.nil
 | _,_,n+1,.cons _ t=>Vals.drop n t
noncomputable def RelO:Option V→Option Value→Prop
 | some v,some u=>RelV v u
 | none,none=>True
 | _,_=>False
noncomputable def KV {κ:Type}:List (κ×V)→List (κ×Value)→Prop:=Paired fun(p:κ×V) (q:κ×Value)=>p.1=q.1∧RelV p.2 q.2
noncomputable def kV:Key→V
 | .inl i=>.int i
 | .inr x=>.str x
inductive HO where
 | lst (xs:List V)
 | tup (xs:List V)
 | dK (kvs:List (Key×V))|dT (kvs:List (List Key×V))
 | set (S:Int→Bool) (n:Nat)
 | ins (C dx:Addr) (fs:List (Str×V))
 | own (x:Addr)
 | xd (fs:List (Str×V))
 | met (f x:Addr)
 | rng (lo hi:Int)
 | frz (o:Obj) (u:HO)
 | tbl (ps:Array Value)
 | ext (φ:Heap→Prop)
abbrev Hp:=Addr→Option HO
noncomputable def upd (H:Hp)(a:Addr)(o:HO):Hp:=fun b=>if b=a then some o else H b
theorem aW {H:Hp}{a:Addr}{o:HO}:upd H a o a=some o:=by unfold upd; rw[if_pos rfl]
theorem aR {H:Hp}{a b:Addr}{o:HO}(h:b≠a):upd H a o b=H b:=by unfold upd; rw[if_neg h]
theorem a3M {H:Hp}{a b:Addr}{o u:HO}(h:H a=some o)(h':H b=some u)(d:o≠u):a≠b:=by
 intro e; subst e; rw[h] at h'; exact d (Option.some.inj h')
theorem bC {H:Hp}{a b:Addr}{o:HO}(h:H a=some o)(h':H b=none):a≠b:=by
 intro e; subst e; rw[h] at h'; cases h'
section
variable (P:Program)(w:World)
noncomputable def ObjOk (H:Hp)(h:Heap)(a:Addr):HO→Prop
 | .lst xs=>xs.length≤sizeLine∧∃(its:List Value) (n:Nat),Vals xs its∧h.get? a=some { cls:=.type "list", data:=.seq its.toArray n }
 | .tup xs=>xs.length≤sizeLine∧∃ its:List Value,Vals xs its∧IsTup h a its.toArray
 | .dK kvs=>kvs.length≤sizeLine∧(a==sysModules)=false∧∃ vs,KV kvs vs∧h.DictOf (dH P w) a vs
 | .dT kvs=>kvs.length≤sizeLine∧(a==sysModules)=false∧∃ xs:List (List Key×Addr×Value),
   Paired (fun(p:List Key×V) (q:List Key×Addr×Value)=>p.1=q.1∧H q.2.1=some (.tup (p.1.map kV))∧RelV p.2 q.2.2) kvs xs ∧
   ∃ o es ep,h.get? a=some o∧o.ExactDict∧o.data=.dict es ep∧es.toList=xs.map (entryOfKey (tupleKind (dH P w)))∧(xs.map (·.1)).Nodup
 | .set S n=>h.SetOf (intKind P w) a S n
 | .ins C dx fs=>H dx=some (.own a)∧fs.length≤1000∧dx≠a∧h.get? a=some (instObj C dx) ∧
   ∃ mA,h.Ns1 dx mA∧(∀ f,RelO (fs.lookup f) (mA f))∧PySem.Within mA (fs.map (·.1))
 | .own _=>∃ o,h.get? a=some o
 | .xd fs=>∃ mA,h.Ns1 a mA∧∀ f,RelO (fs.lookup f) (mA f)
 | .rng lo hi=>∃ t u v,h.get? a=some { cls:=.type "range", data:=.fields #[.int lo t,.int hi u,.int 1 v] }
 | .frz o u=>h.get? a=some o∧ObjOk H h a u
 | .tbl ps=>h.get? a=some { cls:=.none,data:=.fields ps }
 | .met f x=>h.get? a=some (methodObj (.ref f) (.ref x))
 | .ext φ=>φ h∧(∃ o,h.get? a=some o)∧∀ h1 h2:Heap,φ h1→(∀ o,h1.get? a=some o→h2.get? a=some o)→φ h2
noncomputable def HOk (H:Hp)(h:Heap):Prop:=∀ a o,H a=some o→ObjOk P w H h a o
end
section
variable {P:Program}{w:World}{H H':Hp}{h h':Heap}{a:Addr}{o:HO}
theorem ObjOk.lt (x:ObjOk P w H h a o):a<h.objs.size:=by
 cases o with
 | lst xs=>obtain⟨_,_,_,_,e⟩:=x; exact lt_size e
 | tup xs=>obtain⟨_,_,_,p⟩:=x; exact p.lt
 | dK kvs=>obtain⟨_,_,_,_,o,_,_,e,_⟩:=x; exact lt_size e
 | dT kvs=>obtain⟨_,_,_,_,o,_,_,e,_⟩:=x; exact lt_size e
 | set S n=>obtain⟨o,_,_,_,e,_⟩:=x; exact lt_size e
 | ins C dx fs=>obtain⟨_,_,_,e,_⟩:=x; exact lt_size e
 | own y=>obtain⟨_,e⟩:=x; exact lt_size e
 | xd fs=>obtain⟨_,⟨_,_,_,e,_⟩,_⟩:=x; exact lt_size e
 | rng lo hi=>obtain⟨_,_,_,e⟩:=x; exact lt_size e
 | frz ob u=>obtain⟨e,_⟩:=x; exact lt_size e
 | tbl ps=>exact lt_size (show h.get? a=some _ from x)
 | met f y=>exact lt_size (show h.get? a=some _ from x)
 | ext φ=>obtain⟨_,⟨_,e⟩,_⟩:=x; exact lt_size e
theorem Paired.mapP {α β:Type}{F G:α→β→Prop}:∀{l₁:List α} {l₂:List β},Paired F l₁ l₂→(∀ a b,F a b→G a b)→Paired G l₁ l₂:=by
 intro l₁ l₂ h f
 induction h with
 | nil=>exact .nil
 | cons r t ih=>exact .cons (f _ _ r) ih
theorem Paired.imp' {α β:Type}{F G:α→β→Prop}(f:∀ a b,F a b→G a b){l₁:List α}{l₂:List β}(r:Paired F l₁ l₂):Paired G l₁ l₂:=Paired.mapP r f
theorem ObjOk.stay (x:ObjOk P w H h a o)(k:∀ b u,(b=a∨H b=some (.own a))→h.get? b=some u→h'.get? b=some u)
  (ho:∀ b,H b=some (.own a)→H' b=some (.own a)) (ht:∀ b xs,H b=some (.tup xs)→H' b=some (.tup xs)):ObjOk P w H' h' a o:=by
 induction o with
 | lst xs=>obtain⟨z,its,n,r,e⟩:=x; exact⟨z,its,n,r,k _ _ (.inl rfl) e⟩
 | tup xs=>obtain⟨z,its,r,ob,e,c⟩:=x; exact⟨z,its,r,ob,k _ _ (.inl rfl) e,c⟩
 | dK kvs=>obtain⟨z,y,vs,r,ob,es,ep,e,c⟩:=x; exact⟨z,y,vs,r,ob,es,ep,k _ _ (.inl rfl) e,c⟩
 | dT kvs=>
  obtain⟨z,y,xs,r,ob,es,ep,e,c⟩:=x;exact⟨z,y,xs,Paired.mapP r fun p q z=>⟨z.1,ht _ _ z.2.1,z.2.2⟩,ob,es,ep,k _ _ (.inl rfl) e,c⟩
 | set S n=>obtain⟨ob,es,ep,t,e,c⟩:=x; exact⟨ob,es,ep,t,k _ _ (.inl rfl) e,c⟩
 | ins C dx fs=>
  obtain⟨d,z,ne,e,mA,⟨od,es,ep,e2,c⟩,r⟩:=x;exact⟨ho _ d,z,ne,k _ _ (.inl rfl) e,mA,⟨od,es,ep,k _ _ (.inr d) e2,c⟩,r⟩
 | own y=>obtain⟨ob,e⟩:=x; exact⟨ob,k _ _ (.inl rfl) e⟩
 | xd fs=>obtain⟨mA,⟨od,es,ep,e,c⟩,r⟩:=x; exact⟨mA,⟨od,es,ep,k _ _ (.inl rfl) e,c⟩,r⟩
 | rng lo hi=>obtain⟨t,u,v,e⟩:=x; exact⟨t,u,v,k _ _ (.inl rfl) e⟩
 | frz ob u ih=>obtain⟨e,q⟩:=x; exact⟨k _ _ (.inl rfl) e,ih q⟩
 | tbl ps=>
  have e:h.get? a=some { cls:=.none,data:=.fields ps }:=x;show h'.get? a=some { cls:=.none,data:=.fields ps };exact k a _ (.inl rfl) e
 | met f y=>
  have e:h.get? a=some (methodObj (.ref f) (.ref y)):=x;show h'.get? a=some (methodObj (.ref f) (.ref y));exact k a _ (.inl rfl) e
 | ext φ=>obtain⟨p,⟨o,e⟩,st⟩:=x; exact⟨st _ _ p fun o q=>k _ _ (.inl rfl) q,⟨o,k _ _ (.inl rfl) e⟩,st⟩
theorem HOk.lt (x:HOk P w H h)(e:H a=some o):a<h.objs.size:=(x a o e).lt
theorem HOk.fresh (x:HOk P w H h)(e:h.objs.size≤a):H a=none:=by
 cases q:H a with
 | none=>rfl
 | some u=>exact absurd (lt_of_lt_of_le (x.lt q) e) (lt_irrefl _)
theorem HOk.kept (x:HOk P w H h)(k:∀ b u,h.get? b=some u→h'.get? b=some u):HOk P w H h':=fun a o e=>
 (x a o e).stay (fun b u _ q=>k b u q) (fun _ q=>q) fun _ _ q=>q
theorem HOk.laid (x:HOk P w H h)(k:∀ b u,h.get? b=some u→h'.get? b=some u)(hp:h.objs.size≤a)(new:ObjOk P w (upd H a o) h' a o):HOk P w (upd H a o) h':=fun b u e=>by
 have hn:=x.fresh hp
 by_cases hb:b=a
 ·subst hb; rw[aW] at e; cases e; exact new
 ·rw[aR hb] at e;exact(x b u e).stay (fun c v _ q=>k c v q) (fun c q=>by rw[aR (bC q hn)]; exact q) fun c xs q=>by rw[aR (bC q hn)]; exact q
end
noncomputable def Rd (H:Hp)(a:Addr)(u:HO):Prop:=H a=some u∨∃ o,H a=some (.frz o u)
theorem Rd.ok {P:Program}{w:World}{H:Hp}{h:Heap}{a:Addr}{u:HO}(r:Rd H a u)(x:HOk P w H h):ObjOk P w H h a u:=by
 rcases r with r|⟨o,r⟩
 ·exact x a u r
 ·obtain⟨_,q⟩:=x a _ r;exact q
noncomputable def Mut:Option HO→Prop
 | some (.lst _)=>True
 | some (.dK _)=>True
 | some (.dT _)=>True
 | some (.set _ _)=>True
 | some (.ins _ _ _)=>True
 | some (.ext _)=>True
 | _=>False
section
variable {P:Program}{w:World}{H:Hp}{h h':Heap}{x e:Addr}{o':HO}
theorem HOk.write (ok:HOk P w H h)(mu:Mut (H x))(he:e=x∨H e=some (.own x))(k:∀ b u,b≠e→h.get? b=some u→h'.get? b=some u)(heo:∃ u,h'.get? e=some u)
  (new:ObjOk P w (upd H x o') h' x o'):HOk P w (upd H x o') h':=fun b u q=>by
 have nown:∀ c y,H c=some (.own y)→c≠x:=fun c y r z=>by subst z; rw[r] at mu; exact mu
 have ntup:∀ c xs,H c=some (.tup xs)→c≠x:=fun c xs r z=>by subst z; rw[r] at mu; exact mu
 by_cases hb:b=x
 ·subst hb; rw[aW] at q; cases q; exact new
 ·rw[aR hb] at q
  by_cases hbe:b=e
  ·have q':H b=some (.own x):=by
    rcases he with z|z
    ·exact absurd (hbe.trans z) hb
    ·rw[hbe]; exact z
   rw[q] at q'; cases q';obtain⟨v,hv⟩:=heo;exact⟨v,by rw[hbe]; exact hv⟩
  ·refine(ok b u q).stay (fun c v hc r=>k c v ?_ r) (fun c r=>by rw[aR (nown c b r)]; exact r) fun c xs r=>by rw[aR (ntup c xs r)]; exact r
   rcases hc with rfl|hc
   ·exact hbe
   ·rintro rfl;rcases he with z|z
    ·exact nown c b hc z
    ·rw[hc] at z; cases z; exact hb rfl
end
structure Un (fs ex:List Addr)(H H':Hp)(h h':Heap):Prop where
 keep:∀ b o,h.get? b=some o→H b=none→b∉fs→b∉ex→h'.get? b=some o
 slot:∀ b o,h.get? b=some o→H b=none→b∈fs→b∉ex→∃ sl,h'.get? b=some { o with slots:=sl }
 free:∀ b o,h.get? b=some o→H b=none→b∉ex→H' b=none
 there:∀ b o,h.get? b=some o→b∉ex→∃ o',h'.get? b=some o'
 tups:∀ b xs,H b=some (.tup xs)→H' b=some (.tup xs)
 frzs:∀ b o u,H b=some (.frz o u)→H' b=some (.frz o u)
 tbls:∀ b ps,H b=some (.tbl ps)→∃ more,H' b=some (.tbl (ps++more))
section
variable {fs fs' ex ex':List Addr}{H H1 H2:Hp}{h h1 h2 h':Heap}{a x e:Addr}{o:HO}
theorem Un.any (u:Un fs ex H H1 h h1){b:Addr}{ob:Obj}(q:h.get? b=some ob)(n:H b=none)(hx:b∉ex):∃ sl,h1.get? b=some { ob with slots:=sl }:=by
 by_cases hb:b∈fs
 ·exact u.slot b ob q n hb hx
 ·exact⟨ob.slots,u.keep b ob q n hb hx⟩
theorem Un.kept (k:∀ b u,h.get? b=some u→h'.get? b=some u):Un fs ex H H h h':=
 ⟨fun b ob q _ _ _=>k b ob q,fun b ob q _ _ _=>⟨ob.slots,k b ob q⟩,fun _ _ _ n _=>n,fun b ob q _=>⟨ob,k b ob q⟩,fun _ _ q=>q,fun _ _ _ q=>q,fun _ ps q=>⟨#[],by rw[q]; simp⟩⟩
theorem Un.refl:Un fs ex H H h h:=Un.kept fun _ _ q=>q
theorem Un.laid (k:∀ b u,h.get? b=some u→h'.get? b=some u)(hp:h.objs.size≤a)(hn:H a=none):Un fs ex H (upd H a o) h h' where
 keep:=fun b u q _ _ _=>k b u q
 slot:=fun b u q _ _ _=>⟨u.slots,k b u q⟩
 free:=fun b u q n _=>by rw[aR (ne_of_lt (lt_of_lt_of_le (lt_size q) hp))]; exact n
 there:=fun b u q _=>⟨u,k b u q⟩
 tups:=fun b xs q=>by rw[aR (bC q hn)]; exact q
 frzs:=fun b u xs q=>by rw[aR (bC q hn)]; exact q
 tbls:=fun b ps q=>⟨#[],by rw[aR (bC q hn),q]; simp⟩
theorem Un.write (mu:Mut (H x))(he:e=x∨H e=some (.own x))(k:∀ b u,b≠e→h.get? b=some u→h'.get? b=some u)(heo:∃ u,h'.get? e=some u):Un fs ex H (upd H x o) h h':=by
 have hx:∀ b,H b=none→b≠x:=fun b n z=>by subst z; rw[n] at mu; exact mu
 have hb:∀ b,H b=none→b≠e:=fun b n z=>by
  subst z;rcases he with r|r
  ·exact hx b n r
  ·rw[n] at r; cases r
 have hm:∀ b u,H b=some u→¬Mut (some u)→b≠x:=fun b u q nm z=>by subst z; rw[q] at mu; exact nm mu
 refine⟨fun b u q n _ _=>k b u (hb b n) q,fun b u q n _ _=>⟨u.slots,k b u (hb b n) q⟩,fun b u q n _=>by rw[aR (hx b n)]; exact n,fun b u q _=>?_,
  fun b xs q=>by rw[aR (hm b _ q fun z=>z)]; exact q,fun b u xs q=>by rw[aR (hm b _ q fun z=>z)]; exact q,fun b ps q=>⟨#[],by rw[aR (hm b _ q fun z=>z),q]; simp⟩⟩
 by_cases hbe:b=e
 ·subst hbe; exact heo
 ·exact⟨u,k b u hbe q⟩
end
noncomputable def trk (h:Heap)(H:Hp):List Addr:=(List.range h.objs.size).filter fun a=>(H a).isSome
noncomputable def a88 (h:Heap)(H:Hp):Heap:=hideAll h (trk h H)
theorem a7B (h:Heap)(H:Hp):(a88 h H).objs.size=h.objs.size:=PySem.W.hideAll_size _ _
theorem a7G {h:Heap}{H:Hp}{b:Addr}{o:Obj}(e:h.get? b=some o)(n:H b=none):(a88 h H).get? b=some o:=
 hideAll_get _ e fun hm=>by
  have q:(H b).isSome=true:=(mem_filter.mp hm).2;rw[n] at q; simp at q
theorem aAC {h:Heap}{H:Hp}{b:Addr}{o:Obj}(e:(a88 h H).get? b=some o):h.get? b=some o∧H b=none:=by
 have e':h.get? b=some o:=of_hideAll (trk h H) e;refine⟨e',?_⟩
 cases q:H b with
 | none=>rfl
 | some x=>
  have hm:b∈trk h H:=mem_filter.mpr ⟨mem_range.mpr (lt_size e'),by simp[q]⟩;have z:(a88 h H).get? b=none:=hideAll_none (trk h H) hm;rw[z] at e; cases e
end L2
namespace L2
open PySem PySem.Spec PyProof.Rows
structure Mod (K:PySem.W.Frag)(mg:Str→Option Value)(base:Heap):Prop where
 kin:K.In base
 glob:base.Ns mainGlobals mg
 blt:∃ mb,base.Ns builtinsNs mb∧∀ x:Str,x ≠ "__name__" → mb x=bootBuiltins x
 nolimit:base.NoLimit
 sm:∃ mm,base.Ns sysModules mm
structure Cx where
 prog:Program
 w:World
 K:PySem.W.Frag
 mg:Str→Option Value
 base:Heap
 A:Around
 N:List Str
 s₀:Shared
 H₀:Hp
 env:Env
 outer:List Env
 stack:List Env
 ex:List Addr
 fn:Str→Bool
 calm:Bool
 pn:List (Addr×Obj)
 xe:Value→Shared→Prop
noncomputable def frs (l:List Env):List Addr:=l.filterMap (·.frame)
abbrev Cx.fs (X:Cx):List Addr:=frs X.outer
noncomputable def Vis (sc:Scope)(x:Str):Prop:=sc.names.lookup x=some .local∨sc.names.lookup x=some .cell∨sc.names.lookup x=some .free
noncomputable def Loc (sc:Scope)(x:Str):Prop:=sc.names.lookup x=some .local∨sc.names.lookup x=some .cell
noncomputable def Look (env:Env)(h:Heap)(m:Str→Option Value)(x:Str)(u:Value):Prop:=
 (env.kindOf x=some .local∧m x=some u)∨((env.kindOf x=some .cell∨env.kindOf x=some .free)∧∃ c,env.cells.lookup x=some c∧h.IsCell c (some u))
structure Cx.Ok (X:Cx):Prop where
 mod:Mod X.K X.mg X.base
 kind:X.env.scope.kind=.function
 glob:X.env.globals=mainGlobals
 blt:X.env.builtins=builtinsNs
 above:X.s₀.heap.objs.size≤X.env.locals
 inj:∀ x y c,X.env.cells.lookup x=some c→X.env.cells.lookup y=some c→x=y
 has:∀ x,(X.env.kindOf x=some .cell∨X.env.kindOf x=some .free)→∃ c,X.env.cells.lookup x=some c
 cab:∀ x c,X.fn x=true→X.env.cells.lookup x=some c→X.s₀.heap.objs.size≤c
 hd:X.calm=true→X.A.handled=none
 frames:X.A.frames=some X.stack
 stk:X.stack=X.outer∨(X.stack=X.env::X.outer∧X.env.frame=some X.env.locals)
 exf:∀ b∈X.ex,b≠X.env.locals∧∀ x c,X.env.cells.lookup x=some c→c≠b
 bs:∀ b o,X.base.get? b=some o→X.s₀.heap.get? b=some o∧X.H₀ b=none
 bsz:X.base.objs.size≤X.s₀.heap.objs.size
 noex:∀ b o,X.base.get? b=some o→b∉X.ex
 exfs:∀ b∈X.ex,b∉X.fs
 funs:X.s₀.heap.FunFrames X.base X.outer
 frf:∀ b∈X.fs,X.H₀ b=none
structure Inv (X:Cx)(pins:List (Addr×Obj))(σ:List (Option V))(H:Hp)(s:Shared):Prop where
 ok:X.Ok
 os:s.os=X.s₀.os
 bare:AllBare s.gens
 base:Un X.fs X.ex X.H₀ H X.s₀.heap s.heap
 loc:∃ m,s.heap.Ns X.env.locals m∧∀(i:Nat) (x:Str) (v:V),X.N[i]?=some x→σ[i]?=some (some v)→Vis X.env.scope x→∃ u,RelV v u∧Look X.env s.heap m x u
 cell:∀ x c,X.env.cells.lookup x=some c→∃ v,s.heap.IsCell c v
 free:H X.env.locals=none
 freeC:∀ x c,X.env.cells.lookup x=some c→H c=none
 pin:∀ p∈X.pn++pins,s.heap.get? p.1=some p.2∧H p.1=none∧p.1≠X.env.locals∧p.1∉X.fs∧∀ v,p.2.data≠.cell v
 hok:HOk X.prog X.w H s.heap
 len:σ.length=X.N.length
section
variable {X:Cx}{pins:List (Addr×Obj)}{σ:List (Option V)}{H H':Hp}{s:Shared}{h':Heap}
theorem Cx.Ok.nofr (ok:X.Ok){b:Addr}{o:Obj}(e:X.base.get? b=some o):b∉X.fs:=fun hb=>by
 have:=(ok.funs.mem hb).1;rw[e] at this; cases this
theorem Inv.bs (I:Inv X pins σ H s):∀ b o,X.base.get? b=some o→s.heap.get? b=some o∧H b=none:=fun b o e=>
 ⟨I.base.keep b o (I.ok.bs b o e).1 (I.ok.bs b o e).2 (I.ok.nofr e) (I.ok.noex b o e),I.base.free b o (I.ok.bs b o e).1 (I.ok.bs b o e).2 (I.ok.noex b o e)⟩
theorem Inv.bk (I:Inv X pins σ H s):∀ b o,X.base.get? b=some o→s.heap.get? b=some o:=fun b o e=>(I.bs b o e).1
theorem Inv.mod (I:Inv X pins σ H s):Mod X.K X.mg X.base:=I.ok.mod
theorem Inv.kIn (I:Inv X pins σ H s):X.K.In s.heap:=I.ok.mod.kin.keeps I.bk
theorem Inv.fr (I:Inv X pins σ H s):∃ m,Fr X.base X.env.locals s.heap m:=
 let ⟨m,hn,_⟩:=I.loc
 ⟨m,hn,I.bk,le_trans I.ok.bsz I.ok.above⟩
theorem Inv.lt (I:Inv X pins σ H s):X.env.locals<s.heap.objs.size:=let ⟨_,hn,_⟩:=I.loc; hn.lt
theorem Inv.sz (I:Inv X pins σ H s):X.s₀.heap.objs.size≤s.heap.objs.size:=le_trans I.ok.above (le_of_lt I.lt)
theorem Inv.nofs (I:Inv X pins σ H s){a:Addr}(h:s.heap.objs.size≤a):a∉X.fs:=fun hb=>by
 obtain⟨_,o,ho,_⟩:=I.ok.funs.mem hb;exact absurd (lt_of_lt_of_le (lt_size ho) (le_trans I.sz h)) (lt_irrefl _)
theorem Inv.cne (I:Inv X pins σ H s):∀ x c,X.env.cells.lookup x=some c→c≠X.env.locals:=fun x c e z=>by
 obtain⟨v,o,ho,hd⟩:=I.cell x c e;obtain⟨m,⟨o',es,ep,ho',hd',_⟩,_⟩:=I.loc;rw[z,ho'] at ho; cases ho; rw[hd'] at hd; cases hd
theorem Inv.funs (I:Inv X pins σ H s):s.heap.FunFrames X.base X.outer:=by
 have all:∀(l:List Env),(∀ b∈frs l,b∈X.fs)→X.s₀.heap.FunFrames X.base l→s.heap.FunFrames X.base l:=by
  intro l
  induction l with
  | nil=>intro _ _; trivial
  | cons env r ih=>
   intro hs hl;obtain⟨hk,⟨L,o,hf,hn,ho,hd⟩,hr⟩:=hl;have hL:L∈X.fs:=hs L (by unfold frs; rw[filterMap_cons,hf]; exact mem_cons_self);obtain⟨sl,e⟩:=I.base.slot L o ho (I.ok.frf L hL) hL fun z=>I.ok.exfs L z hL;exact⟨hk,⟨L,_,hf,hn,e,hd⟩,ih (fun b hb=>hs b (by unfold frs; rw[filterMap_cons,hf]; exact mem_cons_of_mem _ hb)) hr⟩
 exact all X.outer (fun _ hb=>hb) I.ok.funs
theorem Inv.stack (I:Inv X pins σ H s):s.heap.FunFrames X.base X.stack:=by
 rcases I.ok.stk with e|⟨e,hf⟩
 ·rw[e]; exact I.funs
 ·rw[e];obtain⟨m,hn,_⟩:=I.loc;refine .cons (by rw[I.ok.kind]; decide) hf hn ?_ I.funs;exact Heap.get?_none_of_le (le_trans I.ok.bsz I.ok.above)
theorem Inv.stkSub (I:Inv X pins σ H s):∀ b∈frs X.stack,b∈X.env.locals::X.fs:=fun b hb=>by
 rcases I.ok.stk with e|⟨e,hf⟩
 ·rw[e] at hb; exact mem_cons_of_mem _ hb
 ·rw[e] at hb;unfold frs at hb;rw[filterMap_cons,hf] at hb;exact hb
theorem Inv.stkFree (I:Inv X pins σ H s):∀ b∈frs X.stack,H b=none:=fun b hb=>by
 rcases mem_cons.mp (I.stkSub b hb) with e|hb
 ·rw[e]; exact I.free
 ·obtain⟨_,o,ho,_⟩:=I.ok.funs.mem hb;exact I.base.free b o ho (I.ok.frf b hb) fun z=>I.ok.exfs b z hb
theorem Inv.step {g':Array GenState}{t':Nat}{d':Drawn}{ch:List Addr}(I:Inv X pins σ H s)
  (hch:∀ b∈ch,(b∈X.ex∨X.s₀.heap.objs.size≤b)∧b≠X.env.locals∧(∀ x c,X.env.cells.lookup x=some c→c≠b)∧∀ p∈X.pn++pins,p.1≠b)
  (keep:∀ b o,b≠X.env.locals→b∉X.fs→b∉ch→s.heap.get? b=some o→H b=none→h'.get? b=some o)
  (slot:∀ b o,b≠X.env.locals→b∈X.fs→b∉ch→s.heap.get? b=some o→H b=none→∃ sl,h'.get? b=some { o with slots:=sl }) (free:∀ b o,b∉ch→s.heap.get? b=some o→H b=none→H' b=none)
  (there:∀ b o,b∉ch→s.heap.get? b=some o→∃ o',h'.get? b=some o')
  (tups:∀ b xs,H b=some (.tup xs)→H' b=some (.tup xs)) (frzs:∀ b o u,H b=some (.frz o u)→H' b=some (.frz o u)) (tbls:∀ b ps,H b=some (.tbl ps)→∃ more,H' b=some (.tbl (ps++more)))
  (ns:∀ m,s.heap.Ns X.env.locals m→h'.Ns X.env.locals m) (hok:HOk X.prog X.w H' h') (hg:AllBare g') :
  Inv X pins σ H' { s with heap:=h',gens:=g',drawn:=d',toks:=t' }:=by
 have neL:∀ b o,X.s₀.heap.get? b=some o→b≠X.env.locals:=fun b o e=>ne_of_lt (lt_of_lt_of_le (lt_size e) I.ok.above);have neC:∀ b o,X.s₀.heap.get? b=some o→b∉X.ex→b∉ch:=fun b o e hx hb=>by
  rcases(hch b hb).1 with z|z
  ·exact hx z
  ·exact absurd (lt_of_lt_of_le (lt_size e) z) (lt_irrefl _)
 have cellK:∀ x c,X.env.cells.lookup x=some c→∀ v,s.heap.IsCell c v→h'.IsCell c v:=fun x c e v ⟨o,ho,hd⟩=>by
  have nch:c∉ch:=fun z=>(hch c z).2.2.1 x c e rfl
  by_cases hc:c∈X.fs
  ·obtain⟨sl,q⟩:=slot c o (I.cne x c e) hc nch ho (I.freeC x c e);exact⟨_,q,hd⟩
  ·exact⟨o,keep c o (I.cne x c e) hc nch ho (I.freeC x c e),hd⟩
 refine⟨I.ok,I.os,hg,⟨fun b o e n hb hx=>?_,fun b o e n hb hx=>?_,fun b o e n hx=>?_,fun b o e hx=>?_,fun b xs e=>tups b xs (I.base.tups b xs e),fun b o xs e=>frzs b o xs (I.base.frzs b o xs e),fun b ps e=>?_⟩,?_,fun x c e=>?_,?_,fun x c e=>?_,fun p hp=>?_,hok,I.len⟩
 ·exact keep b o (neL b o e) hb (neC b o e hx) (I.base.keep b o e n hb hx) (I.base.free b o e n hx)
 ·obtain⟨sl,e1⟩:=I.base.slot b o e n hb hx;obtain⟨sl',e2⟩:=slot b _ (neL b o e) hb (neC b o e hx) e1 (I.base.free b o e n hx);exact⟨sl',e2⟩
 ·obtain⟨o',e1⟩:=I.base.there b o e hx;exact free b o' (neC b o e hx) e1 (I.base.free b o e n hx)
 ·obtain⟨o',e1⟩:=I.base.there b o e hx;exact there b o' (neC b o e hx) e1
 ·obtain⟨m1,e1⟩:=I.base.tbls b ps e;obtain⟨m2,e2⟩:=tbls b _ e1;exact⟨m1++m2,by rw[e2,Array.append_assoc]⟩
 ·obtain⟨m,hn,hl⟩:=I.loc;refine⟨m,ns m hn,fun i x v e1 e2 e3=>?_⟩;obtain⟨u,r,l⟩:=hl i x v e1 e2 e3;refine⟨u,r,?_⟩;rcases l with l|⟨k,c,e,z⟩
  ·exact .inl l
  ·exact .inr ⟨k,c,e,cellK x c e _ z⟩
 ·obtain⟨v,z⟩:=I.cell x c e;exact⟨v,cellK x c e v z⟩
 ·obtain⟨m,⟨o,_,_,ho,_⟩,_⟩:=I.loc;exact free _ o (fun z=>(hch _ z).2.1 rfl) ho I.free
 ·obtain⟨v,o,ho,hd⟩:=I.cell x c e;exact free c o (fun z=>(hch c z).2.2.1 x c e rfl) ho (I.freeC x c e)
 ·obtain⟨e,n,ne,nf,d⟩:=I.pin p hp;have nch:p.1∉ch:=fun z=>(hch p.1 z).2.2.2 p hp rfl;exact⟨keep p.1 p.2 ne nf nch e n,free p.1 p.2 nch e n,ne,nf,d⟩
theorem Inv.un {t':Nat}(I:Inv X pins σ H s)(u:Un X.fs [] H H' s.heap h')(hok:HOk X.prog X.w H' h'):Inv X pins σ H' { s with heap:=h',toks:=t' }:=by
 obtain⟨m,⟨o,es,ep,ho,r⟩,_⟩:=id I.loc;obtain⟨sl,hL⟩:=u.any ho I.free (by simp);exact I.step (g':=s.gens) (d':=s.drawn) (ch:=[]) (fun _ z=>nomatch z) (fun b o _ hb _ e n=>u.keep b o e n hb (by simp)) (fun b o _ hb _ e n=>u.slot b o e n hb (by simp)) (fun b o _ e n=>u.free b o e n (by simp)) (fun b o _ e=>u.there b o e (by simp)) u.tups u.frzs u.tbls (fun m' hm=>by
  obtain⟨o',es',ep',ho',r'⟩:=hm;rw[ho] at ho'; cases ho';exact⟨_,es',ep',hL,r'⟩) hok I.bare
theorem Inv.call {g':Array GenState}{t':Nat}{d':Drawn}{ch:List Addr}(I:Inv X pins σ H s)(u:Un (frs X.stack) ch H H' s.heap h')(hok:HOk X.prog X.w H' h')(hg:AllBare g')
  (hch:∀ b∈ch,(b∈X.ex∨X.s₀.heap.objs.size≤b)∧b≠X.env.locals∧(∀ x c,X.env.cells.lookup x=some c→c≠b)∧∀ p∈X.pn++pins,p.1≠b) :
  Inv X pins σ H' { s with heap:=h',gens:=g',drawn:=d',toks:=t' }:=by
 obtain⟨m,⟨o,es,ep,ho,r⟩,_⟩:=id I.loc;obtain⟨sl,hL⟩:=u.any ho I.free fun z=>(hch _ z).2.1 rfl;exact I.step (ch:=ch) hch (fun b o hL hb hc e n=>u.keep b o e n (fun z=>(mem_cons.mp (I.stkSub b z)).elim hL hb) hc) (fun b o _ _ hc e n=>u.any e n hc) (fun b o hc e n=>u.free b o e n hc) (fun b o hc e=>u.there b o e hc) u.tups u.frzs u.tbls (fun m' hm=>by
  obtain⟨o',es',ep',ho',r'⟩:=hm;rw[ho] at ho'; cases ho';exact⟨_,es',ep',hL,r'⟩) hok hg
theorem Inv.turned {t':Nat}{it:Addr}(I:Inv X pins σ H s)(k:∀ b o,b≠it→s.heap.get? b=some o→h'.get? b=some o)(hn:H it=none)(hL:it≠X.env.locals)
  (h1:it∈X.ex∨X.s₀.heap.objs.size≤it) (h2:∀ x c,X.env.cells.lookup x=some c→c≠it) (h3:∀ p∈X.pn++pins,p.1≠it):Inv X pins σ H { s with heap:=h',toks:=t' }:=by
 have nit:∀ b u,H b=some u→b≠it:=fun b u e z=>by rw[z,hn] at e; cases e
 refine I.step (g':=s.gens) (d':=s.drawn) (ch:=[it]) (fun b hb=>?_) (fun b o _ _ hc e _=>k b o (fun z=>hc (by simp[z])) e) (fun b o _ _ hc e _=>⟨o.slots,k b o (fun z=>hc (by simp[z])) e⟩) (fun _ _ _ _ n=>n)
  (fun b o hc e=>⟨o,k b o (fun z=>hc (by simp[z])) e⟩) (fun _ _ e=>e) (fun _ _ _ e=>e) (fun b ps e=>⟨#[],by rw[e]; simp⟩) (fun m hm=>?_) (fun b u e=>?_) I.bare
 ·have e:b=it:=by simpa using hb
  subst e;exact⟨h1,hL,h2,h3⟩
 ·obtain⟨o,es,ep,ho,r⟩:=hm;exact⟨o,es,ep,k _ o (Ne.symm hL) ho,r⟩
 ·refine(I.hok b u e).stay (fun c v hc q=>k c v ?_ q) (fun _ q=>q) fun _ _ q=>q;rcases hc with z|z
  ·rw[z]; exact nit b u e
  ·exact nit c _ z
theorem Inv.tok (I:Inv X pins σ H s)(t:Nat):Inv X pins σ H { s with toks:=t }:=I.un (h':=s.heap) (t':=t) Un.refl I.hok
theorem Inv.kept {t':Nat}(I:Inv X pins σ H s)(k:∀ b u,s.heap.get? b=some u→h'.get? b=some u):Inv X pins σ H { s with heap:=h',toks:=t' }:=I.un (Un.kept k) (I.hok.kept k)
theorem Inv.laid {a:Addr}{o:HO}{t':Nat}(I:Inv X pins σ H s)(k:∀ b u,s.heap.get? b=some u→h'.get? b=some u)(hp:s.heap.objs.size≤a)(new:ObjOk X.prog X.w (upd H a o) h' a o) :
  Inv X pins σ (upd H a o) { s with heap:=h',toks:=t' }:=I.un (Un.laid k hp (I.hok.fresh hp)) (I.hok.laid k hp new)
theorem Inv.write {x e:Addr}{o:HO}{t':Nat}(I:Inv X pins σ H s)(mu:Mut (H x))(he:e=x∨H e=some (.own x))(k:∀ b u,b≠e→s.heap.get? b=some u→h'.get? b=some u)(heo:∃ u,h'.get? e=some u)
  (new:ObjOk X.prog X.w (upd H x o) h' x o):Inv X pins σ (upd H x o) { s with heap:=h',toks:=t' }:=I.un (Un.write mu he k heo) (I.hok.write mu he k heo new)
theorem Inv.weak {σ':List (Option V)}(I:Inv X pins σ H s)(hl:σ'.length=σ.length)(w:∀(i:Nat) v,σ'[i]?=some (some v)→σ[i]?=some (some v)):Inv X pins σ' H s:=
 ⟨I.ok,I.os,I.bare,I.base,let ⟨m,hn,hl'⟩:=I.loc; ⟨m,hn,fun i x v e1 e2 e3=>hl' i x v e1 (w i v e2) e3⟩,I.cell,I.free,I.freeC,I.pin,I.hok,hl.trans I.len⟩
theorem Inv.pins_of {pins':List (Addr×Obj)}(I:Inv X pins σ H s)(h:∀ p∈pins',s.heap.get? p.1=some p.2∧H p.1=none∧p.1≠X.env.locals∧p.1∉X.fs∧∀ v,p.2.data≠.cell v):Inv X pins' σ H s:=
 ⟨I.ok,I.os,I.bare,I.base,I.loc,I.cell,I.free,I.freeC,fun p hp=>(mem_append.mp hp).elim (fun z=>I.pin p (mem_append_left _ z)) (h p),I.hok,I.len⟩
theorem v5 {N:List Str}(hN:N.Nodup){i j:Nat}{x:Str}(a:N[i]?=some x)(b:N[j]?=some x):i=j:=by
 obtain⟨h1,e1⟩:=List.getElem?_eq_some_iff.mp a;obtain⟨h2,e2⟩:=List.getElem?_eq_some_iff.mp b;exact(List.getElem_inj hN).mp (e1.trans e2.symm)
theorem tO {M:Model}{A:Around}{E:Value→Shared→Prop}{i:Nat}{x:Str}{v:V}{u:Value}{Q:Unit→Shared→Prop}(I:Inv X pins σ H s)(hN:X.N.Nodup)(hi:X.N[i]?=some x)(hx:Loc X.env.scope x)(r:RelV v u)
  (h:∀ s',Inv X pins (σ.set i (some v)) H s'→(∃ a,Heap.SameBut a s.heap s'.heap∧(a=X.env.locals∨X.env.cells.lookup x=some a))→Q () s') (hf:X.fn x=true∨X.env.scope.names.lookup x=some .local:=by first|exact .inl rfl|exact .inr rfl|assumption):wpAny M A (storeName X.env x u) Q E s:=by
 obtain⟨m,hn,hl⟩:=id I.loc;have hcls:(X.env.scope.kind==.class||(X.env.scope.kind==.module&&X.env.locals != X.env.globals))=false:=by rw[I.ok.kind]; rfl
 have hiσ:i<σ.length:=by rw[I.len]; exact(List.getElem?_eq_some_iff.mp hi).1
 have cne:=I.cne;have tracked:∀{a:Addr} {h':Heap},(∃ o,s.heap.get? a=some o∧H a=none)→Heap.SameBut a s.heap h'→HOk X.prog X.w H h':=fun{a h'} ha hs b ob e=>by
  obtain⟨_,_,hfree⟩:=ha;refine(I.hok b ob e).stay (fun c w' hc q=>(hs.2 c ?_).trans q) (fun _ q=>q) fun _ _ q=>q;rintro rfl;rcases hc with rfl|hc
  ·rw[hfree] at e; cases e
  ·rw[hfree] at hc; cases hc
 rcases hx with hk|hk
 ·refine wpAny_storeName_local hk hn (fun h' hn' hs=>?_) hcls;obtain⟨oL,_,_,hoL,_⟩:=id hn;refine h _ ⟨I.ok,I.os,I.bare,⟨fun b o e n hb hx=>?_,fun b o e n hb hx=>?_,I.base.free,fun b o e hx=>?_,I.base.tups,I.base.frzs,I.base.tbls⟩,⟨_,hn',fun j y v' e1 e2 e3=>?_⟩,fun y c e=>?_,I.free,I.freeC,fun p hp=>?_,tracked ⟨oL,hoL,I.free⟩ hs,by simpa using I.len⟩ ⟨_,hs,.inl rfl⟩
  ·exact(hs.2 b (ne_of_lt (lt_of_lt_of_le (lt_size e) I.ok.above))).trans (I.base.keep b o e n hb hx)
  ·obtain⟨sl,e1⟩:=I.base.slot b o e n hb hx;exact⟨sl,(hs.2 b (ne_of_lt (lt_of_lt_of_le (lt_size e) I.ok.above))).trans e1⟩
  ·obtain⟨o',e1⟩:=I.base.there b o e hx;exact⟨o',(hs.2 b (ne_of_lt (lt_of_lt_of_le (lt_size e) I.ok.above))).trans e1⟩
  ·by_cases hj:j=i
   ·subst hj;rw[hi] at e1; cases e1;rw[getElem?_set_self hiσ] at e2
    cases e2
    exact⟨u,r,.inl ⟨hk,by simp⟩⟩
   ·rw[getElem?_set_ne (Ne.symm hj)] at e2;obtain⟨u',r',q⟩:=hl j y v' e1 e2 e3;refine⟨u',r',?_⟩;rcases q with⟨k,e⟩|⟨k,c,e,z⟩
    ·refine .inl ⟨k,?_⟩;have:y≠x:=fun e=>hj (v5 hN e1 (e▸hi));simp[this,e]
    ·exact .inr ⟨k,c,e,z.sameBut hs (cne y c e)⟩
  ·obtain⟨w',z⟩:=I.cell y c e;exact⟨w',z.sameBut hs (cne y c e)⟩
  ·obtain⟨e,n,ne,nf,d⟩:=I.pin p hp;exact⟨(hs.2 p.1 ne).trans e,n,ne,nf,d⟩
 ·have hfn:X.fn x=true:=by
   rcases hf with z|z
   ·exact z
   ·rw[z] at hk; cases hk
  obtain⟨c,hc⟩:=I.ok.has x (.inl hk);obtain⟨w',z⟩:=I.cell x c hc;refine wpAny_storeName_cell I.ok.kind hk hc z (fun h' hc' hs=>?_);obtain⟨oc,hoc,hocd⟩:=id z;refine h { s with heap:=h' } ⟨I.ok,I.os,I.bare,⟨fun b o e n hb hx=>?_,fun b o e n hb hx=>?_,I.base.free,fun b o e hx=>?_,I.base.tups,I.base.frzs,I.base.tbls⟩,⟨m,hn.sameBut hs (Ne.symm (cne x c hc)),fun j y v' e1 e2 e3=>?_⟩,fun y c' e=>?_,I.free,I.freeC,fun p hp=>?_,tracked ⟨oc,hoc,I.freeC x c hc⟩ hs,by simpa using I.len⟩ ⟨c,hs,.inr hc⟩
  ·exact(hs.2 b (ne_of_lt (lt_of_lt_of_le (lt_size e) (I.ok.cab x c hfn hc)))).trans (I.base.keep b o e n hb hx)
  ·obtain⟨sl,e1⟩:=I.base.slot b o e n hb hx;exact⟨sl,(hs.2 b (ne_of_lt (lt_of_lt_of_le (lt_size e) (I.ok.cab x c hfn hc)))).trans e1⟩
  ·obtain⟨o',e1⟩:=I.base.there b o e hx;exact⟨o',(hs.2 b (ne_of_lt (lt_of_lt_of_le (lt_size e) (I.ok.cab x c hfn hc)))).trans e1⟩
  ·by_cases hj:j=i
   ·subst hj;rw[hi] at e1; cases e1;rw[getElem?_set_self hiσ] at e2
    cases e2
    exact⟨u,r,.inr ⟨.inl hk,c,hc,hc'⟩⟩
   ·rw[getElem?_set_ne (Ne.symm hj)] at e2;obtain⟨u',r',q⟩:=hl j y v' e1 e2 e3;refine⟨u',r',?_⟩;rcases q with q|⟨k,c',e,z'⟩
    ·exact .inl q
    ·refine .inr ⟨k,c',e,z'.sameBut hs ?_⟩;rintro rfl;exact hj (v5 hN e1 (I.ok.inj _ _ _ e hc▸hi))
  ·by_cases hcc:c'=c
   ·subst hcc; exact⟨_,hc'⟩
   ·obtain⟨w2,z2⟩:=I.cell y c' e;exact⟨w2,z2.sameBut hs hcc⟩
  ·obtain⟨e,n,ne,nf,d⟩:=I.pin p hp;refine⟨(hs.2 p.1 ?_).trans e,n,ne,nf,d⟩;intro q;rw[q,hoc] at e;have q':oc=p.2:=Option.some.inj e;exact d w' (by rw[← q']; exact hocd)
theorem nZ {M:Model}{A:Around}{E:Value→Shared→Prop}{i:Nat}{x:Str}{v:V}{u:Value}{Q:Unit→Shared→Prop}(I:Inv X pins σ H s)(hN:X.N.Nodup)(hi:X.N[i]?=some x)(hx:Loc X.env.scope x)(r:RelV v u)
  (h:∀ s',Inv X pins (σ.set i (some v)) H s'→Q () s') (hf:X.fn x=true∨X.env.scope.names.lookup x=some .local:=by first|exact .inl rfl|exact .inr rfl|assumption):wpAny M A (storeName X.env x u) Q E s:=
 tO I hN hi hx r (fun s' I' _=>h s' I') hf
theorem Inv.call' {s':Shared}{ch:List Addr}(I:Inv X pins σ H s)(ho:s'.os=s.os)(u:Un (frs X.stack) ch H H' s.heap s'.heap)(hok:HOk X.prog X.w H' s'.heap)(hg:AllBare s'.gens)
  (hch:∀ b∈ch,(b∈X.ex∨X.s₀.heap.objs.size≤b)∧b≠X.env.locals∧(∀ x c,X.env.cells.lookup x=some c→c≠b)∧∀ p∈X.pn++pins,p.1≠b):Inv X pins σ H' s':=by
 obtain⟨h',g',d',t',o'⟩:=s';have e:o'=s.os:=ho;subst e;exact I.call (g':=g') (t':=t') (d':=d') u hok hg hch
end
abbrev XK:=Value→Option Addr→Hp→Prop
abbrev St:=List (Option V)
abbrev VK:=V→Hp→Prop
abbrev TE:=St→Hp→VK→Prop
abbrev TT:=St→Hp→(Bool→Hp→Prop)→Prop
abbrev TA:=St→Hp→(List V→Hp→Prop)→Prop
structure Ends where
 nx:St→Hp→Prop
 rt:VK
 bk:St→Hp→Prop:=fun _ _=>False
 ct:St→Hp→Prop:=fun _ _=>False
abbrev TS:=Ends→St→Hp→Prop
noncomputable def EP (X:Cx)(pins:List (Addr×Obj))(σ:St)(Q:VK)(u:Value)(s':Shared):Prop:=∃ v H',Inv X pins σ H' s'∧RelV v u∧Q v H'
noncomputable def TP (X:Cx)(pins:List (Addr×Obj))(σ:St)(Q:Bool→Hp→Prop)(b:Bool)(s':Shared):Prop:=∃ H',Inv X pins σ H' s'∧Q b H'
noncomputable def AP (X:Cx)(pins:List (Addr×Obj))(σ:St)(Q:List V→Hp→Prop)(us:List Value)(s':Shared):Prop:=∃ vs H',Inv X pins σ H' s'∧Vals vs us∧Q vs H'
noncomputable def SP (X:Cx)(pins:List (Addr×Obj))(D:Ends)(f:Flow)(s':Shared):Prop:=
 match f with
 | .next=>∃ σ' H',Inv X pins σ' H' s'∧D.nx σ' H'
 | .brk=>∃ σ' H',Inv X pins σ' H' s'∧D.bk σ' H'
 | .cont=>∃ σ' H',Inv X pins σ' H' s'∧D.ct σ' H'
 | .ret u=>∃ v σ' H',Inv X pins σ' H' s'∧RelV v u∧D.rt v H'
noncomputable def PE (X:Cx)(e:Expr)(t:TE):Prop:=
 ∀(pins:List (Addr×Obj)) (s:Shared) (σ:St) (H:Hp) (Q:VK),Inv X pins σ H s→t σ H Q→wpAny (model X.prog X.w) X.A (eval e X.env) (EP X pins σ Q) X.xe s
noncomputable def PT (X:Cx)(e:Expr)(t:TT):Prop:=
 ∀(pins:List (Addr×Obj)) (s:Shared) (σ:St) (H:Hp) (Q:Bool→Hp→Prop),Inv X pins σ H s→t σ H Q→wpAny (model X.prog X.w) X.A (isTrue e X.env (eval e X.env)) (TP X pins σ Q) X.xe s
noncomputable def PW (X:Cx)(e:Expr)(t:TT):Prop:=
 ∀(whole:Sem Value) (pins:List (Addr×Obj)) (s:Shared) (σ:St) (H:Hp) (Q:Bool→Hp→Prop),Inv X pins σ H s→t σ H Q→wpAny (model X.prog X.w) X.A (isTrue e X.env whole) (TP X pins σ Q) X.xe s
theorem PW.pt {X:Cx}{e:Expr}{t:TT}(h:PW X e t):PT X e t:=h _
noncomputable def PA (X:Cx)(es:List Expr)(t:TA):Prop:=
 ∀(pos:Pos) (pins:List (Addr×Obj)) (s:Shared) (σ:St) (H:Hp) (Q:List V→Hp→Prop),Inv X pins σ H s→t σ H Q→wpAny (model X.prog X.w) X.A (spliced (backTo pos (starEach es X.env))) (AP X pins σ Q) X.xe s
noncomputable def PS (X:Cx)(st:Stmt)(t:TS):Prop:=
 ∀(pins:List (Addr×Obj)) (s:Shared) (σ:St) (H:Hp) (D:Ends),Inv X pins σ H s→t D σ H→wpAny (model X.prog X.w) X.A (exec st X.env) (SP X pins D) X.xe s
noncomputable def PSs (X:Cx)(st:List Stmt)(t:TS):Prop:=
 ∀(pins:List (Addr×Obj)) (s:Shared) (σ:St) (H:Hp) (D:Ends),Inv X pins σ H s→t D σ H→wpAny (model X.prog X.w) X.A (execs st X.env) (SP X pins D) X.xe s
theorem thn {α:Type}{t:Sem α}{Q Q':α→Shared→Prop}{M:Model}{A:Around}{E:Value→Shared→Prop}{s:Shared}(h:wpAny M A t Q E s)(hQ:∀ a s,Q a s→Q' a s):wpAny M A t Q' E s:=wpAny_mono h hQ fun _ _ x=>x
end L2
namespace L2
open PySem PySem.Spec PyProof.Rows
section
variable {X:Cx}
theorem bin {a b:Expr}{ta tb:TE}(ha:PE X a ta)(hb:PE X b tb){pins:List (Addr×Obj)}{s:Shared}{σ:St}{H:Hp}{R:V→V→Hp→Prop}(I:Inv X pins σ H s)(h:ta σ H fun x H1=>tb σ H1 fun y H2=>R x y H2)
  {α:Type} {Q:α→Shared→Prop} {f:Value→Value→Sem α}
  (hf:∀ v u s2 x y H2,Inv X pins σ H2 s2→RelV x v→RelV y u→R x y H2→wpAny (model X.prog X.w) X.A (f v u) Q X.xe s2) :
  wpAny (model X.prog X.w) X.A (eval a X.env) (fun v s₁=>wpAny (model X.prog X.w) X.A (eval b X.env) (fun u s₂=>wpAny (model X.prog X.w) X.A (f v u) Q X.xe s₂) X.xe s₁) X.xe s:=by
 refine thn (ha pins s σ H _ I h) fun v s1 ⟨x,H1,I1,r1,q1⟩=>?_;refine thn (hb pins s1 σ H1 _ I1 q1) fun u s2 ⟨y,H2,I2,r2,q2⟩=>?_;exact hf v u s2 x y H2 I2 r1 r2 q2
noncomputable def pO (i:Nat):TE:=fun σ H Q=>∃ v,σ[i]?=some (some v)∧Q v H
noncomputable def tC (v:V):TE:=fun _ H Q=>Q v H
theorem a9R {i:Nat}{x:Str}{pos:Pos}(hN:X.N[i]?=some x)(hv:Vis X.env.scope x)(hd:(x==("__debug__" : Str))=false:=by decide)(hcd:(x==("__classdict__" : Str))=false:=by decide):PE X (.Name x pos) (pO i):=by
 intro pins s σ H Q I h;obtain⟨v,e,h⟩:=h;obtain⟨m,hn,hl⟩:=I.loc;obtain⟨u,r,l⟩:=hl i x v hN e hv;have fin:EP X pins σ Q u s:=⟨v,H,I,r,h⟩;rcases l with⟨hk,hm⟩|⟨hk,c,hc,hcell⟩
 ·exact wpAny_Name (wpAny_loadName_local I.ok.kind hk hn hm fin) hd
 ·rcases hk with hk|hk
  ·exact wpAny_Name (wpAny_loadName_cell I.ok.kind hk hc hcell fin) hd
  ·exact wpAny_Name (wpAny_loadName_free I.ok.kind hk hc hcell fin hcd) hd
theorem aD {i j pos}:PE X (.Constant (.int i) j pos) (tC (.int i)):=fun _ _ _ H _ I h=>wpAny_Constant_int ⟨.int i,H,I.tok _,⟨_,rfl⟩,h⟩
theorem nJ {b j pos}:PE X (.Constant (.bool b) j pos) (tC (.bl b)):=fun _ _ _ H _ I h=>Constant_bool ⟨.bl b,H,I,rfl,h⟩
theorem iB {j pos}:PE X (.Constant .none j pos) (tC .non):=fun _ _ _ H _ I h=>Constant_none ⟨.non,H,I,rfl,h⟩
theorem bW {x j pos}:PE X (.Constant (.str x) j pos) (tC (.str x)):=fun _ _ _ H _ I h=>Calls.Constant_str ⟨.str x,H,I.tok _,⟨_,rfl⟩,h⟩
noncomputable def Gl (X:Cx)(x:Str):Prop:=X.env.kindOf x=some .globalImplicit
theorem nC {E:Value→Shared→Prop}{pins:List (Addr×Obj)}{s:Shared}{σ:St}{H:Hp}{x:Str}{u:Value}{pos:Pos}{Q:Value→Shared→Prop}(I:Inv X pins σ H s)(hg:Gl X x)(hm:X.mg x=some u)(h:Q u s)
  (hd:(x==("__debug__" : Str))=false:=by decide):wpAny (model X.prog X.w) X.A (eval (.Name x pos) X.env) Q E s:=
 Calls.Name_function_global I.ok.kind hg (Calls.loadGlobal_global (by rw[I.ok.glob]; exact I.mod.glob.keeps I.bk) hm h) hd
theorem yM {E:Value→Shared→Prop}{pins:List (Addr×Obj)}{s:Shared}{σ:St}{H:Hp}{x:Str}{u:Value}{pos:Pos}{Q:Value→Shared→Prop}(I:Inv X pins σ H s)(hg:Gl X x)(hm:X.mg x=none)(hv:bootBuiltins x=some u)(h:Q u s)
  (hn:x ≠ "__name__" := by decide) (hd:(x==("__debug__" : Str))=false:=by decide):wpAny (model X.prog X.w) X.A (eval (.Name x pos) X.env) Q E s:=by
 obtain⟨mb,h1,h2⟩:=I.mod.blt;exact Calls.Name_function_global I.ok.kind hg (Calls.loadGlobal_builtin (by rw[I.ok.glob]; exact I.mod.glob.keeps I.bk) hm (by rw[I.ok.blt]; exact h1.keeps I.bk) ((h2 x hn).trans hv) h) hd
theorem iZ {x:Str}{v:V}{u:Value}{pos:Pos}(hg:Gl X x)(hm:X.mg x=some u)(r:RelV v u)(hd:(x==("__debug__" : Str))=false:=by decide):PE X (.Name x pos) (tC v):=
 fun _ _ _ H _ I h=>nC I hg hm ⟨v,H,I,r,h⟩ hd
theorem lQ {x:Str}{v:V}{u:Value}{pos:Pos}(hg:Gl X x)(hm:X.mg x=none)(hv:bootBuiltins x=some u)(r:RelV v u)(hn:x ≠ "__name__" := by decide)(hd:(x==("__debug__" : Str))=false:=by decide):PE X (.Name x pos) (tC v):=
 fun _ _ _ H _ I h=>yM I hg hm hv ⟨v,H,I,r,h⟩ hn hd
variable {a b:Expr}{ta tb:TE}{pos:Pos}
noncomputable def PC (X:Cx)(op:CmpOp)(a b:Expr)(t:TE):Prop:=
 ∀(pins:List (Addr×Obj)) (s:Shared) (σ:St) (H:Hp) (Q:VK),Inv X pins σ H s→t σ H Q →
  wpAny (model X.prog X.w) X.A (eval a X.env) (fun v s₁=>wpAny (model X.prog X.w) X.A (eval b X.env) (fun u s₂=>wpAny (model X.prog X.w) X.A (compareOp op v u) (EP X pins σ Q) X.xe s₂) X.xe s₁) X.xe s
noncomputable def tB (t:TE):TT:=fun σ H Q=>t σ H fun x H1=>∃ c,x=.bl c∧Q c H1
theorem aEX {op:CmpOp}{t:TE}(h:PC X op a b t)(h1:behindInMarks op b=false:=by first|exact nobehind _ (by decide) (by decide)|rfl):PE X (.Compare a [op] [b] pos) t:=fun pins s σ H Q I hw=>wpAny_Compare1 (h pins s σ H Q I hw) h1
theorem aIY {op:CmpOp}{t:TE}(h:PC X op a b t)(h1:behindInMarks op b=false:=by first|exact nobehind _ (by decide) (by decide)|rfl):PT X (.Compare a [op] [b] pos) (tB t):=by
 intro pins s σ H Q I hw;refine wpAny_isTrue_Compare1 (thn (h pins s σ H _ I hw) fun v s1 h1=>thn h1 fun u s2 h2=>thn h2 fun c s3 ⟨x,H1,I1,r1,q1⟩=>?_) h1;obtain⟨d,rfl,q⟩:=q1
 cases r1
 exact wpAny_truthy_bool ⟨H1,I1,q⟩
theorem gM {e:Expr}{t:TE}(h:PE X e t)(he:∀ whole,isTrue e X.env whole=(do let v←whole; standAt e.pos; holding [v] (truthy v)):=by intro _; rfl):PT X e (tB t):=by
 intro pins s σ H Q I hw;refine isTrue_plain (thn (h pins s σ H _ I hw) fun v s1 ⟨x,H1,I1,r1,q1⟩=>?_) (he _);obtain⟨d,rfl,q⟩:=q1
 cases r1
 exact wpAny_truthy_bool ⟨H1,I1,q⟩
variable {tA tB':TT}{rest:List Expr}
noncomputable def aIR (t u:TT):TT:=fun σ H Q=>t σ H fun c H1=>if c=true then u σ H1 Q else Q false H1
noncomputable def tOr (t u:TT):TT:=fun σ H Q=>t σ H fun c H1=>if c=true then Q true H1 else u σ H1 Q
noncomputable def aJ8 (t:TT):TT:=fun σ H Q=>t σ H fun c H1=>Q (!c) H1
theorem a02 (ha:PT X a tA):PW X (.BoolOp .And [a] pos) tA:=by
 intro wh pins s σ H Q I h;refine isTrue_and (thn (ha pins s σ H Q I h) fun c s1 e=>?_)
 cases c with
 | true=>exact isTrue_and_nil e
 | false=>exact e
theorem p8 (ha:PT X a tA):PW X (.BoolOp .Or [a] pos) tA:=by
 intro wh pins s σ H Q I h;refine isTrue_or (thn (ha pins s σ H Q I h) fun c s1 e=>?_)
 cases c with
 | false=>exact isTrue_or_nil e
 | true=>exact e
theorem a3Q (ha:PT X a tA)(hb:PW X (.BoolOp .And (b::rest) pos) tB'):PW X (.BoolOp .And (a::b::rest) pos) (aIR tA tB'):=by
 intro wh pins s σ H Q I h;refine isTrue_and (thn (ha pins s σ H _ I h) fun c s1 ⟨H1,I1,q1⟩=>?_)
 cases c with
 | true=>exact hb wh pins s1 σ H1 Q I1 q1
 | false=>exact⟨H1,I1,q1⟩
theorem pJ (ha:PT X a tA)(hb:PW X (.BoolOp .Or (b::rest) pos) tB'):PW X (.BoolOp .Or (a::b::rest) pos) (tOr tA tB'):=by
 intro wh pins s σ H Q I h;refine isTrue_or (thn (ha pins s σ H _ I h) fun c s1 ⟨H1,I1,q1⟩=>?_)
 cases c with
 | true=>exact⟨H1,I1,q1⟩
 | false=>exact hb wh pins s1 σ H1 Q I1 q1
theorem jC (ha:PT X a tA):PT X (.UnaryOp .Not a pos) (aJ8 tA):=by
 intro pins s σ H Q I h;exact isTrue_not (ha pins s σ H (fun c H1=>Q (!c) H1) I h)
noncomputable def aFK (ta tb:TE):TE:=fun σ H Q=>ta σ H fun x H1=>∃ c,x=.bl c∧if c=true then tb σ H1 Q else Q (.bl false) H1
noncomputable def aCV (ta:TE):TE:=fun σ H Q=>ta σ H fun x H1=>∃ c,x=.bl c∧Q (.bl (!c)) H1
theorem uF {op}{t:TE}(h:PE X a t):PE X (.BoolOp op [a] pos) t:=fun pins s σ H Q I hw=>BoolOp_one (h pins s σ H Q I hw)
theorem oR (ha:PE X a ta)(hb:PE X (.BoolOp .And (b::rest) pos) tb):PE X (.BoolOp .And (a::b::rest) pos) (aFK ta tb):=by
 intro pins s σ H Q I h;refine BoolOp_and (thn (ha pins s σ H _ I h) fun v s1 ⟨x,H1,I1,r1,q1⟩=>?_);obtain⟨c,rfl,q1⟩:=q1
 cases r1
 refine wpAny_truthy_bool ?_
 cases c with
 | true=>exact hb pins s1 σ H1 Q I1 q1
 | false=>exact⟨.bl false,H1,I1,rfl,q1⟩
theorem aCG (ha:PE X a ta):PE X (.UnaryOp .Not a pos) (aCV ta):=by
 intro pins s σ H Q I h;refine UnaryOp_ (thn (ha pins s σ H _ I h) fun v s1 ⟨x,H1,I1,r1,q1⟩=>?_);obtain⟨c,rfl,q1⟩:=q1
 cases r1
 exact not_of (wpAny_truthy_bool ⟨.bl (!c),H1,I1,rfl,q1⟩)
end
end L2
namespace L2
open PySem PySem.Spec PyProof.Rows
noncomputable def SqL (K:PySem.W.Frag)(H:Hp)(a:Addr)(xs:List V):Prop:=
 Rd H a (.lst xs) ∨
  ∃(o:Obj) (its:Array Value) (n:Nat),K.lookup a=some o∧o.cls=.type "list" ∧ o.dict=none∧o.data=.seq its n∧its.size≤sizeLine∧Vals xs its.toList
noncomputable def SqT (K:PySem.W.Frag)(H:Hp)(a:Addr)(xs:List V):Prop:=
 Rd H a (.tup xs) ∨
  ∃(o:Obj) (its:Array Value) (n:Nat),K.lookup a=some o∧o.cls=.type "tuple" ∧ o.data=.seq its n∧its.size≤sizeLine∧Vals xs its.toList
noncomputable def aKF:Value→Option V
 | .none=>some .non
 | .bool b=>some (.bl b)
 | .int i _=>some (.int i)
 | .str x _=>some (.str x)
 | .bytes b _=>some (.byt b)
 | .float b _=>some (.flt b)
 | .ref a=>some (.ref a)
 | .type n=>some (.ty n)
 | _=>none
theorem RelV.abs {x:V}{u:Value}(r:RelV x u):aKF u=some x:=by
 cases x with
 | non=>cases r; rfl
 | bl _=>cases r; rfl
 | int _=>obtain⟨t,rfl⟩:=r; rfl
 | str _=>obtain⟨t,rfl⟩:=r; rfl
 | byt _=>obtain⟨t,rfl⟩:=r; rfl
 | flt _=>obtain⟨t,rfl⟩:=r; rfl
 | ref _=>cases r; rfl
 | ty _=>cases r; rfl
theorem RelV.inj {x y:V}{u:Value}(r:RelV x u)(q:RelV y u):x=y:=Option.some.inj (r.abs.symm.trans q.abs)
theorem Vals.inj:∀{xs ys:List V} {us:List Value},Vals xs us→Vals ys us→xs=ys:=by
 intro xs ys us h
 induction h generalizing ys with
 | nil=>intro q; cases q; rfl
 | cons r t ih=>intro q; cases q with|cons r' t'=>rw[r.inj r',ih t']
section
variable {X:Cx}{pins:List (Addr×Obj)}{σ:St}{H:Hp}{s:Shared}{a:Addr}{xs ys:List V}
theorem SqL.of {K:PySem.W.Frag}(h:H a=some (.lst xs)):SqL K H a xs:=.inl (.inl h)
theorem SqT.of {K:PySem.W.Frag}(h:H a=some (.tup xs)):SqT K H a xs:=.inl (.inl h)
theorem Inv.list (I:Inv X pins σ H s)(h:SqL X.K H a xs):∃ its:List Value,Vals xs its∧PlainL s.heap a its.toArray∧xs.length≤sizeLine:=by
 rcases h with h|⟨o,its,n,hk,hc,hd,hs,hz,r⟩
 ·obtain⟨z,its,n,r,e⟩:=h.ok I.hok;exact⟨its,r,⟨_,n,e,rfl,rfl,rfl⟩,z⟩
 ·refine⟨its.toList,r,⟨o,n,I.kIn a o hk,hc,hd,by simpa using hs⟩,?_⟩;have e:=r.length;simp only[length_toList] at e;omega
theorem Inv.tuple (I:Inv X pins σ H s)(h:SqT X.K H a xs):∃ its:List Value,Vals xs its∧IsTup s.heap a its.toArray∧xs.length≤sizeLine:=by
 rcases h with h|⟨o,its,n,hk,hc,hs,hz,r⟩
 ·obtain⟨z,its,r,p⟩:=h.ok I.hok;exact⟨its,r,p,z⟩
 ·refine⟨its.toList,r,⟨o,I.kIn a o hk,hc,n,by simpa using hs⟩,?_⟩;have e:=r.length;simp only[length_toList] at e;omega
theorem Inv.list_inj (I:Inv X pins σ H s)(h:SqL X.K H a xs)(h':SqL X.K H a ys):xs=ys:=by
 obtain⟨its,r,⟨o,n,e,_,_,d⟩,_⟩:=I.list h;obtain⟨its',r',⟨o',n',e',_,_,d'⟩,_⟩:=I.list h';rw[e] at e'; cases e';rw[d] at d';injection d' with d1 _;have:its=its':=by simpa using congrArg Array.toList d1
 subst this;exact r.inj r'
theorem Inv.tuple_inj (I:Inv X pins σ H s)(h:SqT X.K H a xs)(h':SqT X.K H a ys):xs=ys:=by
 obtain⟨its,r,⟨o,e,_,n,d⟩,_⟩:=I.tuple h;obtain⟨its',r',⟨o',e',_,n',d'⟩,_⟩:=I.tuple h';rw[e] at e'; cases e';rw[d] at d';injection d' with d1 _;have:its=its':=by simpa using congrArg Array.toList d1
 subst this;exact r.inj r'
end
abbrev Cx.wish (X:Cx)(E:Value→Shared→Prop):Cx:={ X with xe:=E }
abbrev Cx.nox (X:Cx):Cx:=X.wish fun _ _=>False
theorem Cx.Ok.wish {X:Cx}(ok:X.Ok)(E:Value→Shared→Prop):(X.wish E).Ok:=
 ⟨ok.mod,ok.kind,ok.glob,ok.blt,ok.above,ok.inj,ok.has,ok.cab,ok.hd,ok.frames,ok.stk,ok.exf,ok.bs,ok.bsz,ok.noex,ok.exfs,ok.funs,ok.frf⟩
theorem Cx.Ok.unwish {X:Cx}{E:Value→Shared→Prop}(ok:(X.wish E).Ok):X.Ok:=
 ⟨ok.mod,ok.kind,ok.glob,ok.blt,ok.above,ok.inj,ok.has,ok.cab,ok.hd,ok.frames,ok.stk,ok.exf,ok.bs,ok.bsz,ok.noex,ok.exfs,ok.funs,ok.frf⟩
section
variable {X:Cx}{pins:List (Addr×Obj)}{σ:St}{H:Hp}{s:Shared}{E:Value→Shared→Prop}
theorem Inv.wish (I:Inv X pins σ H s)(E:Value→Shared→Prop):Inv (X.wish E) pins σ H s:=⟨I.ok.wish E,I.os,I.bare,I.base,I.loc,I.cell,I.free,I.freeC,I.pin,I.hok,I.len⟩
theorem Inv.unwish (I:Inv (X.wish E) pins σ H s):Inv X pins σ H s:=⟨I.ok.unwish,I.os,I.bare,I.base,I.loc,I.cell,I.free,I.freeC,I.pin,I.hok,I.len⟩
theorem SP.unwish {D:Ends}{f:Flow}{s':Shared}(h:SP (X.wish E) pins D f s'):SP X pins D f s':=by
 cases f with
 | next=>obtain⟨σ',H',I,q⟩:=h; exact⟨σ',H',I.unwish,q⟩
 | brk=>obtain⟨σ',H',I,q⟩:=h; exact⟨σ',H',I.unwish,q⟩
 | cont=>obtain⟨σ',H',I,q⟩:=h; exact⟨σ',H',I.unwish,q⟩
 | ret u=>obtain⟨v,σ',H',I,r,q⟩:=h; exact⟨v,σ',H',I.unwish,r,q⟩
theorem PSs.nox {st:List Stmt}{t:TS}(h:PSs X.nox st t):PSs X st t:=fun pins s σ H D I hw=>
 wpAny_mono (h pins s σ H D (I.wish _) hw) (fun _ _ q=>q.unwish) fun _ _ z=>False.elim z
end
section
variable {X:Cx}{st:Stmt}{rest:List Stmt}{t u:TS}{e:Expr}{te:TE}{pos:Pos}
noncomputable def aBE:TS:=fun D σ H=>D.nx σ H
noncomputable def aG2 (t u:TS):TS:=fun D σ H=>t { D with nx:=u D } σ H
theorem cP:PSs X [] aBE:=fun _ _ σ H _ I h=>wpAny_execs_nil ⟨σ,H,I,h⟩
theorem aM (h1:PS X st t)(h2:PSs X rest u):PSs X (st::rest) (aG2 t u):=by
 intro pins s σ H D I h;refine wpAny_execs_cons (thn (h1 pins s σ H { D with nx:=u D } I h) fun f s1 q=>?_)
 cases f with
 | next=>
  obtain⟨σ',H',I',q⟩:=q;exact h2 pins s1 σ' H' D I' q
 | ret v=>exact q
 | brk=>exact q
 | cont=>exact q
theorem aU (h1:PS X st t):PSs X [st] t:=by
 intro pins s σ H D I h;refine wpAny_execs_cons (thn (h1 pins s σ H D I h) fun f s1 q=>?_)
 cases f with
 | next=>exact wpAny_execs_nil q
 | ret v=>exact q
 | brk=>exact q
 | cont=>exact q
theorem Inv.quiet {pins:List (Addr×Obj)}{σ:St}{H:Hp}{s:Shared}(I:Inv X pins σ H s):interactive X.env=false:=by simp[interactive,I.ok.kind]
noncomputable def aBS (te:TE):TS:=fun D σ H=>te σ H fun _ H1=>D.nx σ H1
theorem pH (he:PE X e te)(hs:swapsWith e none pos.line X.env=pure false:=by rfl):PS X (.Expr e pos) (aBS te):=by
 intro pins s σ H D I h;exact wpAny_Expr_any (thn (he pins s σ H _ I h) fun v s1 ⟨x,H1,I1,r1,q1⟩=>⟨σ,H1,I1,q1⟩) I.quiet hs
noncomputable def aFY (te:TE):TS:=fun D σ H=>te σ H D.rt
theorem bY (he:PE X e te):PS X (.Return (some e) pos) (aFY te):=by
 intro pins s σ H D I h;exact wpAny_Return_some (thn (he pins s σ H _ I h) fun v s1 ⟨x,H1,I1,r1,q1⟩=>⟨x,σ,H1,I1,r1,q1⟩)
noncomputable def aG4 (c:TT)(t u:TS):TS:=fun D σ H=>c σ H fun b H1=>if b=true then t D σ H1 else u D σ H1
theorem fG {c:Expr}{a b:List Stmt}{tc:TT}(hc:PT X c tc)(ha:PSs X a t)(hb:PSs X b u):PS X (.If c a b pos) (aG4 tc t u):=by
 intro pins s σ H D I h;refine wpAny_If (thn (hc pins s σ H _ I h) fun d s1 ⟨H1,I1,q1⟩=>?_)
 cases d with
 | true=>exact ha pins s1 σ H1 D I1 q1
 | false=>exact hb pins s1 σ H1 D I1 q1
noncomputable def a9C:TS:=fun _ _ _=>False
theorem a7R:PS X st a9C:=fun _ _ _ _ _ _ h=>h.elim
end
abbrev TG:=V→St→Hp→(St→Hp→Prop)→Prop
abbrev TGs:=List V→St→Hp→(St→Hp→Prop)→Prop
noncomputable def PG (X:Cx)(target:Expr)(t:TG):Prop:=
 ∀(pins:List (Addr×Obj)) (s:Shared) (σ:St) (H:Hp) (v:V) (u:Value) (Q:St→Hp→Prop),Inv X pins σ H s→RelV v u→t v σ H Q →
  wpAny (model X.prog X.w) X.A (assign target X.env u) (fun _ s'=>∃ σ' H',Inv X pins σ' H' s'∧Q σ' H') X.xe s
noncomputable def PGs (X:Cx)(ts:List Expr)(t:TGs):Prop:=
 ∀(pins:List (Addr×Obj)) (s:Shared) (σ:St) (H:Hp) (vs:List V) (us:List Value) (Q:St→Hp→Prop),Inv X pins σ H s→Vals vs us→t vs σ H Q →
  wpAny (model X.prog X.w) X.A (assignInOrder ((assignEach ts X.env).map (·.2)) us) (fun _ s'=>∃ σ' H',Inv X pins σ' H' s'∧Q σ' H') X.xe s
abbrev aHI:=V→V→V→Hp→(Hp→Prop)→Prop
noncomputable def aJ2 (X:Cx)(t:aHI):Prop:=
 ∀(pins:List (Addr×Obj)) (s:Shared) (σ:St) (H:Hp) (o i v:V) (ov iv u:Value) (Q:Hp→Prop),Inv X pins σ H s→RelV o ov→RelV i iv→RelV v u→t o i v H Q →
  wpAny (model X.prog X.w) X.A (setItem ov iv u) (fun _ s'=>∃ H',Inv X pins σ H' s'∧Q H') X.xe s
section
variable {X:Cx}{pos:Pos}
noncomputable def yD (i:Nat):TG:=fun v σ H Q=>Q (σ.set i (some v)) H
theorem jA {i:Nat}{x:Str}(hN:X.N.Nodup)(hi:X.N[i]?=some x)(hx:Loc X.env.scope x)(hf:X.fn x=true∨X.env.scope.names.lookup x=some .local:=by first|exact .inl rfl|exact .inr rfl|assumption):PG X (.Name x pos) (yD i):=by
 intro pins s σ H v u Q I r h;exact wpAny_assign_Name (nZ I hN hi hx r (fun s' I'=>⟨_,H,I',h⟩) hf)
noncomputable def aJF:TGs:=fun vs σ H Q=>vs=[]∧Q σ H
noncomputable def aF1 (t:TG)(u:TGs):TGs:=fun vs σ H Q=>∃ v r,vs=v::r∧t v σ H fun σ' H'=>u r σ' H' Q
theorem a4X:PGs X [] aJF:=by
 intro pins s σ H vs us Q I r h;obtain⟨e,h⟩:=h;subst e
 cases r
 exact assignInOrder_nil ⟨σ,H,I,h⟩
theorem rP {e:Expr}{es:List Expr}{t:TG}{u:TGs}(h1:PG X e t)(h2:PGs X es u)
  (hs:(assignEach (e::es) X.env).map (·.2)=assign e X.env::(assignEach es X.env).map (·.2):=by rfl):PGs X (e::es) (aF1 t u):=by
 intro pins s σ H vs us Q I r h;obtain⟨v,vr,e1,h⟩:=h;subst e1
 cases r with
 | cons r rr=>
  rw[hs];refine assignInOrder_cons (thn (h1 pins s σ H _ _ _ I r h) fun _ s1 ⟨σ1,H1,I1,q1⟩=>?_);exact h2 pins s1 σ1 H1 _ _ Q I1 rr q1
noncomputable def aJ9 (K:PySem.W.Frag)(n:Nat)(t:TGs):TG:=fun v σ H Q=>∃ a xs,v=.ref a∧SqT K H a xs∧xs.length=n∧t xs σ H Q
theorem aFU {es:List Expr}{k:Nat}{t:TGs}{n:Nat}(hc:X.calm=true)(h:PGs X es t)
  (hn:(assignEach es X.env).length=n:=by rfl) (hst:(assignEach es X.env).findIdx? (·.1)=none:=by rfl):PG X (.Tuple es k pos) (aJ9 X.K n t):=by
 intro pins s σ H v u Q I r hw;obtain⟨a,xs,e1,hq,hl,hw⟩:=hw;subst e1
 cases r
 obtain⟨its,rv,ht,hz⟩:=I.tuple hq;refine assign_Tuple_tuple (I.ok.hd hc) ht (by simp[hn,←hl,rv.length]) hst fun h' hx=>?_;have I1:Inv X pins σ H { s with heap:=h' }:=I.kept (t':=s.toks) fun b o e=>hx b o (ne_of_lt (lt_size e)) e;exact h pins _ σ H xs _ Q I1 (by simpa using rv) hw
noncomputable def aJR (to ti:TE)(t:aHI):TG:=fun v σ H Q=>to σ H fun o H1=>ti σ H1 fun i H2=>t o i v H2 fun H3=>Q σ H3
theorem a9J {o i:Expr}{to ti:TE}{t:aHI}(ho:PE X o to)(hi:PE X i ti)(hs:aJ2 X t)
  (ha:∀ v,assign (.Subscript o i pos) X.env v=(do
   let ov←holding [v] (eval o X.env)
   let iv←holding [v,ov] (eval i X.env)
   standAt pos
   holding [v,ov,iv] (setItem ov iv v)
   release [v,ov,iv] []):=by intro _; rfl):PG X (.Subscript o i pos) (aJR to ti t):=by
 intro pins s σ H v u Q I r h;rw[ha];refine wpAny_bind (wpAny_holding (thn (ho pins s σ H _ I h) fun ov s1 ⟨x,H1,I1,r1,q1⟩=>?_));refine wpAny_bind (wpAny_holding (thn (hi pins s1 σ H1 _ I1 q1) fun iv s2 ⟨y,H2,I2,r2,q2⟩=>?_));refine wpAny_bind (wpAny_standAt (wpAny_bind (wpAny_holding (thn (hs pins s2 σ H2 x y v ov iv u _ I2 r1 r2 r q2) fun _ s3 ⟨H3,I3,q3⟩=>?_))));exact wpAny_release ⟨σ,H3,I3,q3⟩
noncomputable def aAP (te:TE)(g:TG):TS:=fun D σ H=>te σ H fun x H1=>g x σ H1 D.nx
theorem a4R {tg e:Expr}{te:TE}{g:TG}(he:PE X e te)(hg:PG X tg g)(hs:swapsWithSole [tg] e pos.line X.env=pure false:=by rfl)(hw:swappedStores [tg] e X.env=pure none:=by rfl)
  (h1:(assignEach [tg] X.env).map (·.2)=[assign tg X.env]:=by rfl):PS X (.Assign [tg] e pos) (aAP te g):=by
 intro pins s σ H D I h;refine wpAny_Assign_stores (thn (he pins s σ H _ I h) fun v s1 ⟨x,H1,I1,r1,q1⟩=>?_) hs hw;rw[h1];exact thn (hg pins s1 σ H1 x v _ I1 r1 q1) fun _ s2 q=>q
theorem cL {i:Nat}{x:Str}{e:Expr}{te:TE}{pos':Pos}(hN:X.N.Nodup)(hi:X.N[i]?=some x)(hx:Loc X.env.scope x)(he:PE X e te)(hs:swapsWith e (some (.Name x pos')) pos.line X.env=pure false:=by rfl)(hf:X.fn x=true∨X.env.scope.names.lookup x=some .local:=by first|exact .inl rfl|exact .inr rfl|assumption) :
  PS X (.Assign [.Name x pos'] e pos) (aAP te (yD i)):=by
 intro pins s σ H D I h;refine wpAny_Assign_Name (thn (he pins s σ H _ I h) fun v s1 ⟨y,H1,I1,r1,q1⟩=>?_) hs;exact nZ I1 hN hi hx r1 (fun s2 I2=>⟨_,H1,I2,q1⟩) hf
noncomputable def aJE (i j:Nat)(ta:TA):TS:=fun D σ H=>ta σ H fun vs H1=>∃ v w,vs=[v,w]∧D.nx ((σ.set i (some v)).set j (some w)) H1
theorem aEO {i j:Nat}{x y:Str}{a b:Expr}{ta:TA}{px py pt:Pos}{kt k2 pt2}(hc:X.calm=true)(hN:X.N.Nodup)(hi:X.N[i]?=some x)(hj:X.N[j]?=some y)(hij:i≠j)
  (hx:X.env.scope.names.lookup x=some .local) (hy:X.env.scope.names.lookup y=some .local) (ha:PA X [a,b] ta)
  (hw:swappedStores [.Tuple [.Name x px,.Name y py] kt pt] (.Tuple [a,b] k2 pt2) X.env=pure (some [x,y]))
  (hs:swapsWithSole [.Tuple [.Name x px,.Name y py] kt pt] (.Tuple [a,b] k2 pt2) pos.line X.env=pure false:=by rfl) :
  PS X (.Assign [.Tuple [.Name x px,.Name y py] kt pt] (.Tuple [a,b] k2 pt2) pos) (aJE i j ta):=by
 intro pins s σ H D I h;rw[exec_Assign_arm];refine wpAny_bind (wpAny_standAt ?_);rw[hs];refine wpAny_bind (wpAny_pure ?_);rw[if_neg (by decide)];refine wpAny_bind (Tuple_ (thn (ha _ pins s σ H _ I h) fun us s1 ⟨vs,H1,I1,r1,q1⟩=>?_));obtain⟨v,w,e1,q1⟩:=q1;subst e1;obtain⟨u1,u2,rfl,rv,rw'⟩:∃ u1 u2,us=[u1,u2]∧RelV v u1∧RelV w u2:=by
  cases r1 with
  | cons p q=>
   cases q with
   | cons p' q'=>
    cases q'
    exact⟨_,_,rfl,p,p'⟩
 refine wpAny_newObj_type ?_ (by show 2≤sizeLine; decide);have I2:Inv X pins σ H1 { s1 with heap:=s1.heap.push { cls:=.type "tuple", data:=.seq [u1,u2].toArray } }:=I1.kept (t':=s1.toks) fun b o e=>get?_push_of_some _ e;rw[hw];refine wpAny_bind (wpAny_pure ?_);show wpAny (model X.prog X.w) X.A (do rule "assign.swapped-stores"; let items←unpackItems (.ref s1.heap.objs.size) 2 none; assignInOrder [fun v=>bindName X.env y v,fun v=>bindName X.env x v] items.reverse; pure Flow.next) _ _ _;refine wpAny_bind (wpAny_rule (wpAny_bind (unpackItems_tuple (items:=#[u1,u2]) (I.ok.hd hc) (IsTup.new s1.heap _) fun h' hx'=>?_)));have I3:=I2.kept (h':=h') (t':=s1.toks) fun b o e=>hx' b o (ne_of_lt (lt_size e)) e;show wpAny _ _ (assignInOrder [fun v=>bindName X.env y v,fun v=>bindName X.env x v] [u2,u1] >>= fun _=>pure Flow.next) _ _ _;refine wpAny_bind (assignInOrder_cons (wpAny_bindName (nZ I3 hN hj (.inl hy) rw' (fun s2 I4=>?_) (.inr hy))));refine assignInOrder_cons (wpAny_bindName (nZ I4 hN hi (.inl hx) rv (fun s3 I5=>assignInOrder_nil (wpAny_pure ?_)) (.inr hx)));rw[set_comm _ _ (Ne.symm hij)] at I5;exact⟨_,H1,I5,q1⟩
end
section
variable {X:Cx}{pos:Pos}
noncomputable def a9X (c:TT)(tb:TS):TS:=fun D σ H=>∃ W:Nat→St→Hp→Prop,(∃ m,W m σ H)∧∀ m σ H,W m σ H →
 c σ H fun b H1=>if b=true then ∃ N:St→Hp→Prop,(∀ σ' H',N σ' H'→∃ m',m'<m∧W m' σ' H')∧tb { D with nx:=N,ct:=N,bk:=D.nx } σ H1 else D.nx σ H1
theorem a0W {c:Expr}{body:List Stmt}{tc:TT}{tb:TS}(hp:PassesOwn (model X.prog X.w) X.A X.env X.xe)(hc:PT X c tc)(hb:PSs X body tb):PS X (.While c body [] pos) (a9X tc tb):=by
 intro pins s σ H D I h;obtain⟨W,⟨m0,w0⟩,turn⟩:=h;refine wpAny_While (codeAny_whileLoop (fun n s'=>∃ σ' H',Inv X pins σ' H' s'∧W n σ' H') ?_ m0 ⟨σ,H,I,w0⟩);rintro n s1 ⟨σ1,H1,I1,w1⟩;refine wpAny_passesOwn hp (thn (hc pins s1 σ1 H1 _ I1 (turn n σ1 H1 w1)) fun b s2 ⟨H2,I2,q2⟩=>?_)
 cases b with
 | true=>
  obtain⟨N,hN,q2⟩:=q2;rw[if_pos rfl];refine wpAny_passesOwn hp (thn (hb pins s2 σ1 H2 _ I2 q2) fun f s3 q3=>?_)
  cases f with
  | next=>
   obtain⟨σ3,H3,I3,n3⟩:=q3;obtain⟨m',hm,w3⟩:=hN σ3 H3 n3;exact⟨m',hm,σ3,H3,I3,w3⟩
  | cont=>
   obtain⟨σ3,H3,I3,n3⟩:=q3;obtain⟨m',hm,w3⟩:=hN σ3 H3 n3;exact⟨m',hm,σ3,H3,I3,w3⟩
  | brk=>exact q3
  | ret v=>exact q3
 | false=>
  rw[if_neg Bool.false_ne_true];exact wpAny_execs_nil ⟨σ1,H2,I2,q2⟩
end
structure It where
 go:Nat→Hp→Prop
 yld:Nat→Hp→V→Hp→Prop
 stop:Nat→Hp→Prop
noncomputable def a3E (X:Cx)(pins:List (Addr×Obj))(H:Hp)(b:Addr):Prop:=
 H b=none∧b≠X.env.locals∧b∉X.fs∧(b∈X.ex∨X.s₀.heap.objs.size≤b)∧(∀ x c,X.env.cells.lookup x=some c→c≠b)∧∀ p∈X.pn++pins,p.1≠b
theorem Inv.fpOk {X:Cx}{pins:List (Addr×Obj)}{σ:St}{H H':Hp}{s:Shared}{b:Addr}(I:Inv X pins σ H s)(hb:s.heap.objs.size≤b)(hn:H' b=none):a3E X pins H' b:=by
 refine⟨hn,ne_of_gt (lt_of_lt_of_le I.lt hb),I.nofs hb,.inr (le_trans I.sz hb),fun x c e z=>?_,fun p hp z=>?_⟩
 ·obtain⟨v,q⟩:=I.cell x c e;exact absurd (lt_of_lt_of_le q.lt (by rw[z]; exact hb)) (lt_irrefl _)
 ·exact absurd (lt_of_lt_of_le (lt_size (I.pin p hp).1) (by rw[z]; exact hb)) (lt_irrefl _)
structure Turn (P:Program)(w:World)(K:PySem.W.Frag)(tg:Expr)(J:It)(fp:List Addr)(it:Addr)(tn:Nat→Heap→Prop):Prop where
 mem:it∈fp
 obj:∀ i h,tn i h→∀ b∈fp,∃ o,h.get? b=some o∧∀ v,o.data≠.cell v
 keep:∀ i h h',tn i h→(∀ b∈fp,∀ o,h.get? b=some o→h'.get? b=some o)→tn i h'
 item:∀(X:Cx),X.prog=P→X.w=w→X.K=K→X.calm=true→∀(i:Nat) (pins:List (Addr×Obj)) (s:Shared) (σ:St) (H:Hp) (E:Value→Shared→Prop),Inv X pins σ H s→(∀ b∈fp,a3E X pins H b)→tn i s.heap→J.go i H →
  wpAny (model P w) X.A (pyNext (.ref it)) (fun r s1=>∃ u,r=some u ∧
   wpAny (model P w) X.A (letOwnedTupleGo tg (.ref it) u) (fun _ s2=>∃ x H',Inv X pins σ H' s2∧RelV x u∧J.yld i H x H'∧tn (i+1) s2.heap∧∀ b∈fp,H' b=none) E s1) E s
 done:∀(X:Cx),X.prog=P→X.w=w→X.K=K→X.calm=true→∀(i:Nat) (pins:List (Addr×Obj)) (s:Shared) (σ:St) (H:Hp) (E:Value→Shared→Prop),Inv X pins σ H s→(∀ b∈fp,a3E X pins H b)→tn i s.heap→J.stop i H →
  wpAny (model P w) X.A (pyNext (.ref it)) (fun r s1=>r=none∧Inv X pins σ H s1) E s
 self:∀(A:Around) (i:Nat) (s:Shared) (Q:Value→Shared→Prop) (E:Value→Shared→Prop),tn i s.heap→Q (.ref it) s→wpAny (model P w) A (pyIter (.ref it)) Q E s
abbrev TI:=St→Hp→(It→Hp→Prop)→Prop
noncomputable def PIE (X:Cx)(pins:List (Addr×Obj))(σ:St)(tg:Expr)(R:It→Hp→Prop)(itv:Value)(s2:Shared):Prop:=
 ∃(it:Addr) (fp:List Addr) (tn:Nat→Heap→Prop) (J:It) (H':Hp),itv=.ref it∧Inv X pins σ H' s2∧Turn X.prog X.w X.K tg J fp it tn∧tn 0 s2.heap∧(∀ b∈fp,a3E X pins H' b)∧R J H'
noncomputable def PI (X:Cx)(tg iter:Expr)(wi:TI):Prop:=
 ∀(pins:List (Addr×Obj)) (s:Shared) (σ:St) (H:Hp) (R:It→Hp→Prop),Inv X pins σ H s→wi σ H R →
  wpAny (model X.prog X.w) X.A (eval iter X.env) (fun v s1=>wpAny (model X.prog X.w) X.A (pyIter v) (PIE X pins σ tg R) X.xe s1) X.xe s
theorem aAA {M:Model}{A:Around}{E:Value→Shared→Prop}{s:Shared}{tg:Expr}{it:Addr}{u:Value}{o:Obj}{n:String}{vs:Array Value}{Q:Unit→Shared→Prop}(ho:s.heap.get? it=some o)(hc:o.cls=.type n)(hd:o.data=.fields vs)
    (hn:["enumerate", "zip", "dict_itemiterator", "dict_reverseitemiterator", "odict_iterator", "itertools.zip_longest", "itertools.pairwise"].contains n=false) (hQ:Q () s):wpAny M A (letOwnedTupleGo tg (.ref it) u) Q E s:=by
  unfold letOwnedTupleGo
  cases tg<;>first
    | exact wpAny_pure hQ
    | (cases u<;>first
        | exact wpAny_pure hQ
        | (refine wpAny_bind (wpAny_load ho ?_)
           rw[hc,hd];show wpAny M A (if (["enumerate", "zip", "dict_itemiterator", "dict_reverseitemiterator", "odict_iterator", "itertools.zip_longest", "itertools.pairwise"].contains n&&vs[0]?==some (rawInt _))=true then _ else _) Q E s;rw[if_neg (by intro h; rw[hn,Bool.false_and] at h; cases h)];exact wpAny_pure hQ))
noncomputable def Itl (K:PySem.W.Frag)(a:Addr):It:=
 ⟨fun i H=>∃ xs x,SqL K H a xs∧xs[i]?=some x,fun i H x H'=>H'=H∧∀ xs,SqL K H a xs→xs[i]?=some x,fun i H=>∃ xs,SqL K H a xs∧xs.length≤i⟩
noncomputable def Itt (K:PySem.W.Frag)(a:Addr):It:=
 ⟨fun i H=>∃ xs x,SqT K H a xs∧xs[i]?=some x,fun i H x H'=>H'=H∧∀ xs,SqT K H a xs→xs[i]?=some x,fun i H=>∃ xs,SqT K H a xs∧xs.length≤i⟩
noncomputable def Itr (lo:Int)(n:Nat):It:=⟨fun i _=>i<n,fun i H x H'=>H'=H∧x=.int (lo+i),fun i _=>n≤i⟩
theorem a3K {P:Program}{w:World}{K:PySem.W.Frag}{tg:Expr}(a it:Addr):Turn P w K tg (Itl K a) [it] it (fun i h=>h.IsListIter it a i) where
 mem:=by simp
 obj:=fun i h st b hb=>by
  have e:b=it:=by simpa using hb
  subst e;obtain⟨o,e,c,d⟩:=st;exact⟨o,e,fun v z=>by rw[d] at z; cases z⟩
 keep:=fun i h h' st k=>st.at fun o e=>k it (by simp) o e
 item:=by
  intro X hP hw hK hc i pins s σ H E I hf st hg;subst hP hw hK;obtain⟨xs,x,hq,hx⟩:=hg;obtain⟨its,rv,p,hz⟩:=I.list hq;obtain⟨u,hu,ru⟩:=rv.get hx;obtain⟨f0,f1,f2,f3,f4,f5⟩:=hf it (by simp);refine wpAny_pyNext_list_item st p.isList (x:=u) (by simpa using hu) fun h' st' sb=>?_;have I1:Inv X pins σ H { s with heap:=h' }:=I.turned (t':=s.toks) (fun b o hb e=>(sb.2 b hb).trans e) f0 f1 f3 f4 f5;obtain⟨o,e,c,d⟩:=id st';exact⟨u,rfl,aAA (s:={ s with heap:=h' }) e c d (by decide) ⟨x,H,I1,ru,⟨rfl,fun ys hy=>by rw[I.list_inj hy hq]; exact hx⟩,st',fun b hb=>(hf b hb).1⟩⟩
 done:=by
  intro X hP hw hK hc i pins s σ H E I hf st hg;subst hP hw hK;obtain⟨xs,hq,hx⟩:=hg;obtain⟨its,rv,p,hz⟩:=I.list hq;obtain⟨f0,f1,f2,f3,f4,f5⟩:=hf it (by simp);have hl:=rv.length;exact wpAny_pyNext_list_end (I.ok.hd hc) st p.isList (by simp; omega) fun h' eb=>⟨rfl,I.turned (t':=s.toks) (fun b o hb e=>eb b o hb e) f0 f1 f3 f4 f5⟩
 self:=fun _ _ _ _ _ st h=>wpAny_pyIter_listiter st h
theorem a2N {P:Program}{w:World}{K:PySem.W.Frag}{tg:Expr}(a it:Addr):Turn P w K tg (Itt K a) [it] it (fun i h=>h.IsTupleIter it a i) where
 mem:=by simp
 obj:=fun i h st b hb=>by
  have e:b=it:=by simpa using hb
  subst e;obtain⟨o,e,c,d⟩:=st;exact⟨o,e,fun v z=>by rw[d] at z; cases z⟩
 keep:=fun i h h' st k=>st.at fun o e=>k it (by simp) o e
 item:=by
  intro X hP hw hK hc i pins s σ H E I hf st hg;subst hP hw hK;obtain⟨xs,x,hq,hx⟩:=hg;obtain⟨its,rv,p,hz⟩:=I.tuple hq;obtain⟨u,hu,ru⟩:=rv.get hx;obtain⟨f0,f1,f2,f3,f4,f5⟩:=hf it (by simp);refine wpAny_pyNext_tuple_item st (show s.heap.IsTuple a its.toArray from p) (x:=u) (by simpa using hu) fun h' st' sb=>?_;have I1:Inv X pins σ H { s with heap:=h' }:=I.turned (t':=s.toks) (fun b o hb e=>(sb.2 b hb).trans e) f0 f1 f3 f4 f5;obtain⟨o,e,c,d⟩:=id st';exact⟨u,rfl,aAA (s:={ s with heap:=h' }) e c d (by decide) ⟨x,H,I1,ru,⟨rfl,fun ys hy=>by rw[I.tuple_inj hy hq]; exact hx⟩,st',fun b hb=>(hf b hb).1⟩⟩
 done:=by
  intro X hP hw hK hc i pins s σ H E I hf st hg;subst hP hw hK;obtain⟨xs,hq,hx⟩:=hg;obtain⟨its,rv,p,hz⟩:=I.tuple hq;obtain⟨f0,f1,f2,f3,f4,f5⟩:=hf it (by simp);have hl:=rv.length;exact wpAny_pyNext_tuple_end (I.ok.hd hc) st (show s.heap.IsTuple a its.toArray from p) (by simp; omega) fun h' eb=>⟨rfl,I.turned (t':=s.toks) (fun b o hb e=>eb b o hb e) f0 f1 f3 f4 f5⟩
 self:=fun _ _ _ _ _ st h=>wpAny_pyIter_tupleiter st h
theorem a2E {P:Program}{w:World}{K:PySem.W.Frag}{tg:Expr}(it:Addr)(lo:Int)(n:Nat):Turn P w K tg (Itr lo n) [it] it (fun i h=>IsRangeIter h it (lo+(i:Nat)*1) ((n:Int)-(i:Nat)) 1) where
 mem:=by simp
 obj:=fun i h st b hb=>by
  have e:b=it:=by simpa using hb
  subst e;exact⟨_,st,fun v z=>by
   have z':Data.fields _=Data.cell v:=z
   cases z'⟩
 keep:=fun i h h' st k=>k it (by simp) _ st
 item:=by
  intro X hP hw hK hc i pins s σ H E I hf st hg;subst hP hw hK;obtain⟨f0,f1,f2,f3,f4,f5⟩:=hf it (by simp);have W:=Walks.range (prog:=X.prog) (w:=X.w) (I.ok.hd hc) it lo 1 n;refine W.item i s _ _ hg st fun v h' tk hv st' kk=>?_;obtain⟨t,rfl⟩:=hv;have I1:Inv X pins σ H { s with heap:=h',toks:=tk }:=I.turned (fun b o hb e=>kk b o (by simpa using hb) e) f0 f1 f3 f4 f5;refine⟨_,rfl,aAA (s:={ s with heap:=h',toks:=tk }) (n := "range_iterator") st' rfl rfl (by decide) ⟨.int (lo+i),H,I1,⟨t,?_⟩,⟨rfl,rfl⟩,st',fun b hb=>(hf b hb).1⟩⟩;rw[Int.mul_one]
 done:=by
  intro X hP hw hK hc i pins s σ H E I hf st hg;subst hP hw hK;obtain⟨f0,f1,f2,f3,f4,f5⟩:=hf it (by simp);exact wpAny_pyNext_range_end (I.ok.hd hc) st (by have:n≤i:=hg; omega) fun h' eb=>⟨rfl,I.turned (t':=s.toks) (fun b o hb e=>eb b o hb e) f0 f1 f3 f4 f5⟩
 self:=fun _ _ _ _ _ st h=>wpAny_pyIter_rangeiter st h
end L2
namespace L2
open PySem PySem.Spec PyProof.Rows
section
variable {X:Cx}{tg:Expr}
noncomputable def aCR (K:PySem.W.Frag)(tl:TE):TI:=fun σ H R=>tl σ H fun x H1=>∃ a,x=.ref a∧(∃ xs,SqL K H1 a xs)∧R (Itl K a) H1
noncomputable def aIS (K:PySem.W.Frag)(tl:TE):TI:=fun σ H R=>tl σ H fun x H1=>∃ a,x=.ref a∧(∃ xs,SqT K H1 a xs)∧R (Itt K a) H1
theorem aBT {l:Expr}{tl:TE}(hl:PE X l tl):PI X tg l (aCR X.K tl):=by
 intro pins s σ H R I h;refine thn (hl pins s σ H _ I h) fun v s1 ⟨x,H1,I1,r1,q1⟩=>?_;obtain⟨a,e,⟨xs,hq⟩,q⟩:=q1;subst e
 cases r1
 obtain⟨its,rv,p,hz⟩:=I1.list hq;refine wpAny_pyIter_list p.isList ?_;refine⟨s1.heap.objs.size,[s1.heap.objs.size],_,_,H1,rfl,I1.kept (t':=s1.toks) fun b o e=>get?_push_of_some _ e,a3K a _,⟨_,get?_push_size _ rfl,rfl,rfl⟩,fun b hb=>?_,q⟩;have e:b=s1.heap.objs.size:=by simpa using hb
 subst e;exact I1.fpOk (le_refl _) (I1.hok.fresh (le_refl _))
theorem aF9 {l:Expr}{tl:TE}(hl:PE X l tl):PI X tg l (aIS X.K tl):=by
 intro pins s σ H R I h;refine thn (hl pins s σ H _ I h) fun v s1 ⟨x,H1,I1,r1,q1⟩=>?_;obtain⟨a,e,⟨xs,hq⟩,q⟩:=q1;subst e
 cases r1
 obtain⟨its,rv,p,hz⟩:=I1.tuple hq;refine wpAny_pyIter_tuple (show s1.heap.IsTuple a its.toArray from p) ?_;refine⟨s1.heap.objs.size,[s1.heap.objs.size],_,_,H1,rfl,I1.kept (t':=s1.toks) fun b o e=>get?_push_of_some _ e,a2N a _,⟨_,get?_push_size _ rfl,rfl,rfl⟩,fun b hb=>?_,q⟩;have e:b=s1.heap.objs.size:=by simpa using hb
 subst e;exact I1.fpOk (le_refl _) (I1.hok.fresh (le_refl _))
theorem a8R {pins:List (Addr×Obj)}{σ:St}{H:Hp}{s:Shared}{R:It→Hp→Prop}{E:Value→Shared→Prop}{lo hi:Int}{t u v:Tok}{tk:Nat}(I:Inv X pins σ H s)(h1 : -(2^62)≤lo)(h2:lo<2^62)(h3 : -(2^62)≤hi)(h4:hi<2^62)
  (q:R (Itr lo (hi-lo).toNat) H):wpAny (model X.prog X.w) X.A (pyIter (.ref s.heap.objs.size)) (PIE X pins σ tg R) E { s with heap:=s.heap.push { cls:=.type "range", data:=.fields #[.int lo t,.int hi u,.int 1 v] },toks:=tk }:=by
 refine wpAny_pyIter_range (IsRange.new ..) (small_one h1 h2 h3 h4) ?_;have I1:Inv X pins σ H { s with heap:=s.heap.push { cls:=.type "range", data:=.fields #[.int lo t,.int hi u,.int 1 v] },toks:=tk }:=I.kept fun b o e=>get?_push_of_some _ e;refine⟨(s.heap.push { cls:=.type "range", data:=.fields #[.int lo t,.int hi u,.int 1 v] }).objs.size,[(s.heap.push { cls:=.type "range", data:=.fields #[.int lo t,.int hi u,.int 1 v] }).objs.size],_,_,H,rfl,
  I1.kept (t':=tk) fun b o e=>get?_push_of_some _ e,a2E _ lo (hi-lo).toNat,?_,fun b hb=>?_,q⟩
 ·have e1:lo+((0:Nat):Int)*1=lo:=by simp
  have e2:(((hi-lo).toNat:Nat):Int)-((0:Nat):Int)=Builtin.Range.rangeSize lo hi 1:=by rw[rangeSize_one]; split<;>omega
  show IsRangeIter _ _ (lo+((0:Nat):Int)*1) ((((hi-lo).toNat:Nat):Int)-((0:Nat):Int)) 1;rw[e1,e2];exact get?_push_size _ rfl
 ·have e:b=(s.heap.push { cls:=.type "range", data:=.fields #[.int lo t,.int hi u,.int 1 v] }).objs.size:=by simpa using hb
  subst e;exact I1.fpOk (le_refl _) (I1.hok.fresh (le_refl _))
noncomputable def aEU (ta:TA):TI:=fun σ H R=>ta σ H fun vs H1=>∃ j:Int,vs=[.int j] ∧ -(2^62)≤j∧j<2^62∧R (Itr 0 j.toNat) H1
theorem oX {a:Expr}{ta:TA}{p pos:Pos}(hg:Gl X "range")(hm:X.mg "range" = none)(ha:PA X [a] ta)(hs:starEach [a] X.env=[(false,eval a X.env)]:=by rfl):PI X tg (.Call (.Name "range" p) [a] [] pos) (aEU ta):=by
 intro pins s σ H R I h;refine Call_ (yM I hg hm boot_range (PyProof.Rows.callWith_type1 (thn (ha pos pins s σ H _ I h) fun us s1 ⟨vs,H1,I1,r1,q1⟩=>?_) hs rfl));obtain⟨j,e,q1,q2,q⟩:=q1;subst e
 cases r1 with
 | cons r rr=>
  cases rr
  obtain⟨t,rfl⟩:=r;exact call_range_1 (a8R I1 (by omega) (by omega) q1 q2 (by simpa using q))
noncomputable def aGZ (wi:TI)(g:TG)(tb:TS):TS:=fun D σ H=>wi σ H fun J H1=>∃ W:Nat→Nat→St→Hp→Prop,(∃ m,W 0 m σ H1)∧∀ i m σ H,W i m σ H →
 (J.stop i H∧D.nx σ H)∨(J.go i H∧∃ N:St→Hp→Prop,(∀ σ' H',N σ' H'→∃ m',m'<m∧W (i+1) m' σ' H')∧∀ x H',J.yld i H x H'→g x σ H' fun σ2 H2=>tb { D with nx:=N,ct:=N,bk:=D.nx } σ2 H2)
noncomputable def yG (fp:List Addr)(h:Heap):List (Addr×Obj):=fp.filterMap fun b=>(h.get? b).map fun o=>(b,o)
theorem m8 {fp:List Addr}{h:Heap}{b:Addr}{o:Obj}(hb:b∈fp)(e:h.get? b=some o):(b,o)∈yG fp h:=mem_filterMap.mpr ⟨b,hb,by rw[e]; rfl⟩
theorem a3W {fp:List Addr}{h:Heap}{p:Addr×Obj}(hp:p∈yG fp h):p.1∈fp∧h.get? p.1=some p.2:=by
 obtain⟨b,hb,e⟩:=mem_filterMap.mp hp
 cases q:h.get? b with
 | none=>rw[q] at e; cases e
 | some o=>
  rw[q] at e;have e':(b,o)=p:=Option.some.inj e;subst e';exact⟨hb,q⟩
theorem Inv.pinned {pins:List (Addr×Obj)}{σ:St}{H:Hp}{s:Shared}{fp:List Addr}(I:Inv X pins σ H s)(hf:∀ b∈fp,a3E X pins H b)(ho:∀ b∈fp,∃ o,s.heap.get? b=some o∧∀ v,o.data≠.cell v):Inv X (pins++yG fp s.heap) σ H s:=
 I.pins_of fun p hp=>(mem_append.mp hp).elim (fun z=>I.pin p (mem_append_right _ z)) fun z=>by
  obtain⟨hb,e⟩:=a3W z;obtain⟨f0,f1,f2,_⟩:=hf p.1 hb;obtain⟨o,e',d⟩:=ho p.1 hb;rw[e] at e'; cases e';exact⟨e,f0,f1,f2,d⟩
theorem Inv.unpinned {pins pl:List (Addr×Obj)}{σ:St}{H:Hp}{s:Shared}(I:Inv X (pins++pl) σ H s):Inv X pins σ H s:=I.pins_of fun p hp=>I.pin p (mem_append_right _ (mem_append_left _ hp))
theorem a5M {iter:Expr}{body:List Stmt}{wi:TI}{g:TG}{tb:TS}{pos:Pos}(hp:PassesOwn (model X.prog X.w) X.A X.env X.xe)(hc:X.calm=true)(hi:PI X tg iter wi)(hg:PG X tg g)(hb:PSs X body tb)
  (hs:∀ x,foldedSetIterable iter X.env x=pure x:=by intro _; rfl):PS X (.For tg iter body [] pos) (aGZ wi g tb):=by
 intro pins s σ H D I h;refine wpAny_For (thn (hi pins s σ H _ I h) fun v s1 h1=>thn h1 fun itv s2 h2=>?_) hs;obtain⟨it,fp,tn,J,H2,e,I2,T,st2,f2,W,⟨m0,w0⟩,turn⟩:=h2;subst e;have stat:∀{H':Hp},(∀ b∈fp,H' b=none)→∀ b∈fp,a3E X pins H' b:=fun hn b hb=>⟨hn b hb,(f2 b hb).2⟩;refine codeAny_forLoop_any (fun n s'=>∃ i σ' H',Inv X pins σ' H' s'∧tn i s'.heap∧(∀ b∈fp,H' b=none)∧W i n σ' H') ?_ m0 ⟨0,σ,H2,I2,st2,fun b hb=>(f2 b hb).1,w0⟩;rintro n s3 ⟨i,σ3,H3,I3,st3,fr3,w3⟩;rcases turn i n σ3 H3 w3 with⟨stop,qn⟩|⟨go,N,hN,step⟩
 ·refine wpAny_passesOwn hp (thn (T.done X rfl rfl rfl hc i pins s3 σ3 H3 X.xe I3 (stat fr3) st3 stop) fun r s4 ⟨hr,I4⟩=>?_);subst hr;exact wpAny_execs_nil ⟨σ3,H3,I4,qn⟩
 ·refine wpAny_passesOwn hp (thn (T.item X rfl rfl rfl hc i pins s3 σ3 H3 X.xe I3 (stat fr3) st3 go) fun r s4 ⟨u,hr,h4⟩=>?_);subst hr;refine wpAny_passesOwn hp (thn h4 fun _ s5 ⟨x,H5,I5,r5,y5,st5,fr5⟩=>?_);have I5':=I5.pinned (stat fr5) (T.obj _ _ st5);refine wpAny_passesOwn hp (thn (hg _ s5 σ3 H5 x u _ I5' r5 (step x H5 y5)) fun _ s6 ⟨σ6,H6,I6,q6⟩=>?_);refine wpAny_passesOwn hp (thn (hb _ s6 σ6 H6 _ I6 q6) fun f s7 q7=>?_);have again:∀{σ7:St} {H7:Hp},Inv X (pins++yG fp s5.heap) σ7 H7 s7→N σ7 H7→∃ m,m<n∧∃ i σ' H',Inv X pins σ' H' s7∧tn i s7.heap∧(∀ b∈fp,H' b=none)∧W i m σ' H':=fun{σ7 H7} I7 n7=>by
   obtain⟨m',hm,w7⟩:=hN σ7 H7 n7;refine⟨m',hm,i+1,σ7,H7,I7.unpinned,T.keep _ _ _ st5 fun b hb o e=>(I7.pin (b,o) (mem_append_right _ (mem_append_right _ (m8 hb e)))).1,fun b hb=>?_,w7⟩;obtain⟨o,e,d⟩:=T.obj _ _ st5 b hb;exact(I7.pin (b,o) (mem_append_right _ (mem_append_right _ (m8 hb e)))).2.1
  cases f with
  | next=>obtain⟨σ7,H7,I7,n7⟩:=q7; exact again I7 n7
  | cont=>obtain⟨σ7,H7,I7,n7⟩:=q7; exact again I7 n7
  | brk=>obtain⟨σ7,H7,I7,q7⟩:=q7; exact⟨σ7,H7,I7.unpinned,q7⟩
  | ret v=>obtain⟨x7,σ7,H7,I7,r7,q7⟩:=q7; exact⟨x7,σ7,H7,I7.unpinned,r7,q7⟩
end
end L2
namespace L2
open PySem PySem.Spec PyProof.Rows
abbrev R2:=V→V→Hp→VK→Prop
noncomputable def OpR (X:Cx)(f:Value→Value→Sem Value)(r:R2):Prop:=
 ∀(pins:List (Addr×Obj)) (s:Shared) (σ:St) (H:Hp) (x y:V) (v u:Value) (Q:VK),Inv X pins σ H s→RelV x v→RelV y u→r x y H Q →
  wpAny (model X.prog X.w) X.A (f v u) (EP X pins σ Q) X.xe s
noncomputable def UnR (X:Cx)(f:Value→Sem Value)(r:V→Hp→VK→Prop):Prop:=
 ∀(pins:List (Addr×Obj)) (s:Shared) (σ:St) (H:Hp) (x:V) (v:Value) (Q:VK),Inv X pins σ H s→RelV x v→r x H Q →
  wpAny (model X.prog X.w) X.A (f v) (EP X pins σ Q) X.xe s
noncomputable def t6 (X:Cx)(f:Value)(r:List V→Hp→VK→Prop):Prop:=
 ∀(pins:List (Addr×Obj)) (s:Shared) (σ:St) (H:Hp) (xs:List V) (us:List Value) (Q:VK),Inv X pins σ H s→Vals xs us→r xs H Q →
  wpAny (model X.prog X.w) X.A (call f us) (EP X pins σ Q) X.xe s
noncomputable def tOp (r:R2)(ta tb:TE):TE:=fun σ H Q=>ta σ H fun x H1=>tb σ H1 fun y H2=>r x y H2 Q
noncomputable def tUn (r:V→Hp→VK→Prop)(ta:TE):TE:=fun σ H Q=>ta σ H fun x H1=>r x H1 Q
noncomputable def rI (C:Int→Int→Prop)(g:Int→Int→V):R2:=fun x y H Q=>∃ i j,x=.int i∧y=.int j∧C i j∧Q (g i j) H
noncomputable def rI0 (g:Int→Int→V):R2:=fun x y H Q=>∃ i j,x=.int i∧y=.int j∧Q (g i j) H
noncomputable def rU (g:Int→V):V→Hp→VK→Prop:=fun x H Q=>∃ i,x=.int i∧Q (g i) H
section
variable {X:Cx}{a b c:Expr}{ta tb tc:TE}{pos:Pos}
theorem aHK (ha:PE X a ta)(hb:PE X b tb){pins:List (Addr×Obj)}{s:Shared}{σ:St}{H:Hp}{R:V→V→Hp→Prop}(I:Inv X pins σ H s)
  (h:ta σ H fun x H1=>tb σ H1 fun y H2=>R x y H2) {Q:Value→Shared→Prop} {f:Value→Value→Sem Value}
  (hf:∀ v u s2 x y H2,Inv X pins σ H2 s2→RelV x v→RelV y u→R x y H2→wpAny (model X.prog X.w) X.A (f v u) Q X.xe s2) :
  wpAny (model X.prog X.w) X.A (eval a X.env) (fun v s₁=>wpAny (model X.prog X.w) X.A (eval b X.env) (fun u s₂=>wpAny (model X.prog X.w) X.A (f v u) Q X.xe s₂) X.xe s₁) X.xe s:=by
 refine thn (ha pins s σ H _ I h) fun v s1 ⟨x,H1,I1,r1,q1⟩=>?_;refine thn (hb pins s1 σ H1 _ I1 q1) fun u s2 ⟨y,H2,I2,r2,q2⟩=>?_;exact hf v u s2 x y H2 I2 r1 r2 q2
theorem bN {op:Operator}{r:R2}(ho:OpR X (binaryOp op) r)(ha:PE X a ta)(hb:PE X b tb):PE X (.BinOp a op b pos) (tOp r ta tb):=by
 intro pins s σ H Q I h;exact wpAny_BinOp (aHK ha hb I h fun v u s2 x y H2 I2 rx ry q=>ho pins s2 σ H2 x y v u Q I2 rx ry q)
theorem a7I {op:UnaryOp}{r:V→Hp→VK→Prop}(ho:UnR X (unaryOp op) r)(ha:PE X a ta):PE X (.UnaryOp op a pos) (tUn r ta):=by
 intro pins s σ H Q I h;exact UnaryOp_ (thn (ha pins s σ H _ I h) fun v s1 ⟨x,H1,I1,r1,q1⟩=>ho pins s1 σ H1 x v Q I1 r1 q1)
theorem opI {f:Value→Value→Sem Value}{C:Int→Int→Prop}{g:Int→Int→Int}
  (rule:∀(i j:Int) (t u:Tok) (s:Shared) (Q:Value→Shared→Prop) (E:Value→Shared→Prop),C i j→Q (.int (g i j) s.toks) { s with toks:=s.toks+1 }→wpAny (model X.prog X.w) X.A (f (.int i t) (.int j u)) Q E s) :
  OpR X f (rI C fun i j=>.int (g i j)):=by
 intro pins s σ H x y v u Q I rx ry h;obtain⟨i,j,rfl,rfl,hc,q⟩:=h;obtain⟨t,rfl⟩:=rx;obtain⟨t',rfl⟩:=ry;exact rule i j t t' s _ _ hc ⟨.int (g i j),H,I.tok _,⟨_,rfl⟩,q⟩
theorem aJC {f:Value→Value→Sem Value}{g:Int→Int→Int}
  (rule:∀(i j:Int) (t u:Tok) (s:Shared) (Q:Value→Shared→Prop) (E:Value→Shared→Prop),Q (.int (g i j) s.toks) { s with toks:=s.toks+1 }→wpAny (model X.prog X.w) X.A (f (.int i t) (.int j u)) Q E s) :
  OpR X f (rI0 fun i j=>.int (g i j)):=by
 intro pins s σ H x y v u Q I rx ry h;obtain⟨i,j,rfl,rfl,q⟩:=h;obtain⟨t,rfl⟩:=rx;obtain⟨t',rfl⟩:=ry;exact rule i j t t' s _ _ ⟨.int (g i j),H,I.tok _,⟨_,rfl⟩,q⟩
theorem aG6 {f:Value→Value→Sem Value}{g:Int→Int→Bool}
  (rule:∀(i j:Int) (t u:Tok) (s:Shared) (Q:Value→Shared→Prop) (E:Value→Shared→Prop),Q (.bool (g i j)) s→wpAny (model X.prog X.w) X.A (f (.int i t) (.int j u)) Q E s) :
  OpR X f (rI0 fun i j=>.bl (g i j)):=by
 intro pins s σ H x y v u Q I rx ry h;obtain⟨i,j,rfl,rfl,q⟩:=h;obtain⟨t,rfl⟩:=rx;obtain⟨t',rfl⟩:=ry;exact rule i j t t' s _ _ ⟨.bl (g i j),H,I,rfl,q⟩
noncomputable def aIN (i j:Int):Prop:=0<j∧j<1073741824
noncomputable def aJ0 (i j:Int):Prop:=0≤j∧j≤1000000∧i.natAbs<2^64
theorem eZ:OpR X (binaryOp .Add) (rI0 fun i j=>.int (i+j)):=aJC fun _ _ _ _ _ _ _ q=>add_int q
theorem qW:OpR X (binaryOp .Sub) (rI0 fun i j=>.int (i-j)):=aJC fun _ _ _ _ _ _ _ q=>sub_int q
theorem a68:OpR X (binaryOp .FloorDiv) (rI aIN fun i j=>.int (i/j)):=opI fun i j _ _ _ _ _ hc q=>by
 have h1:(0:Int)<j:=hc.1;have h2:j<1073741824:=hc.2;exact floordiv_int (by omega) (by rw[Int.fdiv_eq_ediv_of_nonneg i (by omega)]; exact q) (.inl (PyProof.noPylong_small (by omega)))
theorem kE:OpR X (binaryOp .Mod) (rI (fun _ j=>0<j) fun i j=>.int (i%j)):=opI fun i j _ _ _ _ _ hc q=>by
 have h1:(0:Int)<j:=hc;exact mod_int' (by omega) (by rw[Int.fmod_eq_emod_of_nonneg i (by omega)]; exact q)
theorem aE2:OpR X (binaryOp .Pow) (rI aJ0 fun i j=>.int (i^j.toNat)):=opI fun _ _ _ _ _ _ _ hc q=>pow_int_small hc.1 hc.2.1 hc.2.2 q
theorem unI {f:Value→Sem Value}{g:Int→Int}
  (rule:∀(i:Int) (t:Tok) (s:Shared) (Q:Value→Shared→Prop) (E:Value→Shared→Prop),Q (.int (g i) s.toks) { s with toks:=s.toks+1 }→wpAny (model X.prog X.w) X.A (f (.int i t)) Q E s) :
  UnR X f (rU fun i=>.int (g i)):=by
 intro pins s σ H x v Q I rx h;obtain⟨i,rfl,q⟩:=h;obtain⟨t,rfl⟩:=rx;exact rule i t s _ _ ⟨.int (g i),H,I.tok _,⟨_,rfl⟩,q⟩
theorem a1A:UnR X (unaryOp .USub) (rU fun i=>.int (-i)):=unI fun _ _ _ _ _ q=>neg_int q
end
section
variable {X:Cx}{a b c:Expr}{ta tb tc:TE}{pos:Pos}
theorem aCY {pins:List (Addr×Obj)}{σ:St}{H:Hp}{s:Shared}{Q:VK}{k k':Bool}(I:Inv X pins σ H s)(q:Q (.bl k) H)(e:k=k'):EP X pins σ Q (.bool k') s:=by
 subst e;exact⟨.bl k,H,I,rfl,q⟩
theorem wR:OpR X (compareOp .Lt) (rI0 fun i j=>.bl (decide (i<j))):=aG6 fun _ _ _ _ _ _ _ q=>lt_int q
theorem aF6:OpR X (compareOp .LtE) (rI0 fun i j=>.bl (decide (i≤j))):=aG6 fun _ _ _ _ _ _ _ q=>le_int q
theorem a2M:OpR X (compareOp .Gt) (rI0 fun i j=>.bl (decide (j<i))):=aG6 fun _ _ _ _ _ _ _ q=>gt_int q
theorem aCQ:OpR X (compareOp .GtE) (rI0 fun i j=>.bl (decide (j≤i))):=aG6 fun _ _ _ _ _ _ _ q=>ge_int q
theorem aAJ:OpR X (compareOp .IsNot) (fun x y H Q=>y=.non∧Q (.bl (!decide (x=.non))) H):=by
 intro pins s σ H x y v u Q I rx ry h;obtain⟨rfl,q⟩:=h
 cases ry
 refine isnot_none_gen (aCY I q ?_)
 cases x<;>first
  | (cases rx; rfl)
  | (obtain⟨t,rfl⟩:=rx; rfl)
theorem bU (b:Expr){op:CmpOp}(h:op≠.In:=by decide)(h2:op≠.NotIn:=by decide):behindInMarks op b=false:=by
 have e1:(op==CmpOp.In)=false:=by cases op<;>first|rfl|exact absurd rfl h
 have e2:(op==CmpOp.NotIn)=false:=by cases op<;>first|rfl|exact absurd rfl h2
 cases b<;>simp[behindInMarks,e1,e2]
theorem jW {op:CmpOp}{r:R2}(ho:OpR X (compareOp op) r)(ha:PE X a ta)(hb:PE X b tb)(hm:behindInMarks op b=false):PE X (.Compare a [op] [b] pos) (tOp r ta tb):=by
 intro pins s σ H Q I h;exact wpAny_Compare1 (aHK ha hb I h fun v u s2 x y H2 I2 rx ry q=>ho pins s2 σ H2 x y v u Q I2 rx ry q) hm
noncomputable def aEF (t:TE):TT:=fun σ H Q=>t σ H fun x H'=>∃ k,x=.bl k∧Q k H'
theorem bL {op:CmpOp}{r:R2}(ho:OpR X (compareOp op) r)(ha:PE X a ta)(hb:PE X b tb)(hm:behindInMarks op b=false):PT X (.Compare a [op] [b] pos) (aEF (tOp r ta tb)):=by
 intro pins s σ H Q I h;refine wpAny_isTrue_Compare1 (thn (ha pins s σ H _ I h) fun v s1 ⟨x,H1,I1,r1,q1⟩=>thn (hb pins s1 σ H1 _ I1 q1) fun u s2 ⟨y,H2,I2,r2,q2⟩=>
  thn (ho pins s2 σ H2 x y v u _ I2 r1 r2 q2) fun c s3 ⟨z,H3,I3,r3,k,e,q3⟩=>?_) hm
 subst e
 cases r3
 exact wpAny_truthy_bool ⟨H3,I3,q3⟩
theorem xU:(sizeLine:Nat)<2^63:=by rw[sizeLine_eq]; decide
theorem vals1 {x:V}{us:List Value}(r:Vals [x] us):∃ u,us=[u]∧RelV x u:=by
 cases r with
 | cons r1 r2=>cases r2; exact⟨_,rfl,r1⟩
theorem vals2 {x y:V}{us:List Value}(r:Vals [x,y] us):∃ u w',us=[u,w']∧RelV x u∧RelV y w':=by
 cases r with
 | cons r1 r2=>
  cases r2 with
  | cons r3 r4=>cases r4; exact⟨_,_,rfl,r1,r3⟩
theorem rQ:t6 X (.builtin "abs") (fun xs H Q=>∃ i,xs=[.int i]∧Q (.int (if i<0 then -i else i)) H):=by
 intro pins s σ H xs us Q I r h;obtain⟨i,rfl,q⟩:=h;obtain⟨u,rfl,t,rfl⟩:=vals1 r;exact call_abs_int fun u tk=>⟨.int (if i<0 then -i else i),H,I.tok _,⟨_,rfl⟩,q⟩
end
end L2
namespace L2
open PySem PySem.Spec PyProof.Rows
structure ObjM (h:Heap)(x dx C:Addr)(mA:Str→Option Value):Prop where
 obj:h.get? x=some (instObj C dx)
 ns:h.Ns1 dx mA
 ne:dx≠x
theorem xH {h:Heap}{dx:Addr}{mA:Str→Option Value}(n:h.Ns1 dx mA):∃ od,h.get? dx=some od∧∀ name,lookIn name od=some (mA name):=by
 obtain⟨o,es,ep,ho,hd,hk,_,hm⟩:=n;refine⟨o,ho,fun name=>?_⟩;have e:=hm name;unfold nsFind findBy at e;rw[← Array.find?_toList] at e;unfold lookIn;rw[hd];dsimp only
 split
 ·rename_i y q
  rw[q] at e;exact congrArg some e
 ·rename_i q
  rw[q] at e;have a:es.toList.any (·.refKey)=false:=by
   rw[List.any_eq_false];intro y hy;obtain⟨z,t,hkey⟩:=hk y (Array.mem_toList_iff.mp hy);simp[DictEntry.refKey,hkey]
  have a':¬es.toList.any (·.refKey)=true:=by rw[a]; exact Bool.false_ne_true
  rw[if_neg a'];exact congrArg some e
theorem ObjM.look {h:Heap}{x dx C:Addr}{mA:Str→Option Value}(I:ObjM h x dx C mA):∃ od,PySem.W.InstAt h x (instObj C dx) C (some od)∧∀ name,lookIn name od=some (mA name):=
 let ⟨od,ho,hl⟩:=xH I.ns
 ⟨od,⟨I.obj,rfl,rfl,ho⟩,hl⟩
section
variable {prog:Program}{w:World}{A:Around}{E:Value→Shared→Prop}{s:Shared}{K:PySem.W.Frag}{x dx C f:Addr}{mA:Str→Option Value}{name:Str}{v:Value}
theorem aBU {expr:Bool}{Q:Value→Shared→Prop}(X:K.In s.heap)(I:ObjM s.heap x dx C mA)(hg:plainGet K C name=true)(hh:hasDictIn K C=true)
  (ha:findIn K (.ref C) name=some none) (hv:mA name=some v) (hv':handedIn v=true) (h:Q v { s with toks:=s.toks+1 }) :
  wpAny (model prog w) A (getAttr (.ref x) name expr) Q E s:=by
 obtain⟨od,J,hl⟩:=I.look;exact PySem.W.get_value X J (plainGet_of hg).1 (findObj_own hh ha rfl (by rw[hl,hv])) hv' h
theorem a8N {pl:Sem Bool}{Q:Value×List Value→Shared→Prop}(X:K.In s.heap)(I:ObjM s.heap x dx C mA)(hg:plainGet K C name=true)
  (hf:findIn K (.ref C) name=some (some (.ref f))) (ht:isFn K (.ref f)=true) (hv:mA name=none) (h:Q (.ref f,[.ref x]) s) :
  wpAny (model prog w) A (getMethod (.ref x) name pl) Q E s:=by
 obtain⟨od,J,hl⟩:=I.look;exact PySem.W.method_fn X J (plainGet_of hg).1 (plainGet_of hg).2 hf (beq_iff_eq.mp ht) (by show(lookIn name od).map (·.isSome)=some false; rw[hl,hv]; rfl) h
theorem aC2 {ns:List Str}{Q:Unit→Shared→Prop}(X:K.In s.heap)(I:ObjM s.heap x dx C mA)
  (hs:findIn K (.ref C) "__setattr__" = some (some (.builtin "object.__setattr__"))) (hp:plainOver K C=true) (ht:takerIn K C name=some none) (hh:hasDictIn K C=true)
  (hw:PySem.Within mA ns) (hsz:ns.length≤sizeLine)
  (h:∀ h',ObjM h' x dx C (fun y=>if y=name then some v else mA y)→Heap.SameBut dx s.heap h'→Q () { s with heap:=h',toks:=s.toks+2 }) :
  wpAny (model prog w) A (setAttr (.ref x) name v) Q E s:=by
 obtain⟨od,J,hl⟩:=I.look;refine set_plain X J hs (PySem.W.osa_open (s:={ s with toks:=s.toks+1 }) (r:=none) X J hp ht fun b=>?_);obtain⟨cd,hc,hd'⟩:=PySem.W.any_some hh;have hx:s.heap.get? x=some ⟨.ref C,some dx,.plain,#[]⟩:=I.obj;refine wpAny_bind (wpAny_pure (wpAny_bind (wpAny_bind (wpAny_loadPart hx (wpAny_bind (PySem.W.Looks.here (s:={ s with toks:=s.toks+1 }) (PySem.W.looks_clsIn X hc) ?_))))));rw[hd'];refine wpAny_pure (a:=some dx) (wpAny_bind (wpAny_pure (wpAny_bind ?_)));refine wpAny_nsSet1 (s:={ s with toks:=s.toks+1 }) I.ns fun h' hn2 hs2=>?_;obtain⟨oD,esD,epD,hoD,hdD,hcD⟩:=hn2.count (PySem.Within.cons name v hw);refine wpAny_bind (wpAny_lookBehind hoD (by rw[hdD]; exact pastItsLine_dict (le_trans hcD (by rw[length_cons]; omega))) ?_);exact wpAny_pure (h _ ⟨(hs2.2 _ (Ne.symm I.ne)).trans I.obj,hn2,I.ne⟩ hs2)
theorem a98 {R:Result→Shared→Prop}{vs:List Value}{kw:List (Str×Value)}(X:K.In s.heap)(hm:makesIn K C=true)
  (hi:findIn K (.ref C) "__init__" = some (some (.ref f))) (hf:typeIn K (.ref f)=some (.type "function"))
  (h:codeAny (model prog w) (A.under (.builtin "type.__call__" ⟨.ref C::vs,kw⟩)) (.call (.ref f) ⟨.ref (s.heap.objs.size+1)::vs,kw⟩) (PySem.W.InitBack (s.heap.objs.size+1) R)
   { s with heap:=(s.heap.push emptyDict).push (instObj C s.heap.objs.size) }) :
  codeAny (model prog w) A (.call (.ref C) ⟨vs,kw⟩) R s:=by
 obtain⟨hh,g,d,t,os⟩:=s;exact PySem.W.make_core (PySem.W.makes_of X hm) (looks_findIn X hi) (fun self=>bind_fn X self hf) (.inl rfl) h
end
noncomputable def xT (f:Str)(v:V):List (Str×V)→List (Str×V)
 | []=>[(f,v)]
 | (g,x)::r=>if g=f then(g,v)::r else(g,x)::xT f v r
theorem rY (f g:Str)(v:V):∀ fs:List (Str×V),(xT f v fs).lookup g=if g=f then some v else fs.lookup g
 | []=>by
  show List.lookup g [(f,v)]=_
  by_cases h:g=f
  ·have hb:(g==f)=true:=beq_iff_eq.mpr h;simp only[List.lookup,hb,if_pos h]
  ·have hb:(g==f)=false:=beq_eq_false_iff_ne.mpr h;simp only[List.lookup,hb,if_neg h]
 | (k,x)::r=>by
  have ih:=rY f g v r;rw[show xT f v ((k,x)::r)=(if k=f then(k,v)::r else(k,x)::xT f v r) from rfl]
  by_cases hk:k=f
  ·rw[if_pos hk]
   by_cases h:g=k
   ·have hb:(g==k)=true:=beq_iff_eq.mpr h;simp only[List.lookup,hb,if_pos (h.trans hk)]
   ·have hb:(g==k)=false:=beq_eq_false_iff_ne.mpr h;simp only[List.lookup,hb,if_neg (fun e:g=f=>h (e.trans hk.symm))]
  ·rw[if_neg hk]
   by_cases h:g=k
   ·have hb:(g==k)=true:=beq_iff_eq.mpr h;simp only[List.lookup,hb,if_neg (fun e:g=f=>hk (h.symm.trans e))]
   ·have hb:(g==k)=false:=beq_eq_false_iff_ne.mpr h;simp only[List.lookup,hb];exact ih
theorem sU (f:Str)(v:V):∀ fs:List (Str×V),f∈(xT f v fs).map (·.1)∧∀ g,g∈fs.map (·.1)→g∈(xT f v fs).map (·.1)
 | []=>⟨by simp[xT],fun g h=>by simp at h⟩
 | (k,x)::r=>by
  obtain⟨i1,i2⟩:=sU f v r;rw[show xT f v ((k,x)::r)=(if k=f then(k,v)::r else(k,x)::xT f v r) from rfl]
  by_cases hk:k=f
  ·rw[if_pos hk];subst hk;exact⟨by simp,fun g h=>by simpa using h⟩
  ·rw[if_neg hk];refine⟨?_,fun g h=>?_⟩
   ·rw[map_cons];exact mem_cons_of_mem _ i1
   ·rw[map_cons] at h ⊢;rcases mem_cons.mp h with e|e
    ·exact mem_cons.mpr (.inl e)
    ·exact mem_cons_of_mem _ (i2 g e)
theorem tQ (f:Str)(v:V):∀ fs:List (Str×V),(xT f v fs).length≤fs.length+1
 | []=>by simp[xT]
 | (k,x)::r=>by
  have ih:=tQ f v r;rw[show xT f v ((k,x)::r)=(if k=f then(k,v)::r else(k,x)::xT f v r) from rfl]
  by_cases hk:k=f
  ·rw[if_pos hk,length_cons,length_cons]; omega
  ·rw[if_neg hk,length_cons,length_cons]; omega
theorem RelO.some_of {v:V}{o:Option Value}(r:RelO (some v) o):∃ u,o=some u∧RelV v u:=by
 cases o with
 | none=>exact(show False from r).elim
 | some u=>exact⟨u,rfl,r⟩
theorem RelO.none_of {o:Option Value}(r:RelO none o):o=none:=by
 cases o with
 | none=>rfl
 | some u=>exact(show False from r).elim
theorem xF {v:V}{u:Value}(r:RelV v u):handedIn u=true:=by
 cases v with
 | non=>cases(show u=Value.none from r); rfl
 | bl b=>cases(show u=Value.bool b from r); rfl
 | int i=>obtain⟨t,e⟩:=(show ∃ t,u=Value.int i t from r); cases e; rfl
 | str x=>obtain⟨t,e⟩:=(show ∃ t,u=Value.str x t from r); cases e; rfl
 | byt b=>obtain⟨t,e⟩:=(show ∃ t,u=Value.bytes b t from r); cases e; rfl
 | flt b=>obtain⟨t,e⟩:=(show ∃ t,u=Value.float b t from r); cases e; rfl
 | ref a=>cases(show u=Value.ref a from r); rfl
 | ty n=>cases(show u=Value.type n from r); rfl
section
variable {P:Program}{w:World}{H H':Hp}{h h':Heap}{a C dx:Addr}{fs fs':List (Str×V)}
theorem vX (hok:HOk P w H h)(e:H a=some (.ins C dx fs)):∃ mA,ObjM h a dx C mA∧(∀ f,RelO (fs.lookup f) (mA f))∧PySem.Within mA (fs.map (·.1))∧fs.length≤1000∧H dx=some (.own a):=by
 obtain⟨d,z,ne,ob,mA,n,r,q⟩:=(show ObjOk P w H h a (.ins C dx fs) from hok a _ e);exact⟨mA,⟨ob,n,ne⟩,r,q,z,d⟩
end
structure Cls (K:PySem.W.Frag)(C:Addr):Prop where
 pg:plainGet K C Str.empty=true
 hd:hasDictIn K C=true
 po:plainOver K C=true
 sa:findIn K (.ref C) "__setattr__" = some (some (.builtin "object.__setattr__"))
theorem Cls.get {K:PySem.W.Frag}{C:Addr}(c:Cls K C)(f:Str):plainGet K C f=true:=c.pg
noncomputable def NoAttr (K:PySem.W.Frag)(C:Addr)(f:Str):Prop:=findIn K (.ref C) f=some none
theorem NoAttr.taker {K:PySem.W.Frag}{C:Addr}{f:Str}(n:NoAttr K C f):takerIn K C f=some none:=by
 unfold takerIn;rw[show findIn K (.ref C) f=some none from n];rfl
structure Meth (K:PySem.W.Frag)(C:Addr)(m:Str)(f:Addr):Prop where
 at_:findIn K (.ref C) m=some (some (.ref f))
 fn:isFn K (.ref f)=true
 kp:keepIn K (.ref f)=true
section
variable {X:Cx}{pins:List (Addr×Obj)}{σ:St}{H:Hp}{s:Shared}{a C dx:Addr}{fs:List (Str×V)}{f:Str}{v:V}{A:Around}{E:Value→Shared→Prop}
theorem uM {b:Bool}{Q:Value→Shared→Prop}(I:Inv X pins σ H s)(e:H a=some (.ins C dx fs))(c:Cls X.K C)(n:NoAttr X.K C f)(l:fs.lookup f=some v)
  (h:∀ u s',Inv X pins σ H s'→RelV v u→Q u s'):wpAny (model X.prog X.w) A (getAttr (.ref a) f b) Q E s:=by
 obtain⟨mA,O,r,_,_,_⟩:=vX I.hok e;obtain⟨u,hu,ru⟩:=RelO.some_of (v:=v) (o:=mA f) (by rw[← l]; exact r f);exact aBU I.kIn O (c.get f) c.hd n hu (xF ru) (h u _ (I.tok _) ru)
theorem uD {m:Str}{g:Addr}{pl:Sem Bool}{Q:Value×List Value→Shared→Prop}(I:Inv X pins σ H s)(e:H a=some (.ins C dx fs))(c:Cls X.K C)(k:Meth X.K C m g)(l:fs.lookup m=none)
  (h:Q (.ref g,[.ref a]) s):wpAny (model X.prog X.w) A (getMethod (.ref a) m pl) Q E s:=by
 obtain⟨mA,O,r,_,_,_⟩:=vX I.hok e;have hn:mA m=none:=RelO.none_of (by rw[← l]; exact r m);exact a8N I.kIn O (c.get m) k.at_ k.fn hn h
theorem uU {y:V}{u:Value}{Q:Unit→Shared→Prop}(I:Inv X pins σ H s)(e:H a=some (.ins C dx fs))(c:Cls X.K C)(n:NoAttr X.K C f)(hl:fs.length<1000)(ry:RelV y u)
  (h:∀ s',Inv X pins σ (upd H a (.ins C dx (xT f y fs))) s'→Q () s'):wpAny (model X.prog X.w) A (setAttr (.ref a) f u) Q E s:=by
 obtain⟨mA,O,r,wi,_,ho⟩:=vX I.hok e;have hz:(fs.map (·.1)).length≤sizeLine:=by rw[length_map,sizeLine_eq]; omega
 refine aC2 I.kIn O c.sa c.po n.taker c.hd wi hz fun h' O' sb=>h _ ?_;have hd:∃ o,h'.get? dx=some o:=let ⟨o,_,_,e',_⟩:=O'.ns; ⟨o,e'⟩;refine I.write (x:=a) (e:=dx) (by rw[e]; exact True.intro) (.inr ho) (fun b q hb z=>(sb.2 b hb).trans z) hd ?_;refine⟨by rw[aR O.ne]; exact ho,?_,O.ne,O'.obj,_,O'.ns,fun g=>?_,fun g hg=>?_⟩
 ·have:=tQ f y fs; omega
 ·show RelO ((xT f y fs).lookup g) (if g=f then some u else mA g);rw[rY]
  by_cases q:g=f
  ·rw[if_pos q,if_pos q]; exact ry
  ·rw[if_neg q,if_neg q]; exact r g
 ·by_cases q:g=f
  ·rw[q]; exact(sU f y fs).1
  ·refine(sU f y fs).2 g (wi g fun z=>hg ?_)
   show(if g=f then some u else mA g)=none
   rw[if_neg q]; exact z
theorem Inv.made (I:Inv X pins σ H s):Inv X pins σ (upd (upd H s.heap.objs.size (.own (s.heap.objs.size+1))) (s.heap.objs.size+1) (.ins C s.heap.objs.size []))
  { s with heap:=(s.heap.push emptyDict).push (instObj C s.heap.objs.size) }:=by
 have e1:(s.heap.push emptyDict).get? s.heap.objs.size=some emptyDict:=get?_push_size s.heap rfl;have e2:((s.heap.push emptyDict).push (instObj C s.heap.objs.size)).get? (s.heap.objs.size+1)=some (instObj C s.heap.objs.size):=by
  have:=get?_push_size (s.heap.push emptyDict) (o:=instObj C s.heap.objs.size) rfl;rwa[size_push] at this
 have e3:(s.heap.push emptyDict).Ns s.heap.objs.size (fun _=>none):=⟨emptyDict,#[],_,e1,rfl,(fun e he=>absurd he (by simp)),fun _=>rfl⟩;have I1:=I.laid (a:=s.heap.objs.size) (o:=.own (s.heap.objs.size+1)) (h':=s.heap.push emptyDict) (t':=s.toks) (fun b u q=>get?_push_of_some _ q) (le_refl _) ⟨_,e1⟩;refine I1.laid (a:=s.heap.objs.size+1) (o:=.ins C s.heap.objs.size []) (t':=s.toks) (fun b u q=>get?_push_of_some _ q) (Nat.le_of_eq (size_push _ _)) ?_;have ne:s.heap.objs.size≠s.heap.objs.size+1:=ne_of_lt (lt_succ_self _);refine⟨by rw[aR ne,aW],zero_le _,ne,e2,fun _=>none,(Heap.Ns1.of_empty e3).at fun o q=>get?_push_of_some _ q,fun _=>True.intro,fun y hy=>absurd rfl hy⟩
theorem a3H {prog:Program}{w:World}{env:Env}{e:Expr}{f:Str}{pos:Pos}{s:Shared}{Q:Value→Shared→Prop}(hb:attributeBase e f env (eval e env)=eval e env)
  (h:wpAny (model prog w) A (eval e env) (fun o s₁=>wpAny (model prog w) A (getAttr o f true) Q E s₁) E s):wpAny (model prog w) A (eval (.Attribute e f pos) env) Q E s:=
 Attribute_any_ h (by rw[arm_eval_Attribute,hb])
end
noncomputable def a9P (K:PySem.W.Frag)(ta:TE)(f:Str):TE:=fun σ H Q=>ta σ H fun x H1=>∃ a C dx fs v,x=.ref a∧H1 a=some (.ins C dx fs)∧Cls K C∧NoAttr K C f∧fs.lookup f=some v∧Q v H1
noncomputable def aJB (K:PySem.W.Frag)(ta tv:TE)(f:Str):TS:=fun D σ H=>tv σ H fun y H1=>ta σ H1 fun x H2=>∃ a C dx fs,x=.ref a∧H2 a=some (.ins C dx fs)∧Cls K C∧NoAttr K C f∧fs.length<1000 ∧
 D.nx σ (upd H2 a (.ins C dx (xT f y fs)))
noncomputable def aJ5 (X:Cx)(op:Operator)(rd:V→V→Hp→VK→Prop):Prop:=
 ∀(pins:List (Addr×Obj)) (s:Shared) (σ:St) (H:Hp) (x y:V) (u v:Value) (Q:VK),Inv X pins σ H s→RelV x u→RelV y v→rd x y H Q→wpAny (model X.prog X.w) X.A (inplaceOp op u v) (EP X pins σ Q) X.xe s
noncomputable def a3L (K:PySem.W.Frag)(ta tv:TE)(rd:V→V→Hp→VK→Prop)(f:Str):TS:=fun D σ H=>ta σ H fun x H1=>∃ a C dx fs v,x=.ref a∧H1 a=some (.ins C dx fs)∧Cls K C∧NoAttr K C f∧fs.lookup f=some v ∧
 tv σ H1 fun y H2=>rd v y H2 fun z H3=>∃ dx' fs',H3 a=some (.ins C dx' fs')∧fs'.length<1000∧D.nx σ (upd H3 a (.ins C dx' (xT f z fs')))
section
variable {X:Cx}{o e value:Expr}{f:Str}{pos pos' tpos:Pos}{ta tv:TE}
theorem oN (he:PE X e ta)(hb:attributeBase e f X.env (eval e X.env)=eval e X.env):PE X (.Attribute e f pos) (a9P X.K ta f):=by
 intro pins s σ H Q I h;refine a3H hb (thn (he pins s σ H _ I h) fun u s1 ⟨x,H1,I1,rx,a,C,dx,fs,v,ex,ea,c,n,l,q⟩=>?_);subst ex;obtain rfl:u=Value.ref a:=rx;exact uM I1 ea c n l fun u' s2 I2 ru=>⟨v,H1,I2,ru,q⟩
theorem a0K (ha:PE X o ta)(hv:PE X value tv)(hs:swapsWith value (some (.Attribute o f pos')) pos.line X.env=pure false):PS X (.Assign [.Attribute o f pos'] value pos) (aJB X.K ta tv f):=by
 intro pins s σ H D I h;refine plainObj_wpAny_Assign_Attribute (thn (hv pins s σ H _ I h) fun u s1 ⟨y,H1,I1,ry,q⟩=>thn (ha pins s1 σ H1 _ I1 q) fun ov s2 ⟨x,H2,I2,rx,a,C,dx,fs,ex,ea,c,n,l,q2⟩=>?_) hs;subst ex;obtain rfl:ov=Value.ref a:=rx;exact uU I2 ea c n l ry fun s3 I3=>⟨σ,_,I3,q2⟩
theorem a5T {op:Operator}{rd:V→V→Hp→VK→Prop}(ha:PE X o ta)(hv:PE X value tv)(hop:aJ5 X op rd):PS X (.AugAssign (.Attribute o f tpos) op value pos) (a3L X.K ta tv rd f):=by
 intro pins s σ H D I h;refine wpAny_AugAssign_AttributeAny (thn (ha pins s σ H _ I h) fun ov s1 ⟨x,H1,I1,rx,a,C,dx,fs,v,ex,ea,c,n,l,q⟩=>?_);subst ex;obtain rfl:ov=Value.ref a:=rx;refine uM I1 ea c n l fun u s2 I2 ru=>thn (hv pins s2 σ H1 _ I2 q) fun w3 s3 ⟨y,H2,I3,ry,q3⟩=>thn (hop pins s3 σ H2 v y u w3 _ I3 ru ry q3) fun w4 s4 ⟨z,H3,I4,rz,dx',fs',ea',l',q4⟩=>?_;exact uU I4 ea' c n l' rz fun s5 I5=>⟨σ,_,I5,q4⟩
noncomputable def aJL:V→V→Hp→VK→Prop:=fun x y H Q=>∃ i j,x=.int i∧y=.int j∧Q (.int (i+j)) H
theorem aEI:aJ5 X .Add aJL:=by
 rintro pins s σ H x y u v Q I rx ry ⟨i,j,rfl,rfl,q⟩;obtain⟨t,rfl⟩:=(show ∃ t,u=Value.int i t from rx);obtain⟨t',rfl⟩:=(show ∃ t',v=Value.int j t' from ry);exact PyProof.Rows.iadd_int ⟨.int (i+j),H,I.tok _,⟨_,rfl⟩,q⟩
theorem aBP {pl:Sem Bool}{m:Str}{apos:Pos}{args:List Expr}{pins:List (Addr×Obj)}{s:Shared}{σ:St}{H:Hp}{Q:Value→Shared→Prop}{te:TE}(he:PE X e te)(I:Inv X pins σ H s)
  (h:te σ H fun x H1=>∃ a C dx fs g,x=.ref a∧H1 a=some (.ins C dx fs)∧Cls X.K C∧Meth X.K C m g∧fs.lookup m=none ∧
   ∀ s1,Inv X pins σ H1 s1→wpAny (model X.prog X.w) X.A (callWith pos (.ref g) [.ref a] (backTo pos (starEach args X.env)) (backToKw pos (keywordEach [] X.env))) Q X.xe s1)
  (ht:eval (.Call (.Attribute e m apos) args [] pos) X.env=(do
   let ov←eval e X.env
   standAt apos.atName
   let (f,first)←holding [ov] (getMethod ov m pl)
   callWith pos f first (backTo pos (starEach args X.env)) (backToKw pos (keywordEach [] X.env)))) :
  wpAny (model X.prog X.w) X.A (eval (.Call (.Attribute e m apos) args [] pos) X.env) Q X.xe s:=by
 refine methodCall_KW (pl:=pl) (thn (he pins s σ H _ I h) fun u s1 ⟨x,H1,I1,rx,a,C,dx,fs,g,ex,ea,c,k,l,q⟩=>?_) ht;subst ex;obtain rfl:u=Value.ref a:=rx;exact uD I1 ea c k l (q s1 I1)
end
section
variable {X:Cx}{pins:List (Addr×Obj)}{σ:St}{H:Hp}{s:Shared}{A:Around}{E:Value→Shared→Prop}{Q:Value→Shared→Prop}{c:Value}{b:Bool}
inductive TyOf (K:PySem.W.Frag) (H:Hp):V→Value→Prop where
 | non:TyOf K H .non (.type "NoneType")
 | bl (x:Bool):TyOf K H (.bl x) (.type "bool")
 | int (i:Int):TyOf K H (.int i) (.type "int")
 | str (x:Str):TyOf K H (.str x) (.type "str")
 | flt (x:UInt64):TyOf K H (.flt x) (.type "float")
 | lst {a:Addr} {xs:List V} (e:H a=some (.lst xs)):TyOf K H (.ref a) (.type "list")
 | frz {a:Addr} {o:Obj} {xs:List V} (e:H a=some (.frz o (.lst xs))):TyOf K H (.ref a) (.type "list")
 | tup {a:Addr} {xs:List V} (e:H a=some (.tup xs)):TyOf K H (.ref a) (.type "tuple")
 | dK {a:Addr} {kvs:List (Key×V)} (e:H a=some (.dK kvs)):TyOf K H (.ref a) (.type "dict")
 | fdK {a:Addr} {o:Obj} {kvs:List (Key×V)} (e:H a=some (.frz o (.dK kvs))):TyOf K H (.ref a) (.type "dict")
 | dT {a:Addr} {kvs:List (List Key×V)} (e:H a=some (.dT kvs)):TyOf K H (.ref a) (.type "dict")
 | ins {a C dx:Addr} {fs:List (Str×V)} (e:H a=some (.ins C dx fs)) (cl:Cls K C) (ha:findIn K (.ref C) "__class__" = some (some (.builtin "object.__class__")))
   (hn:specialIn K (.builtin "object.__class__") "__get__" = some (some (.builtin "getset_descriptor.__get__"))) (htk:PySem.W.takesIn K (.builtin "object.__class__")=some true)
   (hm:mroIn K C (.type "object")=some true):TyOf K H (.ref a) (.ref C)
theorem a6C {x:V}{u t:Value}(I:Inv X pins σ H s)(rx:RelV x u)(ty:TyOf X.K H x t)(e:kitOne X.K t c=some b)(h:∀ tk,Q (.bool b) { s with toks:=tk }) :
  wpAny (model X.prog X.w) A (call (.builtin "isinstance") [u,c]) Q E s:=by
 cases ty with
 | non=>cases(show u=Value.none from rx); exact kia_one PySem.W.kitx_none I.kIn True.intro e (fun z=>nomatch z) h
 | bl y=>cases(show u=Value.bool y from rx); exact kia_one PySem.W.kitx_bool I.kIn True.intro e (fun z=>nomatch z) h
 | int i=>obtain⟨t,q⟩:=(show ∃ t,u=Value.int i t from rx); cases q; exact kia_one PySem.W.kitx_int I.kIn True.intro e (fun z=>nomatch z) h
 | str y=>obtain⟨t,q⟩:=(show ∃ t,u=Value.str y t from rx); cases q; exact kia_one PySem.W.kitx_str I.kIn True.intro e (fun z=>nomatch z) h
 | flt y=>obtain⟨t,q⟩:=(show ∃ t,u=Value.float y t from rx); cases q; exact kia_one PySem.W.kitx_float I.kIn True.intro e (fun z=>nomatch z) h
 | @lst a xs ea=>
  cases(show u=Value.ref a from rx)
  obtain⟨_,_,n,_,h1⟩:=(show ObjOk X.prog X.w H s.heap a (.lst xs) from I.hok a _ ea);exact kia_one kitx_list I.kIn ⟨_,h1,rfl⟩ e (fun z=>nomatch z) h
 | @frz a ob xs ea=>
  cases(show u=Value.ref a from rx)
  obtain⟨_,_,_,n,_,h1⟩:=(show ObjOk X.prog X.w H s.heap a (.frz ob (.lst xs)) from I.hok a _ ea);exact kia_one kitx_list I.kIn ⟨_,h1,rfl⟩ e (fun z=>nomatch z) h
 | @tup a xs ea=>
  cases(show u=Value.ref a from rx)
  obtain⟨_,_,_,p⟩:=(show ObjOk X.prog X.w H s.heap a (.tup xs) from I.hok a _ ea);obtain⟨o,h1,h2,_⟩:=p;exact kia_one PySem.W.kitx_tuple I.kIn ⟨o,h1,h2⟩ e (fun z=>nomatch z) h
 | @dK a kvs ea=>
  cases(show u=Value.ref a from rx)
  obtain⟨_,_,vs,_,p⟩:=(show ObjOk X.prog X.w H s.heap a (.dK kvs) from I.hok a _ ea);obtain⟨o,es,ep,h1,h2,_⟩:=p;exact kia_one kitx_dict I.kIn ⟨o,h1,h2.1⟩ e (fun z=>nomatch z) h
 | @fdK a ob kvs ea=>
  cases(show u=Value.ref a from rx)
  obtain⟨_,_,_,vs,_,p⟩:=(show ObjOk X.prog X.w H s.heap a (.frz ob (.dK kvs)) from I.hok a _ ea);obtain⟨o,es,ep,h1,h2,_⟩:=p;exact kia_one kitx_dict I.kIn ⟨o,h1,h2.1⟩ e (fun z=>nomatch z) h
 | @dT a kvs ea=>
  cases(show u=Value.ref a from rx)
  obtain⟨_,_,xs,_,o,es,ep,h1,h2,_⟩:=(show ObjOk X.prog X.w H s.heap a (.dT kvs) from I.hok a _ ea);exact kia_one kitx_dict I.kIn ⟨o,h1,h2.1⟩ e (fun z=>nomatch z) h
 | @ins a C dx fs ea cl ha hn htk hm=>
  cases(show u=Value.ref a from rx)
  obtain⟨mA,O,_⟩:=vX I.hok ea;obtain⟨od,J,_⟩:=O.look;exact kia_one (PySem.W.kitx_own (cl.get _) cl.hd ha hn htk hm) I.kIn J e (fun z=>nomatch z) h
end
end L2
namespace L2
open PySem PySem.Spec PyProof.Rows
structure Room (k:Nat)(A:Around):Prop where
 hd:A.handled=none
 dp:A.depth+3*k+5<recursionLimit
 un:A.units+16*k+200<cLine
 gd:A.guards=some []
theorem Room.mono {j k:Nat}{A:Around}(r:Room k A)(h:j≤k):Room j A:=⟨r.hd,by have:=r.dp; omega,by have:=r.un; omega,r.gd⟩
theorem Room.deeper {k:Nat}{A:Around}(r:Room (k+1) A)(env:Env):Room k (A.deeper env):=
 ⟨r.hd,by have:=r.dp; show A.depth+1+3*k+5<_; omega,by have:=r.un; show A.units+3+16*k+200<_; omega,r.gd⟩
theorem a1Y {A:Around}{C:Addr}{us:List Value}{kw:List (Str×Value)}:(A.under (.builtin "type.__call__" ⟨.ref C::us,kw⟩)).depth=A.depth+1:=by
 first|rfl|simp[Around.under,Code.weight,Code.isCreation,Code.isGuard,Code.isCaller,Code.frames,Code.isFrame,guardIds]
theorem a1D {A:Around}{C:Addr}{us:List Value}{kw:List (Str×Value)}:(A.under (.builtin "type.__call__" ⟨.ref C::us,kw⟩)).units=A.units+1:=by
 first|rfl|simp[Around.under,Code.cUnits,Code.frames,Code.isFrame]
theorem Room.make {k:Nat}{A:Around}(r:Room (k+1) A)(C:Addr)(us:List Value)(kw:List (Str×Value)):Room k (A.under (.builtin "type.__call__" ⟨.ref C::us,kw⟩)):=
 ⟨r.hd,by have:=r.dp; rw[a1Y]; omega,by have:=r.un; rw[a1D]; omega,by simp[Around.under,r.gd,pushGuards,Code.guards,Code.isGuard,guardIds]⟩
theorem Room.depth {k:Nat}{A:Around}(r:Room k A):A.depth<recursionLimit:=by have:=r.dp; omega
theorem Room.units {k:Nat}{A:Around}(r:Room k A):A.units+64<cLine:=by have:=r.un; omega
noncomputable def qF:TA:=fun _ H Q=>Q [] H
noncomputable def eF (ta:TE)(tr:TA):TA:=fun σ H Q=>ta σ H fun x H1=>tr σ H1 fun xs H2=>Q (x::xs) H2
section
variable {X:Cx}{e:Expr}{es:List Expr}{te:TE}{t:TA}{pos:Pos}
theorem aK:PA X [] qF:=fun _ _ _ _ H Q I h=>Calls.spliced_nil ⟨[],H,I,.nil,h⟩
theorem aB (ha:PE X e te)(hr:PA X es t)(hs:starEach (e::es) X.env=(false,eval e X.env)::starEach es X.env:=by rfl):PA X (e::es) (eF te t):=by
 intro pos pins s σ H Q I h;rw[hs];show wpAny _ _ (spliced ((false,eval e X.env)::backTo pos (starEach es X.env))) _ _ s;refine Calls.spliced_cons (thn (ha pins s σ H _ I h) fun u s1 ⟨x,H1,I1,r1,q1⟩=>?_);exact thn (hr pos pins s1 σ H1 _ I1 q1) fun us s2 ⟨xs,H2,I2,r2,q2⟩=>⟨x::xs,H2,I2,.cons r1 r2,q2⟩
noncomputable def aDA (t:TA):TE:=fun σ H Q=>t σ H fun xs H1=>xs.length≤sizeLine∧∀ p,H1 p=none→Q (.ref p) (upd H1 p (.tup xs))
noncomputable def aGU (t:TA):TE:=fun σ H Q=>t σ H fun xs H1=>xs.length≤sizeLine∧∀ p,H1 p=none→Q (.ref p) (upd H1 p (.lst xs))
theorem cO {x1}(h:PA X es t):PE X (.Tuple es x1 pos) (aDA t):=by
 intro pins s σ H Q I hq;refine wpAny_Tuple_spliced (thn (h pos pins s σ H _ I hq) fun us s1 ⟨xs,H1,I1,r,z,q⟩=>⟨by rw[← r.length]; exact z,?_⟩);have hf:H1 s1.heap.objs.size=none:=I1.hok.fresh (le_refl _);refine⟨.ref s1.heap.objs.size,upd H1 s1.heap.objs.size (.tup xs),I1.laid (t':=s1.toks) (fun b u e=>get?_push_of_some _ e) (le_refl _) ?_,rfl,q _ hf⟩;exact⟨z,us,r,⟨_,get?_push_size _ rfl,rfl,_,rfl⟩⟩
theorem iU (h:PA X es t):PE X (.List es pos) (aGU t):=by
 intro pins s σ H Q I hq;refine wpAny_List_spliced (thn (h pos pins s σ H _ I hq) fun us s1 ⟨xs,H1,I1,r,z,q⟩=>⟨by rw[← r.length]; exact z,?_⟩);have hf:H1 s1.heap.objs.size=none:=I1.hok.fresh (le_refl _);refine⟨.ref s1.heap.objs.size,upd H1 s1.heap.objs.size (.lst xs),I1.laid (t':=s1.toks) (fun b u e=>get?_push_of_some _ e) (le_refl _) ?_,rfl,q _ hf⟩;exact⟨z,us,0,r,get?_push_size _ rfl⟩
end
abbrev Sp:=List V→Hp→VK→XK→Prop
abbrev CXT:=List Env→Hp→Shared→XK→Value→Shared→Prop
structure Env0 (P:Program)(w:World)(K:PySem.W.Frag)(mg:Str→Option Value)(base:Heap)(A:Around)(outer:List Env)(s:Shared)(H:Hp):Prop where
 frames:A.frames=some outer
 mod:Mod K mg base
 bs:∀ b o,base.get? b=some o→s.heap.get? b=some o∧H b=none
 bsz:base.objs.size≤s.heap.objs.size
 funs:s.heap.FunFrames base outer
 frf:∀ b∈frs outer,H b=none
 hok:HOk P w H s.heap
 bare:AllBare s.gens
noncomputable def CE (outer:List Env)(P:Program)(w:World)(H:Hp)(s:Shared)(Q:VK)(u:Value)(s':Shared):Prop:=
 ∃ v H',s'.os=s.os∧AllBare s'.gens∧Un (frs outer) [] H H' s.heap s'.heap∧HOk P w H' s'.heap∧RelV v u∧Q v H'
noncomputable def CR (CX:CXT)(outer:List Env)(P:Program)(w:World)(H:Hp)(s:Shared)(Q:VK)(E:XK)(r:Result)(s':Shared):Prop:=
 match r with
 | .ok (.ret u)=>CE outer P w H s Q u s'
 | .ok _=>False
 | .error e=>CX outer H s E e s'
structure FnOk (P:Program)(w:World)(K:PySem.W.Frag)(mg:Str→Option Value)(base:Heap)(CX:CXT)(k:Nat)(f:Addr)(fd:FuncData)(ps:List Str)(sp:Sp):Prop where
 len:∀ vs H Q E,sp vs H Q E→vs.length=ps.length
 run:∀(A:Around) (outer:List Env) (s:Shared) (H:Hp) (args:Args) (us:List Value) (vs:List V) (Q:VK) (E:XK),Room k A→Env0 P w K mg base A outer s H→BindsTo s fd args (ps.zip us)→Vals vs us→sp vs H Q E →
  codeAny (model P w) A (.call (.ref f) args) (CR CX outer P w H s Q E) s
theorem FnOk.imp {P:Program}{w:World}{K:PySem.W.Frag}{mg:Str→Option Value}{base:Heap}{CX:CXT}{k:Nat}{f:Addr}{fd:FuncData}{ps:List Str}{sp sp':Sp}(F:FnOk P w K mg base CX k f fd ps sp)
  (h:∀ vs H Q E,sp' vs H Q E→sp vs H Q E):FnOk P w K mg base CX k f fd ps sp':=
 ⟨fun vs H Q E q=>F.len vs H Q E (h _ _ _ _ q),fun A outer s H args us vs Q E hr he hb hv hs=>F.run A outer s H args us vs Q E hr he hb hv (h _ _ _ _ hs)⟩
theorem Env0.make {P:Program}{w:World}{K:PySem.W.Frag}{mg:Str→Option Value}{base:Heap}{A:Around}{outer:List Env}{s:Shared}{H:Hp}(e:Env0 P w K mg base A outer s H)(C:Addr)(us:List Value)(kw:List (Str×Value)) :
  Env0 P w K mg base (A.under (.builtin "type.__call__" ⟨.ref C::us,kw⟩)) outer s H:=⟨by first|exact e.frames|(simpa [Around.under,Code.envs,Code.isFrame,pushEnvs] using e.frames),e.mod,e.bs,e.bsz,e.funs,e.frf,e.hok,e.bare⟩
section
variable {X:Cx}{pins:List (Addr×Obj)}{σ:St}{H:Hp}{s s':Shared}
theorem Inv.env0 (I:Inv X pins σ H s):Env0 X.prog X.w X.K X.mg X.base X.A X.stack s H:=
 ⟨I.ok.frames,I.ok.mod,I.bs,le_trans I.ok.bsz I.sz,I.stack,I.stkFree,I.hok,I.bare⟩
theorem Inv.after {Q:VK}{u:Value}(I:Inv X pins σ H s)(h:CE X.stack X.prog X.w H s Q u s'):EP X pins σ Q u s':=by
 obtain⟨v,H',os,bare,un,hok,r,q⟩:=h;obtain⟨hh,g,d,t,os'⟩:=s';obtain rfl:os'=s.os:=os;exact⟨v,H',I.call (h':=hh) (g':=g) (d':=d) (t':=t) (ch:=[]) un hok bare (fun b z=>absurd z (by simp)),r,q⟩
end
noncomputable def a3I (sp:Sp)(dvs:List V)(E:XK)(t:TA):TE:=fun σ H Q=>t σ H fun vs H1=>sp (vs++dvs) H1 Q E
noncomputable def aFN (C:Addr)(m:Str)(sp:Sp)(dvs:List V)(E:XK)(ta:TE)(t:TA):TE:=fun σ H Q=>ta σ H fun x H1=>∃ a dx fs,x=.ref a∧H1 a=some (.ins C dx fs)∧fs.lookup m=none ∧
 t σ H1 fun vs H2=>sp (x::(vs++dvs)) H2 Q E
noncomputable def aCH (C:Addr)(sp:Sp)(dvs:List V)(E:XK)(t:TA):TE:=fun σ H Q=>t σ H fun vs H1=>∀ x dx,H1 x=none→H1 dx=none→dx≠x →
 sp (.ref x::(vs++dvs)) (upd (upd H1 dx (.own x)) x (.ins C dx [])) (fun v H2=>v=.non∧Q (.ref x) H2) E
noncomputable def Binds (K:PySem.W.Frag)(fd:FuncData)(ps:List Str)(ds:List Value):Prop:=
 ∀(s:Shared) (us:List Value),K.In s.heap→(us++ds).length=ps.length→BindsTo s fd ⟨us,[]⟩ (ps.zip (us++ds))
theorem Binds.all {K:PySem.W.Frag}{fd:FuncData}{ps:List Str}(h:∀ us:List Value,us.length=ps.length→bindArgs fd ⟨us,[]⟩=pure (ps.zip us)):Binds K fd ps []:=fun s us _ hl=>by
 rw[append_nil] at hl ⊢;exact .of_eq (h us hl)
noncomputable def uT (CX:CXT)(X:Cx)(E:XK):Prop:=∀(pins:List (Addr×Obj)) (σ:St) (H:Hp) (s:Shared) (e:Value) (s':Shared),Inv X pins σ H s→CX X.stack H s E e s'→X.xe e s'
section
variable {X:Cx}{CX:CXT}{k:Nat}{f C:Addr}{fd:FuncData}{ps:List Str}{sp:Sp}{dvs:List V}{ds:List Value}{E:XK}{x m:Str}{p pos apos:Pos}{e o:Expr}{es:List Expr}{ta:TE}{t:TA}
theorem a9W {pins:List (Addr×Obj)}{σ:St}{H:Hp}{s:Shared}{Q:VK}{us:List Value}{vs:List V}(F:FnOk X.prog X.w X.K X.mg X.base CX k f fd ps sp)(hr:Room k X.A)(hb:Binds X.K fd ps ds)(hd:Vals dvs ds)(hx:uT CX X E)
  (I:Inv X pins σ H s) (r:Vals vs us) (h:sp (vs++dvs) H Q E):wpAny (model X.prog X.w) X.A (call (.ref f) us) (EP X pins σ Q) X.xe s:=by
 have r2:Vals (vs++dvs) (us++ds):=r.append hd;have hl:(us++ds).length=ps.length:=by rw[← r2.length]; exact F.len _ _ _ _ h
 refine wpAny_call (codeAny_mono (F.run X.A X.stack s H ⟨us,[]⟩ (us++ds) (vs++dvs) Q E hr I.env0 (hb s us I.kIn hl) r2 h) fun r s' hq=>?_)
 cases r with
 | error e=>exact hx pins σ H s e s' I hq
 | ok fl=>
  cases fl with
  | ret u=>exact I.after hq
  | next=>exact False.elim hq
  | brk=>exact False.elim hq
  | cont=>exact False.elim hq
theorem aBK (F:FnOk X.prog X.w X.K X.mg X.base CX k f fd ps sp)(hr:Room k X.A)(hg:Gl X x)(hm:X.mg x=some (.ref f))(hk:keepIn X.K (.ref f)=true)(hb:Binds X.K fd ps ds)(hd:Vals dvs ds)(hx:uT CX X E)
  (ha:PA X (e::es) t) (hdb:(x==("__debug__" : Str))=false:=by decide) (he:starEach (e::es) X.env=(false,eval e X.env)::starEach es X.env:=by rfl) (hpl:(backTo pos (starEach es X.env)).any (·.1)=false:=by rfl) :
  PE X (.Call (.Name x p) (e::es) [] pos) (a3I sp dvs E t):=by
 intro pins s σ H Q I h;refine wpAny_Call_Name_kw (nC I hg hm ?_ hdb);refine callWith_K (h₀:=X.base) I.ok.mod.kin hk (thn (ha pos pins s σ H _ I h) fun us s1 ⟨vs,H1,I1,r,q⟩=>⟨I1.kIn,?_⟩) he hpl;exact a9W F hr hb hd hx I1 r q
theorem zN {pl:Sem Bool}(he:PE X o ta)(c:Cls X.K C)(hm:Meth X.K C m f)(F:FnOk X.prog X.w X.K X.mg X.base CX k f fd ps sp)(hr:Room k X.A)(hb:Binds X.K fd ps ds)(hd:Vals dvs ds)(hx:uT CX X E)(ha:PA X (e::es) t)
  (hst:starEach (e::es) X.env=(false,eval e X.env)::starEach es X.env:=by rfl) (hpl:(backTo pos (starEach es X.env)).any (·.1)=false:=by rfl)
  (ht:eval (.Call (.Attribute o m apos) (e::es) [] pos) X.env=(do
   let ov←eval o X.env
   standAt apos.atName
   let (f,first)←holding [ov] (getMethod ov m pl)
   callWith pos f first (backTo pos (starEach (e::es) X.env)) (backToKw pos (keywordEach [] X.env))):=by rfl) :
  PE X (.Call (.Attribute o m apos) (e::es) [] pos) (aFN C m sp dvs E ta t):=by
 intro pins s σ H Q I h;refine methodCall_KW (pl:=pl) (thn (he pins s σ H _ I h) fun u s1 ⟨x,H1,I1,rx,a,dx,fs,ex,ea,l,q⟩=>?_) ht;subst ex;obtain rfl:u=Value.ref a:=rx;refine uD I1 ea c hm l ?_;refine callWith_K (first:=[.ref a]) (h₀:=X.base) I.ok.mod.kin hm.kp (thn (ha pos pins s1 σ H1 _ I1 q) fun us s2 ⟨vs,H2,I2,r,q2⟩=>⟨I2.kIn,?_⟩) hst hpl;exact a9W (us:=.ref a::us) (vs:=.ref a::vs) F hr hb hd hx I2 (.cons rfl r) q2
structure Mk (K:PySem.W.Frag)(C f:Addr):Prop where
 makes:makesIn K C=true
 init:findIn K (.ref C) "__init__" = some (some (.ref f))
 fn:isFn K (.ref f)=true
 kp:keepIn K (.ref C)=true
theorem a84 {pins:List (Addr×Obj)}{σ:St}{H:Hp}{s:Shared}{Q:VK}{us:List Value}{vs:List V}(M:Mk X.K C f)(F:FnOk X.prog X.w X.K X.mg X.base CX k f fd ps sp)(hr:Room (k+1) X.A)(hb:Binds X.K fd ps ds)(hd:Vals dvs ds)
  (hx:uT CX X E) (I:Inv X pins σ H s) (r:Vals vs us)
  (h:∀ x dx,H x=none→H dx=none→dx≠x→sp (.ref x::(vs++dvs)) (upd (upd H dx (.own x)) x (.ins C dx [])) (fun v H2=>v=.non∧Q (.ref x) H2) E) :
  wpAny (model X.prog X.w) X.A (call (.ref C) us) (EP X pins σ Q) X.xe s:=by
 have hq:=h (s.heap.objs.size+1) s.heap.objs.size (I.hok.fresh (le_succ _)) (I.hok.fresh (le_refl _)) (ne_of_lt (lt_succ_self _));have I2:=Inv.made (C:=C) I;have r2:Vals (V.ref (s.heap.objs.size+1)::(vs++dvs)) (Value.ref (s.heap.objs.size+1)::(us++ds)):=.cons rfl (r.append hd);have hl:(Value.ref (s.heap.objs.size+1)::us++ds).length=ps.length:=by
  have e:=r2.length;rw[F.len _ _ _ _ hq] at e;exact e.symm
 refine wpAny_call (a98 (f:=f) I.kIn M.makes M.init (beq_iff_eq.mp M.fn) (codeAny_mono (F.run _ X.stack _ _ ⟨Value.ref (s.heap.objs.size+1)::us,[]⟩ (Value.ref (s.heap.objs.size+1)::(us++ds)) _ _ E (hr.make C us [])
  (I2.env0.make C us []) (hb _ (Value.ref (s.heap.objs.size+1)::us) I2.kIn hl) r2 hq) fun r s' hq'=>?_))
 cases r with
 | error e=>exact hx pins σ _ _ e s' I2 hq'
 | ok fl=>
  cases fl with
  | ret u=>
   obtain⟨v,H',I3,rv,ev,q3⟩:=I2.after hq';subst ev;exact⟨rv,⟨V.ref (s.heap.objs.size+1),H',I3,rfl,q3⟩⟩
  | next=>exact False.elim hq'
  | brk=>exact False.elim hq'
  | cont=>exact False.elim hq'
theorem a7S (M:Mk X.K C f)(F:FnOk X.prog X.w X.K X.mg X.base CX k f fd ps sp)(hr:Room (k+1) X.A)(hg:Gl X x)(hm:X.mg x=some (.ref C))(hb:Binds X.K fd ps ds)(hd:Vals dvs ds)(hx:uT CX X E)
  (hdb:(x==("__debug__" : Str))=false:=by decide):PE X (.Call (.Name x p) [] [] pos) (aCH C sp dvs E qF):=by
 intro pins s σ H Q I h;refine wpAny_Call_Name_kw (nC I hg hm ?_ hdb);exact PySem.W.callWith_K0 I.kIn M.kp (a84 (us:=[]) M F hr hb hd hx I .nil h)
end
section
variable {X:Cx}{CX:CXT}{k:Nat}{f C:Addr}{fd:FuncData}{ps ks:List Str}{sp:Sp}{E:XK}{x m:Str}{p pos apos kpos:Pos}{e o:Expr}{es:List Expr}{kws:List Keyword}{te ta:TE}{t tk:TA}{nm:Option Str}
variable {g:List Value→List Value→List Value}{gV:List V→List V→List V}
end
structure FnScope (N P:List Str)(sc:Scope):Prop where
 kind:sc.kind=.function
 co:sc.isCoroutine=false
 gen:sc.isGenerator=false
 nd:N.Nodup
 pre:N.take P.length=P
 par:∀ x∈P,sc.names.lookup x=some .local∨sc.names.lookup x=some .cell
 nofree:∀ y∈sc.names,y.2≠.free
theorem wO {kindOf:Str→Option NameKind}{x:Str}:∀{binds:List (Str×Value)} {m:Str→Option Value},(∀ v,(x,v)∉binds)→bindL kindOf binds m x=m x
 | [],_,_=>rfl
 | (n,v)::r,m,h=>by
  unfold bindL;rw[wO fun w hw=>h w (mem_cons_of_mem _ hw)]
  split
  ·have:x≠n:=by rintro rfl; exact h v mem_cons_self
   simp[this]
  ·rfl
theorem wK {kindOf:Str→Option NameKind}{x:Str}:∀{binds:List (Str×Value)} {m:Str→Option Value},(∀ v,(x,v)∉binds)→bindC kindOf binds m x=m x
 | [],_,_=>rfl
 | (n,v)::r,m,h=>by
  unfold bindC;rw[wK fun w hw=>h w (mem_cons_of_mem _ hw)]
  split
  ·rfl
  ·have:x≠n:=by rintro rfl; exact h v mem_cons_self
   simp[this]
theorem xK {kindOf:Str→Option NameKind}{x:Str}{v:Value}:∀{P:List Str} {vs:List Value} {i:Nat} {m:Str→Option Value},P.Nodup→P[i]?=some x→vs[i]?=some v→kindOf x=some .local →
  bindL kindOf (P.zip vs) m x=some v
 | [],_,_,_,_,h,_,_=>by simp at h
 | _::_,[],_,_,_,_,h,_=>by simp at h
 | p::P,w::vs,0,m,nd,h1,h2,hk=>by
  simp at h1 h2; subst h1; subst h2;show bindL kindOf ((p,w)::P.zip vs) m p=_;unfold bindL;rw[wO fun v hv=>(nodup_cons.mp nd).1 (of_mem_zip hv).1,if_pos hk];simp
 | p::P,w::vs,i+1,m,nd,h1,h2,hk=>by
  show bindL kindOf ((p,w)::P.zip vs) m x=_;unfold bindL;exact xK (i:=i) (nodup_cons.mp nd).2 (by simpa using h1) (by simpa using h2) hk
theorem wL {kindOf:Str→Option NameKind}{x:Str}{v:Value}:∀{P:List Str} {vs:List Value} {i:Nat} {m:Str→Option Value},P.Nodup→P[i]?=some x→vs[i]?=some v→kindOf x≠some .local →
  bindC kindOf (P.zip vs) m x=some v
 | [],_,_,_,_,h,_,_=>by simp at h
 | _::_,[],_,_,_,_,h,_=>by simp at h
 | p::P,w::vs,0,m,nd,h1,h2,hk=>by
  simp at h1 h2; subst h1; subst h2;show bindC kindOf ((p,w)::P.zip vs) m p=_;unfold bindC;rw[wK fun v hv=>(nodup_cons.mp nd).1 (of_mem_zip hv).1,if_neg hk];simp
 | p::P,w::vs,i+1,m,nd,h1,h2,hk=>by
  show bindC kindOf ((p,w)::P.zip vs) m x=_;unfold bindC;exact wL (i:=i) (nodup_cons.mp nd).2 (by simpa using h1) (by simpa using h2) hk
noncomputable def start (N:List Str)(vs:List V):St:=vs.map some++List.replicate (N.length-vs.length) none
noncomputable def a7E (CX:CXT)(P:Program)(w:World)(K:PySem.W.Frag)(mg:Str→Option Value)(base:Heap)(N:List Str)(qual:Str)(scope:Scope)(f:Addr)(cd:Value)(A:Around)(outer:List Env)(s:Shared)(H:Hp)(E:XK):Cx where
 prog:=P
 w:=w
 K:=K
 mg:=mg
 base:=base
 A:=A.deeper (envOfC qual scope s.heap.objs.size f cd)
 N:=N
 s₀:=s
 H₀:=H
 env:=envOfC qual scope s.heap.objs.size f cd
 outer:=outer
 stack:=envOfC qual scope s.heap.objs.size f cd::outer
 ex:=[]
 calm:=true
 fn:=fun _=>true
 pn:=[]
 xe:=fun e s'=>wpAny (model P w) (A.deeper (envOfC qual scope s.heap.objs.size f cd)) (leaving (envOfC qual scope s.heap.objs.size f cd) e) (fun _ s''=>CX outer H s E e s'') (fun e' s''=>CX outer H s E e' s'') s'
theorem a0U {sc:Scope}{n:Nat}{x:Str}(h:sc.names.lookup x=some .cell):∃ c,(cellsFrom n sc.names []).lookup x=some c:=by
 have q:=cellsFrom_some sc.names n [] (.inl h);exact isSome_iff_exists.mp q
theorem a6S {CX:CXT}{P:Program}{w:World}{K:PySem.W.Frag}{mg:Str→Option Value}{base:Heap}{N ps:List Str}{qual:Str}{scope:Scope}{f:Addr}{cd:Value}{A:Around}{outer:List Env}{s s1:Shared}{H:Hp}{E:XK}{us:List Value}{vs:List V}
  (S:FnScope N ps scope) (hd:A.handled=none) (e0:Env0 P w K mg base A outer s H) (hl:vs.length=ps.length) (r:Vals vs us)
  (x:InCallC s s.heap.objs.size (bindL (envOfC qual scope s.heap.objs.size f cd).kindOf (ps.zip us) fun _=>none) (cellsFrom (s.heap.objs.size+1) scope.names []) (bindC (envOfC qual scope s.heap.objs.size f cd).kindOf (ps.zip us) fun _=>none) s1) :
  Inv (a7E CX P w K mg base N qual scope f cd A outer s H E) [] (start N vs) H s1:=by
 have hpl:ps.length≤N.length:=by have:=congrArg List.length S.pre; rw[length_take] at this; omega
 obtain⟨h1,tk,rfl,hk⟩:=x.done;have noA:∀ b:Addr,b∉(a7E CX P w K mg base N qual scope f cd A outer s H E).ex:=fun b z=>absurd (show b∈([]:List Addr) from z) (by simp);refine⟨⟨e0.mod,S.kind,rfl,rfl,le_refl _,fun y z c h1 h2=>?_,fun y hy=>?_,fun y c _ h=>?_,fun _=>hd,Around.frames_deeper e0.frames,.inr ⟨rfl,rfl⟩,fun b z=>absurd z (noA b),e0.bs,e0.bsz,fun b _ _=>noA b,fun b z=>absurd z (noA b),e0.funs,e0.frf⟩,
  rfl,e0.bare,Un.kept hk,⟨_,x.toInCall.ns,fun i y v h1 h2 h3=>?_⟩,fun y c h=>⟨_,x.cell y c h⟩,e0.hok.fresh (le_refl _),fun y c h=>?_,fun p hp=>absurd (show p∈([]:List (Addr×Obj)) from hp) (by simp),e0.hok.kept hk,?_⟩
 ·exact name_of_addr x.apart (PySem.mem_of_lookup h1) (PySem.mem_of_lookup h2)
 ·have hy:scope.names.lookup y=some .cell∨scope.names.lookup y=some .free:=hy;rcases hy with hy|hy
  ·exact a0U hy
  ·exact absurd rfl (S.nofree _ (PySem.mem_of_lookup hy))
 ·exact le_of_lt (x.above y c (PySem.mem_of_lookup h))
 ·have hi:i<vs.length:=by
   unfold start at h2
   by_cases hi:i<vs.length
   ·exact hi
   ·rw[getElem?_append_right (by simpa using hi)] at h2;rw[getElem?_replicate] at h2
    split at h2<;>cases h2
  have ha:vs[i]?=some v:=by
   unfold start at h2;rw[getElem?_append_left (by simpa using hi),getElem?_map] at h2
   cases e:vs[i]? with
   | none=>rw[e] at h2; cases h2
   | some a=>rw[e] at h2; cases h2; rfl
  obtain⟨u,hu,rv⟩:=r.get ha;have hp:ps[i]?=some y:=by
   rw[← S.pre,List.getElem?_take_of_lt (by omega)]; exact h1
  have ndP:ps.Nodup:=by rw[← S.pre]; exact S.nd.sublist (take_sublist _ _)
  refine⟨u,rv,?_⟩;rcases S.par y (mem_of_getElem? hp) with k|k
  ·exact .inl ⟨k,xK ndP hp hu k⟩
  ·obtain⟨c,e⟩:=a0U (n:=s.heap.objs.size+1) k;refine .inr ⟨.inl k,c,e,?_⟩;have q:=x.cell y c e;rw[wL ndP hp hu (by show scope.names.lookup y≠_; rw[k]; decide)] at q;exact q
 ·exact e0.hok.fresh (le_of_lt (x.above y c (PySem.mem_of_lookup h)))
 ·unfold start;show _=N.length;rw[length_append,length_map,length_replicate];omega
theorem aCN {CX:CXT}{P:Program}{w:World}{K:PySem.W.Frag}{mg:Str→Option Value}{base:Heap}{k:Nat}{f:Addr}{name qual:Str}{params:Arguments}{body:List Stmt}{scope:Scope}{dV kV doc pm cdv ct oc:Value}{an od:Option Addr}
  {osl:Array (Option Value)} {N ps:List Str} {sp:Sp} (lk:K.lookup f=some ⟨oc,od,.func (fnOf name qual params body scope dV kV doc pm an cdv ct),osl⟩) (hcd:codeIn K cdv qual=true) (S:FnScope N ps scope)
  (len:∀ vs H Q E,sp vs H Q E→vs.length=ps.length)
  (hbody:∀(A:Around) (outer:List Env) (s:Shared) (H:Hp) (vs:List V) (Q:VK) (E:XK),Room k (A.deeper (envOfC qual scope s.heap.objs.size f cdv))→sp vs H Q E →
   ∃ t,PSs (a7E CX P w K mg base N qual scope f cdv A outer s H E) body t∧t { nx:=fun _ H'=>Q .non H',rt:=Q } (start N vs) H) :
  FnOk P w K mg base CX (k+1) f (fnOf name qual params body scope dV kV doc pm an cdv ct) ps sp:=by
 refine⟨len,fun A outer s H args us vs Q E hr e0 hb r hsp=>?_⟩;have hl:=len _ _ _ _ hsp;have KX:K.In s.heap:=e0.mod.kin.keeps fun b o e=>(e0.bs b o e).1;have lim:s.heap.NoLimit:=e0.mod.nolimit.keeps fun b o e=>(e0.bs b o e).1;have hkind:∀ y∈ps.zip us,scope.names.lookup y.1=some .local∨(scope.names.lookup y.1=some .cell∧((cellsFrom (s.heap.objs.size+1) scope.names []).lookup y.1).isSome=true):=fun⟨n,v⟩ hy=>by
  rcases S.par n (of_mem_zip hy).1 with q|q
  ·exact .inl q
  ·exact .inr ⟨q,cellsFrom_some _ _ _ (.inl q)⟩
 refine codeAny_call_function hr.depth (KX _ _ lk) rfl S.co S.gen rfl (PySem.W.codeRec_of KX hcd) (hb _ _ _ _ ?_);refine wpAny_newFunctionEnv_cells S.kind hkind fun env he s1 x=>?_;subst he;refine⟨lim.keeps x.toInCall.keep,codeAny_func ?_⟩;obtain⟨t,ht,hq⟩:=hbody A outer s H vs Q E (hr.deeper _) hsp;have I:Inv (a7E CX P w K mg base N qual scope f cdv A outer s H E) [] (start N vs) H s1:=a6S S hr.hd e0 hl r x;refine wpAny_mono (ht [] s1 (start N vs) H _ I hq) (fun fl s' hs=>?_) fun e s' hs=>hs;have fin:∀{σ':St} {H':Hp} {v:V} {u:Value},Inv (a7E CX P w K mg base N qual scope f cdv A outer s H E) [] σ' H' s'→RelV v u→Q v H'→CE outer P w H s Q u s':=
  fun{σ' H' v u} J rv q=>⟨v,H',J.os,J.bare,J.base,J.hok,rv,q⟩
 cases fl with
 | ret u=>
  obtain⟨v,σ',H',J,rv,q⟩:=hs;exact fin J rv q
 | next=>
  obtain⟨σ',H',J,q⟩:=hs;exact fin (v:=V.non) (u:=Value.none) J rfl q
 | brk=>
  obtain⟨_,_,_,q⟩:=hs;exact False.elim q
 | cont=>
  obtain⟨_,_,_,q⟩:=hs;exact False.elim q
end L2
namespace L2
open PySem PySem.Spec PyProof.Rows
section
variable {X:Cx}{x:Str}{p pos:Pos}{e:Expr}{es:List Expr}{t:TA}{id T:String}{r:List V→Hp→VK→Prop}
noncomputable def tCB (r:List V→Hp→VK→Prop)(t:TA):TE:=fun σ H Q=>t σ H fun vs H1=>r vs H1 Q
theorem bJ (hc:t6 X (.builtin id) r)(hg:Gl X x)(hm:X.mg x=none)(hv:bootBuiltins x=some (.builtin id))(ha:PA X (e::es) t)(hn:x ≠ "__name__" := by decide)(hdb:(x==("__debug__" : Str))=false:=by decide)
  (he:starEach (e::es) X.env=(false,eval e X.env)::starEach es X.env:=by rfl) (hpl:(backTo pos (starEach es X.env)).any (·.1)=false:=by rfl):PE X (.Call (.Name x p) (e::es) [] pos) (tCB r t):=by
 intro pins s σ H Q I h;refine wpAny_Call_Name_kw (yM I hg hm hv ?_ hn hdb);exact PyProof.Rows.callWith_builtin1 (thn (ha pos pins s σ H _ I h) fun us s1 ⟨vs,H1,I1,r1,q1⟩=>hc pins s1 σ H1 vs us Q I1 r1 q1) he hpl
theorem oY (hc:t6 X (.type T) r)(hg:Gl X x)(hm:X.mg x=none)(hv:bootBuiltins x=some (.type T))(ha:PA X (e::es) t)(hn:x ≠ "__name__" := by decide)(hdb:(x==("__debug__" : Str))=false:=by decide)
  (he:starEach (e::es) X.env=(false,eval e X.env)::starEach es X.env:=by rfl) (hpl:(backTo pos (starEach es X.env)).any (·.1)=false:=by rfl):PE X (.Call (.Name x p) (e::es) [] pos) (tCB r t):=by
 intro pins s σ H Q I h;refine wpAny_Call_Name_kw (yM I hg hm hv ?_ hn hdb);exact PyProof.Rows.callWith_type1 (thn (ha pos pins s σ H _ I h) fun us s1 ⟨vs,H1,I1,r1,q1⟩=>hc pins s1 σ H1 vs us Q I1 r1 q1) he hpl
end
end L2
namespace HT
open PySem PyProof.Rows
section
open PySem.SeqAt
open PySem.AutoSeq1 (wpAny_loadPart')
open PySem.MeetsSeq PySem.MeetsSeq2 PySem.MeetsSeq3
end
section
variable {prog:Program}{w:World}{A:Around}{E:Value→Shared→Prop}{s:Shared}
noncomputable def sIx (n d:Nat):Option Int→Nat
 | none=>d
 | some v=>if v<0 then(v+(n:Int)).toNat else min v.toNat n
theorem sIx_none (n d:Nat):sIx n d none=d:=rfl
theorem sIx_nat (n d k:Nat):sIx n d (some (k:Int))=min k n:=by
 show(if (k:Int)<0 then((k:Int)+(n:Int)).toNat else min (k:Int).toNat n)=min k n
 rw[if_neg (by omega),Int.toNat_natCast]
theorem aFR (n d:Nat)(hd:d≤n)(o:Option Int):sIx n d o≤n:=by
 cases o with
 | none=>exact hd
 | some v=>
  show(if v<0 then(v+(n:Int)).toNat else min v.toNat n)≤n
  by_cases hv:v<0
  ·rw[if_pos hv]; omega
  ·rw[if_neg hv]; exact Nat.min_le_right _ _
theorem a4P (v:Int)(n d:Nat):(if v<0 then max (v+(n:Int)) 0 else min v (n:Int))=((sIx n d (some v):Nat):Int):=by
 show(if v<0 then max (v+(n:Int)) 0 else min v (n:Int))=(((if v<0 then(v+(n:Int)).toNat else min v.toNat n):Nat):Int)
 by_cases hv:v<0
 ·simp only[if_pos hv]; omega
 ·simp only[if_neg hv]; omega
theorem a1E (lo hi:Option Int)(n:Nat):Builtin.Slice.sliceAdjust lo hi 1 (n:Int)=(((sIx n 0 lo:Nat):Int),((sIx n n hi:Nat):Int)):=by
 have h1:¬((1:Int)<0):=by omega
 unfold Builtin.Slice.sliceAdjust;simp only[h1,if_false];refine Prod.ext ?_ ?_
 ·cases lo with
  | none=>rfl
  | some v=>exact a4P v n 0
 ·cases hi with
  | none=>rfl
  | some v=>exact a4P v n n
theorem a1O (i j:Nat):Builtin.Slice.slicePlaces (i:Int) (j:Int) 1=j-i:=by
 unfold Builtin.Slice.slicePlaces;have h1:(1:Int)>0:=by omega
 simp only[h1,if_true,Int.ediv_one]
 split<;>omega
theorem uL {v:Value}{o:Option Int}{Q:Option Int→Shared→Prop}(p:IsPart v o)(h:Q o s):wpAny (model prog w) A (Builtin.Slice.slicePartIndex v) Q E s:=by
 cases p with
 | none=>exact slicePart_none h
 | int i t=>exact slicePart_int h
theorem rA {sl:Addr}{vl vu:Value}{lo hi:Option Int}{n:Nat}{Q:Int×Int×Nat→Shared→Prop}(hs:s.heap.IsSliceOf sl vl vu .none)(pl:IsPart vl lo)(pu:IsPart vu hi)
  (h:Q (((sIx n 0 lo:Nat):Int),1,sIx n n hi-sIx n 0 lo) s):wpAny (model prog w) A (Builtin.Slice.sliceApplied (.ref sl) (pure (n:Int))) Q E s:=by
 obtain⟨os,hos,hcs,hds⟩:=id hs;unfold Builtin.Slice.sliceApplied Builtin.Slice.sliceFields;refine wpAny_bind (wpAny_bind (wpAny_field hos hds (x:=vl) rfl (wpAny_bind (wpAny_field hos hds (x:=vu) rfl (wpAny_bind (wpAny_field hos hds (x:=.none) rfl (wpAny_pure ?_)))))));refine wpAny_bind (slicePart_none ?_);show wpAny _ _ (if ((1:Int)==0)=true then _ else _) _ _ s;rw[if_neg (by decide)];refine wpAny_bind (uL pl (wpAny_bind (uL pu (wpAny_bind (wpAny_pure ?_)))));show wpAny _ _ (match Builtin.Slice.sliceAdjust lo hi 1 (n:Int) with|(lo,hi)=>pure (lo,(1:Int),Builtin.Slice.slicePlaces lo hi 1)) _ _ s;rw[a1E lo hi n];show wpAny _ _ (pure (((sIx n 0 lo:Nat):Int),(1:Int),Builtin.Slice.slicePlaces ((sIx n 0 lo:Nat):Int) ((sIx n n hi:Nat):Int) 1)) _ _ s;rw[a1O];exact wpAny_pure h
theorem a7H (xs:Array Value)(i k:Nat):((List.range k).filterMap fun(m:Nat)=>xs[((i:Int)+(m:Int)*1).toNat]?).toArray=((xs.toList.drop i).take k).toArray:=by
 have e:(fun(m:Nat)=>xs[((i:Int)+(m:Int)*1).toNat]?)=fun m=>xs[i+m]?:=by
  funext m
  have:((i:Int)+(m:Int)*1).toNat=i+m:=by omega
  rw[this]
 rw[e];have:=pick_run xs i k;rw[List.filterMap_map] at this;have e2:((fun x=>xs[x]?)∘fun x=>i+x)=fun m=>xs[i+m]?:=rfl;rw[e2] at this;rw[this]
theorem getItem_tuple_cut {t sl:Addr}{items:Array Value}{vl vu:Value}{lo hi:Option Int}{Q:Value→Shared→Prop}(ht:IsTup s.heap t items)(hs:s.heap.IsSliceOf sl vl vu .none)(pl:IsPart vl lo)(pu:IsPart vu hi)
  (hw:¬(sIx items.size 0 lo=0∧sIx items.size items.size hi=items.size))
  (h:Q (.ref s.heap.objs.size) { s with heap:=s.heap.push { cls:=.type "tuple", data:=.seq ((items.toList.drop (sIx items.size 0 lo)).take (sIx items.size items.size hi-sIx items.size 0 lo)).toArray } })
  (hsz:items.size≤sizeLine):wpAny (model prog w) A (getItem (.ref t) (.ref sl)) Q E s:=by
 have htake:sizeOk (.seq ((items.toList.drop (sIx items.size 0 lo)).take (sIx items.size items.size hi-sIx items.size 0 lo)).toArray):=by
  show((items.toList.drop (sIx items.size 0 lo)).take (sIx items.size items.size hi-sIx items.size 0 lo)).toArray.size≤sizeLine
  rw[size_toArray,length_take,length_drop,length_toList];omega
 have hj:sIx items.size items.size hi≤items.size:=aFR _ _ (le_refl _) hi;obtain⟨os,hos,hcs,hds⟩:=id hs;have hTs:s.TypeIs (.ref sl) "slice" := ⟨os,hos,hcs⟩;unfold getItem
 try with_reducible refine wpAny_holding ?_
 first|refine wpAny_bind (wpAny_pure ?_)|skip
 refine wpAny_bind (wpAny_sequenceKey ht.typeIs (by decide) ?_);refine wpAny_bind (wpAny_callSpecial?_slot (name:=Str.ofString "__getitem__") ht.typeIs PyProof.Rows.slot_tuple_getitem
  (wpAny_call_entry PyProof.Rows.slot_tuple_getitem ht.typeIs entry_tuple_getitem ?_ (args_tuple_getitem _ _)))
 show wpAny _ _ (Builtin.Tuple.tupleItemsOf (.ref t) >>= _) _ _ s;refine wpAny_bind (tupleItemsOf_ ht ?_);refine wpAny_bind (wpAny_typeOf hTs ?_);rw[if_pos (by decide)];refine wpAny_bind (rA hs pl pu ?_);have hno:¬((((sIx items.size 0 lo:Nat):Int)==0&&(1:Int)==1&&(sIx items.size items.size hi-sIx items.size 0 lo)==items.size)=true):=by
  intro q;rw[and_eq_true,and_eq_true] at q;have q1:((sIx items.size 0 lo:Nat):Int)=0:=eq_of_beq q.1.1;have q2:sIx items.size items.size hi-sIx items.size 0 lo=items.size:=eq_of_beq q.2;exact hw ⟨by omega,by omega⟩
 show wpAny _ _ (if (((sIx items.size 0 lo:Nat):Int)==0&&(1:Int)==1&&(sIx items.size items.size hi-sIx items.size 0 lo)==items.size)=true then _ else _) _ _ s;rw[if_neg hno,a7H]
 first
  | exact wpAny_bind (m:=Builtin.Tuple.tupleExact _) (wpAny_newObj_type (wpAny_pure ⟨_,rfl,wpAny_pure h⟩) htake)
  | exact wpAny_bind (m:=Builtin.Tuple.tupleExact _) (wpAny_newObj_type (wpAny_bind (wpAny_pure (wpAny_pure ⟨_,rfl,wpAny_pure h⟩))) htake)
  | exact wpAny_bind (wpAny_bind (m:=Builtin.Tuple.tupleExact _) (wpAny_newObj_type (wpAny_pure (wpAny_pure ⟨_,rfl,wpAny_pure h⟩)) htake))
  | exact wpAny_bind (wpAny_bind (m:=Builtin.Tuple.tupleExact _) (wpAny_newObj_type (wpAny_pure ⟨_,rfl,wpAny_pure h⟩) htake))
end
end HT
namespace L2
open PySem PySem.Spec PyProof.Rows
abbrev TO:=St→Hp→(Option Int→Hp→Prop)→Prop
noncomputable def PO (X:Cx)(e:Option Expr)(t:TO):Prop:=
 ∀(pins:List (Addr×Obj)) (s:Shared) (σ:St) (H:Hp) (Q:Option Int→Hp→Prop),Inv X pins σ H s→t σ H Q →
  wpAny (model X.prog X.w) X.A (evalPart e X.env) (fun u s'=>∃ o H',Inv X pins σ H' s'∧IsPart u o∧Q o H') X.xe s
noncomputable def a6I:TO:=fun _ H Q=>Q none H
noncomputable def aDQ (t:TE):TO:=fun σ H Q=>t σ H fun x H1=>∃ i,x=.int i∧Q (some i) H1
section
variable {X:Cx}{e:Expr}{te:TE}{lo hi:Option Expr}{tl th:TO}{pos p2:Pos}
theorem jM:PO X none a6I:=by
 intro pins s σ H Q I h;rw[evalPart_none];exact wpAny_pure ⟨none,H,I,.none,h⟩
theorem jP (h:PE X e te):PO X (some e) (aDQ te):=by
 intro pins s σ H Q I hw;rw[evalPart_some];refine thn (h pins s σ H _ I hw) fun u s1 ⟨x,H1,I1,r1,q1⟩=>?_;obtain⟨i,rfl,q⟩:=q1;obtain⟨t,rfl⟩:=r1;exact⟨some i,H1,I1,.int i t,q⟩
noncomputable def SlR (X:Cx)(r:V→Option Int→Option Int→Hp→VK→Prop):Prop:=
 ∀(pins:List (Addr×Obj)) (s:Shared) (σ:St) (H:Hp) (x:V) (v vl vu:Value) (lo hi:Option Int) (sl:Addr) (Q:VK),Inv X pins σ H s→RelV x v→s.heap.IsSliceOf sl vl vu .none→IsPart vl lo→IsPart vu hi→r x lo hi H Q →
  ∃ T id,typeLookup (.type T) "__getitem__" = pure (some (.builtin id))∧s.TypeIs v T∧wpAny (model X.prog X.w) X.A (getItem v (.ref sl)) (EP X pins σ Q) X.xe s
noncomputable def tSl (r:V→Option Int→Option Int→Hp→VK→Prop)(te:TE)(tl th:TO):TE:=fun σ H Q=>te σ H fun x H1=>tl σ H1 fun l H2=>th σ H2 fun u H3=>r x l u H3 Q
theorem gP {r:V→Option Int→Option Int→Hp→VK→Prop}(hr:SlR X r)(he:PE X e te)(hl:PO X lo tl)(hu:PO X hi th):PE X (.Subscript e (.Slice lo hi none p2) pos) (tSl r te tl th):=by
 intro pins s σ H Q I h;refine Subscript_ (thn (he pins s σ H _ I h) fun v s1 ⟨x,H1,I1,r1,q1⟩=>?_);refine wpAny_Slice (thn (hl pins s1 σ H1 _ I1 q1) fun vl s2 ⟨l,H2,I2,pl,q2⟩=>thn (hu pins s2 σ H2 _ I2 q2) fun vu s3 ⟨u,H3,I3,pu,q3⟩=>?_);rw[evalPart_none];refine wpAny_pure ?_;have I4:Inv X pins σ H3 { s3 with heap:=s3.heap.push { cls:=.type "slice", data:=.fields #[vl,vu,.none] } }:=I3.kept (t':=s3.toks) fun b ob q=>get?_push_of_some _ q;obtain⟨T,id,hT,ht,hg⟩:=hr pins { s3 with heap:=s3.heap.push { cls:=.type "slice", data:=.fields #[vl,vu,.none] } } σ H3 x v vl vu l u s3.heap.objs.size Q I4 r1 (Heap.IsSliceOf.new ..) pl pu q3;show wpAny (model X.prog X.w) X.A (subscriptTail e (.Slice lo hi none p2) v (.ref s3.heap.objs.size)) (EP X pins σ Q) X.xe { s3 with heap:=s3.heap.push { cls:=.type "slice", data:=.fields #[vl,vu,.none] } };exact tail_any (ops:=[.ref s3.heap.objs.size,v]) ht hT hg (by with_unfolding_all rfl)
noncomputable def a8I (xs:List V)(lo hi:Option Int):List V:=(xs.drop (HT.sIx xs.length 0 lo)).take (HT.sIx xs.length xs.length hi-HT.sIx xs.length 0 lo)
theorem tR (xs:List V)(lo hi:Option Int):(a8I xs lo hi).length≤xs.length:=by
 unfold a8I;rw[length_take,length_drop];omega
noncomputable def aJ7 (K:PySem.W.Frag):V→Option Int→Option Int→Hp→VK→Prop:=fun x lo hi H Q=>∃ a xs,x=.ref a∧SqT K H a xs ∧
 ¬(HT.sIx xs.length 0 lo=0∧HT.sIx xs.length xs.length hi=xs.length)∧∀ p,H p=none→Q (.ref p) (upd H p (.tup (a8I xs lo hi)))
theorem aCI:SlR X (aJ7 X.K):=by
 intro pins s σ H x v vl vu lo hi sl Q I rx hs pl pu h;obtain⟨a,xs,rfl,hx,hw,q⟩:=h
 cases rx
 obtain⟨its,r,ht,hz⟩:=I.tuple hx;have hlen:its.toArray.size=xs.length:=by rw[size_toArray]; exact r.length.symm
 refine⟨"tuple", _,PyProof.Rows.slot_tuple_getitem.lookup,ht.typeIs,?_⟩;refine HT.getItem_tuple_cut ht hs pl pu (by rw[hlen]; exact hw) ?_ (by rw[hlen]; exact hz);rw[hlen];refine⟨.ref s.heap.objs.size,_,I.laid (t':=s.toks) (o:=.tup (a8I xs lo hi)) (fun b ob q=>get?_push_of_some _ q) (le_refl _) ?_,rfl,q _ (I.hok.fresh (le_refl _))⟩;exact⟨le_trans (tR xs lo hi) hz,_,(r.drop (HT.sIx xs.length 0 lo)).take (HT.sIx xs.length xs.length hi-HT.sIx xs.length 0 lo),IsTup.new _ _⟩
end
end L2
namespace L2
open PySem PySem.Spec PyProof.Rows
noncomputable def ixN (n:Nat)(i:Int):Option Nat:=if 0≤i then(if i<n then some i.toNat else none) else if -(n:Int)≤i then some (i+n).toNat else none
noncomputable def atI {α:Type}(xs:List α)(i:Int):Option α:=(ixN xs.length i).bind fun j=>xs[j]?
theorem a4V {n:Nat}{i:Int}{j:Nat}(h:ixN n i=some j):seqIndex? i n=some j∧j<n ∧ -(n:Int)≤i∧i<n:=by
 unfold ixN at h
 by_cases h0:0≤i
 ·rw[if_pos h0] at h
  by_cases h1:i<n
  ·rw[if_pos h1] at h;have e:i.toNat=j:=Option.some.inj h;exact⟨by rw[seqIndex_of h0 h1,e],by omega,by omega,h1⟩
  ·rw[if_neg h1] at h; cases h
 ·rw[if_neg h0] at h
  by_cases h1 : -(n:Int)≤i
  ·rw[if_pos h1] at h;have e:(i+n).toNat=j:=Option.some.inj h;exact⟨by rw[seqIndex_neg (by omega) h1,e],by omega,h1,by omega⟩
  ·rw[if_neg h1] at h; cases h
theorem z6 {α:Type}{xs:List α}{i:Int}{v:α}(h:atI xs i=some v):∃ j,seqIndex? i xs.length=some j∧xs[j]?=some v∧j<xs.length ∧ -(xs.length:Int)≤i∧i<xs.length:=by
 unfold atI at h
 cases e:ixN xs.length i with
 | none=>rw[e] at h; cases h
 | some j=>
  rw[e] at h;obtain⟨h1,h2,h3,h4⟩:=a4V e;exact⟨j,h1,h,h2,h3,h4⟩
theorem n8 {α:Type}{xs:List α}{j:Nat}{v:α}(h:xs[j]?=some v):atI xs (j:Int)=some v:=by
 have hj:j<xs.length:=(List.getElem?_eq_some_iff.mp h).1;have e:ixN xs.length (j:Int)=some j:=by
  unfold ixN;rw[if_pos (by omega),if_pos (by omega)]; simp
 unfold atI; rw[e]; exact h
noncomputable def a76 (b:Expr):Prop:=∀ o i,subscripted b false o i=operate [o,i] (getItem o i)
noncomputable def IxR (X:Cx)(r:R2):Prop:=
 ∀(value slice:Expr) (pins:List (Addr×Obj)) (s:Shared) (σ:St) (H:Hp) (x y:V) (v u:Value) (Q:VK),Inv X pins σ H s→RelV x v→RelV y u→r x y H Q →
  subscripted slice false v u=operate [v,u] (getItem v u)→wpAny (model X.prog X.w) X.A (subscriptTail value slice v u) (EP X pins σ Q) X.xe s
noncomputable def MtR (X:Cx)(id:String)(r:V→List V→Hp→VK→Prop):Prop:=
 ∀(pins:List (Addr×Obj)) (s:Shared) (σ:St) (H:Hp) (x:V) (xs:List V) (v:Value) (us:List Value) (Q:VK),Inv X pins σ H s→RelV x v→Vals xs us→r x xs H Q →
  wpAny (model X.prog X.w) X.A (call (.builtin id) (v::us)) (EP X pins σ Q) X.xe s
section
variable {X:Cx}{a b:Expr}{ta tb:TE}{pos:Pos}
theorem IxR.or {r r':R2}(h:IxR X r)(h':IxR X r'):IxR X (fun x y H Q=>r x y H Q∨r' x y H Q):=by
 intro value slice pins s σ H x y v u Q I rx ry q hs;rcases q with q|q
 ·exact h value slice pins s σ H x y v u Q I rx ry q hs
 ·exact h' value slice pins s σ H x y v u Q I rx ry q hs
theorem bQ {r:R2}(hr:IxR X r)(ha:PE X a ta)(hb:PE X b tb)(hs:a76 b):PE X (.Subscript a b pos) (tOp r ta tb):=by
 intro pins s σ H Q I h;exact Subscript_ (aHK ha hb I h fun v u s2 x y H2 I2 rx ry q=>hr a b pins s2 σ H2 x y v u Q I2 rx ry q (hs _ _))
noncomputable def aIX (K:PySem.W.Frag):R2:=fun x y H Q=>∃ p xs i v,x=.ref p∧y=.int i∧SqL K H p xs∧atI xs i=some v∧Q v H
noncomputable def aJA (K:PySem.W.Frag):R2:=fun x y H Q=>∃ p xs i v,x=.ref p∧y=.int i∧SqT K H p xs∧atI xs i=some v∧Q v H
noncomputable def aIW:R2:=fun x y H Q=>∃ z i c,x=.str z∧y=.int i∧z.length≤sizeLine∧atI z.cps.toList i=some c∧Q (.str ⟨#[c]⟩) H
theorem ix_list:IxR X (aIX X.K):=by
 intro value slice pins s σ H x y v u Q I rx ry h hs;obtain⟨p,xs,i,z,rfl,rfl,hq,he,q⟩:=h
 cases rx
 obtain⟨t,rfl⟩:=ry;obtain⟨its,r,pl,hz⟩:=I.list hq;obtain⟨j,h1,h2,h3,h4,h5⟩:=z6 he;obtain⟨w,ew,rw'⟩:=r.get h2;have hl:=r.length;have hn:=xU;have fin:EP X pins σ Q w s:=⟨z,H,I,rw',q⟩
 by_cases h0:0≤i
 ·have hj:i.toNat=j:=by
   rw[seqIndex_of h0 h5] at h1;exact Option.some.inj h1
  exact item_listR pl.isList h0 (by omega) (by rw[hj]; simpa using ew) fin hs
 ·have hj:(i+(its.toArray.size:Int)).toNat=j:=by
   rw[seqIndex_neg (by omega) h4] at h1;rw[size_toArray,←hl];exact Option.some.inj h1
  exact subscriptTail_builtinR (x:=w) pl.isList.typeIs slot_list_getitem.lookup
   (wpAny_getItem_list_neg (Q:=fun r s'=>r=w∧EP X pins σ Q r s') pl.isList (by omega) (by rw[size_toArray]<;>omega) (by omega) (by rw[hj]; simpa using ew) ⟨rfl,fin⟩) hs
theorem ix_tup:IxR X (aJA X.K):=by
 intro value slice pins s σ H x y v u Q I rx ry h hs;obtain⟨p,xs,i,z,rfl,rfl,hq,he,q⟩:=h
 cases rx
 obtain⟨t,rfl⟩:=ry;obtain⟨its,r,pl,hz⟩:=I.tuple hq;obtain⟨j,h1,h2,h3,h4,h5⟩:=z6 he;obtain⟨w,ew,rw'⟩:=r.get h2;have hl:=r.length;have hn:=xU;have fin:EP X pins σ Q w s:=⟨z,H,I,rw',q⟩;exact subscriptTail_builtinR (x:=w) pl.typeIs slot_tuple_getitem.lookup
  (getItem_tuple (j:=j) (Q:=fun r s'=>r=w∧EP X pins σ Q r s') pl (by omega) (by omega) (by rw[size_toArray,←hl]; exact h1) (by simpa using ew) ⟨rfl,fin⟩) hs
theorem aDX:IxR X aIW:=by
 intro value slice pins s σ H x y v u Q I rx ry h hs;obtain⟨z,i,c,rfl,rfl,hz,he,q⟩:=h;obtain⟨t,rfl⟩:=rx;obtain⟨t',rfl⟩:=ry;obtain⟨j,h1,h2,h3,h4,h5⟩:=z6 he;have hl:z.cps.toList.length=z.length:=by simp[Str.length]
 rw[hl] at h1 h4 h5;have hn:=xU;exact tail_any (typeIs_str s z t) slot_str_getitem.lookup (getItem_str (c:=c) (by
  have e1:decide (i < -(2^63:Int))=false:=decide_eq_false (by omega);have e2:decide (i≥2^63)=false:=decide_eq_false (by omega);rw[e1,e2,Bool.or_false]) (by rw[h1]; simpa using h2) ⟨.str ⟨#[c]⟩,H,I.tok _,⟨_,rfl⟩,q⟩) hs
noncomputable def rIx (K:PySem.W.Frag):R2:=fun x y H Q=>aIX K x y H Q∨aJA K x y H Q∨aIW x y H Q
theorem bB:IxR X (rIx X.K):=ix_list.or (ix_tup.or aDX)
theorem a3A (its:List Value)(n j:Nat)(u:Value):Obj.mapSeq (·.setIfInBounds j u) { cls:=.type "list", data:=.seq its.toArray n }={ cls:=.type "list", data:=.seq (its.set j u).toArray n }:=by
 simp[Obj.mapSeq]
theorem Inv.lst {pins:List (Addr×Obj)}{σ:St}{H:Hp}{s:Shared}{p:Addr}{xs:List V}(I:Inv X pins σ H s)(h:H p=some (.lst xs)) :
  ∃(its:List Value) (n:Nat),Vals xs its∧s.heap.get? p=some { cls:=.type "list", data:=.seq its.toArray n }∧xs.length≤sizeLine:=by
 obtain⟨z,its,n,r,e⟩:=I.hok p _ h;exact⟨its,n,r,e,z⟩
theorem Inv.lstUpd {pins:List (Addr×Obj)}{σ:St}{H:Hp}{s:Shared}{p:Addr}{xs ys:List V}{its its':List Value}{n n':Nat}{f:Obj→Obj}(I:Inv X pins σ H s)(h:H p=some (.lst xs))
  (ho:s.heap.get? p=some { cls:=.type "list", data:=.seq its.toArray n }) (hf:f { cls:=.type "list", data:=.seq its.toArray n }={ cls:=.type "list", data:=.seq its'.toArray n' }) (r:Vals ys its') (hz:ys.length≤sizeLine) (t:Nat) :
  Inv X pins σ (upd H p (.lst ys)) { s with heap:=s.heap.update p f,toks:=t }:=by
 have e:(s.heap.update p f).get? p=some { cls:=.type "list", data:=.seq its'.toArray n' }:=by
  rw[get?_update_self f ho (by rw[hf]<;>rfl),hf]
 refine I.write (x:=p) (e:=p) (by rw[h]; trivial) (.inl rfl) (fun b u hb q=>(get?_update_other _ _ (Ne.symm hb)).trans q) ⟨_,e⟩ ?_;exact⟨hz,its',n',r,e⟩
noncomputable def aHV:V→V→V→Hp→(Hp→Prop)→Prop:=fun o i v H Q=>∃ p xs k j,o=.ref p∧i=.int k∧H p=some (.lst xs)∧ixN xs.length k=some j∧Q (upd H p (.lst (xs.set j v)))
theorem set_list:aJ2 X aHV:=by
 intro pins s σ H o i v ov iv u Q I ro ri rv h;obtain⟨p,xs,k,j,rfl,rfl,hp,hj,q⟩:=h
 cases ro
 obtain⟨t,rfl⟩:=ri;obtain⟨its,n,r,ho,hz⟩:=I.lst hp;obtain⟨h1,h2,h3,h4⟩:=a4V hj;have hl:=r.length;have hn:=xU;have I':Inv X pins σ (upd H p (.lst (xs.set j v))) { s with heap:=s.heap.update p (Obj.mapSeq (·.setIfInBounds j u)) }:=
  I.lstUpd hp ho (a3A its n j u) (r.set rv j) (by rw[length_set]; exact hz) s.toks
 by_cases h0:0≤k
 ·have hk:k.toNat=j:=by
   rw[seqIndex_of h0 h4] at h1;exact Option.some.inj h1
  exact PySem.W.ki_setAt ho h0 (by omega) (by rw[size_toArray,←hl]; exact h4) (by rw[hk]; exact⟨_,I',q⟩)
 ·have hk:(k+(its.toArray.size:Int)).toNat=j:=by
   rw[seqIndex_neg (by omega) h3] at h1;rw[size_toArray,←hl];exact Option.some.inj h1
  exact PySem.W.ki_setBack ho (by omega) (by rw[size_toArray,←hl]; exact h3) (by omega) (by rw[hk]; exact⟨_,I',q⟩)
theorem wB (lo hi:Option Int)(n:Nat):(sliceBounds lo hi none n).1=((HT.sIx n 0 lo:Nat):Int)∧(sliceBounds lo hi none n).2.1=((HT.sIx n n hi:Nat):Int)∧(sliceBounds lo hi none n).2.2=1:=by
 refine⟨?_,?_,rfl⟩
 ·cases lo with
  | none=>simp[sliceBounds,HT.sIx]
  | some i=>
   simp only[sliceBounds,HT.sIx,getD_none,show(1:Int)>0 by decide,if_true]
   by_cases h:i<0
   ·simp only[h,if_true]<;>omega
   ·simp only[h,if_false]<;>omega
 ·cases hi with
  | none=>simp[sliceBounds,HT.sIx]
  | some i=>
   simp only[sliceBounds,HT.sIx,getD_none,show(1:Int)>0 by decide,if_true]
   by_cases h:i<0
   ·simp only[h,if_true]<;>omega
   ·simp only[h,if_false]<;>omega
theorem v6 (its:List Value)(lo hi:Option Int):slicePick its.toArray lo hi none=((its.drop (HT.sIx its.length 0 lo)).take (HT.sIx its.length its.length hi-HT.sIx its.length 0 lo)).toArray:=by
 obtain⟨h1,h2,h3⟩:=wB lo hi its.toArray.size;unfold slicePick;rw[h1,h2,h3];simp only[sliceRange_one,pick_run,size_toArray]<;>rfl
noncomputable def aJH (K:PySem.W.Frag):V→Option Int→Option Int→Hp→VK→Prop:=fun x lo hi H Q=>∃ a xs,x=.ref a∧SqL K H a xs∧∀ p,H p=none→Q (.ref p) (upd H p (.lst (a8I xs lo hi)))
theorem kO:SlR X (aJH X.K):=by
 intro pins s σ H x v vl vu lo hi sl Q I rx hs pl pu h;obtain⟨a,xs,rfl,hx,q⟩:=h
 cases rx
 obtain⟨its,r,ht,hz⟩:=I.list hx;have hlen:=r.length;refine⟨"list", _,slot_list_getitem.lookup,ht.isList.typeIs,?_⟩;refine wpAny_getItem_list_slice ht.isList hs pl pu .none (by simp) ?_ (by rw[size_toArray]<;>omega);rw[v6,←hlen];refine⟨.ref s.heap.objs.size,_,I.laid (t':=s.toks) (o:=.lst (a8I xs lo hi)) (fun b ob q=>get?_push_of_some _ q) (le_refl _) ?_,rfl,q _ (I.hok.fresh (le_refl _))⟩;exact⟨le_trans (tR xs lo hi) hz,_,0,(r.drop (HT.sIx xs.length 0 lo)).take (HT.sIx xs.length xs.length hi-HT.sIx xs.length 0 lo),get?_push_size _ rfl⟩
theorem cC:t6 X (.builtin "len") (fun xs H Q=>∃ p ys,xs=[.ref p]∧(SqL X.K H p ys∨SqT X.K H p ys)∧Q (.int ys.length) H):=by
 intro pins s σ H xs us Q I r h;obtain⟨p,ys,rfl,hq,q⟩:=h;obtain⟨u,rfl,rx⟩:=vals1 r
 cases rx
 have hn:=xU;rcases hq with hq|hq
 ·obtain⟨its,r',pl,hz⟩:=I.list hq;have hlen:=r'.length;exact Calls.call_len_list pl.isList (by simp only[size_toArray]<;>omega) ⟨.int ys.length,H,I.tok _,⟨s.toks+1,by rw[size_toArray,hlen]⟩,q⟩
 ·obtain⟨its,r',pl,hz⟩:=I.tuple hq;have hlen:=r'.length;exact len_tuple pl (by simp only[size_toArray]<;>omega) ⟨.int ys.length,H,I.tok _,⟨s.toks+1,by rw[size_toArray,hlen]⟩,q⟩
theorem lR:t6 X (.type "list") (fun xs H Q=>∃ p ys,xs=[.ref p]∧(SqL X.K H p ys∨SqT X.K H p ys)∧∀ l,H l=none→Q (.ref l) (upd H l (.lst ys))):=by
 intro pins s σ H xs us Q I r h;obtain⟨p,ys,rfl,hq,q⟩:=h;obtain⟨u,rfl,rx⟩:=vals1 r
 cases rx
 have fin:∀(its:List Value),Vals ys its→ys.length≤sizeLine→∀(h':Heap) (c':Nat),(∀ b o',s.heap.get? b=some o'→h'.get? b=some o') →
   h'.get? s.heap.objs.size=some { cls:=.type "list", dict:=none,data:=.seq its.toArray c',slots:=#[] }→EP X pins σ Q (.ref s.heap.objs.size) { s with heap:=h' }:=fun its r' hz h' c' kp e=>
  ⟨.ref s.heap.objs.size,_,I.laid (t':=s.toks) kp (le_refl _) (show ObjOk X.prog X.w _ h' _ (.lst ys) from⟨hz,its,c',r',e⟩),rfl,q _ (I.hok.fresh (le_refl _))⟩
 rcases hq with hq|hq
 ·obtain⟨its,r',pl,hz⟩:=I.list hq;have hlen:=r'.length;obtain⟨o,ho,hc,n,hd⟩:=pl.isList;exact call_list_seq p (.inl rfl) ho hc hd (fun h' c' kp e=>fin its r' hz h' c' kp e) (by simp only[size_toArray]<;>omega)
 ·obtain⟨its,r',pl,hz⟩:=I.tuple hq;have hlen:=r'.length;obtain⟨o,ho,hc,n,hd⟩:=pl;exact call_list_seq p (.inr rfl) ho hc hd (fun h' c' kp e=>fin its r' hz h' c' kp e) (by simp only[size_toArray]<;>omega)
noncomputable def tyV (K:PySem.W.Frag)(T:String)(x:V)(H:Hp):Prop:=match x with
 | .str _=>T = "str"
 | .int _=>T = "int"
 | .ref p=>(T = "list" ∧ ∃ xs,SqL K H p xs)∨(T = "tuple" ∧ ∃ o,K.lookup p=some o∧o.cls=.type "tuple" ∧ o.dict=none) ∨
   (T = "dict" ∧ ((∃ kvs,H p=some (.dK kvs))∨∃ kvs,H p=some (.dT kvs)))∨(T = "set" ∧ ∃ S n,H p=some (.set S n))
 | _=>False
theorem aFL {pins:List (Addr×Obj)}{σ:St}{H:Hp}{s:Shared}{T:String}{x:V}{v:Value}(I:Inv X pins σ H s)(r:RelV x v)(ty:tyV X.K T x H) :
  s.TypeIs v T∧∀ a,v=.ref a→∃ ob,s.heap.get? a=some ob∧ob.dict=none:=by
 cases x with
 | str z=>
  obtain⟨t,rfl⟩:=r
  cases(show T = "str" from ty)
  exact⟨typeIs_str s z t,fun _ e=>nomatch e⟩
 | int i=>
  obtain⟨t,rfl⟩:=r
  cases(show T = "int" from ty)
  exact⟨typeIs_int s i t,fun _ e=>nomatch e⟩
 | ref p=>
  cases r
  rcases ty with⟨rfl,xs,hq⟩|⟨rfl,o,hk,hc,hd⟩|⟨rfl,hk⟩|⟨rfl,S,n,hk⟩
  ·obtain⟨its,_,pl,_⟩:=I.list hq;refine⟨pl.isList.typeIs,fun a e=>?_⟩
   cases e
   obtain⟨o,n,e,c,hd,_⟩:=pl;exact⟨o,e,hd⟩
  ·refine⟨⟨o,I.kIn p o hk,hc⟩,fun a e=>?_⟩
   cases e
   exact⟨o,I.kIn _ o hk,hd⟩
  ·have z:∃ o,s.heap.get? p=some o∧o.ExactDict:=by
    rcases hk with⟨kvs,hk⟩|⟨kvs,hk⟩
    ·obtain⟨_,_,_,_,o,_,_,e,ex,_⟩:=I.hok p _ hk;exact⟨o,e,ex⟩
    ·obtain⟨_,_,_,_,o,_,_,e,ex,_⟩:=I.hok p _ hk;exact⟨o,e,ex⟩
   obtain⟨o,e,ex⟩:=z;refine⟨⟨o,e,ex.1⟩,fun a e2=>?_⟩
   cases e2
   exact⟨o,e,ex.2.1⟩
  ·obtain⟨o,_,_,_,e,ex,_⟩:=I.hok p _ hk;refine⟨⟨o,e,ex.1⟩,fun a e2=>?_⟩
   cases e2
   exact⟨o,e,ex.2.1⟩
 | _=>exact False.elim ty
noncomputable def tBM (K:PySem.W.Frag)(T:String)(r:V→List V→Hp→VK→Prop)(to:TE)(t:TA):TE:=fun σ H Q=>to σ H fun x H1=>tyV K T x H1∧t σ H1 fun xs H2=>r x xs H2 Q
variable {o e:Expr}{es:List Expr}{to:TE}{t:TA}{name:Str}{apos cpos:Pos}{T id:String}{r:V→List V→Hp→VK→Prop}
theorem a4K (pa:PlainAttrs T)(slot:Slot T name id)(hty:typeOf (.builtin id)=pure (.type "method_descriptor"))(hm:MtR X id r)(ho:PE X o to)(ha:PA X (e::es) t)
  (hbase:attributeBase o name X.env (eval o X.env)=eval o X.env:=by rfl)
  (hfew:((backTo cpos (starEach (e::es) X.env)).all (fun x => !x.1)&&(backToKw cpos (keywordEach [] X.env)).all (fun x=>x.1.isSome)
   && decide ((e::es).length+([]:List Keyword).length+(if ([]:List Keyword).isEmpty then 0 else 1)<30))=true:=by rfl)
  (hline:(apos.endLine==cpos.line)=true:=by rfl) (hs:starEach (e::es) X.env=(false,eval e X.env)::starEach es X.env:=by rfl) (hplain:(backTo cpos (starEach es X.env)).any (·.1)=false:=by rfl) :
  PE X (.Call (.Attribute o name apos) (e::es) [] cpos) (tBM X.K T r to t):=by
 intro pins s σ H Q I h;refine wpAny_Call_method_late hbase hfew hline rfl (thn (ho pins s σ H _ I h) fun v s1 ⟨x,H1,I1,r1,ty,q1⟩=>?_);obtain⟨h1,h2⟩:=aFL I1 r1 ty;refine⟨T,id,pa,slot,hty,h1,h2,?_⟩;have hA:=ha cpos pins s1 σ H1 _ I1 q1;rw[hs] at hA ⊢;refine Calls.callWith_builtin (by show(false||(backTo cpos (starEach es X.env)).any (·.1))=false; rw[hplain]<;>rfl) (Calls.evalArgs_plain ?_);exact thn hA fun us s2 ⟨vs,H2,I2,r2,q2⟩=>hm pins s2 σ H2 x vs v us Q I2 r1 r2 q2
end
end L2
namespace L2
open PySem PySem.Spec PyProof.Rows
noncomputable def MtM (X:Cx)(id:String)(r:V→List V→Hp→VK→Prop):Prop:=
 ∀(pins:List (Addr×Obj)) (s:Shared) (σ:St) (H:Hp) (x:V) (xs:List V) (v:Value) (us:List Value) (Q:VK),Inv X pins σ H s→RelV x v→Vals xs us→r x xs H Q →
  wpAny (model X.prog X.w) X.A (call (.builtin id) (v::us)) (EP X pins σ Q) X.xe s
theorem Vals.one:∀{x:V} {us:List Value},Vals [x] us→∃ u,us=[u]∧RelV x u:=by
 intro x us h
 cases h with
 | cons r t=>cases t; exact⟨_,rfl,r⟩
theorem Vals.eraseIdx:∀{xs:List V} {us:List Value} (i:Nat),Vals xs us→Vals (xs.eraseIdx i) (us.eraseIdx i)
 | _,_,_,.nil=>.nil
 | _,_,0,.cons _ t=>t
 | _,_,i+1,.cons r t=>.cons r (Vals.eraseIdx i t)
theorem Vals.rep {xs:List V}{us:List Value}(h:Vals xs us):∀ k:Nat,Vals (List.replicate k xs).flatten (List.replicate k us).flatten
 | 0=>.nil
 | k+1=>by
  rw[replicate_succ,replicate_succ,flatten_cons,flatten_cons];exact Vals.append h (Vals.rep h k)
theorem xM {α:Type}:∀(l:List α) (i:Nat),(l.eraseIdx i).length≤l.length
 | [],_=>le_refl _
 | _::_,0=>le_succ _
 | _::r,i+1=>Nat.succ_le_succ (xM r i)
theorem foldl_rep (its:List Value):∀(k:Nat) (acc:List Value),
  List.foldl (fun x1 x2=>x1++x2) acc.toArray (List.replicate k its.toArray)=(acc++(List.replicate k its).flatten).toArray
 | 0,acc=>by simp
 | k+1,acc=>by
  have e:acc.toArray++its.toArray=(acc++its).toArray:=by simp
  have e2:(acc++its)++(List.replicate k its).flatten=acc++(List.replicate (k+1) its).flatten:=by
   rw[replicate_succ,flatten_cons,append_assoc]
  rw[← e2,←foldl_rep its k (acc++its),←e,replicate_succ,List.foldl_cons]
section
variable {X:Cx}{pins:List (Addr×Obj)}{σ:St}{H:Hp}{s:Shared}{l b:Addr}{xs ys zs:List V}
theorem Inv.lset {its its':List Value}{n:Nat}{f:Array Value→Array Value}{t':Nat}(I:Inv X pins σ H s)(hH:H l=some (.lst xs))
  (e:s.heap.get? l=some { cls:=.type "list", data:=.seq its.toArray n }) (hf:f its.toArray=its'.toArray) (hv:Vals ys its') (hz:ys.length≤sizeLine) :
  Inv X pins σ (upd H l (.lst ys)) { s with heap:=s.heap.update l (Obj.mapSeq f),toks:=t' }:=by
 have q:=PySem.IsL.update e f;rw[hf] at q;refine I.write (x:=l) (e:=l) (by rw[hH]; exact trivial) (.inl rfl) (fun b' u hb hu=>(get?_update_other s.heap (Obj.mapSeq f) (Ne.symm hb)).trans hu) ⟨_,q⟩ ?_;exact⟨hz,its',_,hv,q⟩
theorem Inv.lnew {its:List Value}{t':Nat}(I:Inv X pins σ H s)(hv:Vals ys its)(hz:ys.length≤sizeLine) :
  Inv X pins σ (upd H s.heap.objs.size (.lst ys)) { s with heap:=s.heap.push { cls:=.type "list", data:=.seq its.toArray },toks:=t' }:=
 I.laid (fun _ _ q=>get?_push_of_some _ q) (le_refl _) ⟨hz,its,0,hv,get?_push_size _ rfl⟩
theorem Inv.fresh (I:Inv X pins σ H s):H s.heap.objs.size=none:=I.hok.fresh (le_refl _)
theorem Inv.lstM (I:Inv X pins σ H s)(hH:H l=some (.lst xs)):xs.length≤sizeLine∧∃(its:List Value) (n:Nat),Vals xs its∧xs.length=its.length∧s.heap.get? l=some { cls:=.type "list", data:=.seq its.toArray n }:=by
 obtain⟨z,its,n,r,e⟩:=I.hok l _ hH;exact⟨z,its,n,r,r.length,e⟩
theorem a7Y {n:Nat}(h:n≤sizeLine):Builtin.List.listTooLong n=false:=by
 unfold Builtin.List.listTooLong;exact decide_eq_false (by omega)
end
section
variable {X:Cx}
noncomputable def a6K:V→List V→Hp→VK→Prop:=fun x vs H Q=>∃ l xs y,x=.ref l∧vs=[y]∧H l=some (.lst xs)∧xs.length<sizeLine∧Q .non (upd H l (.lst (xs++[y])))
theorem o8:MtM X "list.append" a6K:=by
 intro pins s σ H x vs v us Q I rx rv h;obtain⟨l,xs,y,rfl,rfl,hH,hz,q⟩:=h
 cases rx
 obtain⟨u,rfl,ru⟩:=rv.one;obtain⟨z,its,n,r,hl,e⟩:=I.lstM hH;refine call_meets F.slot_list_append ⟨_,e,rfl⟩ F.entry_list_append (F.args_list_append_2 _ _) (PySem.list_append l its.toArray n u (by rw[size_toArray]; omega)) ⟨e,?_⟩;refine⟨.non,_,I.lset (its':=its++[u]) hH e (by simp) (r.append (.cons ru .nil)) ?_,rfl,q⟩;rw[length_append,length_singleton];omega
noncomputable def a9V:V→List V→Hp→VK→Prop:=fun x vs H Q=>∃ l xs i k y,x=.ref l∧vs=[.int i]∧H l=some (.lst xs) ∧ -(2^63)≤i∧i<2^63∧seqIndex? i xs.length=some k∧xs[k]?=some y∧Q y (upd H l (.lst (xs.eraseIdx k)))
theorem a7K:MtM X "list.pop" a9V:=by
 intro pins s σ H x vs v us Q I rx rv h;obtain⟨l,xs,i,k,y,rfl,rfl,hH,h1,h2,hk,hy,q⟩:=h
 cases rx
 obtain⟨u,rfl,ru⟩:=rv.one;obtain⟨t,rfl⟩:=ru;obtain⟨z,its,n,r,hl,e⟩:=I.lstM hH;obtain⟨w,hw,rw'⟩:=r.get hy;refine call_meets F.slot_list_pop ⟨_,e,rfl⟩ F.entry_list_pop (F.args_list_pop_2 _ _)
  (MeetsSeq.list_pop_at l its.toArray n i t k w (fitsIndex_both h1 h2) (by rw[size_toArray,←hl]; exact hk) (by rw[← Array.getElem?_toList]; exact hw) (by rw[size_toArray]; omega)) ⟨e,?_⟩
 refine⟨y,_,I.lset (its':=its.eraseIdx k) hH e ?_ (r.eraseIdx k) ?_,rw',q⟩
 ·show its.toArray.eraseIdxIfInBounds k=(its.eraseIdx k).toArray;rw[List.eraseIdxIfInBounds_toArray]
 ·have:=xM xs k;omega
noncomputable def aJI:R2:=fun x y H Q=>∃ l b xs zs,x=.ref l∧y=.ref b∧H l=some (.lst xs)∧H b=some (.lst zs)∧xs.length+zs.length≤sizeLine∧∀ p,H p=none→Q (.ref p) (upd H p (.lst (xs++zs)))
theorem fX:OpR X (binaryOp .Add) aJI:=by
 intro pins s σ H x y v u Q I rx ry h;obtain⟨l,b,xs,zs,rfl,rfl,hH,hB,hz,q⟩:=h
 cases rx
 cases ry
 obtain⟨z,its,n,r,hl,e⟩:=I.lstM hH;obtain⟨z2,its2,n2,r2,hl2,e2⟩:=I.lstM hB;refine PySem.P.add_list e e2 ?_ (by rw[size_toArray,size_toArray]; omega);have ea:its.toArray++its2.toArray=(its++its2).toArray:=by simp
 rw[ea];exact⟨.ref _,_,I.lnew (t':=s.toks) (r.append r2) (by rw[length_append]; omega),rfl,q _ I.fresh⟩
noncomputable def aJ1:R2:=fun x y H Q=>∃ l k xs,x=.ref l∧y=.int k∧H l=some (.lst xs) ∧ -(2^63)≤k∧k<2^63∧xs.length*k.toNat≤sizeLine ∧
 ∀ p,H p=none→Q (.ref p) (upd H p (.lst (List.replicate k.toNat xs).flatten))
theorem len_rep {α:Type}(xs:List α)(k:Nat):(List.replicate k xs).flatten.length=k*xs.length:=by
 induction k with
 | zero=>simp
 | succ k ih=>rw[replicate_succ,flatten_cons,length_append,ih,succ_mul,Nat.add_comm]
theorem a4A:OpR X (binaryOp .Mult) aJ1:=by
 intro pins s σ H x y v u Q I rx ry h;obtain⟨l,k,xs,rfl,rfl,hH,h1,h2,hz,q⟩:=h
 cases rx
 obtain⟨t,rfl⟩:=ry;obtain⟨z,its,n,r,hl,e⟩:=I.lstM hH;have hlen:its.toArray.size*k.toNat≤sizeLine:=by rw[size_toArray,←hl]; exact hz
 have hcap:¬its.toArray.size*k.toNat>(2^63-1)/8:=by
  have:(sizeLine:Nat)≤(2^63-1)/8:=by decide
  omega
 have hfit:¬(!Builtin.List.listFitsIndex k)=true:=by
  rw[fitsIndex_both h1 h2];exact Bool.false_ne_true
 have hlong:¬Builtin.List.listTooLong (its.toArray.size*k.toNat)=true:=by
  rw[a7Y hlen];exact Bool.false_ne_true
 have hnew:List.foldl (fun x1 x2=>x1++x2) #[] (List.replicate (if its.toArray.isEmpty=true then 0 else k.toNat) its.toArray)=(List.replicate k.toNat its).flatten.toArray:=by
  have f0:∀ m:Nat,List.foldl (fun x1 x2=>x1++x2) #[] (List.replicate m its.toArray)=(List.replicate m its).flatten.toArray:=fun m=>by
   have:=foldl_rep its m [];rw[nil_append] at this;exact this
  rw[f0]
  cases its with
  | nil=>simp
  | cons a r'=>rw[if_neg (by simp)]
 refine wpAny_binaryOp_repeat_ref (T := "list") (U := "int") (by decide) ⟨_,e,rfl⟩ (fun s'=>typeIs_int s' k t) noFill_list_mul F.fills_int_mul F.slot_int_rmul repeat_list F.slot_int_index.lookup
  (call_meets F.slot_int_rmul (typeIs_int s k t) F.entry_int_rmul (F.args_int_rmul_2 _ _) (int___rmul___int_list k t l its.toArray n)
   ⟨e,rfl,⟨_,e,rfl⟩,call_meets F.slot_list_mul ⟨_,e,rfl⟩ F.entry_list_mul (F.args_list_mul_2 _ _) (AutoListH.list___mul___list_int_3 l its.toArray n k t hfit hcap hlong) ⟨e,?_⟩⟩)
 rw[hnew];exact⟨.ref _,_,I.lnew (t':=s.toks) (r.rep k.toNat) (by rw[len_rep,Nat.mul_comm]; exact hz),rfl,q _ I.fresh⟩
end
section
variable {prog:Program}{w:World}{A:Around}{E:Value→Shared→Prop}{s:Shared}
end
section
variable {X:Cx}
end
end L2
namespace Att
open PySem PySem.W PySem.Calls PyProof.Rows
theorem tK {P:Params}{h:Heap}:∀(ns:List Int) (vs:List Value),WellAll P h vs (ns.map WData.int)→IntsAre vs ns:=by
 intro ns
 induction ns with
 | nil=>
  intro vs w;rw[map_nil] at w
  cases w
  exact .nil
 | cons n ns ih=>
  intro vs w;rw[map_cons] at w
  cases w with
  | cons a b=>
   cases a
   exact .cons _ _ (ih _ b)
theorem a5V {l:OpenLaw}{n:Nat}(hn:l.most=some n){P:Params}{h:Heap}{args:List WData}{vals:List Value}
  (hpre:l.row.toRowW.claim.pre args=true) (hwl:WellAll P h vals args) :
  ∃ a vs ns,vals=[Value.ref a]∧args=[WData.list (ns.map WData.int)]∧h.get? a=some { cls:=.type "list", data:=.seq vs.toArray }∧IntsAre vs ns∧ns.length≤n:=by
 have hsh:WShape.hasAll [] args [.list .int]=true:=(pre_splitW hpre).1;have hc:l.pre.holds [] { args:=args }=true:=(pre_splitW hpre).2;obtain⟨d,r,rfl,h1,h2⟩:=hasAllW_cons hsh;obtain rfl:=hasAllW_nil h2;obtain⟨xs,rfl,h3⟩:=hasW_list h1;obtain⟨ns,rfl⟩:=items_int h3;have hlen:ns.length≤n:=by
  unfold OpenLaw.pre at hc;have h4:(WTm.not (.lt (.lit (.int (n:Int))) (.len (.arg 0)))).holds [] { args:=[.list (ns.map .int)] }=true:=by
   have h4:=(holds_andW hc).1;rw[hn] at h4;exact h4
  have h5:=condW_of h4 (w_not (w_lt w_lit (w_len_list (w_arg rfl))));rw[length_map] at h5;refine Nat.le_of_not_lt fun q=>?_;have q':(n:Int)<((ns.length:Nat):Int):=by omega
  first
   | (rw[decide_eq_true q'] at h5; exact absurd h5 (by decide))
   | (simp at h5; omega)
 cases hwl with
 | cons w1 w2=>
  cases w2
  cases w1 with
  | list ho hall=>exact⟨_,_,ns,rfl,rfl,ho,tK ns _ hall,hlen⟩
theorem a5P (l:OpenLaw)(args:List WData):l.row.toRowW.claim.post args (.bool true) args=true:=
 postW_of (r:=l.row.toRowW) (X:=(true==true))
  (show WShape.has [] (.bool true) .bool=true by first|rfl|decide|simp[WShape.has,WShape.arms,WShape.armsAll])
  (show(WTm.eq .res (.lit (.bool true))).value [] { args:=args,res:=some (.bool true),after:=args }=some (.bool (true==true)) from w_eq_bool (w_res rfl) w_lit) rfl
theorem attach_call {l:OpenLaw}{n:Nat}{q:Program}{loose:List Str}{XP:(Str→Option Value)→Heap→Prop}{YP:World→Heap→Prop}{d:DefRec}
  (hn:l.most=some n) (hdf:d.params.defaults=[])
  (call:∀(w:World) (s₀ s₁:Shared) (mg mb:Str→Option Value) (fa:Addr) (o:Obj) (pm cd doc:Value) (a:Addr) (vs:List Value) (ns:List Int),
   Ground q loose [] XP w s₀ mg mb s₁.heap→YP w s₁.heap →
   s₁.heap.get? fa=some o→o.data=.func (docDef d.name d.params d.body d.scope pm cd doc)→s₁.heap.CodeRec cd d.name→mg d.name=some (.ref fa) →
   s₁.heap.get? a=some { cls:=.type "list", data:=.seq vs.toArray }→IntsAre vs ns→ns.length≤n→s₁.gens=#[] →
   codeAny (model l.prog w) callerA (.call (.ref fa) ⟨[.ref a],[]⟩) (fun r s'=>r=.ok (.ret (.bool true))∧OldK s₁.heap s'.heap∧s'.os=s₁.os∧AllBare s'.gens) s₁) :
  WalkO q loose XP YP l.row.toRowW d [] (fun f vs=>PySem.call f vs):=by
 intro w s₀ s₁ mg mb G Y fa o pm cd doc dV kV ho hd hcd hD hmg hg args vals as hpre hlay hrd hwl hlo;obtain rfl:dV=.none:=Dflts.none hD hdf;obtain rfl:kV=.none:=Dflts.noKw hD;obtain⟨a,vs,ns,rfl,rfl,hobj,hints,hlen⟩:=a5V hn hpre hwl;refine enter_call (codeAny_mono (call w s₀ s₁ mg mb fa o pm cd doc a vs ns G Y ho (fd_plain hd) hcd hmg hobj hints hlen hg) fun r s' hq=>?_);obtain⟨rfl,h2,h3,h4⟩:=hq;exact⟨.inl ⟨.bool true,.bool true,[],rfl,fun _=>rfl,.bool true,a5P l _,fun _=>⟨List.Pairwise.nil,fun _ hm=>(nomatch hm)⟩⟩,h2,h3,h4⟩
section
variable {prog:Program}{w:World}{A:Around}{E:Value→Shared→Prop}{s:Shared}{K:Frag}
end
end Att
namespace L2
open PySem PySem.Spec PyProof.Rows
theorem a4C:∀{vs:List Value} {ns:List Int},IntsAre vs ns→Vals (ns.map V.int) vs:=by
 intro vs ns h
 induction h with
 | nil=>exact .nil
 | cons n t h ih=>exact .cons ⟨t,rfl⟩ ih
noncomputable def Only (H:Hp):Prop:=∀ b,H b=none∨∃ o xs,H b=some (.frz o (.lst xs))
theorem law_call {P:Program}{w:World}{K:PySem.W.Frag}{mg mb:Str→Option Value}{CX:CXT}{k:Nat}{fa a:Addr}{fd:FuncData}{x:Str}{sp:Sp}{s₁:Shared}{vs:List Value}{ns:List Int}
  (KX:K.In s₁.heap) (hns:s₁.heap.Ns mainGlobals mg) (hb:s₁.heap.Ns builtinsNs mb) (hbb:∀ x:Str,x ≠ "__name__" → mb x=bootBuiltins x) (hlim:s₁.heap.NoLimit) (hsy:∃ mm,s₁.heap.Ns sysModules mm) (hg:s₁.gens=#[])
  (ha:s₁.heap.get? a=some { cls:=.type "list", data:=.seq vs.toArray }) (hi:IntsAre vs ns) (hl:ns.length≤sizeLine) (hr:Room k callerA)
  (F:∀ base:Heap,K.In base→base.Ns mainGlobals mg→FnOk P w K mg base CX k fa fd [x] sp) (hbind:∀(s:Shared) (u:Value),BindsTo s fd ⟨[u],[]⟩ [(x,u)])
  (hsp:∀ H:Hp,Only H→SqL K H a (ns.map V.int)→sp [.ref a] H (fun v _=>v=.bl true) fun _ _ _=>False)
  (hCX:∀ H e s',CX [] H s₁ (fun _ _ _=>False) e s'→False) :
  codeAny (model P w) callerA (.call (.ref fa) ⟨[.ref a],[]⟩) (fun r s'=>r=.ok (.ret (.bool true))∧OldK s₁.heap s'.heap∧s'.os=s₁.os∧AllBare s'.gens) s₁:=by
 have rv:=a4C hi;have lenV:=hi.length;have core:∀ H:Hp,Only H→SqL K H a (ns.map V.int)→HOk P w H s₁.heap→(∀ b,H b≠none→b=a)→(H a≠none→K.lookup a=none) →
   codeAny (model P w) callerA (.call (.ref fa) ⟨[.ref a],[]⟩) (fun r s'=>r=.ok (.ret (.bool true))∧OldK s₁.heap s'.heap∧s'.os=s₁.os∧AllBare s'.gens) s₁:=by
  intro H hO hS hok hA hK;have base_of:∀{b:Addr} {o:Obj},s₁.heap.get? b=some o→H b=none→(a88 s₁.heap H).get? b=some o:=fun e n=>a7G e n;have noA:∀{b:Addr} {o:Obj} {es:Array DictEntry} {ep:Nat},s₁.heap.get? b=some o→o.data=.dict es ep→H b=none:=fun{b o es ep} e d=>by
   cases q:H b with
   | none=>rfl
   | some u=>
    have e':b=a:=hA b (by rw[q]; simp);subst e';rw[ha] at e; cases e;have d':Data.seq vs.toArray _=Data.dict es ep:=d
    cases d'
  have nsK:∀{b:Addr} {m:Str→Option Value},s₁.heap.Ns b m→(a88 s₁.heap H).Ns b m:=fun{b m} ⟨o,es,ep,e,d,r⟩=>⟨o,es,ep,base_of e (noA e d),d,r⟩;have hKb:K.In (a88 s₁.heap H):=fun b o e=>base_of (KX b o e) (by
   cases q:H b with
   | none=>rfl
   | some u=>
    have e':b=a:=hA b (by rw[q]; simp);subst e';rw[hK (by rw[q]; simp)] at e; cases e)
  have hM:Mod K mg (a88 s₁.heap H):=⟨hKb,nsK hns,⟨mb,nsK hb,hbb⟩,let ⟨mc,h1,h2⟩:=hlim; ⟨mc,nsK h1,h2⟩,let ⟨mm,h1⟩:=hsy; ⟨mm,nsK h1⟩⟩;have e0:Env0 P w K mg (a88 s₁.heap H) callerA [] s₁ H:=⟨rfl,hM,fun b o e=>aAC e,Nat.le_of_eq (a7B _ _),trivial,fun b hb=>absurd (show b∈([]:List Addr) from hb) (by simp),hok,.of_eq hg⟩;refine codeAny_mono ((F _ hKb (nsK hns)).run callerA [] s₁ H ⟨[.ref a],[]⟩ [.ref a] [.ref a] _ _ hr e0 (hbind s₁ (.ref a)) (.cons rfl .nil) (hsp H hO hS)) fun r s' h=>?_
  cases r with
  | error e=>exact(hCX H e s' h).elim
  | ok fl=>
   cases fl with
   | next=>exact False.elim h
   | brk=>exact False.elim h
   | cont=>exact False.elim h
   | ret u=>
    obtain⟨v,H',os,bare,un,hok',r',q⟩:=h;have q':v=.bl true:=q;subst q';obtain rfl:u=Value.bool true:=r';refine⟨rfl,OldK.of_keep fun b o e=>?_,os,bare⟩
    cases q:H b with
    | none=>exact un.keep b o e q (by intro z; exact absurd (show b∈([]:List Addr) from z) (by simp)) (by simp)
    | some u=>
     rcases hO b with z|⟨ob,xs,z⟩
     ·rw[q] at z; cases z
     ·have z2:=un.frzs b ob _ z;obtain⟨e1,_⟩:=hok b _ z;obtain⟨e2,_⟩:=hok' b _ z2;rw[e] at e1; cases e1;exact e2
 cases hk:K.lookup a with
 | some o=>
  have e:=KX a o hk;rw[ha] at e
  cases e
  refine core (fun _=>none) (fun _=>.inl rfl) (.inr ⟨_,vs.toArray,_,hk,rfl,rfl,rfl,by rw[size_toArray,lenV]; exact hl,by simpa using rv⟩) (fun b u z=>by have z':(none:Option HO)=some u:=z; cases z') (fun b z=>absurd rfl z) fun z=>absurd rfl z
 | none=>
  refine core (fun b=>if b=a then some (.frz { cls:=.type "list", data:=.seq vs.toArray } (.lst (ns.map V.int))) else none) (fun b=>?_) (.inl (.inr ⟨{ cls:=.type "list", data:=.seq vs.toArray },if_pos rfl⟩)) (fun b u z=>?_) (fun b z=>?_) fun _=>hk
  ·by_cases hb:b=a
   ·exact .inr ⟨_,_,if_pos hb⟩
   ·exact .inl (if_neg hb)
  ·by_cases hb:b=a
   ·have z':=(if_pos hb).symm.trans z
    cases z'
    subst hb;exact⟨ha,by rw[length_map]; exact hl,vs,_,rv,ha⟩
   ·have z':=(if_neg hb).symm.trans z
    cases z'
  ·by_cases hb:b=a
   ·exact hb
   ·exact absurd (if_neg hb) z
end L2
namespace L2
open PySem PySem.Spec PyProof.Rows
theorem aAM {l:PySem.W.OpenLaw}{n k:Nat}{q:Program}{loose:List Str}{XP:(Str→Option Value)→Heap→Prop}{YP:World→Heap→Prop}{d:DefRec}{K:Params→PySem.W.Frag}{CX:World→CXT}{sp:World→Sp}{x:Str}
  (hn:l.most=some n) (hn2:n≤sizeLine) (hdf:d.params.defaults=[]) (him:PyProof.Rows.importsNone q=true) (hr:Room k callerA)
  (hY:∀(w:World) (h:Heap),YP w h→(K w.params).In h)
  (F:∀(w:World) (mg:Str→Option Value) (fa:Addr) (h:Heap),(K w.params).In h→h.Ns mainGlobals mg→mg d.name=some (.ref fa) →
   ∃ fd:FuncData,(∀(s:Shared) (u:Value),BindsTo s fd ⟨[u],[]⟩ [(x,u)]) ∧
    ∀ base:Heap,(K w.params).In base→base.Ns mainGlobals mg→FnOk l.prog w (K w.params) mg base (CX w) k fa fd [x] (sp w))
  (hsp:∀(w:World) (H:Hp) (a:Addr) (ns:List Int),ns.length≤n→Only H→SqL (K w.params) H a (ns.map V.int)→sp w [.ref a] H (fun v _=>v=.bl true) fun _ _ _=>False)
  (hCX:∀(w:World) (H:Hp) (s:Shared) (e:Value) (s':Shared),CX w [] H s (fun _ _ _=>False) e s'→False) :
  PySem.W.WalkO q loose XP YP l.row.toRowW d [] (fun f vs=>PySem.call f vs):=by
 refine Att.attach_call hn hdf fun w s₀ s₁ mg mb fa o pm cd doc a vs ns G Y ho hd hcd hmg hobj hints hlen hg=>?_;have KX:=hY w _ Y;obtain⟨fd,hb,hF⟩:=F w mg fa _ KX G.T.g hmg;exact law_call KX G.T.g G.T.b G.T.builtins G.T.nolimit (let ⟨mm,h1,_⟩:=(G.T.seer him).mods; ⟨mm,h1⟩) hg hobj hints (le_trans hlen hn2) hr hF hb (fun H hO hS=>hsp w H a ns hlen hO hS) fun H e s'=>hCX w H s₁ e s'
end L2
namespace L2
open PySem PySem.Spec PyProof.Rows
noncomputable def inClass (s:Stmt)(j:Nat):Stmt:=match s with
 | .ClassDef _ _ _ body _ _ _ _ _ _ _=>body.getD j (.Pass ⟨0,0,0,0⟩)
 | _=>.Pass ⟨0,0,0,0⟩
noncomputable def lF (s:Stmt):Arguments:=match s with
 | .FunctionDef _ a _ _ _ _ _ _ _ _=>a
 | _=>{ posonlyargs:=[],args:=[],vararg:=none,kwonlyargs:=[],kw_defaults:=[],kwarg:=none,defaults:=[] }
noncomputable def fL (s:Stmt):List Stmt:=match s with
 | .FunctionDef _ _ b _ _ _ _ _ _ _=>b
 | _=>[]
noncomputable def aQ (s:Stmt):Scope:=match s with
 | .FunctionDef _ _ _ _ _ _ sc _ _ _=>sc
 | _=>{ kind:=.function,names:=[],isGenerator:=false,isCoroutine:=false }
abbrev CX0:CXT:=fun _ _ _ _ _ _=>False
abbrev E0:XK:=fun _ _ _=>False
theorem a4S {X:Cx}:uT CX0 X E0:=fun _ _ _ _ _ _ _ h=>h.elim
structure Fun (K:PySem.W.Frag)(x qual:Str)(st:Stmt)(f:Addr)(fd:FuncData):Prop where
 ex:∃(oc:Value) (od:Option Addr) (kV doc pm:Value) (an:Option Addr) (cdv ct:Value) (osl:Array (Option Value)),
  fd=fnOf x qual (lF st) (fL st) (aQ st) .none kV doc pm an cdv ct∧K.lookup f=some ⟨oc,od,.func fd,osl⟩∧codeIn K cdv qual=true
 kp:keepIn K (.ref f)=true
section
variable {P:Program}{w:World}{K:PySem.W.Frag}{mg:Str→Option Value}{base:Heap}
theorem Fun.ok {x qual:Str}{st:Stmt}{f:Addr}{fd:FuncData}{N ps:List Str}{k:Nat}{sp:Sp}(F:Fun K x qual st f fd)(S:FnScope N ps (aQ st))(len:∀ vs H Q E,sp vs H Q E→vs.length=ps.length)
  (hbody:∀(cdv:Value) (A:Around) (outer:List Env) (s:Shared) (H:Hp) (vs:List V) (Q:VK) (E:XK),Room k (A.deeper (envOfC qual (aQ st) s.heap.objs.size f cdv))→sp vs H Q E →
   ∃ t,PSs (a7E CX0 P w K mg base N qual (aQ st) f cdv A outer s H E).nox (fL st) t∧t { nx:=fun _ H'=>Q .non H',rt:=Q } (start N vs) H):FnOk P w K mg base CX0 (k+1) f fd ps sp:=by
 obtain⟨oc,od,kV,doc,pm,an,cdv,ct,osl,rfl,lk,hcd⟩:=F.ex;refine aCN lk hcd S len fun A outer s H vs Q E hr hsp=>?_;obtain⟨t,h,q⟩:=hbody cdv A outer s H vs Q E hr hsp;exact⟨t,h.nox,q⟩
theorem Fun.binds {x qual:Str}{st:Stmt}{f:Addr}{fd:FuncData}{ps:List Str}(F:Fun K x qual st f fd)
  (h:∀(kV doc pm:Value) (an:Option Addr) (cdv ct:Value) (us:List Value),us.length=ps.length→bindArgs (fnOf x qual (lF st) (fL st) (aQ st) .none kV doc pm an cdv ct) ⟨us,[]⟩=pure (ps.zip us)):Binds K fd ps []:=by
 obtain⟨oc,od,kV,doc,pm,an,cdv,ct,osl,rfl,lk,hcd⟩:=F.ex;exact .all (h kV doc pm an cdv ct)
theorem a09 {x qual:Str}{st:Stmt}{f:Addr}{oc:Value}{od an:Option Addr}{osl:Array (Option Value)}{kV doc pm cdv ct:Value}(l:K.lookup f=some ⟨oc,od,.func (fnOf x qual (lF st) (fL st) (aQ st) .none kV doc pm an cdv ct),osl⟩)
  (c:codeIn K cdv qual=true) (k:keepIn K (.ref f)=true):Fun K x qual st f (fnOf x qual (lF st) (fL st) (aQ st) .none kV doc pm an cdv ct):=⟨⟨oc,od,kV,doc,pm,an,cdv,ct,osl,rfl,l,c⟩,k⟩
end
theorem wU {n:Nat}(h:n≤1000):n<sizeLine:=lt_of_le_of_lt h (by decide)
section
variable {X:Cx}
theorem pv (i:Nat){x:Str}{pos:Pos}(hN:X.N[i]?=some x:=by rfl)(hv:Vis X.env.scope x:=by first|exact Or.inl rfl|exact Or.inr (Or.inl rfl)|exact Or.inr (Or.inr rfl))(hd:(x==("__debug__" : Str))=false:=by decide)
  (hcd:(x==("__classdict__" : Str))=false:=by decide):PE X (.Name x pos) (pO i):=a9R hN hv hd hcd
end
theorem zL {A B:Prop}(h:B):if false=true then A else B:=by
 rw[if_neg Bool.false_ne_true];exact h
theorem a1C {A B:Prop}(h:A):if true=true then A else B:=by
 rw[if_pos rfl];exact h
theorem aGJ {c A B:Prop}[Decidable c](hc:c)(h:B):if (!decide c)=true then A else B:=by
 rw[decide_eq_true hc];exact zL h
noncomputable def Same (H H':Hp):Prop:=∀ b o,H b=some o→H' b=some o
theorem Same.refl (H:Hp):Same H H:=fun _ _ h=>h
theorem Same.trans {H H1 H2:Hp}(a:Same H H1)(b:Same H1 H2):Same H H2:=fun c o h=>b c o (a c o h)
theorem Same.free {H H':Hp}(e:Same H H'){l:Addr}(h:H' l=Option.none):H l=Option.none:=by
 cases q:H l with
 | none=>rfl
 | some o=>
  rw[e l o q] at h
  cases h
end L2
set_option maxHeartbeats 4000000
namespace LT
theorem jK (a:Rat):(a.den:Int)≠0:=by have:=a.den_nz; omega
theorem a3T (a b:Rat):Rat.divInt (a.num*b.den+b.num*a.den) (a.den*b.den)=a+b:=by
 rw[← Rat.divInt_add_divInt _ _ (jK a) (jK b),num_divInt_den,num_divInt_den]
theorem aDN (a b:Rat):Rat.divInt (a.num*b.den-b.num*a.den) (a.den*b.den)=a-b:=by
 rw[Rat.sub_eq_add_neg,←a3T a (-b),Rat.neg_num,Rat.neg_den,Int.neg_mul,Int.sub_eq_add_neg]
theorem a9B (a b:Rat):Rat.divInt (a.num*b.num) (a.den*b.den)=a*b:=by
 rw[← Rat.divInt_mul_divInt,num_divInt_den,num_divInt_den]
theorem aHE (a b:Rat):decide (a.num*b.den<b.num*a.den)=decide (a<b):=by
 rw[decide_eq_decide,Rat.lt_iff]
theorem fd (t:Int)(g:Nat):t.fdiv (g:Int)=t/(g:Int):=Int.fdiv_eq_ediv_of_nonneg t (by omega)
theorem lW {t b:Int}(h:0<b):t.fdiv (Int.gcd t b:Nat)=(Rat.divInt t b).num∧b.fdiv (Int.gcd t b:Nat)=((Rat.divInt t b).den:Int):=by
 rw[Rat.num_divInt,Rat.den_divInt,fd,fd,if_neg (by omega),Int.sign_eq_one_of_pos h,Int.one_mul,Int.gcd_comm b t];refine⟨rfl,?_⟩;obtain⟨n,rfl⟩:∃ n:Nat,b=(n:Int):=⟨b.toNat,by omega⟩;rw[← Int.natCast_ediv,Int.natAbs_natCast]
theorem a95 {t b:Int}(h:b<0):t.fdiv (-(Int.gcd t b:Nat))=(Rat.divInt t b).num∧b.fdiv (-(Int.gcd t b:Nat))=((Rat.divInt t b).den:Int):=by
 have h1:=lW (t := -t) (b := -b) (by omega);have e:Rat.divInt (-t) (-b)=Rat.divInt t b:=by
  have:=Rat.divInt_mul_right (n:=t) (d:=b) (a := -1) (by decide);rw[← this]; congr 1<;>omega
 rw[e,Int.gcd_neg,Int.neg_gcd] at h1;rw[← h1.1,←h1.2];constructor
 ·rw[← Int.neg_neg t,Int.neg_fdiv_neg]; simp
 ·rw[← Int.neg_neg b,Int.neg_fdiv_neg]; simp
theorem a0E {d r:Int}(hd:0≤d)(h:0<r):Int.gcd r (d%r)=Int.gcd d r:=by
 obtain⟨m,rfl⟩:∃ n:Nat,d=(n:Int):=⟨d.toNat,by omega⟩;obtain⟨n,rfl⟩:∃ n:Nat,r=(n:Int):=⟨r.toNat,by omega⟩;rw[← Int.natCast_emod];show Nat.gcd n (m%n)=Nat.gcd m n;rw[Nat.gcd_comm n,←Nat.gcd_rec,Nat.gcd_comm]
theorem a4T {d:Int}(h:0≤d):(Int.gcd d 0:Int)=d:=by
 rw[Int.gcd_zero_right]; omega
theorem a5E (i:Int):0≤(if i<0 then -i else i):=by split<;>omega
theorem a5F (i j:Int):Int.gcd (if i<0 then -i else i) (if j<0 then -j else j)=Int.gcd i j:=by
 split<;>split<;>simp only[Int.gcd_neg,Int.neg_gcd]
noncomputable def Bt (k:Nat)(i:Int):Prop:=i.natAbs<2^k
noncomputable def Sz (k:Nat)(q:Rat):Prop:=Bt k q.num∧Bt k q.den
theorem Bt.mono {k m:Nat}{i:Int}(h:Bt k i)(l:k≤m):Bt m i:=lt_of_lt_of_le h (Nat.pow_le_pow_right (by decide) l)
theorem Sz.mono {k m:Nat}{q:Rat}(h:Sz k q)(l:k≤m):Sz m q:=⟨h.1.mono l,h.2.mono l⟩
theorem Bt.mul {k m:Nat}{i j:Int}(h:Bt k i)(g:Bt m j):Bt (k+m) (i*j):=by
 unfold Bt at *; rw[natAbs_mul,Nat.pow_add];exact Nat.mul_lt_mul'' h g
theorem Bt.add {k:Nat}{i j:Int}(h:Bt k i)(g:Bt k j):Bt (k+1) (i+j):=by
 unfold Bt at *; have:=Int.natAbs_add_le i j; rw[Nat.pow_succ]; omega
theorem Bt.neg {k:Nat}{i:Int}(h:Bt k i):Bt k (-i):=by unfold Bt at *; omega
theorem Bt.ediv {k:Nat}{i:Int}(h:Bt k i)(g:Nat):Bt k (i/(g:Int)):=by
 unfold Bt at *;exact lt_of_le_of_lt (by exact Int.natAbs_ediv_le_natAbs _ _) h
theorem Sz.divInt {k:Nat}{t b:Int}(h:Bt k t)(g:Bt k b)(h0:b≠0):Sz k (Rat.divInt t b):=by
 rcases Int.lt_or_gt_of_ne h0 with hb|hb
 ·have e:Rat.divInt (-t) (-b)=Rat.divInt t b:=by
   have:=Rat.divInt_mul_right (n:=t) (d:=b) (a := -1) (by decide);rw[← this]; congr 1<;>omega
  rw[← e];have n:=lW (t := -t) (b := -b) (by omega);rw[fd,fd] at n;exact⟨by rw[← n.1]; exact h.neg.ediv _,by rw[← n.2]; exact g.neg.ediv _⟩
 ·have n:=lW (t:=t) (b:=b) hb;rw[fd,fd] at n;exact⟨by rw[← n.1]; exact h.ediv _,by rw[← n.2]; exact g.ediv _⟩
theorem Sz.add {k m:Nat}{a b:Rat}(h:Sz k a)(g:Sz m b):Sz (k+m+1) (a+b):=by
 rw[← a3T];refine Sz.divInt (Bt.add (h.1.mul g.2) ?_) ((h.2.mul g.2).mono (by omega)) (mul_ne_zero (jK a) (jK b));exact(g.1.mul h.2).mono (by omega)
theorem Sz.mul {k m:Nat}{a b:Rat}(h:Sz k a)(g:Sz m b):Sz (k+m) (a*b):=by
 rw[← a9B];exact Sz.divInt (h.1.mul g.1) (h.2.mul g.2) (mul_ne_zero (jK a) (jK b))
end LT
namespace LT
theorem aK1 (q:Rat):(q.num:Rat)=q*((q.den:Int):Rat):=by
 have h:((q.den:Int):Rat)≠0:=by
  have:=jK q;exact fun e=>this (by exact_mod_cast e)
 have e:=num_divInt_den q;rw[divInt_eq_div] at e;grind
theorem dI {t b:Int}{q:Rat}(hb:b≠0)(h:(t:Rat)=q*(b:Rat)):Rat.divInt t b=q:=by
 have h0:(b:Rat)≠0:=fun e=>hb (by exact_mod_cast e);rw[divInt_eq_div,h];grind
end LT
namespace LT
end LT
namespace L2
open PySem PySem.Spec PyProof.Rows
mutual
inductive Dt (H:Hp):V→PyData→Prop
 | non:Dt H .non .none
 | bl (b:Bool):Dt H (.bl b) (.bool b)
 | int (i:Int):Dt H (.int i) (.int i)
 | str (x:Str):Dt H (.str x) (.str x)
 | tup {p:Addr} {xs:List V} {ds:List PyData}:H p=some (.tup xs)→Dts H xs ds→Dt H (.ref p) (.tuple ds)
 | lst {p:Addr} {xs:List V} {ds:List PyData}:H p=some (.lst xs)→Dts H xs ds→Dt H (.ref p) (.list ds)
 | dic {p:Addr} {kvs:List (Key×V)} {kds:List (PyData×PyData)}:Rd H p (.dK kvs)→Dtk H kvs kds→Dt H (.ref p) (.dict kds)
inductive Dts (H:Hp):List V→List PyData→Prop
 | nil:Dts H [] []
 | cons {x:V} {xs:List V} {d:PyData} {ds:List PyData}:Dt H x d→Dts H xs ds→Dts H (x::xs) (d::ds)
inductive Dtk (H:Hp):List (Key×V)→List (PyData×PyData)→Prop
 | nil:Dtk H [] []
 | cons {n:Int} {x:V} {d:PyData} {kvs:List (Key×V)} {kds:List (PyData×PyData)}:Dt H x d→Dtk H kvs kds→Dtk H ((Sum.inl n,x)::kvs) ((.int n,d)::kds)
end
mutual
theorem Dt.reads {P:Program}{w:World}{H:Hp}{h:Heap}(ok:HOk P w H h):∀(d:PyData) (x:V) (v:Value),Dt H x d→RelV x v→∃ as,Reads h v d as
 | .none,_,_,e,r=>by cases e; cases r; exact⟨_,.none⟩
 | .bool _,_,_,e,r=>by cases e; cases r; exact⟨_,.bool _⟩
 | .int _,_,_,e,r=>by cases e; obtain⟨t,rfl⟩:=r; exact⟨_,.int _ _⟩
 | .str _,_,_,e,r=>by cases e; obtain⟨t,rfl⟩:=r; exact⟨_,.str _ _⟩
 | .list ds,_,_,e,r=>by
  cases e with
  | @lst p xs _ hp rs=>
   cases r
   obtain⟨_,its,n,r',hg⟩:=(show ObjOk P w H h p (.lst xs) from ok p _ hp);obtain⟨as,q⟩:=Dts.reads ok ds xs its rs r';exact⟨_,.list hg rfl rfl (by simpa using q)⟩
 | .tuple ds,_,_,e,r=>by
  cases e with
  | @tup p xs _ hp rs=>
   cases r
   obtain⟨_,its,r',o,h1,h2,n,h3⟩:=(show ObjOk P w H h p (.tup xs) from ok p _ hp);obtain⟨as,q⟩:=Dts.reads ok ds xs its rs r';exact⟨_,.tuple h1 h2 h3 (by simpa using q)⟩
 | .dict kds,_,_,e,r=>by
  cases e with
  | @dic p kvs _ hp rs=>
   cases r
   obtain⟨_,_,vs,kv,o,es,ep,h1,h2,h3,_,h4,_⟩:=(show ObjOk P w H h p (.dK kvs) from hp.ok ok);obtain⟨as,bs,q1,q2⟩:=Dtk.reads ok kds kvs vs es.toList rs kv h4;exact⟨_,.dict h1 h2.1 h3 q1 q2⟩
theorem Dts.reads {P:Program}{w:World}{H:Hp}{h:Heap}(ok:HOk P w H h):∀(ds:List PyData) (xs:List V) (vs:List Value),Dts H xs ds→Vals xs vs→∃ as,ReadsAll h vs ds as
 | [],_,_,e,r=>by cases e; cases r; exact⟨_,.nil⟩
 | d::ds,_,_,e,r=>by
  cases e with
  | cons e1 e2=>
   cases r with
   | cons r1 r2=>
    obtain⟨as,q1⟩:=Dt.reads ok d _ _ e1 r1;obtain⟨bs,q2⟩:=Dts.reads ok ds _ _ e2 r2;exact⟨_,.cons q1 q2⟩
theorem Dtk.reads {P:Program}{w:World}{H:Hp}{h:Heap}(ok:HOk P w H h):∀(kds:List (PyData×PyData)) (kvs:List (Key×V)) (vs:List (Key×Value)) (es:List DictEntry),Dtk H kvs kds→KV kvs vs→Pairs (dH P w) es vs →
  ∃ as bs,ReadsAll h (es.map (·.key)) (kds.map (·.1)) as∧ReadsAll h (es.map (·.val)) (kds.map (·.2)) bs
 | [],_,_,_,e,r,z=>by cases e; cases r; cases z; exact⟨_,_,.nil,.nil⟩
 | (k,d)::kds,_,_,_,e,r,z=>by
  cases e with
  | @cons n _ _ _ _ e1 e2=>
   cases r with
   | cons r1 r2=>
    cases z with
    | @cons en kv _ _ z1 z2 z3=>
     obtain⟨k1,rv⟩:=r1;obtain⟨as,q1⟩:=Dt.reads ok d _ _ e1 rv;obtain⟨as2,bs2,q3,q4⟩:=Dtk.reads ok kds _ _ _ e2 r2 z3;have kr:∃ cs,Reads h en.key (.int n) cs:=by
      rcases cQ ((uP P w _ _).symm.trans z1) with⟨i,t,a,b⟩|⟨_,_,a,_⟩
      ·rw[← k1] at a
       cases a
       rw[b];exact⟨_,.int _ _⟩
      ·rw[← k1] at a
       cases a
     obtain⟨cs,kr⟩:=kr;exact⟨_,_,.cons kr q3,.cons (z2▸q1:Reads h en.val d as) q4⟩
end
theorem Rd.same {H H':Hp}(g:Same H H'){a:Addr}{u:HO}(r:Rd H a u):Rd H' a u:=r.elim (fun e=>.inl (g _ _ e)) fun⟨o,e⟩=>.inr ⟨o,g _ _ e⟩
mutual
theorem Dt.same {H H':Hp}(g:Same H H'):∀(d:PyData) (x:V),Dt H x d→Dt H' x d
 | .none,_,e=>by cases e; exact .non
 | .bool _,_,e=>by cases e; exact .bl _
 | .int _,_,e=>by cases e; exact .int _
 | .str _,_,e=>by cases e; exact .str _
 | .list ds,_,e=>by
  cases e with
  | lst hp rs=>exact .lst (g _ _ hp) (Dts.same g ds _ rs)
 | .tuple ds,_,e=>by
  cases e with
  | tup hp rs=>exact .tup (g _ _ hp) (Dts.same g ds _ rs)
 | .dict kds,_,e=>by
  cases e with
  | dic hp rs=>exact .dic (hp.same g) (Dtk.same g kds _ rs)
theorem Dts.same {H H':Hp}(g:Same H H'):∀(ds:List PyData) (xs:List V),Dts H xs ds→Dts H' xs ds
 | [],_,e=>by cases e; exact .nil
 | d::ds,_,e=>by
  cases e with
  | cons e1 e2=>exact .cons (Dt.same g d _ e1) (Dts.same g ds _ e2)
theorem Dtk.same {H H':Hp}(g:Same H H'):∀(kds:List (PyData×PyData)) (kvs:List (Key×V)),Dtk H kvs kds→Dtk H' kvs kds
 | [],_,e=>by cases e; exact .nil
 | (_,d)::kds,_,e=>by
  cases e with
  | cons e1 e2=>exact .cons (Dt.same g d _ e1) (Dtk.same g kds _ e2)
end
noncomputable def aEZ (x:Addr)(H H':Hp):Prop:=∀ b o,b≠x→H b=some o→H' b=some o
theorem fP {H:Hp}{p:Addr}(h:H p=none)(o:HO):Same H (upd H p o):=fun b u q=>by rw[aR (bC q h)]; exact q
theorem wZ {H:Hp}{p:Addr}(o:HO):aEZ p H (upd H p o):=fun b u n q=>by rw[aR n]; exact q
structure Good (d:PyData):Prop where
 lay:d.canLay0=true
 dep:d.depth≤60
section
variable {X:Cx}
theorem aFA {u a b:Nat}(h:u+64<cLine)(ha:a≤60):u+min a b<cLine:=by
 have:min a b≤a:=Nat.min_le_left _ _;omega
noncomputable def aIT:R2:=fun x y H Q=>∃ dx dy,Dt H x dx∧Dt H y dy∧Good dx∧Good dy∧Q (.bl (PyData.eqv dx dy)) H
noncomputable def aJ4:R2:=fun x y H Q=>∃ dx dy,Dt H x dx∧Dt H y dy∧Good dx∧Good dy∧Q (.bl (!PyData.eqv dx dy)) H
theorem dR (hu:X.A.units+64<cLine):OpR X (compareOp .Eq) aIT:=by
 intro pins s σ H x y v u Q I rx ry h;obtain⟨dx,dy,ex,ey,gx,gy,q⟩:=h;obtain⟨as,r1⟩:=Dt.reads I.hok dx x v ex rx;obtain⟨bs,r2⟩:=Dt.reads I.hok dy y u ey ry;exact SeqAt.compareEq_reads r1 r2 gx.lay gy.lay (aFA hu gx.dep) ⟨.bl _,H,I,rfl,q⟩
theorem wD (hu:X.A.units+64<cLine):OpR X (compareOp .NotEq) aJ4:=by
 intro pins s σ H x y v u Q I rx ry h;obtain⟨dx,dy,ex,ey,gx,gy,q⟩:=h;obtain⟨as,r1⟩:=Dt.reads I.hok dx x v ex rx;obtain⟨bs,r2⟩:=Dt.reads I.hok dy y u ey ry;exact SeqAt.compareNe_reads r1 r2 gx.lay gy.lay (aFA hu gx.dep) ⟨.bl _,H,I,rfl,q⟩
theorem cR:OpR X (binaryOp .Mult) (rI IntMulOk fun i j=>.int (i*j)):=opI fun _ _ _ _ _ _ _ hc q=>mul_int q hc
noncomputable def a83 (_ j:Int):Prop:=j≠0∧LT.Bt 9000 j
theorem aJU {i j:Int}(h:a83 i j):Builtin.divisionGoesByPylong i j=false:=by
 refine PyProof.noPylong_of_log2 ((log2_lt ?_).mpr h.2);have:=h.1;omega
theorem oV:OpR X (binaryOp .FloorDiv) (rI a83 fun i j=>.int (i.fdiv j)):=opI fun _ _ _ _ _ _ _ hc q=>floordiv_int hc.1 q (.inl (aJU hc))
theorem bits_le {k:Nat}{i:Int}(h:LT.Bt k i):Builtin.Int.intBits i≤k:=by
 unfold Builtin.Int.intBits
 split
 ·exact zero_le _
 ·rename_i h0
  have:i.natAbs≠0:=by
   intro e;exact h0 (by simpa using e)
  exact(log2_lt this).mpr h
theorem aDS {k m:Nat}{i j:Int}(h:LT.Bt k i)(g:LT.Bt m j)(hk:k≤1048576:=by decide)(hm:m≤1048576:=by decide):IntMulOk i j:=
 IntMulOk.of_bits (le_trans (bits_le h) hk) (le_trans (bits_le g) hm)
theorem lG {a b v:Int}{j j':Nat}{p p' pos:Pos}(h:a^b.toNat=v)(hc:aJ0 a b):PE X (.BinOp (.Constant (.int a) j p) .Pow (.Constant (.int b) j' p') pos) (tC (.int v)):=by
 intro pins s σ H Q I hq;subst h;exact bN aE2 aD aD pins s σ H Q I ⟨_,_,rfl,rfl,hc,hq⟩
noncomputable def aK3:V→Option Value
 | .ty n=>some (.type n)
 | .ref a=>some (.ref a)
 | _=>none
noncomputable def aJD (K:PySem.W.Frag):List V→Hp→VK→Prop:=fun xs H Q=>∃ x c cv t b,xs=[x,c]∧aK3 c=some cv∧TyOf K H x t∧kitOne K t cv=some b∧Q (.bl b) H
theorem jR:t6 X (.builtin "isinstance") (aJD X.K):=by
 intro pins s σ H xs us Q I r h;obtain⟨x,c,cv,t,b,rfl,ec,ty,e,q⟩:=h;obtain⟨u,v,rfl,rx,rc⟩:=vals2 r;have ev:v=cv:=by
  cases c<;>first
   | (cases ec; exact rc)
   | cases ec
 subst ev;exact a6C I rx ty e fun tk=>⟨.bl b,H,I.tok tk,rfl,q⟩
structure Cal (P:Program)(w:World)(K:PySem.W.Frag)(mg:Str→Option Value)(base:Heap)(k:Nat)(x:Str)(ps:List Str)(sp:Sp):Prop where
 ex:∃(f:Addr) (fd:FuncData),FnOk P w K mg base CX0 k f fd ps sp∧mg x=some (.ref f)∧keepIn K (.ref f)=true∧Binds K fd ps []
variable {j k:Nat}{x:Str}{ps:List Str}{sp:Sp}{e:Expr}{es:List Expr}{t:TA}{p pos:Pos}
theorem aN (c:Cal X.prog X.w X.K X.mg X.base j x ps sp)(hr:Room k X.A)(hg:Gl X x)(ha:PA X (e::es) t)(hjk:j≤k:=by decide)
  (hdb:(x==("__debug__" : Str))=false:=by decide) (he:starEach (e::es) X.env=(false,eval e X.env)::starEach es X.env:=by rfl) (hpl:(backTo pos (starEach es X.env)).any (·.1)=false:=by rfl) :
  PE X (.Call (.Name x p) (e::es) [] pos) (a3I sp [] E0 t):=by
 obtain⟨f,fd,F,hm,hk,hb⟩:=c.ex;exact aBK F (hr.mono hjk) hg hm hk hb .nil a4S ha hdb he hpl
end
structure Bl (K:PySem.W.Frag)(mg:Str→Option Value):Prop where
 len_:mg "len" = none
 abs_:mg "abs" = none
 range_:mg "range" = none
 isinstance_:mg "isinstance" = none
 int_:mg "int" = none
 bool_:mg "bool" = none
 tuple_:mg "tuple" = none
 max_:mg "max" = none
 min_:mg "min" = none
 list_:mg "list" = none
 all_:mg "all" = none
 any_:mg "any" = none
 sorted_:mg "sorted" = none
 zip_:mg "zip" = none
 set_:mg "set" = none
 sum_:mg "sum" = none
 str_:mg "str" = none
 enumerate_:mg "enumerate" = none
 repr_:mg "repr" = none
 kib:kitOne K (.type "int") (.type "bool")=some false
 kbi:kitOne K (.type "bool") (.type "int")=some true
theorem a9A (K:PySem.W.Frag)(t:Value):kitOne K t t=some true:=by
 unfold kitOne;rw[if_pos (beq_self_eq_true t)]
end L2
namespace L2
open PySem PySem.Spec PyProof.Rows LT
theorem aH6 {c A B:Prop}[Decidable c](h:c)(a:A):if decide c=true then A else B:=by rw[decide_eq_true h]; exact a1C a
theorem aDV {c A B:Prop}[Decidable c](h:¬c)(b:B):if decide c=true then A else B:=by rw[decide_eq_false h]; exact zL b
theorem aI5 {c A B:Prop}[Decidable c](h:¬c)(a:A):if (!decide c)=true then A else B:=by rw[decide_eq_false h]; exact a1C a
theorem dN {c A B:Prop}[Decidable c](h1:c→A)(h2:¬c→B):if decide c=true then A else B:=by
 by_cases h:c
 ·exact aH6 h (h1 h)
 ·exact aDV h (h2 h)
theorem a8F {c A B:Prop}[Decidable c](h1:¬c→A)(h2:c→B):if (!decide c)=true then A else B:=by
 by_cases h:c
 ·exact aGJ h (h2 h)
 ·exact aI5 h (h1 h)
theorem jU {n:Nat}(h:n≤1000):n≤sizeLine:=le_of_lt (wU h)
theorem a5H {n:Nat}(h:Nat.ble n 1000=true):n≤sizeLine:=jU (Nat.le_of_ble_eq_true h)
noncomputable def cD (q:Rat):PyData:=.tuple [.int q.num,.int (q.den:Int)]
noncomputable def jV (l:Rat×Rat):PyData:=.tuple [cD l.1,cD l.2]
noncomputable def a86 (K:PySem.W.Frag):Sp:=fun vs H Q _=>∃(a:Addr) (ns:List Int),vs=[.ref a]∧SqL K H a (ns.map V.int)∧ns.length≤63∧∀ H',Q (.bl true) H'
theorem a9Q {k:Nat}{t b:Int}(h:Bt k b)(h0:b≠0):Bt k (Int.gcd t b:Nat):=by
 unfold Bt at *;refine lt_of_le_of_lt ?_ h;show Int.gcd t b≤b.natAbs;exact Nat.le_of_dvd (by omega) (Nat.gcd_dvd_right _ _)
theorem a9U {t b:Int}(h0:b≠0):((Int.gcd t b:Nat):Int)≠0:=by
 have:=Int.gcd_pos_of_ne_zero_right t h0;omega
end L2
namespace L2
open PySem PySem.Spec PyProof.Rows
section
variable {κ:Type}[DecidableEq κ]
noncomputable def w5 (kvs:List (κ×V))(k:κ):Option V:=(kvs.find? fun kv=>decide (kv.1=k)).map (·.2)
noncomputable def putK (kvs:List (κ×V))(k:κ)(v:V):List (κ×V):=
 if (kvs.any fun kv=>decide (kv.1=k))=true then kvs.map (fun kv=>if kv.1=k then(kv.1,v) else kv) else kvs++[(k,v)]
noncomputable def pM (kvs:List (κ×V))(k:κ):List (κ×V):=kvs.filter fun kv=>decide (kv.1≠k)
theorem rK {p:κ×V}{r:List (κ×V)}{k:κ}(e:p.1=k):w5 (p::r) k=some p.2:=by simp[w5,find?_cons,e]
theorem rR {p:κ×V}{r:List (κ×V)}{k:κ}(e:¬p.1=k):w5 (p::r) k=w5 r k:=by simp[w5,find?_cons,e]
theorem v4 (k:κ):∀ kvs:List (κ×V),(kvs.any fun kv=>decide (kv.1=k))=(w5 kvs k).isSome
 | []=>rfl
 | p::r=>by
  rw[any_cons]
  by_cases e:p.1=k
  ·simp only[rK e,decide_eq_true e,Bool.true_or,isSome_some]
  ·rw[rR e,decide_eq_false e,Bool.false_or]; exact v4 k r
theorem tE (kvs:List (κ×V))(k:κ)(v:V):(putK kvs k v).length≤kvs.length+1:=by
 unfold putK
 split
 ·rw[length_map]; omega
 ·rw[length_append,length_cons,length_nil]; omega
theorem RelO.isSome_eq {o:Option V}{u:Option Value}(r:RelO o u):o.isSome=u.isSome:=by
 cases o with
 | none=>cases u with
  | none=>rfl
  | some _=>exact(show False from r).elim
 | some _=>cases u with
  | none=>exact(show False from r).elim
  | some _=>rfl
theorem KV.val {kvs:List (κ×V)}{vs:List (κ×Value)}(r:KV kvs vs)(k:κ):RelO (w5 kvs k) (valueAt vs k):=by
 unfold KV at r
 induction r with
 | nil=>exact True.intro
 | @cons p q ps qs h t ih=>
  obtain⟨h1,h2⟩:=h
  by_cases e:p.1=k
  ·have e':q.1=k:=h1.symm.trans e;have b:valueAt (q::qs) k=some q.2:=by simp[valueAt,find?_cons,e']
   rw[rK e,b]; exact h2
  ·have e':¬q.1=k:=fun z=>e (h1.trans z);have b:valueAt (q::qs) k=valueAt qs k:=by simp[valueAt,find?_cons,e']
   rw[rR e,b]; exact ih
theorem KV.any {kvs:List (κ×V)}{vs:List (κ×Value)}(r:KV kvs vs)(k:κ):(kvs.any fun kv=>decide (kv.1=k))=vs.any fun kv=>decide (kv.1=k):=by
 unfold KV at r
 induction r with
 | nil=>rfl
 | cons h t ih=>rw[any_cons,any_cons,ih,h.1]
theorem KV.repl {kvs:List (κ×V)}{vs:List (κ×Value)}(r:KV kvs vs)(k:κ){y:V}{u:Value}(ry:RelV y u) :
  KV (kvs.map fun kv=>if kv.1=k then(kv.1,y) else kv) (vs.map fun kv=>if kv.1=k then(kv.1,u) else kv):=by
 unfold KV at r ⊢
 induction r with
 | nil=>exact .nil
 | @cons p q ps qs h t ih=>
  rw[map_cons,map_cons];refine .cons ?_ ih;obtain⟨h1,h2⟩:=h
  by_cases e:p.1=k
  ·rw[if_pos e,if_pos (h1.symm.trans e)]; exact⟨h1,ry⟩
  ·rw[if_neg e,if_neg (fun z=>e (h1.trans z))]; exact⟨h1,h2⟩
theorem KV.put {kvs:List (κ×V)}{vs:List (κ×Value)}(r:KV kvs vs)(k:κ){y:V}{u:Value}(ry:RelV y u):KV (putK kvs k y) (stored vs k u):=by
 unfold putK stored;rw[r.any k]
 by_cases e:(vs.any fun kv=>decide (kv.1=k))=true
 ·rw[if_pos e,if_pos e]; exact r.repl k ry
 ·rw[if_neg e,if_neg e]; exact Paired.snoc r ⟨rfl,ry⟩
theorem KV.drop {kvs:List (κ×V)}{vs:List (κ×Value)}(r:KV kvs vs)(k:κ):KV (pM kvs k) (without vs k):=by
 unfold KV at r ⊢;unfold pM without
 induction r with
 | nil=>exact .nil
 | @cons p q ps qs h t ih=>
  obtain⟨h1,h2⟩:=h;rw[filter_cons,filter_cons]
  by_cases e:p.1=k
  ·have a:¬decide (p.1≠k)=true:=by simp[e]
   have b:¬decide (q.1≠k)=true:=by simp[h1.symm.trans e]
   rw[if_neg a,if_neg b]; exact ih
  ·have e':¬q.1=k:=fun z=>e (h1.trans z);have a:decide (p.1≠k)=true:=by simp[e]
   have b:decide (q.1≠k)=true:=by simp[e']
   rw[if_pos a,if_pos b]; exact .cons ⟨h1,h2⟩ ih
theorem KV.length {kvs:List (κ×V)}{vs:List (κ×Value)}(r:KV kvs vs):kvs.length=vs.length:=Paired.length r
theorem a0L (kvs:List (κ×V))(k:κ):(pM kvs k).length≤kvs.length:=List.length_filter_le _ _
end
theorem a2F {P:Program}{w:World}{k:Key}{u:Value}(r:RelV (kV k) u):(dH P w).is k u=true:=by
 cases k with
 | inl i=>obtain⟨t,e⟩:=(show ∃ t,u=Value.int i t from r); subst e; exact zP P w i t
 | inr x=>obtain⟨t,e⟩:=(show ∃ t,u=Value.str x t from r); subst e; exact zZ P w x t
theorem wY {P:Program}{w:World}:∀{ks:List Key} {us:List Value},Vals (ks.map kV) us→ItemsAre (dH P w) ks us
 | [],_,r=>by rw[map_nil] at r; cases r; exact .nil
 | k::ks,_,r=>by
  rw[map_cons] at r
  cases r with
  | cons h t=>exact .cons (a2F h) (wY t)
abbrev KT (H:Hp):List (List Key×V)→List (List Key×Addr×Value)→Prop:=Paired fun p q=>p.1=q.1∧H q.2.1=some (.tup (p.1.map kV))∧RelV p.2 q.2.2
theorem KT.val {H:Hp}{kvs:List (List Key×V)}{xs:List (List Key×Addr×Value)}(r:KT H kvs xs)(k:List Key):RelO (w5 kvs k) ((atKey xs k).map (·.2)):=by
 induction r with
 | nil=>exact True.intro
 | @cons p q ps qs h t ih=>
  obtain⟨h1,_,h2⟩:=h
  by_cases e:p.1=k
  ·have e':q.1=k:=h1.symm.trans e;have b:atKey (q::qs) k=some q.2:=by simp[atKey,find?_cons,e']
   rw[rK e,b]; exact h2
  ·have e':¬q.1=k:=fun z=>e (h1.trans z);have b:atKey (q::qs) k=atKey qs k:=by simp[atKey,find?_cons,e']
   rw[rR e,b]; exact ih
theorem KT.repl {H:Hp}{kvs:List (List Key×V)}{xs:List (List Key×Addr×Value)}(r:KT H kvs xs)(k:List Key){y:V}{u:Value}(ry:RelV y u) :
  KT H (kvs.map fun kv=>if kv.1=k then(kv.1,y) else kv) (xs.map (putAt k u)):=by
 induction r with
 | nil=>exact .nil
 | @cons p q ps qs h t ih=>
  rw[map_cons,map_cons];refine .cons ?_ ih;obtain⟨h1,h2,h3⟩:=h;unfold putAt
  by_cases e:p.1=k
  ·rw[if_pos e,if_pos (h1.symm.trans e)]; exact⟨h1,h2,ry⟩
  ·rw[if_neg e,if_neg (fun z=>e (h1.trans z))]; exact⟨h1,h2,h3⟩
theorem KT.put {H:Hp}{kvs:List (List Key×V)}{xs:List (List Key×Addr×Value)}(r:KT H kvs xs)(k:List Key){b:Addr}{y:V}{u:Value}(hb:H b=some (.tup (k.map kV)))(ry:RelV y u) :
  KT H (putK kvs k y) (storedH xs k b u):=by
 have e:(kvs.any fun kv=>decide (kv.1=k))=(atKey xs k).isSome:=by
  rw[v4,(r.val k).isSome_eq,isSome_map]
 unfold putK storedH;rw[e]
 by_cases q:(atKey xs k).isSome=true
 ·rw[if_pos q,if_pos q]; exact r.repl k ry
 ·rw[if_neg q,if_neg q]; exact Paired.snoc r ⟨rfl,hb,ry⟩
theorem KT.keeps {H H':Hp}{kvs:List (List Key×V)}{xs:List (List Key×Addr×Value)}(r:KT H kvs xs)(ht:∀ b ys,H b=some (.tup ys)→H' b=some (.tup ys)):KT H' kvs xs:=
 Paired.mapP r fun _ _ z=>⟨z.1,ht _ _ z.2.1,z.2.2⟩
section
variable {P:Program}{w:World}{H:Hp}{h:Heap}{a:Addr}
theorem aDG {u:HO}(ok:HOk P w H h)(e:Rd H a u):ObjOk P w H h a u:=e.ok ok
theorem a2O {kvs:List (Key×V)}(ok:HOk P w H h)(e:Rd H a (.dK kvs)):kvs.length≤sizeLine∧(a==sysModules)=false∧∃ vs,KV kvs vs∧h.DictOf (dH P w) a vs:=
 show ObjOk P w H h a (.dK kvs) from aDG ok e
theorem aBI {kvs:List (Key×V)}(ok:HOk P w H h)(e:H a=some (.dK kvs)):kvs.length≤sizeLine∧(a==sysModules)=false∧∃ vs,KV kvs vs∧h.DictOf (dH P w) a vs:=a2O ok (.inl e)
theorem a06 {ks:List Key}(ok:HOk P w H h)(e:H a=some (.tup (ks.map kV))):(tupleKind (dH P w)).is h ks a:=by
 obtain⟨_,its,r,o,h1,h2,n,h3⟩:=(show ObjOk P w H h a (.tup (ks.map kV)) from ok a _ e);exact⟨o,its.toArray,n,h1,h2,h3,by simpa using wY r⟩
theorem a3X {kvs:List (List Key×V)}(ok:HOk P w H h)(e:Rd H a (.dT kvs)):kvs.length≤sizeLine∧(a==sysModules)=false ∧
  ∃ xs,KT H kvs xs∧h.DictOfH (tupleKind (dH P w)) a xs:=by
 obtain⟨z,y,xs,r,o,es,ep,h1,h2,h3,h4,h5⟩:=(show ObjOk P w H h a (.dT kvs) from aDG ok e);refine⟨z,y,xs,r,o,es,ep,h1,h2,h3,h4,fun x hx=>?_,h5⟩;have all:∀{l:List (List Key×V)} {m:List (List Key×Addr×Value)},KT H l m→∀ x∈m,(tupleKind (dH P w)).is h x.1 x.2.1:=by
  intro l m q
  induction q with
  | nil=>intro x hx; exact nomatch hx
  | @cons p q ps qs hq t ih=>
   intro x hx;rcases mem_cons.mp hx with e|hx
   ·subst e;exact a06 ok (by rw[← hq.1]; exact hq.2.1)
   ·exact ih x hx
 exact all r x hx
theorem aIJ {kvs:List (List Key×V)}(ok:HOk P w H h)(e:H a=some (.dT kvs)):kvs.length≤sizeLine∧(a==sysModules)=false ∧
  ∃ xs,KT H kvs xs∧h.DictOfH (tupleKind (dH P w)) a xs:=a3X ok (.inl e)
end
noncomputable def DGet (H:Hp)(a:Addr)(y:V)(r:Option V):Prop:=
 (∃ kvs k,Rd H a (.dK kvs)∧y=kV k∧r=w5 kvs k)∨∃ kvs k b,Rd H a (.dT kvs)∧y=.ref b∧H b=some (.tup (k.map kV))∧r=w5 kvs k
noncomputable def DPut (H:Hp)(a:Addr)(y v:V)(H':Hp):Prop:=
 (∃ kvs k,H a=some (.dK kvs)∧y=kV k∧kvs.length<sizeLine∧H'=upd H a (.dK (putK kvs k v))) ∨
 ∃ kvs k b,H a=some (.dT kvs)∧y=.ref b∧H b=some (.tup (k.map kV))∧kvs.length<sizeLine∧H'=upd H a (.dT (putK kvs k v))
theorem DGet.k {H:Hp}{a:Addr}{kvs:List (Key×V)}{k:Key}(e:H a=some (.dK kvs)):DGet H a (kV k) (w5 kvs k):=.inl ⟨kvs,k,.inl e,rfl,rfl⟩
theorem DPut.k {H:Hp}{a:Addr}{kvs:List (Key×V)}{k:Key}{v:V}(e:H a=some (.dK kvs))(hl:kvs.length<sizeLine):DPut H a (kV k) v (upd H a (.dK (putK kvs k v))):=.inl ⟨kvs,k,e,rfl,hl,rfl⟩
section
variable {X:Cx}{pins:List (Addr×Obj)}{σ:St}{H:Hp}{s:Shared}{a:Addr}{y v:V}{u r:Value}{o:Option V}{A:Around}{E:Value→Shared→Prop}
theorem Inv.big (I:Inv X pins σ H s):sysModules<s.heap.objs.size:=by
 have h:mainGlobals<s.heap.objs.size:=(I.mod.glob.keeps I.bk).lt;exact lt_trans (by decide) h
theorem a4Z {Q:Value→Shared→Prop}(hu:A.units+1<cLine)(I:Inv X pins σ H s)(g:DGet H a y (some v))(ry:RelV y u)(h:∀ w' s',Inv X pins σ H s'→RelV v w'→Q w' s') :
  wpAny (model X.prog X.w) A (getItem (.ref a) u) Q E s:=by
 rcases g with⟨kvs,k,e,ey,l⟩|⟨kvs,k,b,e,ey,eb,l⟩
 ·subst ey;obtain⟨z,hd,vs,rel,dd⟩:=a2O I.hok e;obtain⟨w',hw,rw'⟩:=RelO.some_of (v:=v) (o:=valueAt vs k) (by rw[l]; exact rel.val k);exact wpAny_getItem_of (a2F ry) dd.mapOf hw (h w' _ (I.tok _) rw')
 ·subst ey
  cases(show u=Value.ref b from ry)
  obtain⟨z,hd,xs,rel,dd⟩:=a3X I.hok e;obtain⟨w',hw,rw'⟩:=RelO.some_of (v:=v) (o:=(atKey xs k).map (·.2)) (by rw[l]; exact rel.val k);obtain⟨p,hp,hp2⟩:=Option.map_eq_some_iff.mp hw;refine wpAny_getItem_heap (tupleKind_room_in1 hu) (a06 I.hok eb) dd hp ?_;rw[hp2];exact h w' _ (I.tok _) rw'
theorem aJS {Q:Value→Shared→Prop}(hu:A.units+1<cLine)(I:Inv X pins σ H s)(g:DGet H a y o)(ry:RelV y u)(h:∀ s',Inv X pins σ H s'→Q (.bool o.isSome) s') :
  wpAny (model X.prog X.w) A (compareOp .In u (.ref a)) Q E s:=by
 rcases g with⟨kvs,k,e,ey,l⟩|⟨kvs,k,b,e,ey,eb,l⟩
 ·subst ey;obtain⟨z,hd,vs,rel,dd⟩:=a2O I.hok e;refine wpAny_in_of (a2F ry) hd dd.mapOf ?_;rw[← (rel.val k).isSome_eq,←l];exact h _ (I.tok _)
 ·subst ey
  cases(show u=Value.ref b from ry)
  obtain⟨z,hd,xs,rel,dd⟩:=a3X I.hok e;refine wpAny_in_heap (tupleKind_room_in1 hu) (a06 I.hok eb) hd dd ?_;have q:=(rel.val k).isSome_eq;rw[isSome_map] at q;rw[← q,←l];exact h _ (I.tok _)
theorem uX {h':Heap}{t':Nat}{ob:HO}(I:Inv X pins σ H s)(mu:Mut (H a))(hs:Heap.SameBut a s.heap h')(he:∃ q,h'.get? a=some q)(new:ObjOk X.prog X.w (upd H a ob) h' a ob) :
  Inv X pins σ (upd H a ob) { s with heap:=h',toks:=t' }:=
 I.write (x:=a) (e:=a) mu (.inl rfl) (fun b q hb z=>(hs.2 b hb).trans z) he new
theorem a4N {P:Program}{w:World}{H':Hp}{h':Heap}{kvs:List (Key×V)}{vs:List (Key×Value)}(z:kvs.length≤sizeLine)(hd:(a==sysModules)=false)(rel:KV kvs vs)(dd:h'.DictOf (dH P w) a vs) :
  ObjOk P w H' h' a (.dK kvs):=⟨z,hd,vs,rel,dd⟩
theorem a6X {H':Hp}{Q:Unit→Shared→Prop}(hu:A.units+1<cLine)(I:Inv X pins σ H s)(g:DPut H a y v H')(ry:RelV y u)(rv:RelV v r)(h:∀ s',Inv X pins σ H' s'→Q () s') :
  wpAny (model X.prog X.w) A (setItem (.ref a) u r) Q E s:=by
 rcases g with⟨kvs,k,e,ey,l,eH⟩|⟨kvs,k,b,e,ey,eb,l,eH⟩
 ·subst ey eH;obtain⟨z,hd,vs,rel,dd⟩:=aBI I.hok e;have hz:vs.length≤sizeLine:=by rw[← rel.length]; exact z
  have hl:(putK kvs k v).length≤sizeLine:=by have:=tE kvs k v; omega
  refine wpAny_setItem_pairs (hsz:=hz) (a2F ry) dd fun h' dd' hs=>h _ ?_;have he:∃ q,h'.get? a=some q:=let ⟨q,_,_,hq,_⟩:=dd'; ⟨q,hq⟩;exact uX I (by rw[e]; exact True.intro) hs he (a4N hl hd (rel.put k rv) dd')
 ·subst ey eH
  cases(show u=Value.ref b from ry)
  obtain⟨z,hd,xs,rel,dd⟩:=aIJ I.hok e;have hz:xs.length≤sizeLine:=by rw[← Paired.length rel]; exact z
  have hl:(putK kvs k v).length≤sizeLine:=by have:=tE kvs k v; omega
  refine wpAny_setItem_heap (hsz:=hz) (tupleKind_room_in1 hu) (a06 I.hok eb) dd fun h' dd' hs=>h _ ?_;obtain⟨q,es,ep,hq,h2,h3,h4,_,h5⟩:=dd';refine uX I (by rw[e]; exact True.intro) hs ⟨q,hq⟩ ⟨hl,hd,_,(rel.put k eb rv).keeps fun c ys ec=>?_,q,es,ep,hq,h2,h3,h4,h5⟩;rw[aR (a3M ec e (fun z=>nomatch z))];exact ec
end
section
variable {X:Cx}{pins:List (Addr×Obj)}{σ:St}{H:Hp}{s:Shared}{a:Addr}{kvs:List (Key×V)}{k:Key}{u:Value}{A:Around}{E:Value→Shared→Prop}
theorem aEC {Q:Unit→Shared→Prop}(I:Inv X pins σ H s)(e:H a=some (.dK kvs))(ry:RelV (kV k) u)(l:(w5 kvs k).isSome=true)(h:∀ s',Inv X pins σ (upd H a (.dK (pM kvs k))) s'→Q () s') :
  wpAny (model X.prog X.w) A (delItem (.ref a) u) Q E s:=by
 obtain⟨z,hd,vs,rel,dd⟩:=aBI I.hok e;refine wpAny_delItem_slot dd.typeIs (by decide) PySem.F.slot_dict_delitem
  (call_meetsIn PySem.F.slot_dict_delitem dd.typeIs PySem.F.entry_dict_delitem (PySem.F.args_dict_delitem_2 _ _) (meets_dict_delitem_pairs (dH X.prog X.w) a (a2F ry)) ⟨vs,dd,by rw[← rel.length]; exact z,by rw[← (rel.val k).isSome_eq]; exact l,fun h' dd' hs=>h _ ?_⟩)
 have he:∃ q,h'.get? a=some q:=let ⟨q,_,_,hq,_⟩:=dd'; ⟨q,hq⟩;exact uX I (by rw[e]; exact True.intro) hs he (a4N (le_trans (a0L kvs k) z) hd (rel.drop k) dd')
theorem aIE {v:V}{more:List Value}{Q:Value→Shared→Prop}(I:Inv X pins σ H s)(e:H a=some (.dK kvs))(ry:RelV (kV k) u)(l:w5 kvs k=some v)(hm:more=[]∨∃ x,more=[x])
  (h:∀ w' s',Inv X pins σ (upd H a (.dK (pM kvs k))) s'→RelV v w'→Q w' s'):wpAny (model X.prog X.w) A (call (.builtin "dict.pop") (.ref a::u::more)) Q E s:=by
 obtain⟨z,hd,vs,rel,dd⟩:=aBI I.hok e;obtain⟨w',hw,rw'⟩:=RelO.some_of (v:=v) (o:=valueAt vs k) (by rw[← l]; exact rel.val k);have hp:(keyPart u).isSome=true:=by
  cases k with
  | inl i=>obtain⟨t,q⟩:=(show ∃ t,u=Value.int i t from ry); subst q; rfl
  | inr x=>obtain⟨t,q⟩:=(show ∃ t,u=Value.str x t from ry); subst q; rfl
 have ha:argsOk "dict.pop" ⟨.ref a::u::more,[]⟩:=by
  rcases hm with q|⟨x,q⟩
  ·subst q; exact PySem.F.args_dict_pop_2 _ _
  ·subst q; exact PySem.F.args_dict_pop_3 _ _ _
 refine call_meetsIn PySem.F.slot_dict_pop dd.typeIs PySem.F.entry_dict_pop ha (meets_dict_pop_there (dH X.prog X.w) a (a2F ry) more hm hp)
  ⟨vs,w',dd,by rw[← rel.length]; exact z,hw,fun h' dd' hs=>h w' _ ?_ rw'⟩
 have he:∃ q,h'.get? a=some q:=let ⟨q,_,_,hq,_⟩:=dd'; ⟨q,hq⟩;exact uX I (by rw[e]; exact True.intro) hs he (a4N (le_trans (a0L kvs k) z) hd (rel.drop k) dd')
theorem aGX {Q:Value→Shared→Prop}(I:Inv X pins σ H s)(e:Rd H a (.dK kvs))(h:∀ t s',Inv X pins σ H s'→Q (.int kvs.length t) s'):wpAny (model X.prog X.w) A (call (.builtin "len") [.ref a]) Q E s:=by
 obtain⟨z,hd,vs,rel,dd⟩:=a2O I.hok e;refine call_len_dict hd dd (by rw[← rel.length]; rw[sizeLine_eq] at z; omega) ?_;rw[← rel.length];exact h _ _ (I.tok _)
end
noncomputable def aIP (i:Expr):Prop:=∀ ov iv,subscripted i false ov iv=operate [ov,iv] (getItem ov iv)
theorem aAT {prog:Program}{w:World}{A:Around}{E:Value→Shared→Prop}{s:Shared}{env:Env}{value slice:Expr}{pos:Pos}{T id:String}{Q:Value→Shared→Prop}
  (hl:typeLookup (.type T) "__getitem__" = pure (some (.builtin id))) (hs:aIP slice)
  (h:wpAny (model prog w) A (eval value env) (fun o s₁=>wpAny (model prog w) A (eval slice env) (fun i s₂=>s₂.TypeIs o T∧wpAny (model prog w) A (getItem o i) Q E s₂) E s₁) E s) :
  wpAny (model prog w) A (eval (.Subscript value slice pos) env) Q E s:=by
 refine Subscript_ (wpAny_mono h (fun o s₁ h₁=>wpAny_mono h₁ (fun i s₂ h₂=>?_) fun _ _ x=>x) fun _ _ x=>x);obtain⟨hT,h₂⟩:=h₂;unfold subscriptTail;refine wpAny_bind ?_;rw[getitemInPython_of_ne hT.not_modules];refine wpAny_bind (wpAny_specialOf hT hl ?_);have fin:wpAny (model prog w) A (subscripted slice false o i) (fun r s₃=>wpAny (model prog w) A (letTemporaryGo value o r >>= fun _=>pure r) Q E s₃) E s₂:=by
  rw[hs o i];exact wpAny_operating (wpAny_mono h₂ (fun r s₃ h₃=>wpAny_bind (wpAny_letTemporaryGo (wpAny_pure h₃))) fun _ _ x=>x)
 first
  | exact wpAny_pure (wpAny_bind fin)
  | exact wpAny_bind (wpAny_pure (wpAny_bind fin))
  | exact wpAny_bind fin
theorem zB {X:Cx}{pins:List (Addr×Obj)}{σ:St}{H:Hp}{s:Shared}{a:Addr}{y:V}{o:Option V}(I:Inv X pins σ H s)(g:DGet H a y o):s.TypeIs (.ref a) "dict" := by
 rcases g with⟨kvs,k,e,_,_⟩|⟨kvs,k,b,e,_,_,_⟩
 ·obtain⟨_,_,vs,_,dd⟩:=a2O I.hok e;exact dd.typeIs
 ·obtain⟨_,_,xs,_,dd⟩:=a3X I.hok e;exact dd.typeIs
noncomputable def aCO (td ty:TE):TE:=fun σ H Q=>td σ H fun x H1=>ty σ H1 fun y H2=>∃ a v,x=.ref a∧DGet H2 a y (some v)∧Q v H2
noncomputable def aJK (ty td:TE):TE:=fun σ H Q=>ty σ H fun y H1=>td σ H1 fun x H2=>∃ a o,x=.ref a∧DGet H2 a y o∧Q (.bl o.isSome) H2
noncomputable def aDM (td ty tv:TE):TS:=fun D σ H=>tv σ H fun v H1=>td σ H1 fun x H2=>ty σ H2 fun y H3=>∃ a H4,x=.ref a∧DPut H3 a y v H4∧D.nx σ H4
section
variable {X:Cx}{o i e value:Expr}{pos pos' tpos:Pos}{td ty tv:TE}
theorem aB5 (hu:X.A.units+1<cLine)(ho:PE X o td)(hi:PE X i ty)(hs:aIP i):PE X (.Subscript o i pos) (aCO td ty):=by
 intro pins s σ H Q I h;refine aAT PySem.F.slot_dict_getitem.lookup hs (thn (ho pins s σ H _ I h) fun u s1 ⟨x,H1,I1,rx,q1⟩=>thn (hi pins s1 σ H1 _ I1 q1) fun iv s2 ⟨y,H2,I2,ry,a,v,ex,g,q2⟩=>?_);subst ex;obtain rfl:u=Value.ref a:=rx;exact⟨zB I2 g,a4Z hu I2 g ry fun w' s3 I3 rw'=>⟨v,H2,I3,rw',q2⟩⟩
theorem aDI (hu:X.A.units+1<cLine)(hi:PE X i ty)(ho:PE X o td):PC X .In i o (aJK ty td):=by
 intro pins s σ H Q I h;refine thn (hi pins s σ H _ I h) fun iv s1 ⟨y,H1,I1,ry,q1⟩=>thn (ho pins s1 σ H1 _ I1 q1) fun u s2 ⟨x,H2,I2,rx,a,ov,ex,g,q2⟩=>?_;subst ex;obtain rfl:u=Value.ref a:=rx;exact aJS hu I2 g ry fun s3 I3=>⟨.bl ov.isSome,H2,I3,rfl,q2⟩
theorem a75 (hu:X.A.units+1<cLine)(ho:PE X o td)(hi:PE X i ty)(hv:PE X value tv)(hs:swapsWith value (some (.Subscript o i pos')) pos.line X.env=pure false) :
  PS X (.Assign [.Subscript o i pos'] value pos) (aDM td ty tv):=by
 intro pins s σ H D I h;refine wpAny_Assign_Subscript (thn (hv pins s σ H _ I h) fun r s1 ⟨v,H1,I1,rv,q1⟩=>thn (ho pins s1 σ H1 _ I1 q1) fun u s2 ⟨x,H2,I2,rx,q2⟩=>thn (hi pins s2 σ H2 _ I2 q2) fun iv s3 ⟨y,H3,I3,ry,a,H4,ex,g,q3⟩=>?_) hs;subst ex;obtain rfl:u=Value.ref a:=rx;exact a6X hu I3 g ry rv fun s4 I4=>⟨σ,H4,I4,q3⟩
end
theorem a92 {P:Program}{w:World}{H:Hp}(h:Heap)(hb:sysModules<h.objs.size):ObjOk P w H (h.push { cls:=.type "dict", data:=.dict #[] }) h.objs.size (.dK []):=
 ⟨zero_le _,beq_eq_false_iff_ne.mpr (Ne.symm (ne_of_lt hb)),[],.nil,Heap.DictOf.new h⟩
noncomputable def aDT:TE:=fun _ H Q=>∀ p,H p=none→Q (.ref p) (upd H p (.dK []))
section
variable {X:Cx}{pos:Pos}
theorem a8M:PE X (.Dict [] [] pos) aDT:=fun pins s σ H Q I h=>
 wpAny_Dict_empty ⟨.ref s.heap.objs.size,_,I.laid (a:=s.heap.objs.size) (o:=.dK []) (t':=s.toks) (fun _ _ q=>get?_push_of_some _ q) (le_refl _) (a92 s.heap I.big),rfl,h _ (I.hok.fresh (le_refl _))⟩
end
structure M1 (X:Cx)(o:Expr)(m:Str)(apos:Pos)(e:Expr)(cpos:Pos):Prop where
 base:attributeBase o m X.env (eval o X.env)=eval o X.env
 few:((backTo cpos (starEach [e] X.env)).all (fun x => !x.1)&&(backToKw cpos (keywordEach [] X.env)).all (fun x=>x.1.isSome)
  && decide (([e]:List Expr).length+([]:List Keyword).length+(if ([]:List Keyword).isEmpty then 0 else 1)<30))=true
 line:(apos.endLine==cpos.line)=true
 trees:backTo cpos (starEach [e] X.env)=[(false,eval e X.env)]
noncomputable def IsD (H:Hp)(a:Addr):Prop:=(∃ kvs,Rd H a (.dK kvs))∨∃ kvs,Rd H a (.dT kvs)
theorem aFX {X:Cx}{pins:List (Addr×Obj)}{σ:St}{H:Hp}{s:Shared}{a:Addr}(I:Inv X pins σ H s)(d:IsD H a) :
  s.TypeIs (.ref a) "dict" ∧ (∀ b,Value.ref a=.ref b→∃ ob,s.heap.get? b=some ob∧ob.dict=none)∧(a==sysModules)=false:=by
 rcases d with⟨kvs,e⟩|⟨kvs,e⟩
 ·obtain⟨_,hd,vs,_,dd⟩:=a2O I.hok e;refine⟨dd.typeIs,fun b q=>?_,hd⟩
  cases q
  obtain⟨ob,_,_,h1,h2,_⟩:=dd;exact⟨ob,h1,h2.2.1⟩
 ·obtain⟨_,hd,xs,_,dd⟩:=a3X I.hok e;refine⟨dd.typeIs,fun b q=>?_,hd⟩
  cases q
  obtain⟨ob,_,_,h1,h2,_⟩:=dd;exact⟨ob,h1,h2.2.1⟩
section
variable {X:Cx}{pins:List (Addr×Obj)}{σ:St}{H:Hp}{s:Shared}{a:Addr}{y d:V}{u r:Value}{o:Option V}{A:Around}{E:Value→Shared→Prop}
end
noncomputable def a9S (td ty:TE):TE:=fun σ H Q=>td σ H fun x H1=>∃ a,x=.ref a∧IsD H1 a∧ty σ H1 fun y H2=>∃ kvs k v,H2 a=some (.dK kvs)∧y=kV k∧w5 kvs k=some v∧Q v (upd H2 a (.dK (pM kvs k)))
section
variable {X:Cx}{o e f:Expr}{apos cpos:Pos}{td ty tx:TE}
theorem a81 (ho:PE X o td)(he:PE X e ty)(m:M1 X o "pop" apos e cpos):PE X (.Call (.Attribute o "pop" apos) [e] [] cpos) (a9S td ty):=by
 intro pins s σ H Q I h;refine wpAny_Call_method m.base m.few m.line PySem.F.plainAttrs_dict PySem.F.slot_dict_pop PySem.F.type_dict_pop (thn (ho pins s σ H _ I h) fun u s1 ⟨x,H1,I1,rx,a,ex,d,q1⟩=>?_);subst ex;obtain rfl:u=Value.ref a:=rx;obtain⟨t1,t2,_⟩:=aFX I1 d;refine⟨t1,t2,?_⟩;rw[m.trees];refine Calls.callWith_builtin rfl (Calls.evalArgs_plain (Calls.spliced_cons (thn (he pins s1 σ H1 _ I1 q1) fun iv s2 ⟨y,H2,I2,ry,kvs,k,v,ea,ey,l,q2⟩=>Calls.spliced_nil ?_)));subst ey;exact aIE I2 ea ry l (.inl rfl) fun w' s3 I3 rw'=>⟨v,_,I3,rw',q2⟩
end
section
variable {X:Cx}{pins:List (Addr×Obj)}{σ:St}{H:Hp}{s:Shared}{a:Addr}{kvs:List (Key×V)}{A:Around}{E:Value→Shared→Prop}
end
section
variable {X:Cx}{pins:List (Addr×Obj)}{σ:St}{H:Hp}{s:Shared}{a:Addr}{y:V}{u:Value}{A:Around}{E:Value→Shared→Prop}
end
end L2
namespace L2
open PySem PySem.Spec PyProof.Rows
section
variable {κ:Type}[DecidableEq κ]
theorem a6Q {p:κ×V}{r:List (κ×V)}{k:κ}(e:p.1=k):pM (p::r) k=pM r k:=by
 unfold pM;rw[filter_cons,if_neg (by simp[e])]
theorem a6L {p:κ×V}{r:List (κ×V)}{k:κ}(e:¬p.1=k):pM (p::r) k=p::pM r k:=by
 unfold pM;rw[filter_cons,if_pos (by simp[e])]
end
end L2
abbrev Fg:=PySem.W.Frag
abbrev Mg:=PySem.Str→Option PySem.Value
namespace L2.VS
open PySem PySem.Spec PyProof.Rows
section
abbrev D:=PyData
structure Pb where
 P:V→Hp→Prop
 mono:∀{v G G'},Same G G'→P v G→P v G'
structure Bx where
 P:V→List Addr→Hp→Hp→Prop
 mono:∀{v fp G G' H},Same G G'→P v fp G H→P v fp G' H
 loc:∀{v fp G H H'},(∀ b∈fp,H' b=H b)→P v fp G H→P v fp G H'
 dom:∀{v fp G H},P v fp G H→∀ b∈fp,∃ o,H b=some o
 uniq:∀{v fp fp' G H},P v fp G H→P v fp' G H→fp=fp'
 nt:∀{v fp G H},P v fp G H→∀ b∈fp,∀ xs,H b=some (.tup xs)→∃ q∈fp,V.ref q∈xs∧∃ vs,H q=some (.lst vs)
 view:Option D
 vok:∀{v fp G H G' d},P v fp G H→view=some d→Same G G'→(∀ b∈fp,G' b=H b)→Dt G' v d
 pv:Option Pb:=none
 pok:∀{v fp G H G' B},P v fp G H→pv=some B→Same G G'→(∀ b∈fp,G' b=H b)→B.P v G':=by intro _ _ _ _ _ _ _ z; cases z
inductive Sl where
 | no|val (d:D)|own (ds:List D)|pen|con (p:Addr)|box (B:Bx)|pub (B:Pb)
abbrev En:=List Sl
inductive Rv where
 | val (d:D)|own (ds:List D)|box (B:Bx)
def Rv.d:Rv→D
 | .val d=>d
 | .own ds=>.list ds
 | .box B=>B.view.getD .none
def Rv.sl:Rv→Sl
 | .val d=>.val d
 | .own ds=>.own ds
 | .box B=>.box B
inductive Fl where
 | nx (Γ:En)|rt (r:Rv)|bk (Γ:En)|ct (Γ:En)
variable {P0:Addr→Hp→Prop}
structure Fra (P0:Addr→Hp→Prop) where
 H0:Hp
 G0:Hp
 pen:Option Addr
 stab:∀ p,pen=some p→∀ H H',(∀ b o,H0 b=some o→H' b=H b)→P0 p H→P0 p H'
 pin:∀ p,pen=some p→∀ H,P0 p H→∃ o,H p=some o
 pin0:∀ p,pen=some p→∃ o,H0 p=some o
 pg:∀ p,pen=some p→G0 p=none
def Fra.PI (F:Fra P0)(H:Hp):Prop:=∀ p,F.pen=some p→P0 p H
theorem Fra.stab' (F:Fra P0):∀ H H',(∀ b o,F.H0 b=some o→H' b=H b)→F.PI H→F.PI H':=fun H H' h pi p e=>F.stab p e H H' h (pi p e)
structure Rf (F:Fra P0)(G H:Hp):Prop where
 sub:Same G H
 g0:∀ b o,F.H0 b=some o→G b=F.G0 b
 h0:∀ b o,F.H0 b=some o→F.pen≠some b→H b=some o
 pn:F.PI H
def SlF (F:Fra P0)(G H:Hp)(x:Option (Option V))(fp:List Addr):Sl→Prop
 | .no=>fp=[]
 | .val d=>fp=[]∧∃ v,x=some (some v)∧Dt G v d
 | .own ds=>∃ p vs,fp=[p]∧x=some (some (.ref p))∧F.H0 p=none∧G p=none∧H p=some (.lst vs)∧Dts G vs ds
 | .pen=>fp=[]∧∃ p,x=some (some (.ref p))∧F.pen=some p
 | .con p=>fp=[]∧x=some (some (.ref p))
 | .pub B=>fp=[]∧∃ v,x=some (some v)∧B.P v G
 | .box B=>∃ v,x=some (some v)∧B.P v fp G H∧∀ b∈fp,F.H0 b=none∧G b=none
def aGM (F:Fra P0)(G H:Hp)(x:Option (Option V)):Sl→Prop
 | .no=>True
 | .val d=>∃ v,x=some (some v)∧Dt G v d
 | .own ds=>∃ p vs,x=some (some (.ref p))∧F.H0 p=none∧G p=none∧H p=some (.lst vs)∧Dts G vs ds
 | .pen=>∃ p,x=some (some (.ref p))∧F.pen=some p
 | .con p=>x=some (some (.ref p))
 | .pub B=>∃ v,x=some (some v)∧B.P v G
 | .box B=>∃ v fp,x=some (some v)∧B.P v fp G H∧∀ b∈fp,F.H0 b=none∧G b=none
theorem SlF.ok {F:Fra P0}{G H:Hp}{x:Option (Option V)}{fp:List Addr}:∀{s:Sl},SlF F G H x fp s→aGM F G H x s
 | .no,_=>trivial
 | .val _,h=>h.2
 | .own _,h=>let ⟨p,vs,_,r⟩:=h; ⟨p,vs,r⟩
 | .pen,h=>h.2
 | .con _,h=>h.2
 | .pub _,h=>h.2
 | .box _,h=>let ⟨v,r⟩:=h; ⟨v,fp,r⟩
theorem SlF.mine {F:Fra P0}{G H:Hp}{x:Option (Option V)}{fp:List Addr}{b:Addr}(hb:b∈fp):∀{s:Sl},SlF F G H x fp s→F.H0 b=none∧G b=none∧∃ o,H b=some o
 | .no,h=>by rw[show fp=[] from h] at hb; cases hb
 | .val _,h=>by rw[h.1] at hb; cases hb
 | .own _,h=>by
  obtain⟨p,vs,e,_,h1,h2,h3,_⟩:=h;rw[e] at hb;rw[mem_singleton.mp hb];exact⟨h1,h2,_,h3⟩
 | .pen,h=>by rw[h.1] at hb; cases hb
 | .con _,h=>by rw[h.1] at hb; cases hb
 | .pub _,h=>by rw[h.1] at hb; cases hb
 | .box B,h=>by
  obtain⟨v,_,h2,h3⟩:=h;exact⟨(h3 b hb).1,(h3 b hb).2,B.dom h2 b hb⟩
theorem SlF.go {F:Fra P0}{G H G' H':Hp}{x:Option (Option V)}{fp:List Addr}(g:Same G G')(k:∀ b∈fp,G' b=none∧H' b=H b):∀{s:Sl},SlF F G H x fp s→SlF F G' H' x fp s
 | .no,h=>h
 | .val _,h=>let ⟨e,v,e1,d1⟩:=h; ⟨e,v,e1,Dt.same g _ _ d1⟩
 | .own _,h=>by
  obtain⟨p,vs,e,e1,e2,e3,e4,e5⟩:=h;have:=k p (by rw[e]; exact mem_singleton.mpr rfl);exact⟨p,vs,e,e1,e2,this.1,this.2.trans e4,Dts.same g _ _ e5⟩
 | .pen,h=>h
 | .con _,h=>h
 | .pub B,h=>let ⟨e,v,e1,d1⟩:=h; ⟨e,v,e1,B.mono g d1⟩
 | .box B,h=>by
  obtain⟨v,h1,h2,h3⟩:=h;exact⟨v,h1,B.loc (fun b hb=>(k b hb).2) (B.mono g h2),fun b hb=>⟨(h3 b hb).1,(k b hb).1⟩⟩
structure R (F:Fra P0)(Γ:En)(σ:St)(G H:Hp):Prop where
 fr:Rf F G H
 len:Γ.length=σ.length
 fps:∃ fps:Nat→List Addr,(∀(i:Nat) s,Γ[i]?=some s→SlF F G H σ[i]? (fps i) s)∧∀(i j:Nat) (s t:Sl),Γ[i]?=some s→Γ[j]?=some t→i≠j→∀ b∈fps i,b∉fps j
theorem R.sl {F:Fra P0}{Γ:En}{σ:St}{G H:Hp}(r:R F Γ σ G H)(i:Nat)(s:Sl)(e:Γ[i]?=some s):aGM F G H σ[i]? s:=
 let ⟨_,h,_⟩:=r.fps; (h i s e).ok
theorem R.of {F:Fra P0}{Γ:En}{σ:St}{G H:Hp}(fr:Rf F G H)(len:Γ.length=σ.length)(sl:∀(i:Nat) s,Γ[i]?=some s→aGM F G H σ[i]? s)(nb:∀(i:Nat) B,Γ[i]?≠some (.box B))
  (ap:∀(i j:Nat) x y,i≠j→Γ[i]?=some (.own x)→Γ[j]?=some (.own y)→σ[i]?≠σ[j]?):R F Γ σ G H:=by
 refine⟨fr,len,fun i=>match Γ[i]?,σ[i]? with|some (.own _),some (some (.ref p))=>[p]|_,_=>[],fun i s e=>?_,fun i j s t ei ej hij b hb hc=>?_⟩
 ·have h:=sl i s e
  cases s with
  | no=>simp only[e]; rfl
  | val d=>simp only[e]; exact⟨rfl,h⟩
  | own ds=>
   obtain⟨p,vs,e1,r⟩:=h;simp only[e,e1];exact⟨p,vs,rfl,rfl,r⟩
  | pen=>simp only[e]; exact⟨rfl,h⟩
  | con q=>simp only[e]; exact⟨rfl,h⟩
  | pub B=>simp only[e]; exact⟨rfl,h⟩
  | box B=>exact absurd e (nb i B)
 ·simp only[ei] at hb;simp only[ej] at hc
  cases s with
  | own x=>
   cases t with
   | own y=>
    split at hb
    ·rename_i p _ e1
     split at hc
     ·rename_i q _ e2
      have e1:=mem_singleton.mp hb;have e2:=mem_singleton.mp hc;exact ap i j x y hij ei ej (by simp_all)
     ·cases hc
    ·cases hb
   | _=>simp at hc
  | _=>simp at hb
section
variable {F:Fra P0}{Γ:En}{σ:St}{G H G' H':Hp}{p:Addr}{o:HO}
theorem Rf.dom (h:Rf F G H){b:Addr}(e:F.H0 b=some o):∃ o',H b=some o':=by
 by_cases hb:F.pen=some b
 ·exact F.pin b hb H (h.pn b hb)
 ·exact⟨o,h.h0 b o e hb⟩
theorem Rf.fresh (h:Rf F G H)(hp:H p=none):F.H0 p=none:=by
 cases e:F.H0 p with
 | none=>rfl
 | some o=>
  obtain⟨o',e'⟩:=h.dom e;rw[hp] at e'; cases e'
theorem Rf.gfresh (h:Rf F G H)(hp:H p=none):G p=none:=h.sub.free hp
theorem Rf.pub (h:Rf F G H)(hp:H p=none):Rf F (upd G p o) (upd H p o):=by
 have hf:=h.fresh hp;have hn:∀ b u,F.H0 b=some u→b≠p:=fun b u e z=>by rw[z,hf] at e; cases e
 refine⟨fun b u e=>?_,fun b u e=>?_,fun b u e hb=>?_,F.stab' H _ (fun b u e=>aR (hn b u e)) h.pn⟩
 ·by_cases hb:b=p
  ·subst hb; rw[aW] at e; cases e; exact aW
  ·rw[aR hb] at e ⊢; exact h.sub b u e
 ·rw[aR (hn b u e)]; exact h.g0 b u e
 ·rw[aR (hn b u e)]; exact h.h0 b u e hb
theorem Rf.priv (h:Rf F G H)(hp:F.H0 p=none)(hg:G p=none):Rf F G (upd H p o):=by
 have hn:∀ b u,F.H0 b=some u→b≠p:=fun b u e z=>by rw[z,hp] at e; cases e
 refine⟨fun b u e=>?_,h.g0,fun b u e hb=>?_,F.stab' H _ (fun b u e=>aR (hn b u e)) h.pn⟩
 ·rw[aR (bC e hg)]; exact h.sub b u e
 ·rw[aR (hn b u e)]; exact h.h0 b u e hb
theorem Rf.give (h:Rf F G H)(hp:F.H0 p=none)(hH:H p=some o):Rf F (upd G p o) H:=by
 have hn:∀ b u,F.H0 b=some u→b≠p:=fun b u e z=>by rw[z,hp] at e; cases e
 refine⟨fun b u e=>?_,fun b u e=>?_,h.h0,h.pn⟩
 ·by_cases hb:b=p
  ·subst hb; rw[aW] at e; cases e; exact hH
  ·rw[aR hb] at e; exact h.sub b u e
 ·rw[aR (hn b u e)]; exact h.g0 b u e
def R.Has (_:R F Γ σ G H)(b:Addr):Prop:=∃(i:Nat) (s:Sl) (fp:List Addr),Γ[i]?=some s∧SlF F G H σ[i]? fp s∧b∈fp
theorem R.keep (r:R F Γ σ G H)(f:Rf F G' H')(g:Same G G')
  (k:∀ b o,r.Has b→F.H0 b=none→G b=none→H b=some o→G' b=none∧H' b=some o):R F Γ σ G' H':=by
 obtain⟨fps,h1,h2⟩:=r.fps;refine⟨f,r.len,fps,fun i s e=>(h1 i s e).go g fun b hb=>?_,h2⟩;obtain⟨m1,m2,o,m3⟩:=(h1 i s e).mine hb;obtain⟨k1,k2⟩:=k b o ⟨i,s,fps i,e,h1 i s e,hb⟩ m1 m2 m3;exact⟨k1,k2.trans m3.symm⟩
theorem R.new (r:R F Γ σ G H)(hp:H p=none):R F Γ σ (upd G p o) (upd H p o):=by
 refine r.keep (r.fr.pub hp) (fP (r.fr.gfresh hp) o) fun q u _ _ g h=>?_;have hq:q≠p:=bC h hp;rw[aR hq,aR hq];exact⟨g,h⟩
theorem R.newP (r:R F Γ σ G H)(hp:H p=none):R F Γ σ G (upd H p o):=by
 refine r.keep (r.fr.priv (r.fr.fresh hp) (r.fr.gfresh hp)) (Same.refl _) fun q u _ _ g h=>?_;have hq:q≠p:=bC h hp;rw[aR hq];exact⟨g,h⟩
def RvO (F:Fra P0)(G H:Hp)(r:V):Rv→Prop
 | .val d=>Dt G r d
 | .own ds=>∃ p vs,r=.ref p∧F.H0 p=none∧G p=none∧H p=some (.lst vs)∧Dts G vs ds
 | .box B=>∃ fp,B.P r fp G H∧∀ b∈fp,F.H0 b=none∧G b=none
def Apart (F:Fra P0)(Γ:En)(σ:St)(G H:Hp)(r:V):Rv→Prop
 | .val _=>True
 | .own _=>∀(i:Nat) s fp,Γ[i]?=some s→SlF F G H σ[i]? fp s→∀ p,r=.ref p→p∉fp
 | .box B=>∀(i:Nat) s fp f,Γ[i]?=some s→SlF F G H σ[i]? fp s→B.P r f G H→∀ b∈f,b∉fp
theorem R.give (r:R F Γ σ G H){v:V}{ds:List D}(h:RvO F G H v (.own ds))(ha:Apart F Γ σ G H v (.own ds)):∃ G',Same G G'∧R F Γ σ G' H∧Dt G' v (.list ds):=by
 obtain⟨p,vs,rfl,e1,e2,e3,e4⟩:=h;have g:=fP e2 (.lst vs);refine⟨upd G p (.lst vs),g,r.keep (r.fr.give e1 e3) g fun q u hq _ eg eh=>⟨?_,eh⟩,.lst aW (Dts.same g _ _ e4)⟩;have hqp:q≠p:=fun z=>by
  obtain⟨i,s,fp,a1,a2,a3⟩:=hq;rw[z] at a3;exact ha i s fp a1 a2 p rfl a3
 rw[aR hqp];exact eg
theorem R.giveB (r:R F Γ σ G H){v:V}{B:Bx}{d:D}(h:RvO F G H v (.box B))(ha:Apart F Γ σ G H v (.box B))(hv:B.view=some d):∃ G',Same G G'∧R F Γ σ G' H∧Dt G' v d:=by
 obtain⟨fp,e1,e2⟩:=h;have g:Same G (fun b=>if b∈fp then H b else G b):=fun b o e=>by
  show(if b∈fp then H b else G b)=some o
  rw[if_neg (fun z=>by rw[(e2 b z).2] at e; cases e)];exact e
 refine⟨fun b=>if b∈fp then H b else G b,g,r.keep ⟨fun b o e=>?_,fun b o e=>?_,r.fr.h0,r.fr.pn⟩ g fun q u hq _ eg eh=>⟨?_,eh⟩,B.vok e1 hv g fun b hb=>if_pos hb⟩
 ·have e:(if b∈fp then H b else G b)=some o:=e
  split at e
  ·exact e
  ·exact r.fr.sub b o e
 ·show(if b∈fp then H b else G b)=_
  rw[if_neg (fun z=>by rw[(e2 b z).1] at e; cases e)];exact r.fr.g0 b o e
 ·obtain⟨i,s,f,a1,a2,a3⟩:=hq
  show(if q∈fp then H q else G q)=none
  rw[if_neg fun z=>ha i s f fp a1 a2 e1 q z a3];exact eg
theorem R.set (r:R F Γ σ G H){i:Nat}{v:V}{rv:Rv}(h:RvO F G H v rv)(ha:Apart F Γ σ G H v rv):R F (Γ.set i rv.sl) (σ.set i (some v)) G H:=by
 obtain⟨fps,h1,h2⟩:=r.fps;obtain⟨fp,hf,hd⟩:∃ fp,SlF F G H (some (some v)) fp rv.sl∧∀(j:Nat) s,Γ[j]?=some s→∀ b∈fp,b∉fps j:=by
  cases rv with
  | val d=>exact⟨[],⟨rfl,v,rfl,h⟩,fun j s _ b hb=>nomatch hb⟩
  | own ds=>
   obtain⟨p,vs,rfl,q⟩:=h;exact⟨[p],⟨p,vs,rfl,rfl,q⟩,fun j s ej b hb=>by rw[mem_singleton.mp hb]; exact ha j s (fps j) ej (h1 j s ej) p rfl⟩
  | box B=>
   obtain⟨fp,q1,q2⟩:=h;exact⟨fp,⟨v,rfl,q1,q2⟩,fun j s ej b hb=>ha j s (fps j) fp ej (h1 j s ej) q1 b hb⟩
 have lt:∀{m:Nat} {z},(Γ.set i rv.sl)[m]?=some z→m<Γ.length:=fun e=>by
  have:=(List.getElem?_eq_some_iff.mp e).1;simpa using this
 have old:∀{m:Nat} {z},m≠i→(Γ.set i rv.sl)[m]?=some z→Γ[m]?=some z:=fun hm e=>by rw[getElem?_set_ne (Ne.symm hm)] at e; exact e
 refine⟨r.fr,by rw[length_set,length_set]; exact r.len,fun j=>if j=i then fp else fps j,fun j s e=>?_,fun j k s t ej ek hjk b hb hc=>?_⟩
 ·dsimp only
  by_cases hj:j=i
  ·subst hj;have hi:=lt e;rw[getElem?_set_self hi] at e;rw[if_pos rfl,getElem?_set_self (by rw[← r.len]; exact hi)]
   cases e
   exact hf
  ·rw[if_neg hj,getElem?_set_ne (Ne.symm hj)];exact h1 j s (old hj e)
 ·dsimp only at hb hc
  by_cases hj:j=i
  ·have hk:k≠i:=fun z=>hjk (hj.trans z.symm);rw[if_pos hj] at hb;rw[if_neg hk] at hc;exact hd k t (old hk ek) b hb hc
  ·rw[if_neg hj] at hb
   by_cases hk:k=i
   ·rw[if_pos hk] at hc;exact hd j s (old hj ej) b hc hb
   ·rw[if_neg hk] at hc;exact h2 j k s t (old hj ej) (old hk ek) hjk b hb hc
theorem R.setV (r:R F Γ σ G H){i:Nat}{v:V}{d:D}(h:Dt G v d):R F (Γ.set i (.val d)) (σ.set i (some v)) G H:=r.set (rv:=.val d) h trivial
theorem R.drop (r:R F Γ σ G H)(i:Nat):R F (Γ.set i .no) σ G H:=by
 obtain⟨fps,h1,h2⟩:=r.fps;have back:∀{m z},m≠i→(Γ.set i .no)[m]?=some z→Γ[m]?=some z:=fun{m z} hm e=>by rw[getElem?_set_ne (Ne.symm hm)] at e; exact e
 refine⟨r.fr,by rw[length_set]; exact r.len,fun j=>if j=i then[] else fps j,fun j s e=>?_,fun j k s t ej ek hjk b hb hc=>?_⟩
 ·dsimp only
  by_cases hj:j=i
  ·subst hj;have hi:j<Γ.length:=by
    have:=(List.getElem?_eq_some_iff.mp e).1;simpa using this
   rw[getElem?_set_self hi] at e
   cases e
   rw[if_pos rfl];rfl
  ·rw[if_neg hj];exact h1 j s (back hj e)
 ·dsimp only at hb hc
  by_cases hj:j=i
  ·rw[if_pos hj] at hb; cases hb
  ·rw[if_neg hj] at hb
   by_cases hk:k=i
   ·rw[if_pos hk] at hc; cases hc
   ·rw[if_neg hk] at hc;exact h2 j k s t (back hj ej) (back hk ek) hjk b hb hc
theorem R.writeF (r:R F Γ σ G H){i:Nat}{s0 s1:Sl}{H':Hp}(e:Γ[i]?=some s0)(fr:Rf F G H')(h:∀ fp,SlF F G H σ[i]? fp s0→∃ fp',SlF F G H' σ[i]? fp' s1∧(∀ b,b∉fp→(∃ o,H b=some o)→H' b=H b∧b∉fp')):R F (Γ.set i s1) σ G H':=by
 obtain⟨fps,h1,h2⟩:=r.fps;obtain⟨fp',w1,w2⟩:=h (fps i) (h1 i s0 e);have hi:i<Γ.length:=(List.getElem?_eq_some_iff.mp e).1;have back:∀{m z},m≠i→(Γ.set i s1)[m]?=some z→Γ[m]?=some z:=fun{m z} hm e=>by rw[getElem?_set_ne (Ne.symm hm)] at e; exact e
 have away:∀{j:Nat} {s:Sl},j≠i→Γ[j]?=some s→∀ b∈fps j,H' b=H b∧b∉fp':=fun hj ej b hb=>
  w2 b (fun z=>h2 _ i _ s0 ej e hj b hb z) ((h1 _ _ ej).mine hb).2.2
 refine⟨fr,by rw[length_set]; exact r.len,fun j=>if j=i then fp' else fps j,fun j s ej=>?_,fun j k s t ej ek hjk b hb hc=>?_⟩
 ·dsimp only
  by_cases hj:j=i
  ·subst hj;rw[getElem?_set_self hi] at ej
   cases ej
   rw[if_pos rfl];exact w1
  ·rw[if_neg hj];have e0:=back hj ej;exact(h1 j s e0).go (Same.refl _) fun b hb=>⟨((h1 j s e0).mine hb).2.1,(away hj e0 b hb).1⟩
 ·dsimp only at hb hc
  by_cases hj:j=i
  ·have hk:k≠i:=fun z=>hjk (hj.trans z.symm);rw[if_pos hj] at hb;rw[if_neg hk] at hc;exact(away hk (back hk ek) b hc).2 hb
  ·rw[if_neg hj] at hb
   by_cases hk:k=i
   ·rw[if_pos hk] at hc;exact(away hj (back hj ej) b hb).2 hc
   ·rw[if_neg hk] at hc;exact h2 j k s t (back hj ej) (back hk ek) hjk b hb hc
theorem R.write (r:R F Γ σ G H){i:Nat}{ds es:List D}{p:Addr}{ws:List V}(e:Γ[i]?=some (.own ds))(ep:σ[i]?=some (some (.ref p)))(hw:Dts G ws es):R F (Γ.set i (.own es)) σ G (upd H p (.lst ws)):=by
 obtain⟨p',vs,e1,e2,e3,e4,e5⟩:=r.sl i _ e;rw[ep] at e1; cases e1;refine r.writeF e (r.fr.priv e2 e3) fun fp h=>?_;obtain⟨q,us,f0,f1,f2,f3,f4,f5⟩:=h;rw[ep] at f1; cases f1;refine⟨[p],⟨p,ws,rfl,ep,e2,e3,aW,hw⟩,fun b hb _=>?_⟩;have hbp:b≠p:=fun z=>hb (by rw[f0,z]; exact mem_singleton.mpr rfl);exact⟨aR hbp,fun z=>hbp (mem_singleton.mp z)⟩
end
abbrev ME:=En→(D→En→Prop)→Prop
abbrev MO:=En→(Rv→En→Prop)→Prop
abbrev MT:=En→(Bool→En→Prop)→Prop
abbrev MA:=En→(List Sl→En→Prop)→Prop
abbrev MD:=En→(List D→En→Prop)→Prop
abbrev MG:=D→En→(En→Prop)→Prop
abbrev MGs:=List D→En→(En→Prop)→Prop
abbrev MS:=En→(Fl→Prop)→Prop
abbrev Fm:=List Sl→(Rv→Prop)→Prop
def VT (P0:Addr→Hp→Prop)(t:TE)(m:ME):Prop:=∀(F:Fra P0) (Γ:En) (σ:St) (G H:Hp) (Q:VK) (Qm:D→En→Prop),R F Γ σ G H→m Γ Qm →
 (∀ d Γ' r G' H',Qm d Γ'→Same G G'→R F Γ' σ G' H'→Dt G' r d→Q r H')→t σ H Q
def VO (P0:Addr→Hp→Prop)(t:TE)(m:MO):Prop:=∀(F:Fra P0) (Γ:En) (σ:St) (G H:Hp) (Q:VK) (Qm:Rv→En→Prop),R F Γ σ G H→m Γ Qm →
 (∀ rv Γ' r G' H',Qm rv Γ'→Same G G'→R F Γ' σ G' H'→RvO F G' H' r rv→Apart F Γ' σ G' H' r rv→Q r H')→t σ H Q
def VTT (P0:Addr→Hp→Prop)(t:TT)(m:MT):Prop:=∀(F:Fra P0) (Γ:En) (σ:St) (G H:Hp) (Q:Bool→Hp→Prop) (Qm:Bool→En→Prop),R F Γ σ G H→m Γ Qm →
 (∀ b Γ' G' H',Qm b Γ'→Same G G'→R F Γ' σ G' H'→Q b H')→t σ H Q
def VD (P0:Addr→Hp→Prop)(t:TA)(m:MD):Prop:=∀(F:Fra P0) (Γ:En) (σ:St) (G H:Hp) (Q:List V→Hp→Prop) (Qm:List D→En→Prop),R F Γ σ G H→m Γ Qm →
 (∀ ds Γ' rs G' H',Qm ds Γ'→Same G G'→R F Γ' σ G' H'→Dts G' rs ds→Q rs H')→t σ H Q
def mZ (F:Fra P0)(G:Hp)(r:V):Sl→Prop
 | .val d=>Dt G r d
 | .pen=>∃ p,r=.ref p∧F.pen=some p
 | .con p=>r=.ref p
 | .pub B=>B.P r G
 | _=>False
def VA (P0:Addr→Hp→Prop)(t:TA)(m:MA):Prop:=∀(F:Fra P0) (Γ:En) (σ:St) (G H:Hp) (Q:List V→Hp→Prop) (Qm:List Sl→En→Prop),R F Γ σ G H→m Γ Qm →
 (∀ as Γ' rs G' H',Qm as Γ'→Same G G'→R F Γ' σ G' H'→Paired (mZ F G') rs as→Q rs H')→t σ H Q
def VG (P0:Addr→Hp→Prop)(A:Nat→Bool)(g:TG)(m:MG):Prop:=∀(F:Fra P0) (Γ:En) (σ:St) (G H:Hp) (v:V) (d:D) (Q:St→Hp→Prop) (Qm:En→Prop),R F Γ σ G H→Dt G v d→m d Γ Qm →
 (∀ Γ' σ',Qm Γ'→R F Γ' σ' G H→(∀ i,A i=false→σ'[i]?=σ[i]?)→Q σ' H)→g v σ H Q
def VGs (P0:Addr→Hp→Prop)(A:Nat→Bool)(g:TGs)(m:MGs):Prop:=∀(F:Fra P0) (Γ:En) (σ:St) (G H:Hp) (vs:List V) (ds:List D) (Q:St→Hp→Prop) (Qm:En→Prop),R F Γ σ G H→Dts G vs ds→m ds Γ Qm →
 (∀ Γ' σ',Qm Γ'→R F Γ' σ' G H→(∀ i,A i=false→σ'[i]?=σ[i]?)→Q σ' H)→g vs σ H Q
def Post (F:Fra P0)(A:Nat→Bool)(σ0:St)(G:Hp)(E:Ends):Fl→Prop
 | .nx Γ=>∀ σ G' H',Same G G'→R F Γ σ G' H'→(∀ i,A i=false→σ[i]?=σ0[i]?)→E.nx σ H'
 | .rt rv=>∀ r G' H',Same G G'→Rf F G' H'→RvO F G' H' r rv→E.rt r H'
 | .bk Γ=>∀ σ G' H',Same G G'→R F Γ σ G' H'→(∀ i,A i=false→σ[i]?=σ0[i]?)→E.bk σ H'
 | .ct Γ=>∀ σ G' H',Same G G'→R F Γ σ G' H'→(∀ i,A i=false→σ[i]?=σ0[i]?)→E.ct σ H'
def VSA (P0:Addr→Hp→Prop)(A:Nat→Bool)(t:TS)(m:MS):Prop:=∀(F:Fra P0) (Γ:En) (σ:St) (G H:Hp) (E:Ends) (Qm:Fl→Prop),R F Γ σ G H→m Γ Qm→(∀ fl,Qm fl→Post F A σ G E fl)→t E σ H
abbrev aFZ:Nat→Bool:=fun _=>true
abbrev VS (P0:Addr→Hp→Prop)(t:TS)(m:MS):Prop:=VSA P0 aFZ t m
theorem Post.same {F:Fra P0}{A:Nat→Bool}{σ0 σ1:St}{G G':Hp}{E:Ends}(g:Same G G')(hσ:∀ i,A i=false→σ1[i]?=σ0[i]?):∀{fl:Fl},Post F A σ0 G E fl→Post F A σ1 G' E fl
 | .nx _,h=>fun σ G2 H2 s r e=>h σ G2 H2 (g.trans s) r fun i hi=>(e i hi).trans (hσ i hi)
 | .rt _,h=>fun r G2 H2 s=>h r G2 H2 (g.trans s)
 | .bk _,h=>fun σ G2 H2 s r e=>h σ G2 H2 (g.trans s) r fun i hi=>(e i hi).trans (hσ i hi)
 | .ct _,h=>fun σ G2 H2 s r e=>h σ G2 H2 (g.trans s) r fun i hi=>(e i hi).trans (hσ i hi)
def SsX (P0:Addr→Hp→Prop)(X:Cx)(sts:List Stmt)(m:MS):Prop:=∃ t,PSs X sts t∧VS P0 t m
end
section
variable {P0:Addr→Hp→Prop}
theorem _root_.L2.Dts.get {G:Hp}:∀{vs:List V} {ds:List D} {i:Nat} {d:D},Dts G vs ds→ds[i]?=some d→∃ v,vs[i]?=some v∧Dt G v d
 := by
  intro vs ds i d h e
  induction ds generalizing vs i with
  | nil=>cases e
  | cons x ds ih=>
    cases h with
    | cons a b=>
      cases i with
      | zero=>cases e; exact⟨_,rfl,a⟩
      | succ i=>
        have q:=ih b (show ds[i]?=some d from e);exact q
theorem _root_.L2.Dts.len {G:Hp}:∀{vs:List V} {ds:List D},Dts G vs ds→vs.length=ds.length
 := by
  intro vs ds h
  induction ds generalizing vs with
  | nil=>cases h; rfl
  | cons x ds ih=>cases h with|cons a b=>exact congrArg Nat.succ (ih b)
theorem _root_.L2.Dts.app {G:Hp}:∀{vs ws:List V} {ds es:List D},Dts G vs ds→Dts G ws es→Dts G (vs++ws) (ds++es)
 := by
  intro vs ws ds es h g
  induction ds generalizing vs with
  | nil=>cases h; exact g
  | cons x ds ih=>cases h with|cons a b=>exact .cons a (ih b)
theorem _root_.L2.Dts.drp {G:Hp}:∀{vs:List V} {ds:List D} (n:Nat),Dts G vs ds→Dts G (vs.drop n) (ds.drop n)
 | _,_,0,h=>h
 | _,_,_+1,.nil=>.nil
 | _,_,n+1,.cons _ b=>Dts.drp n b
theorem _root_.L2.Dts.tak {G:Hp}:∀{vs:List V} {ds:List D} (n:Nat),Dts G vs ds→Dts G (vs.take n) (ds.take n)
 | _,_,0,_=>.nil
 | _,_,_+1,.nil=>.nil
 | _,_,n+1,.cons a b=>.cons a (Dts.tak n b)
def oQ (o:Option D)(k:D→Prop):Prop:=match o with
 | some d=>k d
 | none=>False
theorem a5J {o:Option D}{k:D→Prop}(h:oQ o k):∃ d,o=some d∧k d:=by
 cases o with
 | none=>exact h.elim
 | some d=>exact⟨d,rfl,h⟩
def mC (d:D):ME:=fun Γ Q=>Q d Γ
def aX (i:Nat):ME:=fun Γ Q=>match Γ[i]? with
 | some (.val d)=>Q d Γ
 | _=>False
def mI0 (g:Int→Int→D)(ma mb:ME):ME:=fun Γ Q=>ma Γ fun x Γ1=>mb Γ1 fun y Γ2=>match x,y with
 | .int i,.int j=>Q (g i j) Γ2
 | _,_=>False
def mI (C:Int→Int→Prop)(g:Int→Int→D)(ma mb:ME):ME:=fun Γ Q=>ma Γ fun x Γ1=>mb Γ1 fun y Γ2=>match x,y with
 | .int i,.int j=>C i j∧Q (g i j) Γ2
 | _,_=>False
def mU (g:Int→D)(ma:ME):ME:=fun Γ Q=>ma Γ fun x Γ1=>match x with
 | .int i=>Q (g i) Γ1
 | _=>False
def mEq (ma mb:ME):ME:=fun Γ Q=>ma Γ fun x Γ1=>mb Γ1 fun y Γ2=>Good x∧Good y∧Q (.bool (PyData.eqv x y)) Γ2
def mNe (ma mb:ME):ME:=fun Γ Q=>ma Γ fun x Γ1=>mb Γ1 fun y Γ2=>Good x∧Good y∧Q (.bool (!PyData.eqv x y)) Γ2
def isN:D→Bool
 | .none=>true
 | _=>false
def aB2 (ma:ME):ME:=fun Γ Q=>ma Γ fun x Γ1=>Q (.bool (!isN x)) Γ1
def sZ (ma mb:ME):ME:=fun Γ Q=>ma Γ fun x Γ1=>match x with
 | .bool c=>if c=true then mb Γ1 Q else Q (.bool false) Γ1
 | _=>False
def aC0 (ma:ME):ME:=fun Γ Q=>ma Γ fun x Γ1=>match x with
 | .bool c=>Q (.bool (!c)) Γ1
 | _=>False
def fO (ma:ME):MT:=fun Γ Q=>ma Γ fun x Γ1=>match x with
 | .bool c=>Q c Γ1
 | _=>False
def aDE (ma mb:MT):MT:=fun Γ Q=>ma Γ fun c Γ1=>if c=true then mb Γ1 Q else Q false Γ1
def mOr (ma mb:MT):MT:=fun Γ Q=>ma Γ fun c Γ1=>if c=true then Q true Γ1 else mb Γ1 Q
def zJ (ma:MT):MT:=fun Γ Q=>ma Γ fun c Γ1=>Q (!c) Γ1
def cF:MD:=fun Γ Q=>Q [] Γ
def aH (ma:ME)(mr:MD):MD:=fun Γ Q=>ma Γ fun x Γ1=>mr Γ1 fun xs Γ2=>Q (x::xs) Γ2
def dG:MA:=fun Γ Q=>Q [] Γ
def cT (ma:ME)(mr:MA):MA:=fun Γ Q=>ma Γ fun x Γ1=>mr Γ1 fun xs Γ2=>Q (.val x::xs) Γ2
def dM (md:MD):ME:=fun Γ Q=>md Γ fun ds Γ1=>ds.length≤1000∧Q (.tuple ds) Γ1
def jD (md:MD):MO:=fun Γ Q=>md Γ fun ds Γ1=>ds.length≤1000∧Q (.own ds) Γ1
def ixD:D→D→Option D
 | .tuple ds,.int i=>atI ds i
 | .list ds,.int i=>atI ds i
 | _,_=>none
def mIx (ma mb:ME):ME:=fun Γ Q=>ma Γ fun x Γ1=>mb Γ1 fun y Γ2=>oQ (ixD x y) fun d=>Q d Γ2
def nbQ:Rv→Prop→Prop
 | .box B,p=>B.view.isSome=true∧p
 | _,p=>p
def cA (mo:MO):ME:=fun Γ Q=>mo Γ fun rv Γ1=>nbQ rv (Q rv.d Γ1)
def cZ (m:ME):MO:=fun Γ Q=>m Γ fun d Γ1=>Q (.val d) Γ1
def a6J (i:Nat):MO:=fun Γ Q=>match Γ[i]? with
 | some (.val d)=>Q (.val d) Γ
 | some (.own ds)=>Q (.own ds) (Γ.set i .no)
 | some (.box B)=>Q (.box B) (Γ.set i .no)
 | _=>False
def dX (n:Nat)(f:Fm)(ma:MA):MO:=fun Γ Q=>ma Γ fun as Γ1=>as.length=n∧f as fun rv=>Q rv Γ1
def aG1:D→Option D
 | .tuple ds=>some (.int ds.length)
 | .list ds=>some (.int ds.length)
 | _=>none
def a8H (ma:ME):ME:=fun Γ Q=>ma Γ fun x Γ1=>oQ (aG1 x) fun d=>Q d Γ1
def a0H:D→Option (List D)
 | .tuple ds=>some ds
 | .list ds=>some ds
 | _=>none
def rZ (ma:ME):MO:=fun Γ Q=>ma Γ fun x Γ1=>match a0H x with
 | some ds=>Q (.own ds) Γ1
 | none=>False
def cutD (xs:List D)(lo hi:Option Int):List D:=(xs.drop (HT.sIx xs.length 0 lo)).take (HT.sIx xs.length xs.length hi-HT.sIx xs.length 0 lo)
abbrev MP:=En→(Option Int→En→Prop)→Prop
def pNo:MP:=fun Γ Q=>Q none Γ
def pSo (m:ME):MP:=fun Γ Q=>m Γ fun x Γ1=>match x with
 | .int i=>Q (some i) Γ1
 | _=>False
def a7D (ma:ME)(ml mh:MP):MO:=fun Γ Q=>ma Γ fun x Γ1=>ml Γ1 fun lo Γ2=>mh Γ2 fun hi Γ3=>match x with
 | .list ds=>Q (.own (cutD ds lo hi)) Γ3
 | _=>False
def vG (ma mb:ME):MO:=fun Γ Q=>ma Γ fun x Γ1=>mb Γ1 fun y Γ2=>match x,y with
 | .list ds,.list es=>ds.length+es.length≤1000∧Q (.own (ds++es)) Γ2
 | _,_=>False
def VP (P0:Addr→Hp→Prop)(t:TO)(m:MP):Prop:=∀(F:Fra P0) (Γ:En) (σ:St) (G H:Hp) (Q:Option Int→Hp→Prop) (Qm:Option Int→En→Prop),R F Γ σ G H→m Γ Qm →
 (∀ d Γ' G' H',Qm d Γ'→Same G G'→R F Γ' σ G' H'→Q d H')→t σ H Q
section
variable {ta tb tc:TE}{ma mb:ME}{tA tB':TT}{mA mB:MT}{K:Fg}
theorem aG8 {v:V}{d:D}(h:∀ G,Dt G v d):VT P0 (tC v) (mC d):=fun _ _ _ G _ _ _ r m k=>k _ _ _ _ _ m (Same.refl _) r (h G)
theorem aF {i:Nat}:VT P0 (pO i) (aX i):=by
 intro F Γ σ G H Q Qm r m k;unfold aX at m
 split at m
 ·rename_i d e
  obtain⟨v,e1,d1⟩:=r.sl i _ e;exact⟨v,e1,k _ _ _ _ _ m (Same.refl _) r d1⟩
 ·exact m.elim
theorem aD4 {r2:R2}{m2:D→D→(D→Prop)→Prop}(ha:VT P0 ta ma)(hb:VT P0 tb mb)
  (h:∀(F:Fra P0) (Γ:En) (σ:St) (G H:Hp) (x y:V) (d e:D) (Q:VK) (Qm:D→Prop),R F Γ σ G H→Dt G x d→Dt G y e→m2 d e Qm→(∀ u r G' H',Qm u→Same G G'→R F Γ σ G' H'→Dt G' r u→Q r H')→r2 x y H Q) :
  VT P0 (tOp r2 ta tb) (fun Γ Q=>ma Γ fun x Γ1=>mb Γ1 fun y Γ2=>m2 x y fun d=>Q d Γ2):=by
 intro F Γ σ G H Q Qm r m k;refine ha F Γ σ G H _ _ r m fun d Γ1 x G1 H1 m1 s1 r1 d1=>?_;refine hb F Γ1 σ G1 H1 _ _ r1 m1 fun e Γ2 y G2 H2 m2 s2 r2 d2=>?_;exact h F Γ2 σ G2 H2 x y d e _ _ r2 (Dt.same s2 _ _ d1) d2 m2 fun u w G3 H3 q s3 r3 d3=>k _ _ _ _ _ q ((s1.trans s2).trans s3) r3 d3
theorem a2X {gv:Int→Int→V}{g:Int→Int→D}(hg:∀ G i j,Dt G (gv i j) (g i j))(ha:VT P0 ta ma)(hb:VT P0 tb mb):VT P0 (tOp (rI0 gv) ta tb) (mI0 g ma mb):=by
 refine aD4 (m2:=fun x y Q=>match x,y with|.int i,.int j=>Q (g i j)|_,_=>False) ha hb fun F Γ σ G H x y d e Q Qm r d1 d2 m k=>?_
 split at m
 ·cases d1; cases d2
  exact⟨_,_,rfl,rfl,k _ _ _ _ m (Same.refl _) r (hg _ _ _)⟩
 ·exact m.elim
theorem aGA {C:Int→Int→Prop}{gv:Int→Int→V}{g:Int→Int→D}(hg:∀ G i j,Dt G (gv i j) (g i j))(ha:VT P0 ta ma)(hb:VT P0 tb mb):VT P0 (tOp (rI C gv) ta tb) (mI C g ma mb):=by
 refine aD4 (m2:=fun x y Q=>match x,y with|.int i,.int j=>C i j∧Q (g i j)|_,_=>False) ha hb fun F Γ σ G H x y d e Q Qm r d1 d2 m k=>?_
 split at m
 ·cases d1; cases d2
  exact⟨_,_,rfl,rfl,m.1,k _ _ _ _ m.2 (Same.refl _) r (hg _ _ _)⟩
 ·exact m.elim
theorem aJM {gv:Int→V}{g:Int→D}(hg:∀ G i,Dt G (gv i) (g i))(ha:VT P0 ta ma):VT P0 (tUn (rU gv) ta) (mU g ma):=by
 intro F Γ σ G H Q Qm r m k;refine ha F Γ σ G H _ _ r m fun d Γ1 x G1 H1 m1 s1 r1 d1=>?_
 split at m1
 ·cases d1
  exact⟨_,rfl,k _ _ _ _ _ m1 s1 r1 (hg _ _)⟩
 ·exact m1.elim
theorem iD (ha:VT P0 ta ma)(hb:VT P0 tb mb):VT P0 (tOp aIT ta tb) (mEq ma mb):=by
 refine aD4 (m2:=fun x y Q=>Good x∧Good y∧Q (.bool (PyData.eqv x y))) ha hb fun F Γ σ G H x y d e Q Qm r d1 d2 m k=>?_;exact⟨d,e,Dt.same r.fr.sub _ _ d1,Dt.same r.fr.sub _ _ d2,m.1,m.2.1,k _ _ _ _ m.2.2 (Same.refl _) r (.bl _)⟩
theorem a5Z (ha:VT P0 ta ma)(hb:VT P0 tb mb):VT P0 (tOp aJ4 ta tb) (mNe ma mb):=by
 refine aD4 (m2:=fun x y Q=>Good x∧Good y∧Q (.bool (!PyData.eqv x y))) ha hb fun F Γ σ G H x y d e Q Qm r d1 d2 m k=>?_;exact⟨d,e,Dt.same r.fr.sub _ _ d1,Dt.same r.fr.sub _ _ d2,m.1,m.2.1,k _ _ _ _ m.2.2 (Same.refl _) r (.bl _)⟩
theorem aE7 {G:Hp}{x:V}{d:D}(h:Dt G x d):decide (x=V.non)=isN d:=by
 cases h<;>first|rfl|exact decide_eq_false (by intro z; cases z)
theorem aBO (ha:VT P0 ta ma):VT P0 (tOp (fun x y H Q=>y=.non∧Q (.bl (!decide (x=.non))) H) ta (tC .non)) (aB2 ma):=by
 intro F Γ σ G H Q Qm r m k;refine ha F Γ σ G H _ _ r m fun d Γ1 x G1 H1 m1 s1 r1 d1=>⟨rfl,?_⟩;rw[aE7 d1];exact k _ _ _ _ _ m1 s1 r1 (.bl _)
theorem nU (ha:VT P0 ta ma)(hb:VT P0 tb mb):VT P0 (aFK ta tb) (sZ ma mb):=by
 intro F Γ σ G H Q Qm r m k;refine ha F Γ σ G H _ _ r m fun d Γ1 x G1 H1 m1 s1 r1 d1=>?_
 split at m1
 ·rename_i c
  cases d1
  refine⟨c,rfl,?_⟩
  cases c with
  | true=>exact a1C (hb F Γ1 σ G1 H1 _ _ r1 m1 fun e Γ2 y G2 H2 m2 s2 r2 d2=>k _ _ _ _ _ m2 (s1.trans s2) r2 d2)
  | false=>exact zL (k _ _ _ _ _ m1 s1 r1 (.bl _))
 ·exact m1.elim
theorem aF5 (ha:VT P0 ta ma):VT P0 (aCV ta) (aC0 ma):=by
 intro F Γ σ G H Q Qm r m k;refine ha F Γ σ G H _ _ r m fun d Γ1 x G1 H1 m1 s1 r1 d1=>?_
 split at m1
 ·cases d1
  exact⟨_,rfl,k _ _ _ _ _ m1 s1 r1 (.bl _)⟩
 ·exact m1.elim
theorem bT (ha:VT P0 ta ma):VTT P0 (aEF ta) (fO ma):=by
 intro F Γ σ G H Q Qm r m k;refine ha F Γ σ G H _ _ r m fun d Γ1 x G1 H1 m1 s1 r1 d1=>?_
 split at m1
 ·cases d1
  exact⟨_,rfl,k _ _ _ _ m1 s1 r1⟩
 ·exact m1.elim
theorem mG (ha:VT P0 ta ma):VTT P0 (tB ta) (fO ma):=bT ha
theorem zQ (ha:VTT P0 tA mA)(hb:VTT P0 tB' mB):VTT P0 (aIR tA tB') (aDE mA mB):=by
 intro F Γ σ G H Q Qm r m k;refine ha F Γ σ G H _ _ r m fun c Γ1 G1 H1 m1 s1 r1=>?_
 cases c with
 | true=>exact a1C (hb F Γ1 σ G1 H1 _ _ r1 m1 fun e Γ2 G2 H2 m2 s2 r2=>k _ _ _ _ m2 (s1.trans s2) r2)
 | false=>exact zL (k _ _ _ _ m1 s1 r1)
theorem jE (ha:VTT P0 tA mA)(hb:VTT P0 tB' mB):VTT P0 (tOr tA tB') (mOr mA mB):=by
 intro F Γ σ G H Q Qm r m k;refine ha F Γ σ G H _ _ r m fun c Γ1 G1 H1 m1 s1 r1=>?_
 cases c with
 | true=>exact a1C (k _ _ _ _ m1 s1 r1)
 | false=>exact zL (hb F Γ1 σ G1 H1 _ _ r1 m1 fun e Γ2 G2 H2 m2 s2 r2=>k _ _ _ _ m2 (s1.trans s2) r2)
theorem fK (ha:VTT P0 tA mA):VTT P0 (aJ8 tA) (zJ mA):=by
 intro F Γ σ G H Q Qm r m k;exact ha F Γ σ G H _ _ r m fun c Γ1 G1 H1 m1 s1 r1=>k _ _ _ _ m1 s1 r1
theorem aO:VD P0 qF cF:=fun _ _ _ _ _ _ _ r m k=>k _ _ _ _ _ m (Same.refl _) r .nil
theorem aA {tr:TA}{mr:MD}(ha:VT P0 ta ma)(hr:VD P0 tr mr):VD P0 (eF ta tr) (aH ma mr):=by
 intro F Γ σ G H Q Qm r m k;refine ha F Γ σ G H _ _ r m fun d Γ1 x G1 H1 m1 s1 r1 d1=>?_;exact hr F Γ1 σ G1 H1 _ _ r1 m1 fun e Γ2 y G2 H2 m2 s2 r2 d2=>k _ _ _ _ _ m2 (s1.trans s2) r2 (.cons (Dt.same s2 _ _ d1) d2)
theorem bA:VA P0 qF dG:=fun _ _ _ _ _ _ _ r m k=>k _ _ _ _ _ m (Same.refl _) r .nil
theorem aV {tr:TA}{mr:MA}(ha:VT P0 ta ma)(hr:VA P0 tr mr):VA P0 (eF ta tr) (cT ma mr):=by
 intro F Γ σ G H Q Qm r m k;refine ha F Γ σ G H _ _ r m fun d Γ1 x G1 H1 m1 s1 r1 d1=>?_;exact hr F Γ1 σ G1 H1 _ _ r1 m1 fun e Γ2 y G2 H2 m2 s2 r2 d2=>k _ _ _ _ _ m2 (s1.trans s2) r2 (.cons (Dt.same s2 _ _ d1) d2)
theorem bD {t:TA}{md:MD}(h:VD P0 t md):VT P0 (aDA t) (dM md):=by
 intro F Γ σ G H Q Qm r m k;refine h F Γ σ G H _ _ r m fun ds Γ1 xs G1 H1 m1 s1 r1 d1=>⟨jU (by rw[d1.len]; exact m1.1),fun p hp=>?_⟩;have g:=fP (r1.fr.gfresh hp) (.tup xs);exact k _ _ _ _ _ m1.2 (s1.trans g) (r1.new hp) (.tup aW (Dts.same g _ _ d1))
theorem SlF.det {F:Fra P0}{G H:Hp}{x:Option (Option V)}{fp fp':List Addr}:∀{s:Sl},SlF F G H x fp s→SlF F G H x fp' s→fp=fp'
 | .no,h,g=>(show fp=[] from h).trans (show fp'=[] from g).symm
 | .val _,h,g=>h.1.trans g.1.symm
 | .pen,h,g=>h.1.trans g.1.symm
 | .con _,h,g=>h.1.trans g.1.symm
 | .pub _,h,g=>h.1.trans g.1.symm
 | .own _,h,g=>by
  obtain⟨p,vs,e,e1,_⟩:=h;obtain⟨q,ws,f,f1,_⟩:=g;rw[e1] at f1; cases f1;rw[e,f]
 | .box B,h,g=>by
  obtain⟨v,e1,e2,_⟩:=h;obtain⟨v',f1,f2,_⟩:=g;rw[e1] at f1; cases f1;exact B.uniq e2 f2
theorem R.before {F:Fra P0}{Γ:En}{σ:St}{G H G' H':Hp}(r:R F Γ σ G H)(g:Same G G')(k:∀ b o,F.H0 b=none→G b=none→H b=some o→G' b=none∧H' b=some o){i:Nat}{s:Sl}{fp:List Addr}(e:Γ[i]?=some s)(h:SlF F G' H' σ[i]? fp s):∀ b∈fp,∃ o,H b=some o:=by
 obtain⟨fps,h1,h2⟩:=r.fps;have h0:=h1 i s e;have h3:SlF F G' H' σ[i]? (fps i) s:=h0.go g fun b hb=>by
  obtain⟨m1,m2,o,m3⟩:=h0.mine hb;obtain⟨k1,k2⟩:=k b o m1 m2 m3;exact⟨k1,k2.trans m3.symm⟩
 rw[h.det h3];exact fun b hb=>(h0.mine hb).2.2
theorem Apart.new {F:Fra P0}{Γ:En}{σ:St}{G H G' H':Hp}(r:R F Γ σ G H){p:Addr}(hp:H p=none){ds:List D}(g:Same G G')(k:∀ b o,F.H0 b=none→G b=none→H b=some o→G' b=none∧H' b=some o):Apart F Γ σ G' H' (.ref p) (.own ds):=by
 intro i s fp e h q eq hq
 cases eq
 obtain⟨o,eo⟩:=r.before g k e h p hq;rw[hp] at eo; cases eo
theorem Apart.newB {F:Fra P0}{Γ:En}{σ:St}{G H G' H':Hp}(r:R F Γ σ G H){v:V}{B:Bx}(hp:∀ fp,B.P v fp G' H'→∀ b∈fp,H b=none)(g:Same G G')(k:∀ b o,F.H0 b=none→G b=none→H b=some o→G' b=none∧H' b=some o):Apart F Γ σ G' H' v (.box B):=by
 intro i s fp f e h hf b hb hc;obtain⟨o,eo⟩:=r.before g k e h b hc;rw[hp f hf b hb] at eo; cases eo
theorem n6 {F:Fra P0}{Γ:En}{σ:St}{G H:Hp}(r:R F Γ σ G H){p:Addr}{xs:List V}{ds:List D}(hp:H p=none)(d:Dts G xs ds) :
  R F Γ σ G (upd H p (.lst xs))∧RvO F G (upd H p (.lst xs)) (.ref p) (.own ds)∧Apart F Γ σ G (upd H p (.lst xs)) (.ref p) (.own ds):=
 ⟨r.newP hp,⟨p,xs,rfl,r.fr.fresh hp,r.fr.gfresh hp,aW,d⟩,Apart.new r hp (Same.refl _) fun b o _ g e=>⟨g,by rw[aR (bC e hp)]; exact e⟩⟩
theorem cI {t:TA}{md:MD}(h:VD P0 t md):VO P0 (aGU t) (jD md):=by
 intro F Γ σ G H Q Qm r m k;refine h F Γ σ G H _ _ r m fun ds Γ1 xs G1 H1 m1 s1 r1 d1=>⟨jU (by rw[d1.len]; exact m1.1),fun p hp=>?_⟩;obtain⟨a,b,c⟩:=n6 r1 hp d1;exact k _ _ _ _ _ m1.2 s1 a b c
theorem aL {mo:MO}(h:VO P0 ta mo):VT P0 ta (cA mo):=by
 intro F Γ σ G H Q Qm r m k;refine h F Γ σ G H _ _ r m fun rv Γ1 x G1 H1 m1 s1 r1 d1 a1=>?_
 cases rv with
 | val d=>exact k _ _ _ _ _ m1 s1 r1 d1
 | own ds=>
  obtain⟨G2,s2,r2,d2⟩:=r1.give d1 a1;exact k _ _ _ _ _ m1 (s1.trans s2) r2 d2
 | box B=>
  obtain⟨hv,m1⟩:=m1;obtain⟨d,hd⟩:=isSome_iff_exists.mp hv;obtain⟨G2,s2,r2,d2⟩:=r1.giveB d1 a1 hd;have m1:Qm (B.view.getD .none) Γ1:=m1;rw[hd] at m1;exact k _ _ _ _ _ m1 (s1.trans s2) r2 d2
theorem aZ (h:VT P0 ta ma):VO P0 ta (cZ ma):=by
 intro F Γ σ G H Q Qm r m k;exact h F Γ σ G H _ _ r m fun d Γ1 x G1 H1 m1 s1 r1 d1=>k _ _ _ _ _ m1 s1 r1 d1 trivial
theorem R.apart {F:Fra P0}{Γ:En}{σ:St}{G H:Hp}(r:R F Γ σ G H){i j:Nat}{s t:Sl}{fp fq:List Addr}(hij:i≠j)(ei:Γ[i]?=some s)(ej:Γ[j]?=some t)(hi:SlF F G H σ[i]? fp s)(hj:SlF F G H σ[j]? fq t):∀ b∈fp,b∉fq:=by
 obtain⟨fps,h1,h2⟩:=r.fps;rw[hi.det (h1 i s ei),hj.det (h1 j t ej)];exact h2 i j s t ei ej hij
theorem aAN {i:Nat}:VO P0 (pO i) (a6J i):=by
 intro F Γ σ G H Q Qm r m k;have other:∀{j:Nat} {s s0:Sl} {fp fq:List Addr},Γ[i]?=some s0→SlF F G H σ[i]? fp s0→(Γ.set i .no)[j]?=some s→SlF F G H σ[j]? fq s→∀ b∈fp,b∉fq:=by
  intro j s s0 fp fq e h ej hj b hb hc
  by_cases hij:i=j
  ·subst hij;have hi:i<Γ.length:=(List.getElem?_eq_some_iff.mp e).1;rw[getElem?_set_self hi] at ej
   cases ej
   rw[show fq=[] from hj] at hc; cases hc
  ·rw[getElem?_set_ne hij] at ej;exact r.apart hij e ej h hj b hb hc
 unfold a6J at m
 split at m
 ·rename_i d e
  obtain⟨v,e1,d1⟩:=r.sl i _ e;exact⟨v,e1,k _ _ _ _ _ m (Same.refl _) r d1 trivial⟩
 ·rename_i ds e
  obtain⟨p,vs,e1,e2⟩:=r.sl i _ e;refine⟨_,e1,k _ _ _ _ _ m (Same.refl _) (r.drop i) ⟨p,vs,rfl,e2⟩ fun j s fp ej hj q eq hq=>?_⟩
  cases eq
  exact other e (fp:=[p]) ⟨p,vs,rfl,e1,e2⟩ ej hj p (mem_singleton.mpr rfl) hq
 ·rename_i B e
  obtain⟨v,fp,e1,e2,e3⟩:=r.sl i _ e;refine⟨_,e1,k _ _ _ _ _ m (Same.refl _) (r.drop i) ⟨fp,e2,e3⟩ fun j s fq f ej hj hf b hb=>?_⟩;rw[B.uniq hf e2] at hb;exact other e (fp:=fp) ⟨v,e1,e2,e3⟩ ej hj b hb
 ·exact m.elim
theorem bR (ha:VT P0 ta ma)(hb:VT P0 tb mb):VT P0 (tOp (rIx K) ta tb) (mIx ma mb):=by
 refine aD4 (m2:=fun x y Q=>oQ (ixD x y) Q) ha hb fun F Γ σ G H x y d e Q Qm r d1 d2 m k=>?_;obtain⟨u,hu,q⟩:=a5J m;unfold ixD at hu
 split at hu
 ·rename_i ds i
  cases d2
  cases d1 with
  | @tup p xs _ hp rs=>
   obtain⟨j,h1,h2⟩:∃ j,ixN ds.length i=some j∧ds[j]?=some u:=by
    unfold atI at hu
    cases e:ixN ds.length i with
    | none=>rw[e] at hu; cases hu
    | some j=>rw[e] at hu; exact⟨j,rfl,hu⟩
   obtain⟨v,hv,dv⟩:=Dts.get rs h2;refine .inr (.inl ⟨p,xs,i,v,rfl,rfl,SqT.of (r.fr.sub _ _ hp),?_,k _ _ _ _ q (Same.refl _) r dv⟩);unfold atI;rw[rs.len,h1];exact hv
 ·rename_i ds i
  cases d2
  cases d1 with
  | @lst p xs _ hp rs=>
   obtain⟨j,h1,h2⟩:∃ j,ixN ds.length i=some j∧ds[j]?=some u:=by
    unfold atI at hu
    cases e:ixN ds.length i with
    | none=>rw[e] at hu; cases hu
    | some j=>rw[e] at hu; exact⟨j,rfl,hu⟩
   obtain⟨v,hv,dv⟩:=Dts.get rs h2;refine .inl ⟨p,xs,i,v,rfl,rfl,SqL.of (r.fr.sub _ _ hp),?_,k _ _ _ _ q (Same.refl _) r dv⟩;unfold atI;rw[rs.len,h1];exact hv
 ·cases hu
theorem a9M {rr:List V→Hp→VK→Prop}{m1:D→(D→Prop)→Prop}(ha:VT P0 ta ma)
  (h:∀(F:Fra P0) (Γ:En) (σ:St) (G H:Hp) (x:V) (d:D) (Q:VK) (Qm:D→Prop),R F Γ σ G H→Dt G x d→m1 d Qm→(∀ u r G' H',Qm u→Same G G'→R F Γ σ G' H'→Dt G' r u→Q r H')→rr [x] H Q) :
  VT P0 (tCB rr (eF ta qF)) (fun Γ Q=>ma Γ fun x Γ1=>m1 x fun d=>Q d Γ1):=by
 intro F Γ σ G H Q Qm r m k;refine ha F Γ σ G H _ _ r m fun d Γ1 x G1 H1 m1 s1 r1 d1=>?_;exact h F Γ1 σ G1 H1 x d _ _ r1 d1 m1 fun u w G3 H3 q s3 r3 d3=>k _ _ _ _ _ q (s1.trans s3) r3 d3
theorem tM (ha:VT P0 ta ma):VT P0 (tCB (fun xs H Q=>∃ p ys,xs=[.ref p]∧(SqL K H p ys∨SqT K H p ys)∧Q (.int ys.length) H) (eF ta qF)) (a8H ma):=by
 refine a9M (m1:=fun x Q=>oQ (aG1 x) Q) ha fun F Γ σ G H x d Q Qm r d1 m k=>?_;obtain⟨u,hu,q⟩:=a5J m;unfold aG1 at hu
 split at hu
 ·cases hu
  cases d1 with
  | @tup p xs _ hp rs=>exact⟨p,xs,rfl,.inr (SqT.of (r.fr.sub _ _ hp)),by rw[rs.len]; exact k _ _ _ _ q (Same.refl _) r (.int _)⟩
 ·cases hu
  cases d1 with
  | @lst p xs _ hp rs=>exact⟨p,xs,rfl,.inl (SqL.of (r.fr.sub _ _ hp)),by rw[rs.len]; exact k _ _ _ _ q (Same.refl _) r (.int _)⟩
 ·cases hu
def aCA (ma:ME):ME:=fun Γ Q=>ma Γ fun x Γ1=>match x with
 | .int i=>Q (.int (if i<0 then -i else i)) Γ1
 | _=>False
theorem a0M (ha:VT P0 ta ma):VT P0 (tCB (fun xs H Q=>∃ i,xs=[.int i]∧Q (.int (if i<0 then -i else i)) H) (eF ta qF)) (aCA ma):=by
 refine a9M (m1:=fun x Q=>match x with|.int i=>Q (.int (if i<0 then -i else i))|_=>False) ha fun F Γ σ G H x d Q Qm r d1 m k=>?_
 split at m
 ·cases d1
  exact⟨_,rfl,k _ _ _ _ m (Same.refl _) r (.int _)⟩
 ·exact m.elim
theorem sH (ha:VT P0 ta ma):VO P0 (tCB (fun xs H Q=>∃ p ys,xs=[.ref p]∧(SqL K H p ys∨SqT K H p ys)∧∀ l,H l=none→Q (.ref l) (upd H l (.lst ys))) (eF ta qF)) (rZ ma):=by
 intro F Γ σ G H Q Qm r m k;refine ha F Γ σ G H _ _ r m fun d Γ1 x G1 H1 m1 s1 r1 d1=>?_
 split at m1
 ·rename_i ds e
  cases d1<;>simp only[a0H] at e<;>try (cases e)
  ·rename_i p xs hp rs
   refine⟨p,xs,rfl,.inr (SqT.of (r1.fr.sub _ _ hp)),fun l hl=>?_⟩;obtain⟨a,b,c⟩:=n6 r1 hl rs;exact k _ _ _ _ _ m1 s1 a b c
  ·rename_i p xs hp rs
   refine⟨p,xs,rfl,.inl (SqL.of (r1.fr.sub _ _ hp)),fun l hl=>?_⟩;obtain⟨a,b,c⟩:=n6 r1 hl rs;exact k _ _ _ _ _ m1 s1 a b c
 ·exact m1.elim
theorem vN:VP P0 a6I pNo:=fun _ _ _ _ _ _ _ r m k=>k _ _ _ _ m (Same.refl _) r
theorem vL (ha:VT P0 ta ma):VP P0 (aDQ ta) (pSo ma):=by
 intro F Γ σ G H Q Qm r m k;refine ha F Γ σ G H _ _ r m fun d Γ1 x G1 H1 m1 s1 r1 d1=>?_
 split at m1
 ·cases d1
  exact⟨_,rfl,k _ _ _ _ m1 s1 r1⟩
 ·exact m1.elim
theorem _root_.L2.Dts.cut {G:Hp}{vs:List V}{ds:List D}(h:Dts G vs ds)(lo hi:Option Int):Dts G (a8I vs lo hi) (cutD ds lo hi):=by
 unfold a8I cutD;rw[h.len];exact Dts.tak _ (Dts.drp _ h)
theorem qU {tl th:TO}{ml mh:MP}(ha:VT P0 ta ma)(hl:VP P0 tl ml)(hh:VP P0 th mh):VO P0 (tSl (aJH K) ta tl th) (a7D ma ml mh):=by
 intro F Γ σ G H Q Qm r m k;refine ha F Γ σ G H _ _ r m fun d Γ1 x G1 H1 m1 s1 r1 d1=>?_;refine hl F Γ1 σ G1 H1 _ _ r1 m1 fun lo Γ2 G2 H2 m2 s2 r2=>?_;refine hh F Γ2 σ G2 H2 _ _ r2 m2 fun hi Γ3 G3 H3 m3 s3 r3=>?_
 split at m3
 ·have d1:=Dt.same (s2.trans s3) _ _ d1
  cases d1 with
  | @lst p xs _ hp rs=>
   refine⟨p,xs,rfl,SqL.of (r3.fr.sub _ _ hp),fun l hl=>?_⟩;obtain⟨a,b,c⟩:=n6 r3 hl (rs.cut lo hi);exact k _ _ _ _ _ m3 ((s1.trans s2).trans s3) a b c
 ·exact m3.elim
theorem fV (ha:VT P0 ta ma)(hb:VT P0 tb mb):VO P0 (tOp aJI ta tb) (vG ma mb):=by
 intro F Γ σ G H Q Qm r m k;refine ha F Γ σ G H _ _ r m fun d Γ1 x G1 H1 m1 s1 r1 d1=>?_;refine hb F Γ1 σ G1 H1 _ _ r1 m1 fun e Γ2 y G2 H2 m2 s2 r2 d2=>?_;have d1:=Dt.same s2 _ _ d1
 split at m2
 ·cases d1 with
  | @lst p xs _ hp rs=>
   cases d2 with
   | @lst q ys _ hq ss=>
    refine⟨p,q,xs,ys,rfl,rfl,r2.fr.sub _ _ hp,r2.fr.sub _ _ hq,jU (by rw[rs.len,ss.len]; exact m2.1),fun l hl=>?_⟩;obtain⟨a,b,c⟩:=n6 r2 hl (rs.app ss);exact k _ _ _ _ _ m2.2 (s1.trans s2) a b c
 ·exact m2.elim
def spM (P0:Addr→Hp→Prop)(n:Nat)(f:Fm):Sp:=fun vs H Q _=>∃(F:Fra P0) (as:List Sl) (Qm:Rv→Prop),F.H0=H∧Rf F F.G0 H∧Paired (mZ F F.G0) vs as∧as.length=n∧f as Qm ∧
 ∀ rv r G' H',Qm rv→Rf F G' H'→RvO F G' H' r rv→Q r H'
def Fra.sub (F:Fra P0){G H:Hp}(r:Rf F G H):Fra P0 where
 H0:=H
 G0:=G
 pen:=F.pen
 stab:=fun p e H1 H2 h=>F.stab p e H1 H2 fun b o e=>let ⟨o',e'⟩:=r.dom e; h b o' e'
 pin:=F.pin
 pin0:=fun p e=>F.pin p e H (r.pn p e)
 pg:=fun p e=>by
  obtain⟨o,e0⟩:=F.pin0 p e;rw[r.g0 p o e0];exact F.pg p e
theorem Fra.subRf (F:Fra P0){G H:Hp}(r:Rf F G H):Rf (F.sub r) G H:=⟨r.sub,fun _ _ _=>rfl,fun _ _ e _=>e,r.pn⟩
theorem Rf.back {F:Fra P0}{G H G' H':Hp}(r:Rf F G H)(h:Rf (F.sub r) G' H'):Rf F G' H'∧Same G G':=by
 refine⟨⟨h.sub,fun b o e=>?_,fun b o e hb=>?_,h.pn⟩,fun b o e=>?_⟩
 ·obtain⟨o',e'⟩:=r.dom e;exact(h.g0 b o' e').trans (r.g0 b o e)
 ·exact h.h0 b o (r.h0 b o e hb) hb
 ·exact(h.g0 b o (r.sub b o e)).trans e
theorem Fra.pen_ne (F:Fra P0){p:Addr}(h:F.H0 p=none):F.pen≠some p:=fun e=>by
 obtain⟨o,e0⟩:=F.pin0 p e;rw[h] at e0; cases e0
theorem R.after {F:Fra P0}{Γ:En}{σ:St}{G H G' H':Hp}(r:R F Γ σ G H)(h:Rf (F.sub r.fr) G' H'):R F Γ σ G' H'∧Same G G':=by
 obtain⟨a,b⟩:=r.fr.back h;refine⟨r.keep a b fun p u _ e1 e2 e3=>⟨(h.g0 p _ e3).trans e2,h.h0 p _ e3 (F.pen_ne e1)⟩,b⟩
theorem cB {n:Nat}{f:Fm}{t:TA}{m:MA}{E:XK}(h:VA P0 t m):VO P0 (a3I (spM P0 n f) [] E t) (dX n f m):=by
 intro F Γ σ G H Q Qm r hm k;refine h F Γ σ G H _ _ r hm fun as Γ1 rs G1 H1 m1 s1 r1 d1=>?_;refine⟨F.sub r1.fr,as,fun rv=>Qm rv Γ1,rfl,F.subRf r1.fr,?_,m1.1,m1.2,fun rv v G2 H2 q f2 v2=>?_⟩
 ·rw[append_nil];exact Paired.imp' (fun a s h=>by cases s<;>exact h) d1
 ·obtain⟨r2,s2⟩:=r1.after f2;refine k _ _ _ _ _ q (s1.trans s2) r2 ?_ ?_
  ·cases rv with
   | val d=>exact v2
   | own ds=>
    obtain⟨p,vs,e,e1,e2,e3,e4⟩:=v2;exact⟨p,vs,e,r1.fr.fresh e1,e2,e3,e4⟩
   | box B=>
    obtain⟨fp,e1,e2⟩:=v2;exact⟨fp,e1,fun b hb=>⟨r1.fr.fresh (e2 b hb).1,(e2 b hb).2⟩⟩
  ·have kp:∀ b o,F.H0 b=none→G1 b=none→H1 b=some o→G2 b=none∧H2 b=some o:=fun b o h1 h2 h3=>⟨(f2.g0 b _ h3).trans h2,f2.h0 b _ h3 (F.pen_ne h1)⟩
   cases rv with
   | val d=>trivial
   | own ds=>
    obtain⟨p,vs,rfl,e1,e2,e3,e4⟩:=v2;exact Apart.new r1 e1 s2 kp
   | box B=>
    obtain⟨fp,e1,e2⟩:=v2;exact Apart.newB r1 (fun f hf b hb=>by rw[B.uniq hf e1] at hb; exact(e2 b hb).1) s2 kp
end
end
section
variable {P0:Addr→Hp→Prop}{A:Nat→Bool}
def gN (i:Nat):MG:=fun d Γ Q=>Q (Γ.set i (.val d))
def a85:MGs:=fun ds Γ Q=>match ds with
 | []=>Q Γ
 | _=>False
def uK (g:MG)(gs:MGs):MGs:=fun ds Γ Q=>match ds with
 | d::r=>g d Γ fun Γ1=>gs r Γ1 Q
 | []=>False
def gT (n:Nat)(gs:MGs):MG:=fun d Γ Q=>match d with
 | .tuple ds=>ds.length=n∧gs ds Γ Q
 | _=>False
theorem vU {i:Nat}{v:Option V}{σ:St}(hA:A i=true):∀ j,A j=false→(σ.set i v)[j]?=σ[j]?:=fun j hj=>getElem?_set_ne (fun z=>by rw[z,hj] at hA; cases hA)
theorem j7 {i:Nat}(hA:A i=true:=by rfl):VG P0 A (yD i) (gN i):=fun _ _ _ _ _ _ _ _ _ r h m k=>k _ _ m (r.setV h) (vU hA)
theorem a5O:VGs P0 A aJF a85:=by
 intro F Γ σ G H vs ds Q Qm r h m k
 cases h with
 | nil=>exact⟨rfl,k _ _ m r fun _ _=>rfl⟩
 | cons _ _=>exact m.elim
theorem rO {g:TG}{gs:TGs}{m:MG}{ms:MGs}(h1:VG P0 A g m)(h2:VGs P0 A gs ms):VGs P0 A (aF1 g gs) (uK m ms):=by
 intro F Γ σ G H vs ds Q Qm r h hm k
 cases h with
 | nil=>exact hm.elim
 | cons a b=>exact⟨_,_,rfl,h1 F Γ σ G H _ _ _ _ r a hm fun Γ1 σ1 m1 r1 e1=>h2 F Γ1 σ1 G H _ _ _ _ r1 b m1 fun Γ2 σ2 m2 r2 e2=>k _ _ m2 r2 fun i hi=>(e2 i hi).trans (e1 i hi)⟩
theorem aEE {K:Fg}{n:Nat}{gs:TGs}{ms:MGs}(h:VGs P0 A gs ms):VG P0 A (aJ9 K n gs) (gT n ms):=by
 intro F Γ σ G H v d Q Qm r hd m k;unfold gT at m
 split at m
 ·cases hd with
  | @tup p xs _ hp rs=>exact⟨p,xs,rfl,SqT.of (r.fr.sub _ _ hp),by rw[rs.len]; exact m.1,h F Γ σ G H _ _ _ _ r rs m.2 k⟩
 ·exact m.elim
def Walk (P0:Addr→Hp→Prop)(J:It)(G0:Hp)(ds:List D):Prop:=∀(F:Fra P0) (Γ:En) (σ:St) (G H:Hp),Same G0 G→R F Γ σ G H →
 (∀ i d,ds[i]?=some d→J.go i H∧∀ x H',J.yld i H x H'→∃ G',Same G G'∧R F Γ σ G' H'∧Dt G' x d)∧J.stop ds.length H
def VI (P0:Addr→Hp→Prop)(wi:TI)(m:MD):Prop:=∀(F:Fra P0) (Γ:En) (σ:St) (G H:Hp) (Q:It→Hp→Prop) (Qm:List D→En→Prop),R F Γ σ G H→m Γ Qm →
 (∀ ds Γ' J G' H',Qm ds Γ'→Same G G'→R F Γ' σ G' H'→Walk P0 J G' ds→Q J H')→wi σ H Q
def aGB (ma:ME):MD:=fun Γ Q=>ma Γ fun x Γ1=>match x with
 | .list ds=>Q ds Γ1
 | _=>False
def aGO (ma:ME):MD:=fun Γ Q=>ma Γ fun x Γ1=>match x with
 | .tuple ds=>Q ds Γ1
 | _=>False
def mL (lo:Int)(n:Nat):List D:=(List.range n).map fun(k:Nat)=>PyData.int (lo+k)
def a3B (md:MD):MD:=fun Γ Q=>md Γ fun ds Γ1=>match ds with
 | [.int j] => -(2^62)≤j∧j<2^62∧Q (mL 0 j.toNat) Γ1
 | _=>False
theorem aB9 {K:Fg}{ta:TE}{ma:ME}(ha:VT P0 ta ma):VI P0 (aCR K ta) (aGB ma):=by
 intro F Γ σ G H Q Qm r m k;refine ha F Γ σ G H _ _ r m fun d Γ1 x G1 H1 m1 s1 r1 d1=>?_
 split at m1
 ·cases d1 with
  | @lst p xs ds hp rs=>
   refine⟨p,rfl,⟨xs,SqL.of (r1.fr.sub _ _ hp)⟩,k _ _ _ _ _ m1 s1 r1 fun F2 Γ2 σ2 G2 H2 s2 r2=>⟨fun i d e=>?_,?_⟩⟩
   ·have hq:H2 p=some (.lst xs):=r2.fr.sub _ _ (s2 _ _ hp);obtain⟨v,ev,dv⟩:=Dts.get rs e;refine⟨⟨xs,v,SqL.of hq,ev⟩,fun y H3 hy=>⟨G2,Same.refl _,?_⟩⟩;obtain⟨rfl,hy⟩:=hy;have:=hy xs (SqL.of hq);rw[ev] at this
    cases this
    exact⟨r2,Dt.same s2 _ _ dv⟩
   ·exact⟨xs,SqL.of (r2.fr.sub _ _ (s2 _ _ hp)),by rw[rs.len]; exact le_refl _⟩
 ·exact m1.elim
theorem aEH {K:Fg}{ta:TE}{ma:ME}(ha:VT P0 ta ma):VI P0 (aIS K ta) (aGO ma):=by
 intro F Γ σ G H Q Qm r m k;refine ha F Γ σ G H _ _ r m fun d Γ1 x G1 H1 m1 s1 r1 d1=>?_
 split at m1
 ·cases d1 with
  | @tup p xs ds hp rs=>
   refine⟨p,rfl,⟨xs,SqT.of (r1.fr.sub _ _ hp)⟩,k _ _ _ _ _ m1 s1 r1 fun F2 Γ2 σ2 G2 H2 s2 r2=>⟨fun i d e=>?_,?_⟩⟩
   ·have hq:H2 p=some (.tup xs):=r2.fr.sub _ _ (s2 _ _ hp);obtain⟨v,ev,dv⟩:=Dts.get rs e;refine⟨⟨xs,v,SqT.of hq,ev⟩,fun y H3 hy=>⟨G2,Same.refl _,?_⟩⟩;obtain⟨rfl,hy⟩:=hy;have:=hy xs (SqT.of hq);rw[ev] at this
    cases this
    exact⟨r2,Dt.same s2 _ _ dv⟩
   ·exact⟨xs,SqT.of (r2.fr.sub _ _ (s2 _ _ hp)),by rw[rs.len]; exact le_refl _⟩
 ·exact m1.elim
theorem a1T {G:Hp}(lo:Int)(n:Nat):Walk P0 (Itr lo n) G (mL lo n):=by
 intro F Γ σ G2 H2 _ r;have hl:(mL lo n).length=n:=by simp[mL]
 refine⟨fun i d e=>?_,by rw[hl]; exact le_refl _⟩;have hi:i<n:=by have:=(List.getElem?_eq_some_iff.mp e).1; omega
 refine⟨hi,fun x H' hy=>?_⟩;obtain⟨rfl,rfl⟩:=hy;refine⟨G2,Same.refl _,r,?_⟩;unfold mL at e;rw[getElem?_map,getElem?_range hi] at e
 cases e
 exact .int _
theorem vR {t:TA}{md:MD}(h:VD P0 t md):VI P0 (aEU t) (a3B md):=by
 intro F Γ σ G H Q Qm r m k;refine h F Γ σ G H _ _ r m fun ds Γ1 xs G1 H1 m1 s1 r1 d1=>?_
 split at m1
 ·rename_i j
  cases d1 with
  | cons a b=>
   cases a; cases b
   exact⟨j,rfl,m1.1,m1.2.1,k _ _ _ _ _ m1.2.2 s1 r1 (a1T _ _)⟩
 ·exact m1.elim
def mNx:MS:=fun Γ Q=>Q (.nx Γ)
def cW (a b:MS):MS:=fun Γ Q=>a Γ fun fl=>match fl with
 | .nx Γ1=>b Γ1 Q
 | fl=>Q fl
def a7Q (m:ME):MS:=fun Γ Q=>m Γ fun _ Γ1=>Q (.nx Γ1)
def gF (i:Nat)(m:MO):MS:=fun Γ Q=>m Γ fun rv Γ1=>Q (.nx (Γ1.set i rv.sl))
def aI0 (m:ME)(g:MG):MS:=fun Γ Q=>m Γ fun d Γ1=>g d Γ1 fun Γ2=>Q (.nx Γ2)
def aGE (i j:Nat)(m:MD):MS:=fun Γ Q=>m Γ fun ds Γ1=>match ds with
 | [d,e]=>Q (.nx ((Γ1.set i (.val d)).set j (.val e)))
 | _=>False
def nR (m:MO):MS:=fun Γ Q=>m Γ fun rv _=>Q (.rt rv)
def mIf (c:MT)(a b:MS):MS:=fun Γ Q=>c Γ fun k Γ1=>if k=true then a Γ1 Q else b Γ1 Q
def a9D:MS:=fun _ _=>False
def forL (g:MG)(b:MS):List D→En→(Fl→Prop)→Prop
 | [],Γ,Q=>Q (.nx Γ)
 | d::ds,Γ,Q=>g d Γ fun Γ1=>b Γ1 fun fl=>match fl with
  | .nx Γ2=>forL g b ds Γ2 Q
  | .ct Γ2=>forL g b ds Γ2 Q
  | .bk Γ2=>Q (.nx Γ2)
  | .rt rv=>Q (.rt rv)
def aCC (mi:MD)(g:MG)(b:MS):MS:=fun Γ Q=>mi Γ fun ds Γ1=>forL g b ds Γ1 Q
def a0Z (c:MT)(b:MS):MS:=fun Γ Q=>∃ W:Nat→En→Prop,(∃ n,W n Γ)∧∀ n Γ,W n Γ→c Γ fun k Γ1=>if k=true then b Γ1 fun fl=>match fl with
  | .nx Γ2=>∃ n',n'<n∧W n' Γ2
  | .ct Γ2=>∃ n',n'<n∧W n' Γ2
  | .bk Γ2=>Q (.nx Γ2)
  | .rt rv=>Q (.rt rv)
 else Q (.nx Γ1)
def kY (i:Nat)(m:ME):MS:=fun Γ Q=>match Γ[i]? with
 | some (.own _)=>m Γ fun d Γ1=>match Γ1[i]? with
  | some (.own ds)=>ds.length<1000∧Q (.nx (Γ1.set i (.own (ds++[d]))))
  | _=>False
 | _=>False
theorem fC:VSA P0 A aBE mNx:=fun _ _ _ _ _ _ _ r m k=>k _ m _ _ _ (Same.refl _) r fun _ _=>rfl
theorem a7J:VSA P0 A a9C a9D:=fun _ _ _ _ _ _ _ _ m _=>m.elim
theorem aY {t u:TS}{a b:MS}(ha:VSA P0 A t a)(hb:VSA P0 A u b):VSA P0 A (aG2 t u) (cW a b):=by
 intro F Γ σ G H E Qm r m k;refine ha F Γ σ G H _ _ r m fun fl q=>?_
 cases fl with
 | nx Γ1=>exact fun σ1 G1 H1 s1 r1 e1=>hb F Γ1 σ1 G1 H1 E Qm r1 q fun fl q=>(k fl q).same s1 e1
 | rt rv=>exact k _ q
 | bk Γ1=>exact k _ q
 | ct Γ1=>exact k _ q
theorem a4L {t:TE}{m:ME}(h:VT P0 t m):VSA P0 A (aBS t) (a7Q m):=by
 intro F Γ σ G H E Qm r hm k;exact h F Γ σ G H _ _ r hm fun d Γ1 x G1 H1 m1 s1 r1 d1=>k _ m1 _ _ _ s1 r1 fun _ _=>rfl
theorem bO {i:Nat}{t:TE}{m:MO}(h:VO P0 t m)(hA:A i=true:=by rfl):VSA P0 A (aAP t (yD i)) (gF i m):=by
 intro F Γ σ G H E Qm r hm k;exact h F Γ σ G H _ _ r hm fun rv Γ1 x G1 H1 m1 s1 r1 d1 a1=>k _ m1 _ _ _ s1 (r1.set d1 a1) (vU hA)
theorem aD8 {t:TE}{g:TG}{m:ME}{mg:MG}(h:VT P0 t m)(hg:VG P0 A g mg):VSA P0 A (aAP t g) (aI0 m mg):=by
 intro F Γ σ G H E Qm r hm k;exact h F Γ σ G H _ _ r hm fun d Γ1 x G1 H1 m1 s1 r1 d1=>hg F Γ1 σ G1 H1 x d _ _ r1 d1 m1 fun Γ2 σ2 m2 r2 e2=>k _ m2 _ _ _ s1 r2 e2
theorem aDF {i j:Nat}{t:TA}{m:MD}(h:VD P0 t m)(hA:A i=true:=by rfl)(hB:A j=true:=by rfl):VSA P0 A (aJE i j t) (aGE i j m):=by
 intro F Γ σ G H E Qm r hm k;refine h F Γ σ G H _ _ r hm fun ds Γ1 x G1 H1 m1 s1 r1 d1=>?_
 split at m1
 ·cases d1 with
  | cons a b=>
   cases b with
   | cons b c=>
    cases c
    exact⟨_,_,rfl,k _ m1 _ _ _ s1 ((r1.setV a).setV b) fun q hq=>(vU hB q hq).trans (vU hA q hq)⟩
 ·exact m1.elim
theorem cY {t:TE}{m:MO}(h:VO P0 t m):VSA P0 A (aFY t) (nR m):=by
 intro F Γ σ G H E Qm r hm k;exact h F Γ σ G H _ _ r hm fun rv Γ1 x G1 H1 m1 s1 r1 d1 _=>k _ m1 _ _ _ s1 r1.fr d1
theorem eX {c:TT}{t u:TS}{mc:MT}{a b:MS}(hc:VTT P0 c mc)(ha:VSA P0 A t a)(hb:VSA P0 A u b):VSA P0 A (aG4 c t u) (mIf mc a b):=by
 intro F Γ σ G H E Qm r m k;refine hc F Γ σ G H _ _ r m fun k1 Γ1 G1 H1 m1 s1 r1=>?_
 cases k1 with
 | true=>exact a1C (ha F Γ1 σ G1 H1 E Qm r1 m1 fun fl q=>(k fl q).same s1 fun _ _=>rfl)
 | false=>exact zL (hb F Γ1 σ G1 H1 E Qm r1 m1 fun fl q=>(k fl q).same s1 fun _ _=>rfl)
theorem a0Q {c:TT}{t:TS}{mc:MT}{b:MS}(hc:VTT P0 c mc)(hb:VSA P0 A t b):VSA P0 A (a9X c t) (a0Z mc b):=by
 intro F Γ σ G H E Qm r m k;obtain⟨W,⟨n0,w0⟩,turn⟩:=m;refine⟨fun n σ1 H1=>∃ Γ1 G1,Same G G1∧R F Γ1 σ1 G1 H1∧W n Γ1∧∀ i,A i=false→σ1[i]?=σ[i]?,⟨n0,Γ,G,Same.refl _,r,w0,fun _ _=>rfl⟩,?_⟩;rintro n σ1 H1 ⟨Γ1,G1,s1,r1,w1,e1⟩;refine hc F Γ1 σ1 G1 H1 _ _ r1 (turn n Γ1 w1) fun k2 Γ2 G2 H2 m2 s2 r2=>?_
 cases k2 with
 | true=>
  refine a1C ⟨_,fun _ _ h=>h,?_⟩;refine hb F Γ2 σ1 G2 H2 _ _ r2 m2 fun fl q=>?_
  cases fl with
  | nx Γ3=>
   obtain⟨n',hn,w3⟩:=q;exact fun σ3 G3 H3 s3 r3 e3=>⟨n',hn,Γ3,G3,(s1.trans s2).trans s3,r3,w3,fun i hi=>(e3 i hi).trans (e1 i hi)⟩
  | ct Γ3=>
   obtain⟨n',hn,w3⟩:=q;exact fun σ3 G3 H3 s3 r3 e3=>⟨n',hn,Γ3,G3,(s1.trans s2).trans s3,r3,w3,fun i hi=>(e3 i hi).trans (e1 i hi)⟩
  | bk Γ3=>exact fun σ3 G3 H3 s3 r3 e3=>k _ q _ _ _ ((s1.trans s2).trans s3) r3 fun i hi=>(e3 i hi).trans (e1 i hi)
  | rt rv=>exact fun v G3 H3 s3 r3=>k _ q _ _ _ ((s1.trans s2).trans s3) r3
 | false=>exact zL (k _ m2 _ _ _ (s1.trans s2) r2 e1)
theorem a9K {wi:TI}{g:TG}{t:TS}{mi:MD}{mg:MG}{b:MS}(hi:VI P0 wi mi)(hg:VG P0 A g mg)(hb:VSA P0 A t b):VSA P0 A (aGZ wi g t) (aCC mi mg b):=by
 intro F Γ σ G H E Qm r m k;refine hi F Γ σ G H _ _ r m fun ds Γ1 J G1 H1 m1 s1 r1 wk=>?_;refine⟨fun i n σ2 H2=>n=ds.length-i∧i≤ds.length∧∃ Γ2 G2,Same G1 G2∧R F Γ2 σ2 G2 H2∧forL mg b (ds.drop i) Γ2 Qm∧∀ i,A i=false→σ2[i]?=σ[i]?,⟨ds.length,by simp,zero_le _,Γ1,G1,Same.refl _,r1,m1,fun _ _=>rfl⟩,?_⟩;rintro i n σ2 H2 ⟨rfl,hle,Γ2,G2,s2,r2,m2,e2⟩;obtain⟨go,stop⟩:=wk F Γ2 σ2 G2 H2 s2 r2
 by_cases hlt:i<ds.length
 ·refine .inr ⟨(go i ds[i] (by simp[hlt])).1,fun σ' H'=>ds.length-(i+1)<ds.length-i∧i+1≤ds.length∧∃ Γ3 G3,Same G1 G3∧R F Γ3 σ' G3 H'∧forL mg b (ds.drop (i+1)) Γ3 Qm∧∀ i,A i=false→σ'[i]?=σ[i]?,fun σ' H' h=>⟨_,h.1,rfl,h.2⟩,fun x H' hy=>?_⟩;obtain⟨G3,s3,r3,d3⟩:=(go i ds[i] (by simp[hlt])).2 x H' hy;rw[List.drop_eq_getElem_cons hlt] at m2;refine hg F Γ2 σ2 G3 H' x _ _ _ r3 d3 m2 fun Γ4 σ4 m4 r4 e4=>?_;refine hb F Γ4 σ4 G3 H' _ _ r4 m4 fun fl q=>?_
  cases fl with
  | nx Γ5=>exact fun σ5 G5 H5 s5 r5 e5=>⟨by omega,hlt,Γ5,G5,(s2.trans s3).trans s5,r5,q,fun i hi=>((e5 i hi).trans (e4 i hi)).trans (e2 i hi)⟩
  | ct Γ5=>exact fun σ5 G5 H5 s5 r5 e5=>⟨by omega,hlt,Γ5,G5,(s2.trans s3).trans s5,r5,q,fun i hi=>((e5 i hi).trans (e4 i hi)).trans (e2 i hi)⟩
  | bk Γ5=>exact fun σ5 G5 H5 s5 r5 e5=>k _ q _ _ _ ((s1.trans s2).trans (s3.trans s5)) r5 fun i hi=>((e5 i hi).trans (e4 i hi)).trans (e2 i hi)
  | rt rv=>exact fun v G5 H5 s5 r5=>k _ q _ _ _ ((s1.trans s2).trans (s3.trans s5)) r5
 ·have e:i=ds.length:=by omega
  subst e;rw[drop_length] at m2;exact .inl ⟨stop,k _ m2 _ _ _ (s1.trans s2) r2 e2⟩
theorem p7 {K:Fg}{i:Nat}{t:TE}{m:ME}(h:VT P0 t m):VSA P0 A (aBS (tBM K "list" a6K (pO i) (eF t qF))) (kY i m):=by
 intro F Γ σ G H E Qm r hm k;unfold kY at hm
 split at hm
 ·rename_i ds0 e0
  obtain⟨p,vs,e1,e2,e3,e4,e5⟩:=r.sl i _ e0;refine⟨_,e1,.inl ⟨rfl,_,SqL.of e4⟩,?_⟩;refine h F Γ σ G H _ _ r hm fun d Γ1 x G1 H1 m1 s1 r1 d1=>?_
  split at m1
  ·rename_i ds e
   obtain⟨p',ws,f1,f2,f3,f4,f5⟩:=r1.sl i _ e;rw[e1] at f1; cases f1;refine⟨p,ws,x,rfl,rfl,f4,wU (by rw[f5.len]; exact le_of_lt m1.1),?_⟩;exact k _ m1.2 _ _ _ s1 (r1.write e e1 (f5.app (.cons d1 .nil))) fun _ _=>rfl
  ·exact m1.elim
 ·exact hm.elim
def mFn (n:Nat)(b:MS):Fm:=fun as Q=>b (as++List.replicate n .no) fun fl=>match fl with
 | .rt rv=>Q rv
 | .nx _=>Q (.val .none)
 | _=>False
theorem a7U {n k:Nat}{N:List Str}{t:TS}{b:MS}(h:VS P0 t b)(hN:N.length=n+k){vs:List V}{H:Hp}{Q:VK}{E:XK}(hs:spM P0 n (mFn k b) vs H Q E) :
  t { nx:=fun _ H'=>Q .non H',rt:=Q } (start N vs) H:=by
 obtain⟨F,as,Qm,rfl,rf,pr,hl,hm,q⟩:=hs;have hlen:vs.length=as.length:=Paired.length pr;have get:∀{vs:List V} {as:List Sl} {i:Nat} {s:Sl},Paired (mZ F F.G0) vs as→as[i]?=some s→∃ v,vs[i]?=some v∧mZ F F.G0 v s:=by
  intro vs as i s pr
  induction pr generalizing i with
  | nil=>intro e; simp at e
  | cons a b ih=>
   cases i with
   | zero=>intro e; simp at e; subst e; exact⟨_,rfl,a⟩
   | succ i=>intro e; simpa using ih (i:=i) (by simpa using e)
 have at_:∀{i:Nat} {s:Sl},(as++List.replicate k Sl.no)[i]?=some s→s≠.no→∃ v,(start N vs)[i]?=some (some v)∧mZ F F.G0 v s:=by
  intro i s e hne
  by_cases hi:i<as.length
  ·rw[getElem?_append_left hi] at e;obtain⟨v,ev,av⟩:=get pr e;refine⟨v,?_,av⟩;unfold start;rw[getElem?_append_left (by rw[length_map]; omega),getElem?_map,ev];rfl
  ·rw[getElem?_append_right (by omega),getElem?_replicate] at e
   split at e
   ·cases e; exact absurd rfl hne
   ·cases e
 have r:R F (as++List.replicate k .no) (start N vs) F.G0 F.H0:=by
  refine R.of rf ?_ (fun i s e=>?_) (fun i B e=>?_) (fun i j x y _ e _=>?_)
  ·unfold start;simp only[length_append,length_replicate,length_map];omega
  ·cases s with
   | no=>trivial
   | val d=>
    obtain⟨v,ev,av⟩:=at_ e (by intro z; cases z)
    exact⟨v,ev,av⟩
   | own ds=>
    obtain⟨v,ev,av⟩:=at_ e (by intro z; cases z)
    exact av.elim
   | pen=>
    obtain⟨v,ev,p,rfl,ep⟩:=at_ e (by intro z; cases z)
    exact⟨p,ev,ep⟩
   | con q=>
    obtain⟨v,ev,av⟩:=at_ e (by intro z; cases z)
    have av:v=.ref q:=av;rw[av] at ev;exact ev
   | pub B=>
    obtain⟨v,ev,av⟩:=at_ e (by intro z; cases z)
    exact⟨v,ev,av⟩
   | box B=>
    obtain⟨v,ev,av⟩:=at_ e (by intro z; cases z)
    exact av.elim
  ·obtain⟨v,ev,av⟩:=at_ e (by intro z; cases z)
   exact av.elim
  ·obtain⟨v,ev,av⟩:=at_ e (by intro z; cases z)
   exact av.elim
 refine h F _ _ _ _ _ _ r hm fun fl hq=>?_
 cases fl with
 | nx Γ=>exact fun σ G' H' _ r' _=>q _ _ _ _ hq r'.fr .non
 | rt rv=>exact fun v G' H' _ f' v'=>q _ _ _ _ hq f' v'
 | bk Γ=>exact hq.elim
 | ct Γ=>exact hq.elim
theorem aA7 {n:Nat}{f:Fm}{ps:List Str}(h:ps.length=n):∀ vs H Q E,spM P0 n f vs H Q E→vs.length=ps.length:=by
 rintro vs H Q E ⟨F,as,Qm,_,_,pr,hl,_⟩;rw[Paired.length pr,hl,h]
theorem _root_.L2.Fun.okV {P:Program}{w:World}{K:Fg}{mg:Mg}{base:Heap}{x qual:Str}{st:Stmt}{f:Addr}{fd:FuncData}{N ps:List Str}{k n j:Nat}{b:MS}
  (F:Fun K x qual st f fd) (S:FnScope N ps (aQ st)) (hn:ps.length=n) (hN:N.length=n+j)
  (hbody:∀(cdv:Value) (A:Around) (outer:List Env) (s:Shared) (H:Hp) (E:XK),Room k (A.deeper (envOfC qual (aQ st) s.heap.objs.size f cdv)) →
   SsX P0 (a7E CX0 P w K mg base N qual (aQ st) f cdv A outer s H E).nox (fL st) b):FnOk P w K mg base CX0 (k+1) f fd ps (spM P0 n (mFn j b)):=by
 refine F.ok S (aA7 hn) fun cdv A outer s H vs Q E hr hs=>?_;obtain⟨t,h1,h2⟩:=hbody cdv A outer s H E hr;exact⟨t,h1,a7U h2 hN hs⟩
end
section
variable {P0:Addr→Hp→Prop}
def iY:D→String
 | .none => "NoneType"
 | .bool _ => "bool"
 | .int _ => "int"
 | .str _ => "str"
 | .list _ => "list"
 | .tuple _ => "tuple"
 | .dict _ => "dict"
def a00 (a b:String):Bool:=a==b||(a == "bool" && b == "int")
def tyL:List String:=["NoneType", "bool", "int", "str", "list", "tuple", "dict"]
def Kit (K:Fg):Prop:=∀ a∈tyL,∀ b∈tyL,kitOne K (.type a) (.type b)=some (a00 a b)
theorem Kit.mk' {K:Fg}(h:∀ a∈tyL,∀ b∈tyL,(a==b)=false→kitOne K (.type a) (.type b)=some (a == "bool" && b == "int")):Kit K:=by
 intro a ha b hb
 by_cases e:a=b
 ·subst e;rw[a9A];simp[a00]
 ·have e':(a==b)=false:=by simpa using e
  rw[h a ha b hb e'];simp[a00,e']
theorem aA6 {K:Fg}{H:Hp}{x:V}{d:D}(h:Dt H x d):TyOf K H x (.type (iY d))∧iY d∈tyL:=by
 cases h with
 | non=>exact⟨.non,by simp[iY,tyL]⟩
 | bl b=>exact⟨.bl b,by simp[iY,tyL]⟩
 | int i=>exact⟨.int i,by simp[iY,tyL]⟩
 | str x=>exact⟨.str x,by simp[iY,tyL]⟩
 | tup hp _=>exact⟨.tup hp,by simp[iY,tyL]⟩
 | lst hp _=>exact⟨.lst hp,by simp[iY,tyL]⟩
 | dic hp _=>exact⟨hp.elim .dK fun⟨_,q⟩=>.fdK q,by simp[iY,tyL]⟩
def a8X (n:String)(ma:ME):ME:=fun Γ Q=>ma Γ fun x Γ1=>Q (.bool (a00 (iY x) n)) Γ1
theorem tZ {K:Fg}{n:String}{ta:TE}{ma:ME}(hk:Kit K)(hn:n∈tyL)(ha:VT P0 ta ma):VT P0 (tCB (aJD K) (eF ta (eF (tC (.ty n)) qF))) (a8X n ma):=by
 intro F Γ σ G H Q Qm r m k;refine ha F Γ σ G H _ _ r m fun d Γ1 x G1 H1 m1 s1 r1 d1=>?_;obtain⟨h1,h2⟩:=aA6 (K:=K) (Dt.same r1.fr.sub _ _ d1);exact⟨x,.ty n,.type n,_,_,rfl,rfl,h1,hk _ h2 _ hn,k _ _ _ _ _ m1 s1 r1 (.bl _)⟩
section
variable {X:Cx}
end
def aD5 (H H':Hp):Prop:=∀ b xs,H b=some (.tup xs)→H' b=some (.tup xs)∨∃ q vs,V.ref q∈xs∧H q=some (.lst vs)
def a4U:En→En:=List.map fun s=>match s with
 | .own ds=>.val (.list ds)
 | .box B=>match B.view with
  | some d=>.val d
  | none=>match B.pv with
   | some b=>.pub b
   | none=>.no
 | s=>s
def a4Y (m:MT):MT:=fun Γ Q=>m (a4U Γ) fun b Γ1=>Γ1=a4U Γ∧Q b Γ
def OwnA (F:Fra P0)(Γ:En)(σ:St)(G H:Hp)(b:Addr):Prop:=∃(i:Nat) (s:Sl) (fp:List Addr),Γ[i]?=some s∧SlF F G H σ[i]? fp s∧b∈fp
section
variable {F:Fra P0}{Γ:En}{σ:St}{G H:Hp}
open Classical in
noncomputable def a2G (F:Fra P0)(Γ:En)(σ:St)(G H:Hp):Hp:=fun b=>if OwnA F Γ σ G H b then H b else G b
noncomputable def pI (F:Fra P0)(Γ:En)(σ:St)(G H:Hp)(G1:Hp):Hp:=fun b=>open Classical in if OwnA F Γ σ G H b then none else G1 b
theorem OwnA.at {b:Addr}(h:OwnA F Γ σ G H b):F.H0 b=none∧G b=none∧∃ o,H b=some o:=by
 obtain⟨i,s,fp,_,e,hb⟩:=h;exact e.mine hb
theorem OwnA.tup {b:Addr}(h:OwnA F Γ σ G H b){xs:List V}(e:H b=some (.tup xs)):∃ q vs,V.ref q∈xs∧OwnA F Γ σ G H q∧H q=some (.lst vs):=by
 obtain⟨i,s,fp,e0,e1,hb⟩:=h
 cases s with
 | no=>rw[show fp=[] from e1] at hb; cases hb
 | val d=>rw[e1.1] at hb; cases hb
 | pen=>rw[e1.1] at hb; cases hb
 | con q=>rw[e1.1] at hb; cases hb
 | pub B=>rw[e1.1] at hb; cases hb
 | own ds=>
  obtain⟨p,vs,f0,_,_,_,f3,_⟩:=e1;rw[f0] at hb;rw[mem_singleton.mp hb,f3] at e
  cases e
 | box B=>
  have e1':=e1;obtain⟨v,_,h2,_⟩:=e1;obtain⟨q,q1,q2,vs,q3⟩:=B.nt h2 b hb xs e;exact⟨q,vs,q2,⟨i,_,fp,e0,e1',q1⟩,q3⟩
theorem R.pubAll (r:R F Γ σ G H):Same G (a2G F Γ σ G H)∧R F (a4U Γ) σ (a2G F Γ σ G H) H:=by
 have g:Same G (a2G F Γ σ G H):=fun b o e=>by
  unfold a2G
  by_cases h:OwnA F Γ σ G H b
  ·have:=h.at.2.1;rw[e] at this; cases this
  ·rw[if_neg h]; exact e
 have nob:∀(i:Nat) s,(a4U Γ)[i]?=some s→(∀ x,s≠.own x)∧∀ B,s≠.box B:=by
  intro i s e;unfold a4U at e;rw[getElem?_map] at e
  cases e0:Γ[i]? with
  | none=>rw[e0] at e; cases e
  | some s0=>
   rw[e0] at e
   cases s0 with
   | box B=>
    have e:(match B.view with|some d=>Sl.val d|none=>match B.pv with|some b=>Sl.pub b|none=>Sl.no)=s:=Option.some.inj e
    cases hv:B.view with
    | none=>
     cases hw:B.pv with
     | none=>rw[hv,hw] at e; subst e; exact⟨fun x z=>(nomatch z),fun x z=>(nomatch z)⟩
     | some b=>rw[hv,hw] at e; subst e; exact⟨fun x z=>(nomatch z),fun x z=>(nomatch z)⟩
    | some d=>rw[hv] at e; subst e; exact⟨fun x z=>(nomatch z),fun x z=>(nomatch z)⟩
   | _=>cases e; exact⟨fun x z=>(nomatch z),fun x z=>(nomatch z)⟩
 refine⟨g,R.of ⟨fun b o e=>?_,fun b o e=>?_,r.fr.h0,r.fr.pn⟩ ?_ (fun i s e=>?_) (fun i B e=>(nob i _ e).2 B rfl) (fun i j x y _ e=>((nob i _ e).1 x rfl).elim)⟩
 ·unfold a2G at e
  split at e
  ·exact e
  ·exact r.fr.sub b o e
 ·have h:¬OwnA F Γ σ G H b:=fun h=>by
   have:=h.at.1;rw[e] at this; cases this
  unfold a2G;rw[if_neg h];exact r.fr.g0 b o e
 ·unfold a4U;rw[length_map];exact r.len
 ·unfold a4U at e;rw[getElem?_map] at e
  cases e0:Γ[i]? with
  | none=>rw[e0] at e; cases e
  | some s0=>
   rw[e0] at e;have h:=r.sl i s0 e0
   cases s0 with
   | no=>cases e; trivial
   | val d=>cases e; obtain⟨v,e1,d1⟩:=h; exact⟨v,e1,Dt.same g _ _ d1⟩
   | own ds=>
    cases e
    obtain⟨p,vs,e1,e2,e3,e4,e5⟩:=h;refine⟨_,e1,.lst ?_ (Dts.same g _ _ e5)⟩;unfold a2G;rw[if_pos ⟨i,_,[p],e0,⟨p,vs,rfl,e1,e2,e3,e4,e5⟩,mem_singleton.mpr rfl⟩];exact e4
   | pen=>cases e; exact h
   | con q=>cases e; exact h
   | pub B=>cases e; obtain⟨v,e1,e2⟩:=h; exact⟨v,e1,B.mono g e2⟩
   | box B=>
    have e:(match B.view with|some d=>Sl.val d|none=>match B.pv with|some b=>Sl.pub b|none=>Sl.no)=s:=Option.some.inj e;obtain⟨v,fp,e1,e2,e3⟩:=h
    cases hv:B.view with
    | none=>
     cases hw:B.pv with
     | none=>rw[hv,hw] at e; subst e; trivial
     | some b0=>
      rw[hv,hw] at e;subst e;refine⟨v,e1,B.pok e2 hw g fun b hb=>?_⟩;unfold a2G;rw[if_pos ⟨i,_,fp,e0,⟨v,e1,e2,e3⟩,hb⟩]
    | some d=>
     rw[hv] at e;subst e;refine⟨v,e1,B.vok e2 hv g fun b hb=>?_⟩;unfold a2G;rw[if_pos ⟨i,_,fp,e0,⟨v,e1,e2,e3⟩,hb⟩]
theorem R.backG (r:R F Γ σ G H){G1 H1:Hp}(s:Same (a2G F Γ σ G H) G1)(f1:Rf F G1 H1) :
  (∀ b,OwnA F Γ σ G H b→G1 b=H b∧H1 b=H b)∧Same G (pI F Γ σ G H G1)∧Rf F (pI F Γ σ G H G1) H1∧aD5 G1 (pI F Γ σ G H G1):=by
 have s0:=(r.pubAll).1;have own:∀ b,OwnA F Γ σ G H b→G1 b=H b∧H1 b=H b:=fun b h=>by
  obtain⟨_,_,o,e⟩:=h.at;have q:a2G F Γ σ G H b=H b:=by unfold a2G; rw[if_pos h]
  rw[e] at q ⊢;exact⟨s b _ q,f1.sub b _ (s b _ q)⟩
 have g:Same G (pI F Γ σ G H G1):=fun b o e=>by
  have h:¬OwnA F Γ σ G H b:=fun h=>by
   have:=h.at.2.1;rw[e] at this; cases this
  unfold pI;rw[if_neg h];exact s b o (s0 b o e)
 refine⟨own,g,⟨fun b o e=>?_,fun b o e=>?_,f1.h0,f1.pn⟩,fun b xs e=>?_⟩
 ·unfold pI at e
  split at e
  ·cases e
  ·exact f1.sub b o e
 ·have h:¬OwnA F Γ σ G H b:=fun h=>by
   have:=h.at.1;rw[e] at this; cases this
  unfold pI;rw[if_neg h];exact f1.g0 b o e
 ·by_cases h:OwnA F Γ σ G H b
  ·have e':H b=some (.tup xs):=by rw[← (own b h).1]; exact e
   obtain⟨q,vs,q1,q2,q3⟩:=h.tup e';exact .inr ⟨q,vs,q1,by rw[(own q q2).1]; exact q3⟩
  ·refine .inl ?_;unfold pI;rw[if_neg h];exact e
theorem a74 {G1:Hp}{b:Addr}(h:OwnA F Γ σ G H b):pI F Γ σ G H G1 b=none:=by
 unfold pI;rw[if_pos h]
theorem R.back (r:R F Γ σ G H){G' H':Hp}(s:Same (a2G F Γ σ G H) G')(r':R F (a4U Γ) σ G' H'):Same G (pI F Γ σ G H G')∧R F Γ σ (pI F Γ σ G H G') H'∧aD5 G' (pI F Γ σ G H G'):=by
 obtain⟨own,g,f,t⟩:=r.backG s r'.fr;obtain⟨fps,h1,h2⟩:=r.fps;refine⟨g,⟨f,r.len,fps,fun i sl e=>(h1 i sl e).go g fun b hb=>?_,h2⟩,t⟩;have ho:OwnA F Γ σ G H b:=⟨i,sl,fps i,e,h1 i sl e,hb⟩;exact⟨a74 ho,(own b ho).2⟩
end
theorem a96 {t:TT}{m:MT}(h:VTT P0 t m):VTT P0 t (a4Y m):=by
 intro F Γ σ G H Q Qm r hm k;obtain⟨s0,r0⟩:=r.pubAll;refine h F _ σ _ H _ _ r0 hm fun b Γ1 G1 H1 m1 s1 r1=>?_;obtain⟨rfl,q⟩:=m1;obtain⟨s2,r2,t2⟩:=r.back s1 r1;exact k _ _ _ _ q s2 r2
section
variable {ta tb:TE}{ma mb:ME}
abbrev a3V:=mI0 fun i j=>PyData.int (i+j)
abbrev a9N:=mI0 fun i j=>PyData.int (i-j)
abbrev a1K:=mI IntMulOk fun i j=>PyData.int (i*j)
abbrev a2P:=mI a83 fun i j=>PyData.int (i.fdiv j)
abbrev aG7:=mI (fun _ j=>0<j) fun i j=>PyData.int (i%j)
abbrev aE9:=mU fun i=>PyData.int (-i)
abbrev mLt:=mI0 fun i j=>PyData.bool (decide (i<j))
abbrev mLe:=mI0 fun i j=>PyData.bool (decide (i≤j))
abbrev mGt:=mI0 fun i j=>PyData.bool (decide (j<i))
abbrev mGe:=mI0 fun i j=>PyData.bool (decide (j≤i))
theorem mQ (ha:VT P0 ta ma)(hb:VT P0 tb mb):VT P0 (tOp (rI0 fun i j=>.int (i+j)) ta tb) (a3V ma mb):=a2X (fun _ _ _=>.int _) ha hb
theorem sV (ha:VT P0 ta ma)(hb:VT P0 tb mb):VT P0 (tOp (rI0 fun i j=>.int (i-j)) ta tb) (a9N ma mb):=a2X (fun _ _ _=>.int _) ha hb
theorem jZ (ha:VT P0 ta ma)(hb:VT P0 tb mb):VT P0 (tOp (rI IntMulOk fun i j=>.int (i*j)) ta tb) (a1K ma mb):=aGA (fun _ _ _=>.int _) ha hb
theorem sY (ha:VT P0 ta ma)(hb:VT P0 tb mb):VT P0 (tOp (rI a83 fun i j=>.int (i.fdiv j)) ta tb) (a2P ma mb):=aGA (fun _ _ _=>.int _) ha hb
theorem a6E (ha:VT P0 ta ma)(hb:VT P0 tb mb):VT P0 (tOp (rI (fun _ j=>0<j) fun i j=>.int (i%j)) ta tb) (aG7 ma mb):=aGA (fun _ _ _=>.int _) ha hb
theorem a0R (ha:VT P0 ta ma):VT P0 (tUn (rU fun i=>.int (-i)) ta) (aE9 ma):=aJM (fun _ _=>.int _) ha
theorem zW (ha:VT P0 ta ma)(hb:VT P0 tb mb):VT P0 (tOp (rI0 fun i j=>.bl (decide (i<j))) ta tb) (mLt ma mb):=a2X (fun _ _ _=>.bl _) ha hb
theorem aEG (ha:VT P0 ta ma)(hb:VT P0 tb mb):VT P0 (tOp (rI0 fun i j=>.bl (decide (i≤j))) ta tb) (mLe ma mb):=a2X (fun _ _ _=>.bl _) ha hb
theorem a87 (ha:VT P0 ta ma)(hb:VT P0 tb mb):VT P0 (tOp (rI0 fun i j=>.bl (decide (j<i))) ta tb) (mGt ma mb):=a2X (fun _ _ _=>.bl _) ha hb
theorem aIM (ha:VT P0 ta ma)(hb:VT P0 tb mb):VT P0 (tOp (rI0 fun i j=>.bl (decide (j≤i))) ta tb) (mGe ma mb):=a2X (fun _ _ _=>.bl _) ha hb
theorem aG {i:Int}:VT P0 (tC (.int i)) (mC (.int i)):=aG8 fun _=>.int i
theorem nH {b:Bool}:VT P0 (tC (.bl b)) (mC (.bool b)):=aG8 fun _=>.bl b
theorem bV {s:Str}:VT P0 (tC (.str s)) (mC (.str s)):=aG8 fun _=>.str s
theorem jJ:VT P0 (tC .non) (mC .none):=aG8 fun _=>.non
end
end
section
def pF:Fl→Prop:=fun fl=>fl=.rt (.val (.bool true))
end
end L2.VS
namespace L2.VS
open PySem PySem.Spec PyProof.Rows LT
section
variable {Γ:En}{i j n:Nat}{d e x y:D}{ma mb:ME}{oa ob:MO}{ta tb:MT}{md:MD}{aa:MA}{sa sb:MS}{g:MG}{gs:MGs}{mp mq:MP}
theorem aHR {Q:Fl→Prop}(h:sa Γ fun fl=>match fl with|.nx Γ1=>sb Γ1 Q|fl=>Q fl):cW sa sb Γ Q:=h
theorem aKC {Q:Fl→Prop}(h:Q (.nx Γ)):mNx Γ Q:=h
theorem aE6 {Q:Fl→Prop}(h:ma Γ fun _ Γ1=>Q (.nx Γ1)):a7Q ma Γ Q:=h
theorem aIC {Q:Fl→Prop}(h:oa Γ fun rv Γ1=>Q (.nx (Γ1.set i rv.sl))):gF i oa Γ Q:=h
theorem aGI {Q:Fl→Prop}(h:ma Γ fun d Γ1=>g d Γ1 fun Γ2=>Q (.nx Γ2)):aI0 ma g Γ Q:=h
theorem aHJ {Q:Fl→Prop}(h:md Γ fun ds Γ1=>match ds with|[d,e]=>Q (.nx ((Γ1.set i (.val d)).set j (.val e)))|_=>False):aGE i j md Γ Q:=h
theorem aHS {Q:Fl→Prop}(h:oa Γ fun rv _=>Q (.rt rv)):nR oa Γ Q:=h
theorem aJX {Q:Fl→Prop}(h:ta Γ fun k Γ1=>if k=true then sa Γ1 Q else sb Γ1 Q):mIf ta sa sb Γ Q:=h
theorem aGR {Q:Fl→Prop}(h:md Γ fun ds Γ1=>forL g sa ds Γ1 Q):aCC md g sa Γ Q:=h
def aK5 (i:Nat)(d:D)(Γ1:En)(Q:Fl→Prop):Prop:=match Γ1[i]? with
 | some (.own ds)=>ds.length<1000∧Q (.nx (Γ1.set i (.own (ds++[d]))))
 | _=>False
theorem a8P {Q:Fl→Prop}{ds:List D}(h0:Γ[i]?=some (.own ds))(h:ma Γ fun d Γ1=>aK5 i d Γ1 Q):kY i ma Γ Q:=by
 unfold kY;rw[h0];exact h
theorem i_c {Q:D→En→Prop}(h:Q d Γ):mC d Γ Q:=h
theorem aI3 {Q:D→En→Prop}(h0:Γ[i]?=some (.val d))(h:Q d Γ):aX i Γ Q:=by
 unfold aX;rw[h0];exact h
theorem aK8 {f:Int→Int→D}{Q:D→En→Prop}(h:ma Γ fun x Γ1=>mb Γ1 fun y Γ2=>match x,y with|.int i,.int j=>Q (f i j) Γ2|_,_=>False):mI0 f ma mb Γ Q:=h
theorem i_I {C:Int→Int→Prop}{f:Int→Int→D}{Q:D→En→Prop}(h:ma Γ fun x Γ1=>mb Γ1 fun y Γ2=>match x,y with|.int i,.int j=>C i j∧Q (f i j) Γ2|_,_=>False):mI C f ma mb Γ Q:=h
theorem i_U {f:Int→D}{Q:D→En→Prop}(h:ma Γ fun x Γ1=>match x with|.int i=>Q (f i) Γ1|_=>False):mU f ma Γ Q:=h
theorem aIH {Q:D→En→Prop}(h:ma Γ fun x Γ1=>match x with|.int i=>Q (.int (if i<0 then -i else i)) Γ1|_=>False):aCA ma Γ Q:=h
theorem aKA {Q:D→En→Prop}(h:ma Γ fun x Γ1=>mb Γ1 fun y Γ2=>Good x∧Good y∧Q (.bool (PyData.eqv x y)) Γ2):mEq ma mb Γ Q:=h
theorem aJO {Q:D→En→Prop}(h:ma Γ fun x Γ1=>mb Γ1 fun y Γ2=>Good x∧Good y∧Q (.bool (!PyData.eqv x y)) Γ2):mNe ma mb Γ Q:=h
theorem aCU {Q:D→En→Prop}(h:ma Γ fun x Γ1=>Q (.bool (!isN x)) Γ1):aB2 ma Γ Q:=h
theorem aFI {Q:D→En→Prop}(h:ma Γ fun x Γ1=>match x with|.bool c=>if c=true then mb Γ1 Q else Q (.bool false) Γ1|_=>False):sZ ma mb Γ Q:=h
theorem aCW {Q:D→En→Prop}(h:ma Γ fun x Γ1=>match x with|.bool c=>Q (.bool (!c)) Γ1|_=>False):aC0 ma Γ Q:=h
theorem aHG {Q:Bool→En→Prop}(h:ma Γ fun x Γ1=>match x with|.bool c=>Q c Γ1|_=>False):fO ma Γ Q:=h
theorem aHT {Q:Bool→En→Prop}(h:ta Γ fun c Γ1=>if c=true then tb Γ1 Q else Q false Γ1):aDE ta tb Γ Q:=h
theorem aK7 {Q:Bool→En→Prop}(h:ta Γ fun c Γ1=>if c=true then Q true Γ1 else tb Γ1 Q):mOr ta tb Γ Q:=h
theorem aGN {Q:Bool→En→Prop}(h:ta Γ fun c Γ1=>Q (!c) Γ1):zJ ta Γ Q:=h
theorem aGF {Q:List D→En→Prop}(h:Q [] Γ):cF Γ Q:=h
theorem aEY {Q:List D→En→Prop}(h:ma Γ fun x Γ1=>md Γ1 fun xs Γ2=>Q (x::xs) Γ2):aH ma md Γ Q:=h
theorem aFS {Q:List Sl→En→Prop}(h:Q [] Γ):dG Γ Q:=h
theorem aEV {Q:List Sl→En→Prop}(h:ma Γ fun x Γ1=>aa Γ1 fun xs Γ2=>Q (.val x::xs) Γ2):cT ma aa Γ Q:=h
theorem aI8 {Q:D→En→Prop}(h:md Γ fun ds Γ1=>ds.length≤1000∧Q (.tuple ds) Γ1):dM md Γ Q:=h
theorem aGQ {Q:Rv→En→Prop}(h:md Γ fun ds Γ1=>ds.length≤1000∧Q (.own ds) Γ1):jD md Γ Q:=h
theorem aKB {Q:D→En→Prop}(h:ma Γ fun x Γ1=>mb Γ1 fun y Γ2=>oQ (ixD x y) fun d=>Q d Γ2):mIx ma mb Γ Q:=h
theorem aHB {Q:D→En→Prop}(h:ma Γ fun x Γ1=>oQ (aG1 x) fun d=>Q d Γ1):a8H ma Γ Q:=h
theorem aII {s:String}{Q:D→En→Prop}(h:ma Γ fun x Γ1=>Q (.bool (a00 (iY x) s)) Γ1):a8X s ma Γ Q:=h
theorem aHP {Q:D→En→Prop}(h:oa Γ fun rv Γ1=>nbQ rv (Q rv.d Γ1)):cA oa Γ Q:=h
theorem aGH {Q:Rv→En→Prop}(h:ma Γ fun d Γ1=>Q (.val d) Γ1):cZ ma Γ Q:=h
theorem aCZ {Q:Rv→En→Prop}{ds:List D}(h0:Γ[i]?=some (.own ds))(h:Q (.own ds) (Γ.set i .no)):a6J i Γ Q:=by
 unfold a6J;rw[h0];exact h
theorem aD7 {f:Fm}{Q:Rv→En→Prop}(h:aa Γ fun as Γ1=>as.length=n∧f as fun rv=>Q rv Γ1):dX n f aa Γ Q:=h
theorem a8K {Q:Rv→En→Prop}(h:ma Γ fun x Γ1=>match a0H x with|some ds=>Q (.own ds) Γ1|none=>False):rZ ma Γ Q:=h
theorem aH2 {Q:Rv→En→Prop}(h:ma Γ fun x Γ1=>mp Γ1 fun lo Γ2=>mq Γ2 fun hi Γ3=>match x with|.list ds=>Q (.own (cutD ds lo hi)) Γ3|_=>False):a7D ma mp mq Γ Q:=h
theorem aG9 {Q:Option Int→En→Prop}(h:Q none Γ):pNo Γ Q:=h
theorem aI7 {Q:Option Int→En→Prop}(h:ma Γ fun x Γ1=>match x with|.int i=>Q (some i) Γ1|_=>False):pSo ma Γ Q:=h
theorem aGV {Q:Rv→En→Prop}(h:ma Γ fun x Γ1=>mb Γ1 fun y Γ2=>match x,y with|.list ds,.list es=>ds.length+es.length≤1000∧Q (.own (ds++es)) Γ2|_,_=>False):vG ma mb Γ Q:=h
theorem aBZ {Q:Bool→En→Prop}(h:ta (a4U Γ) fun b Γ1=>Γ1=a4U Γ∧Q b Γ):a4Y ta Γ Q:=h
theorem aHO {Q:List D→En→Prop}(h:ma Γ fun x Γ1=>match x with|.list ds=>Q ds Γ1|_=>False):aGB ma Γ Q:=h
theorem aH0 {Q:List D→En→Prop}(h:ma Γ fun x Γ1=>match x with|.tuple ds=>Q ds Γ1|_=>False):aGO ma Γ Q:=h
theorem aCS {Q:List D→En→Prop}(h:md Γ fun ds Γ1=>match ds with|[.int j] => -(2^62)≤j∧j<2^62∧Q (mL 0 j.toNat) Γ1|_=>False):a3B md Γ Q:=h
theorem aJQ {Q:En→Prop}(h:Q (Γ.set i (.val d))):gN i d Γ Q:=h
theorem aJV {Q:En→Prop}{ds:List D}(hl:ds.length=n)(h:gs ds Γ Q):gT n gs (.tuple ds) Γ Q:=⟨hl,h⟩
theorem aAD {Q:En→Prop}(h:Q Γ):a85 [] Γ Q:=h
theorem a8A {Q:En→Prop}{ds:List D}(h:g d Γ fun Γ1=>gs ds Γ1 Q):uK g gs (d::ds) Γ Q:=h
theorem wA {k:Nat}{as:List Sl}{Q:Rv→Prop}(h:sa (as++List.replicate k .no) fun fl=>match fl with|.rt rv=>Q rv|.nx _=>Q (.val .none)|_=>False):mFn k sa as Q:=h
theorem dF {o:Option D}{k:D→Prop}(h0:o=some d)(h:k d):oQ o k:=by rw[h0]; exact h
structure KOk (I:En→Prop)(Q K:Fl→Prop):Prop where
 nx:∀ Γ,I Γ→K (.nx Γ)
 ct:∀ Γ,I Γ→K (.ct Γ)
 bk:∀ Γ,Q (.nx Γ)→K (.bk Γ)
 rt:∀ rv,Q (.rt rv)→K (.rt rv)
theorem a5K {ds:List D}{Q:Fl→Prop}(I:Nat→En→Prop)(h0:I 0 Γ)(hs:∀ i d Γ K,ds[i]?=some d→I i Γ→KOk (I (i+1)) Q K→g d Γ fun Γ1=>sa Γ1 K)(he:∀ Γ,I ds.length Γ→Q (.nx Γ)):forL g sa ds Γ Q:=by
 have aux:∀(es:List D) (k:Nat) (Γ:En),(∀ i d,es[i]?=some d→ds[k+i]?=some d)→k+es.length=ds.length→I k Γ→forL g sa es Γ Q:=by
  intro es
  induction es with
  | nil=>intro k Γ _ hl hi; exact he Γ (by rw[← hl]; simpa using hi)
  | cons d es ih=>
   intro k Γ hd hl hi;have next:∀ Γ2,I (k+1) Γ2→forL g sa es Γ2 Q:=fun Γ2 h3=>ih (k+1) Γ2 (fun i e he'=>by
    have:=hd (i+1) e (by simpa using he');rw[show k+1+i=k+(i+1) by omega]; exact this) (by rw[← hl,length_cons]; omega) h3
   exact hs k d Γ _ (by simpa using hd 0 d rfl) hi ⟨next,next,fun _ h=>h,fun _ h=>h⟩
 exact aux ds 0 Γ (fun i d h=>by simpa using h) (by simp) h0
theorem wX {lo:Int}{n:Nat}{Q:Fl→Prop}(I:Nat→En→Prop)(h0:I 0 Γ)(hs:∀ i Γ K,i<n→I i Γ→KOk (I (i+1)) Q K→g (.int (lo+i)) Γ fun Γ1=>sa Γ1 K)(he:∀ Γ,I n Γ→Q (.nx Γ)):forL g sa (mL lo n) Γ Q:=by
 have hl:(mL lo n).length=n:=by simp[mL]
 refine a5K I h0 (fun i d Γ K e hi hk=>?_) (by rw[hl]; exact he);have hi':i<n:=by have:=(List.getElem?_eq_some_iff.mp e).1; omega
 unfold mL at e;rw[getElem?_map,getElem?_range hi'] at e
 cases e
 exact hs i Γ K hi' hi hk
theorem yF {Q:Fl→Prop}(I:Nat→En→Prop)(m0:Nat)(h0:I m0 Γ)(hs:∀ m Γ,I m Γ→ta Γ fun k Γ1=>if k=true then sa Γ1 fun fl=>match fl with
  | .nx Γ2=>∃ n',n'<m∧I n' Γ2
  | .ct Γ2=>∃ n',n'<m∧I n' Γ2
  | .bk Γ2=>Q (.nx Γ2)
  | .rt rv=>Q (.rt rv)
 else Q (.nx Γ1)):a0Z ta sa Γ Q:=⟨I,⟨m0,h0⟩,hs⟩
end
theorem aGK {A B:Prop}(h:B):if (!true)=true then A else B:=zL h
theorem aHA {A B:Prop}(h:A):if (!false)=true then A else B:=a1C h
theorem good_int (i:Int):Good (.int i):=⟨rfl,by show 0≤60; decide⟩
theorem aBL (i j:Int):PyData.eqv (.int i) (.int j)=decide (i=j):=by
 show(i==j)=_
 exact Bool.beq_eq_decide_eq i j
section
variable {P:D→Prop}{Γ:En}{Q:D→En→Prop}
end
def Gd (n:Nat)(d:D):Prop:=d.canLay0=true∧d.depth≤n
theorem Gd.good {n:Nat}{d:D}(h:Gd n d)(hn:n≤60:=by decide):Good d:=⟨h.1,le_trans h.2 hn⟩
theorem Gd.mono {n m:Nat}{d:D}(h:Gd n d)(hn:n≤m:=by decide):Gd m d:=⟨h.1,le_trans h.2 hn⟩
theorem gds {n:Nat}:∀{ds:List D},(∀ d∈ds,Gd n d)→PyData.canLayAll0 ds=true∧PyData.depthAll ds≤n
 | [],_=>⟨rfl,zero_le _⟩
 | d::ds,h=>by
  have h1:=h d mem_cons_self;have h2:=gds (ds:=ds) fun e he=>h e (mem_cons_of_mem _ he);refine⟨by show(d.canLay0&&PyData.canLayAll0 ds)=true; rw[h1.1,h2.1]; rfl,?_⟩;show max d.depth (PyData.depthAll ds)≤n;exact Nat.max_le.mpr ⟨h1.2,h2.2⟩
theorem a0B {n:Nat}{ds:List D}(h:∀ d∈ds,Gd n d):Gd (n+1) (.tuple ds):=⟨(gds h).1,Nat.succ_le_succ (gds h).2⟩
theorem a72 {n:Nat}{ds:List D}(h:∀ d∈ds,Gd n d):Gd (n+1) (.list ds):=⟨(gds h).1,Nat.succ_le_succ (gds h).2⟩
theorem yJ (i:Int):Gd 0 (.int i):=⟨rfl,le_refl _⟩
theorem a0O (s:Str)(h:(PyData.str s).canLay0=true:=by decide +kernel):Gd 0 (.str s):=⟨h,le_refl _⟩
theorem good_str (s:Str)(h:(PyData.str s).canLay0=true:=by decide +kernel):Good (.str s):=(a0O s h).good
theorem uW (q:Rat):Gd 1 (cD q):=a0B (n:=0) fun d h=>by
 rcases mem_cons.mp h with rfl|h
 ·exact yJ _
 ·rw[mem_singleton.mp h]; exact yJ _
theorem a0F {d:D}(h:Good d):PyData.eqv d d=true:=SeqAt.eqv_refl d h.lay
theorem isT {d:D}{n:String}{A B:Prop}(h:a00 (iY d) n=true)(a:A):if a00 (iY d) n=true then A else B:=by rw[h]; exact a1C a
theorem isF {d:D}{n:String}{A B:Prop}(h:a00 (iY d) n=false)(b:B):if a00 (iY d) n=true then A else B:=by rw[h]; exact zL b
theorem aKE {d:D}{n:String}{A B:Prop}(h:a00 (iY d) n=true)(b:B):if (!a00 (iY d) n)=true then A else B:=by rw[h]; exact zL b
theorem aJW {d:D}{n:String}{A B:Prop}(h:a00 (iY d) n=false)(a:A):if (!a00 (iY d) n)=true then A else B:=by rw[h]; exact a1C a
theorem aA4 (q:Rat):ixD (cD q) (.int 0)=some (.int q.num):=rfl
theorem aA8 (q:Rat):ixD (cD q) (.int 1)=some (.int (q.den:Int)):=rfl
theorem a97 (l:Rat×Rat):ixD (jV l) (.int 0)=some (cD l.1):=rfl
theorem a82 (l:Rat×Rat):ixD (jV l) (.int 1)=some (cD l.2):=rfl
end L2.VS
namespace L2
open PySem PySem.Spec PyProof.Rows
def zR (env:Env):List (Str×NameKind)→List (Str×Addr)→List (Str×Addr)
 | [],cs=>cs
 | (n,k)::r,cs=>if (k==.free)=true then zR env r ((n,(env.cells.lookup n).getD 0)::cs) else zR env r cs
theorem a5A {env:Env}:∀(names:List (Str×NameKind)) (cs:List (Str×Addr)),(∀ y∈names,y.2=.free→∃ c,env.cells.lookup y.1=some c) →
  (forIn names cs fun(x:Str×NameKind) (r:List (Str×Addr))=>(do
   if (x.2==NameKind.free)=true then do
    let a←cellOf env x.1
    pure (ForInStep.yield ((x.1,a)::r))
   else pure (ForInStep.yield r):Sem (ForInStep (List (Str×Addr)))))=pure (zR env names cs)
 | [],cs,_=>rfl
 | (n,k)::r,cs,h=>by
  have ih:=fun cs=>a5A (env:=env) r cs fun y hy=>h y (mem_cons_of_mem _ hy);rw[forIn_cons];unfold zR
  by_cases hk:(k==NameKind.free)=true
  ·obtain⟨c,hc⟩:=h (n,k) mem_cons_self (by simpa using hk);have hc':env.cells.lookup n=some c:=hc;have e:cellOf env n=pure c:=by unfold cellOf; rw[hc']
   simp only[hk,if_true,e,hc',Option.getD_some];simp only[pure_bind];exact ih _
  ·have hk':(k==NameKind.free)=false:=by simpa using hk
   simp only[hk',false_eq_true,if_false,pure_bind];exact ih _
theorem a6U {scope:Scope}{env:Env}(h:∀ y∈scope.names,y.2=.free→∃ c,env.cells.lookup y.1=some c):closureFor scope env=pure (zR env scope.names []):=by
 have e:=a5A (env:=env) scope.names [] h;unfold closureFor;rw[← e];simp only[bind_pure]
theorem o6 {env:Env}:∀(names:List (Str×NameKind)) (cs:List (Str×Addr)),(∀ y∈names,y.2=.free→∃ c,env.cells.lookup y.1=some c)→(∀ x c,cs.lookup x=some c→env.cells.lookup x=some c) →
  ∀ x c,(zR env names cs).lookup x=some c→env.cells.lookup x=some c
 | [],cs,_,h=>h
 | (n,k)::r,cs,hf,h=>by
  have ih:=fun cs=>o6 (env:=env) r cs fun y hy=>hf y (mem_cons_of_mem _ hy);unfold zR
  by_cases hk:(k==NameKind.free)=true
  ·rw[if_pos hk];obtain⟨c0,hc⟩:=hf (n,k) mem_cons_self (by simpa using hk);have hc':env.cells.lookup n=some c0:=hc;refine ih _ fun x c e=>?_;rw[lookup_cons] at e
   cases hx:x==n with
   | true=>
    rw[hx,hc'] at e;have:x=n:=by simpa using hx
    rw[this,hc'];exact e
   | false=>rw[hx] at e; exact h x c e
  ·rw[if_neg hk];exact ih _ h
theorem rT {env:Env}:∀(names:List (Str×NameKind)) (cs:List (Str×Addr)) (x:Str),((∃ k,(x,k)∈names∧k=.free)∨(cs.lookup x).isSome=true)→((zR env names cs).lookup x).isSome=true
 | [],cs,x,h=>by
  rcases h with⟨k,hm,_⟩|h
  ·cases hm
  ·exact h
 | (n,k)::r,cs,x,h=>by
  unfold zR
  by_cases hk:(k==NameKind.free)=true
  ·rw[if_pos hk];refine rT r _ x ?_
   by_cases hx:x=n
   ·right
    rw[lookup_cons,hx];simp
   ·rcases h with⟨k',hm,hf⟩|h
    ·rcases mem_cons.mp hm with e|hm
     ·cases e; exact absurd rfl hx
     ·exact .inl ⟨k',hm,hf⟩
    ·right
     rw[lookup_cons];have:(x==n)=false:=by simpa using hx
     rw[this];exact h
  ·rw[if_neg hk];refine rT r _ x ?_;rcases h with⟨k',hm,hf⟩|h
   ·rcases mem_cons.mp hm with e|hm
    ·cases e; subst hf; exact absurd rfl hk
    ·exact .inl ⟨k',hm,hf⟩
   ·exact .inr h
theorem lN {env:Env}:∀{names:List (Str×NameKind)} {x:Str},(∀ y∈names,y.2≠.cell) →
    ((names.map fun(n,k)=>if (k==NameKind.free&&env.scope.kind==.function&&env.kindOf n==some .cell) then(n,NameKind.cell) else(n,k)).lookup x=some .cell ∨
     (names.map fun(n,k)=>if (k==NameKind.free&&env.scope.kind==.function&&env.kindOf n==some .cell) then(n,NameKind.cell) else(n,k)).lookup x=some .free)→(x,NameKind.free)∈names
  | [],_,_,h=>by simp at h
  | (n,k)::r,x,hc,h=>by
    have ih:=@lN env r x (fun y hy=>hc y (mem_cons_of_mem _ hy));have hk:k≠.cell:=hc (n,k) mem_cons_self;rw[map_cons] at h
    by_cases hf:(k==NameKind.free&&env.scope.kind==.function&&env.kindOf n==some .cell)=true
    · have kf:k=.free:=by
        have:=(and_eq_true _ _▸hf:_∧_).1;have:=(and_eq_true _ _▸this:_∧_).1;simpa using this
      simp only[hf,if_true] at h;rw[lookup_cons] at h
      cases hx:x==n with
      | true=>
        have:x=n:=by simpa using hx
        subst this; subst kf;exact mem_cons_self
      | false=>rw[hx] at h; exact mem_cons_of_mem _ (ih h)
    · simp only[hf,false_eq_true,if_false] at h;rw[lookup_cons] at h
      cases hx:x==n with
      | true=>
        have:x=n:=by simpa using hx
        subst this;rw[hx] at h;rcases h with h|h
        · exact absurd (Option.some.inj h) hk
        · have:k=.free:=Option.some.inj h;subst this;exact mem_cons_self
      | false=>rw[hx] at h; exact mem_cons_of_mem _ (ih h)
def iJ (X:Cx)(N:List Str)(scope:Scope)(C:Addr)(s₀:Shared)(H₀:Hp)(ex:List Addr):Cx where
 prog:=X.prog
 w:=X.w
 K:=X.K
 mg:=X.mg
 base:=X.base
 A:=X.A
 N:=N
 s₀:=s₀
 H₀:=H₀
 env:=compEnvC scope (zR X.env scope.names []) C X.env
 outer:=X.stack
 stack:=X.stack
 ex:=ex
 fn:=fun _=>false
 calm:=X.calm
 pn:=[]
 xe:=fun _ _=>False
def blk (nt:Nat)(fv:List Nat)(σ:St):St:=List.replicate nt none++fv.map fun j=>(σ[j]?).getD none
def aA5 (nt:Nat)(fv:List Nat)(wi:TI)(g:TG)(ti:TT)(te:TE):TE:=fun σ H Q=>wi σ H fun J H1=>∃ W:Nat→Nat→List V→Hp→Prop,(∃ m,W 0 m [] H1)∧∀ i m ys H,W i m ys H →
 (J.stop i H∧ys.length≤sizeLine∧∀ p,H p=none→Q (.ref p) (upd H p (.lst ys))) ∨
 (J.go i H∧ys.length≤sizeLine∧∀ x H',J.yld i H x H'→g x (blk nt fv σ) H' fun σ2 H2=>(∀ i,nt≤i→σ2[i]?=(blk nt fv σ)[i]?)∧ti σ2 H2 fun b H3=>if b=true then te σ2 H3 fun v H4=>∃ m',m'<m∧W (i+1) m' (ys++[v]) H4 else ∃ m',m'<m∧W (i+1) m' ys H3)
def PTs (X:Cx)(cs:List Expr)(t:TT):Prop:=
 ∀(pins:List (Addr×Obj)) (s:Shared) (σ:St) (H:Hp) (Q:Bool→Hp→Prop),Inv X pins σ H s→t σ H Q →
  wpAny (model X.prog X.w) X.A (forIn cs true fun c r=>if r=true then do let ok←isTrue c X.env (eval c X.env); pure (ForInStep.yield ok) else pure (ForInStep.yield r)) (TP X pins σ Q) X.xe s
def aDW:TT:=fun _ H Q=>Q true H
theorem a4H {X:Cx}:PTs X [] aDW:=fun _ _ _ H _ I h=>wpAny_tests_nil ⟨H,I,h⟩
theorem a5Y {X:Cx}{c:Expr}{t:TT}(h:PT X c t):PTs X [c] t:=fun pins s σ H Q I hq=>wpAny_tests_one (h pins s σ H Q I hq)
structure BlkOk (X:Cx)(N:List Str)(scope:Scope)(nt:Nat)(fv:List Nat):Prop where
 kind:scope.kind=.function
 ncell:∀ y∈scope.names,y.2≠.cell
 names:∀ y∈scope.names,y.2=.local→scope.names.lookup y.1=some .local
 free:∀ y∈scope.names,y.2=.free→X.env.kindOf y.1=some .cell
 len:N.length=nt+fv.length
 fv:∀ i x,N[nt+i]?=some x→∃ j,fv[i]?=some j∧X.N[j]?=some x∧X.env.kindOf x=some .cell∧(relabel scope X.env).names.lookup x=some .cell
section
variable {X:Cx}{N:List Str}{scope:Scope}{nt:Nat}{fv:List Nat}{pins:List (Addr×Obj)}{σ:St}{H:Hp}{s:Shared}
theorem BlkOk.cells (B:BlkOk X N scope nt fv)(I:Inv X pins σ H s):∀ y∈scope.names,y.2=.free→∃ c,X.env.cells.lookup y.1=some c:=fun y hy hf=>I.ok.has y.1 (.inl (B.free y hy hf))
theorem aCE (B:BlkOk X N scope nt fv)(I:Inv X pins σ H s){C:Addr}{fp:List Addr}(hC:s.heap.objs.size≤C)(hf:∀ b∈fp,a3E X pins H b)(hlt:∀ b∈fp,b<s.heap.objs.size) :
  (iJ X N scope C s H fp).Ok:=by
 have sub:∀ x c,(zR X.env scope.names []).lookup x=some c→X.env.cells.lookup x=some c:=o6 _ _ (B.cells I) (fun x c e=>by simp at e);refine⟨I.ok.mod,B.kind,I.ok.glob,I.ok.blt,hC,fun x y c e1 e2=>I.ok.inj x y c (sub x c e1) (sub y c e2),fun x hx=>?_,fun x c h=>absurd h (by show ¬(false=true); decide),I.ok.hd,I.ok.frames,.inl rfl,fun b hb=>⟨?_,fun x c e=>?_⟩,I.bs,le_trans I.ok.bsz I.sz,fun b o e hb=>?_,fun b hb z=>?_,I.stack,I.stkFree⟩
 ·have hm:(x,NameKind.free)∈scope.names:=lN B.ncell hx;exact isSome_iff_exists.mp (rT scope.names [] x (.inl ⟨_,hm,rfl⟩))
 ·exact ne_of_lt (lt_of_lt_of_le (hlt b hb) hC)
 ·exact(hf b hb).2.2.2.2.1 x c (sub x c e)
 ·rcases(hf b hb).2.2.2.1 with z|z
  ·exact I.ok.noex b o e z
  ·exact absurd (lt_of_lt_of_le (lt_size e) (le_trans I.ok.bsz z)) (lt_irrefl _)
 ·rcases mem_cons.mp (I.stkSub b z) with z|z
  ·exact(hf b hb).2.1 z
  ·exact(hf b hb).2.2.1 z
theorem a5W (B:BlkOk X N scope nt fv)(I:Inv X pins σ H s){C:Addr}{fp:List Addr}(hC:s.heap.objs.size≤C)(hf:∀ b∈fp,a3E X pins H b)(hlt:∀ b∈fp,b<s.heap.objs.size){h':Heap}{tk:Nat}
  (k:∀ b o,s.heap.get? b=some o→h'.get? b=some o) (hn:∃ m,h'.Ns C m):Inv (iJ X N scope C s H fp) [] (blk nt fv σ) H { s with heap:=h',toks:=tk }:=by
 have sub:∀ x c,(zR X.env scope.names []).lookup x=some c→X.env.cells.lookup x=some c:=o6 _ _ (B.cells I) (fun x c e=>by simp at e);obtain⟨m,hn⟩:=hn;refine⟨aCE B I hC hf hlt,rfl,I.bare,Un.kept k,⟨m,hn,fun i x v e1 e2 e3=>?_⟩,fun x c e=>?_,I.hok.fresh hC,fun x c e=>I.freeC x c (sub x c e),fun p hp=>(nomatch hp),I.hok.kept k,?_⟩
 ·have hi:nt≤i:=by
   refine Nat.le_of_not_lt fun hlt=>?_;unfold blk at e2;rw[getElem?_append_left (by simpa using hlt),getElem?_replicate] at e2
   split at e2<;>cases e2
  obtain⟨j,hj⟩:∃ j,i=nt+j:=⟨i-nt,by omega⟩;subst hj;obtain⟨o,f1,f2,f3,f4⟩:=B.fv j x e1;unfold blk at e2;rw[getElem?_append_right (by simp),length_replicate,Nat.add_sub_cancel_left,getElem?_map,f1] at e2;have e2':(σ[o]?).getD none=some v:=Option.some.inj e2;have e4:σ[o]?=some (some v):=by
   cases q:σ[o]? with
   | none=>rw[q] at e2'; cases e2'
   | some z=>rw[q] at e2'; exact congrArg some e2'
  obtain⟨m0,hn0,hl⟩:=I.loc;obtain⟨u,ru,lk⟩:=hl o x v f2 e4 (.inr (.inl f3));refine⟨u,ru,.inr ⟨.inl f4,?_⟩⟩;rcases lk with⟨z,_⟩|⟨_,c,hc,hcell⟩
  ·rw[f3] at z; cases z
  ·have hm:(x,NameKind.free)∈scope.names:=lN B.ncell (.inl f4);obtain⟨c',hc'⟩:=isSome_iff_exists.mp (rT (env:=X.env) scope.names [] x (.inl ⟨_,hm,rfl⟩));have:=sub x c' hc';rw[hc] at this
   cases this
   obtain⟨oc,h1,h2⟩:=hcell;exact⟨c,hc',oc,k c oc h1,h2⟩
 ·obtain⟨v,oc,h1,h2⟩:=I.cell x c (sub x c e);exact⟨v,oc,k c oc h1,h2⟩
 ·show(blk nt fv σ).length=N.length
  unfold blk;rw[length_append,length_replicate,length_map];exact B.len.symm
end
section
variable {prog:Program}{w:World}{A:Around}{R:Result→Shared→Prop}{s:Shared}
theorem yE {elt target iter:Expr}{ifs:List Expr}{scope:Scope}{pos:Pos}{it acc:Value}{env:Env}(I:Nat→Shared→Prop)
  (turn:∀ n s,I n s→wpAny (model prog w) A (pyNext it) (fun r s₁=>match r with
   | none=>R (.ok .next) s₁
   | some v=>wpAny (model prog w) A (letOwnedTupleGo target it v) (fun _ s₁'=>wpAny (model prog w) A (assign target env v) (fun _ s₂=>
     wpAny (model prog w) A (forIn ifs true fun c r=>if r=true then do let ok←isTrue c env (eval c env); pure (ForInStep.yield ok) else pure (ForInStep.yield r)) (fun ok s₃=>
      if ok=true then wpAny (model prog w) A (eval elt env) (fun x s₄=>
       wpAny (model prog w) A (call (.builtin "list.append") [acc,x]) (fun _ s₅=>∃ m,m<n∧I m s₅) (fun _ _=>False) s₄) (fun _ _=>False) s₃
      else ∃ m,m<n∧I m s₃) (fun _ _=>False) s₂) (fun _ _=>False) s₁') (fun _ _=>False) s₁) (fun _ _=>False) s)
  (n:Nat) (h:I n s) :
  codeAny (model prog w) A (.compLoop (.ListComp elt [⟨target,iter,ifs,0⟩] scope pos) 0 it acc env) R s:=by
 refine codeAny_loop rfl I (fun n s hI=>?_) n h;show wpAny _ A ((compTurn (.ListComp elt [⟨target,iter,ifs,0⟩] scope pos) 0 it acc env).onRaise (fun x=>do noteFrame x env; theTreesLotGoes x)) _ _ s;refine wpAny_noted ?_;rw[compTurn_list];refine wpAny_bind (wpAny_standAt (wpAny_bind (wpAny_mono (turn n s hI) (fun r s₁ h₁=>?_) fun _ _ f=>f.elim)))
 cases r with
 | none=>exact wpAny_pure h₁
 | some v=>
  refine wpAny_bind (wpAny_mono h₁ (fun _ s₁' h₁'=>?_) fun _ _ f=>f.elim);refine wpAny_bind (wpAny_mono h₁' (fun _ s₂ h₂=>wpAny_bind (wpAny_mono h₂ (fun ok s₃ h₃=>?_) fun _ _ f=>f.elim)) fun _ _ f=>f.elim)
  cases ok with
  | false=>exact wpAny_pure ⟨rfl,h₃⟩
  | true=>
   exact wpAny_bind (wpAny_bind (wpAny_mono h₃ (fun x s₄ h₄=>wpAny_bind (wpAny_mono h₄ (fun _ s₅ h₅=>wpAny_pure (wpAny_pure ⟨rfl,h₅⟩)) fun _ _ f=>f.elim)) fun _ _ f=>f.elim))
end
end L2
namespace L2
open PySem PySem.Spec PyProof.Rows
section
variable {X:Cx}{N:List Str}{scope:Scope}{nt:Nat}{fv:List Nat}{elt tg iter:Expr}{ifs:List Expr}{wi:TI}{g:TG}{ti:TT}{te:TE}{pos:Pos}
def tG (its:List Value)(n:Nat):Obj:={ cls:=.type "list", dict:=none,data:=.seq its.toArray n }
theorem a1B (hc:X.calm=true)(B:BlkOk X N scope nt fv)
  (hg:∀ C s₀ H₀ ex,PG (iJ X N scope C s₀ H₀ ex) tg g) (ht:∀ C s₀ H₀ ex,PTs (iJ X N scope C s₀ H₀ ex) ifs ti) (he:∀ C s₀ H₀ ex,PE (iJ X N scope C s₀ H₀ ex) elt te)
  {pins:List (Addr×Obj)} {σ:St} {s2:Shared} {H2:Hp} {it:Addr} {fp:List Addr} {tn:Nat→Heap→Prop} {J:It} (I2:Inv X pins σ H2 s2) (T:Turn X.prog X.w X.K tg J fp it tn) (st2:tn 0 s2.heap) (f2:∀ b∈fp,a3E X pins H2 b)
  {W:Nat→Nat→List V→Hp→Prop} {m0:Nat} (w0:W 0 m0 [] H2) {Q:VK}
  (turn:∀ i m ys H,W i m ys H→(J.stop i H∧ys.length≤sizeLine∧∀ p,H p=none→Q (.ref p) (upd H p (.lst ys))) ∨
   (J.go i H∧ys.length≤sizeLine∧∀ x H',J.yld i H x H'→g x (blk nt fv σ) H' fun σ2 H2=>(∀ i,nt≤i→σ2[i]?=(blk nt fv σ)[i]?)∧ti σ2 H2 fun b H3=>if b=true then te σ2 H3 fun v H4=>∃ m',m'<m∧W (i+1) m' (ys++[v]) H4 else ∃ m',m'<m∧W (i+1) m' ys H3))
  {RR:Value→Addr→Result→Shared→Prop}
  (hR:∀ D C s',s2.heap.objs.size≤C→(∃ m,s'.heap.Ns C m)→(∀ h',Heap.SameBut C s'.heap h'→∃ H',Inv X pins σ H' { s' with heap:=h' }∧H' C=none∧Q (.ref D) H')→RR (.ref D) C (.ok .next) s') :
  wpAny (model X.prog X.w) X.A (newList []) (fun acc s₃=>wpAny (model X.prog X.w) X.A (newFunctionEnv scope X.env.globals (zR X.env scope.names []) [] X.env.qual none .none (some X.env)) (fun cenv s₄=>
   codeAny (model X.prog X.w) X.A (.compStart (.ListComp elt [⟨tg,iter,ifs,0⟩] scope pos) 0 (.ref it) acc { cenv with scope:=relabel scope X.env }) (RR acc cenv.locals) s₄) X.xe s₃) X.xe s2:=by
 refine wpAny_newObj_type (wpAny_newFunctionEnv B.ncell (by intro y hy; simp at hy) (fun h₁ hns₁ hsb₁=>?_) B.kind);dsimp only at hns₁ hsb₁ ⊢;generalize hH2:s2.heap.push { cls:=.type "list", dict:=none,data:=.seq ([]:List Value).toArray }=Hh at hns₁ hsb₁ ⊢;have hC:Hh.objs.size=s2.heap.objs.size+1:=by rw[← hH2,size_push]
 have hDC:s2.heap.objs.size≠Hh.objs.size:=by rw[hC]; exact ne_of_lt (lt_succ_self _)
 have hCle:s2.heap.objs.size≤Hh.objs.size:=by rw[hC]; exact le_succ _
 have below:∀ b,b<s2.heap.objs.size→b≠Hh.objs.size∧b≠s2.heap.objs.size:=fun b hb=>⟨by rw[hC]; exact ne_of_lt (Nat.lt_succ_of_lt hb),ne_of_lt hb⟩;have old:∀ b o,s2.heap.get? b=some o→h₁.get? b=some o:=fun b o e=>hsb₁.extBut b o (below b (lt_size e)).1 (get?_push_of_some _ (hH2▸get?_push_of_some _ e));have hacc:h₁.get? s2.heap.objs.size=some (tG [] 0):=hsb₁.extBut _ _ hDC (get?_push_of_some _ (hH2▸get?_push_size _ rfl));have flt:∀ b∈fp,b<s2.heap.objs.size:=fun b hb=>by obtain⟨o,e,_⟩:=T.obj 0 _ st2 b hb; exact lt_size e
 have fresh:∀ a,s2.heap.objs.size≤a→s2.heap.get? a=none:=fun a ha=>by
  cases e:s2.heap.get? a with
  | none=>rfl
  | some o'=>exact absurd (lt_size e) (not_lt.mpr ha)
 have ftk:∀{H':Hp} {pl:List (Addr×Obj)},(∀ b∈fp,H' b=none)→(∀ p∈pl,p.1∉fp)→∀ b∈fp,a3E (iJ X N scope Hh.objs.size s2 H2 fp) pl H' b:=fun{H' pl} hn hp b hb=>
  ⟨hn b hb,(below b (flt b hb)).1,fun z=>by
   rcases mem_cons.mp (I2.stkSub b z) with z|z
   ·exact(f2 b hb).2.1 z
   ·exact(f2 b hb).2.2.1 z,.inl hb,fun x c e=>(f2 b hb).2.2.2.2.1 x c (o6 _ _ (B.cells I2) (fun x c e=>by simp at e) x c e),fun p hp' z=>hp p hp' (z▸hb)⟩
 have Dfp:s2.heap.objs.size∉fp:=fun hm=>lt_irrefl _ (flt _ hm);have Dfs:s2.heap.objs.size∉frs X.stack:=fun z=>by
  rcases mem_cons.mp (I2.stkSub _ z) with z|z
  ·exact lt_irrefl _ (z▸I2.lt)
  ·exact I2.nofs (le_refl _) z
 have Dcell:∀ x c,(zR X.env scope.names []).lookup x=some c→c≠s2.heap.objs.size:=fun x c e z=>by
  obtain⟨v,q⟩:=I2.cell x c (o6 _ _ (B.cells I2) (fun x c e=>by simp at e) x c e);exact lt_irrefl _ (z▸q.lt)
 have Iblk:Inv (iJ X N scope Hh.objs.size s2 H2 fp) [] (blk nt fv σ) H2 { s2 with heap:=h₁,toks:=s2.toks+([]:List (Str×Value)).length }:=a5W B I2 hCle f2 flt old ⟨_,hns₁⟩;have pinD:∀{s':Shared} {H':Hp} {σ':St} {its:List Value} {n:Nat} {pl:List (Addr×Obj)},Inv (iJ X N scope Hh.objs.size s2 H2 fp) pl σ' H' s'→s'.heap.get? s2.heap.objs.size=some (tG its n)→H' s2.heap.objs.size=none →
   Inv (iJ X N scope Hh.objs.size s2 H2 fp) [(s2.heap.objs.size,tG its n)] σ' H' s':=fun I e hn=>I.pins_of fun p hp=>by
  rw[mem_singleton.mp hp];exact⟨e,hn,hDC,Dfs,fun v z=>by cases z⟩
 have loop:∀ s₃:Shared,s₃={ s2 with heap:=h₁,toks:=s2.toks+([]:List (Str×Value)).length } →
   codeAny (model X.prog X.w) X.A (.compLoop (.ListComp elt [⟨tg,iter,ifs,0⟩] scope pos) 0 (.ref it) (.ref s2.heap.objs.size) (compEnvC scope (zR X.env scope.names []) Hh.objs.size X.env)) (RR (.ref s2.heap.objs.size) Hh.objs.size) s₃:=by
  rintro s₃ rfl;refine yE (fun n s'=>∃ i ys its k H',Inv (iJ X N scope Hh.objs.size s2 H2 fp) [(s2.heap.objs.size,tG its k)] (blk nt fv σ) H' s'∧tn i s'.heap∧(∀ b∈fp,H' b=none)∧W i n ys H'∧Vals ys its) ?_ m0
   ⟨0,[],[],0,H2,pinD Iblk hacc (I2.hok.fresh (le_refl _)),T.keep _ _ _ st2 fun b _ o e=>old b o e,fun b hb=>(f2 b hb).1,w0,.nil⟩
  rintro n s' ⟨i,ys,its,k,H',I',st',fr',w',vs'⟩;obtain⟨pd,pn,_,_,_⟩:=I'.pin (s2.heap.objs.size,tG its k) (by exact mem_cons_self);have pfp:∀{o:Obj},∀ p∈[(s2.heap.objs.size,o)],p.1∉fp:=fun p hp=>by rw[mem_singleton.mp hp]; exact Dfp
  rcases turn i n ys H' w' with⟨stop,hz,q⟩|⟨go,hz,step⟩
  ·refine wpAny_mono (T.done (iJ X N scope Hh.objs.size s2 H2 fp) rfl rfl rfl hc i _ s' _ H' (fun _ _=>False) I' (ftk fr' pfp) st' stop) (fun r s1 ⟨hr,I1⟩=>?_) fun _ _ f=>f;subst hr;obtain⟨pd1,pn1,_,_,_⟩:=I1.pin (s2.heap.objs.size,tG its k) (by exact mem_cons_self);obtain⟨m,hm,_⟩:=I1.loc;refine hR _ _ s1 hCle ⟨m,hm⟩ fun h' sb=>⟨upd H' s2.heap.objs.size (.lst ys),?_,by rw[aR (Ne.symm hDC)]; exact I1.free,q _ pn1⟩;have keepT:∀ b u,H' b=some u→b≠Hh.objs.size:=fun b u e z=>by
    have e0:H' Hh.objs.size=none:=I1.free;rw[z,e0] at e
    cases e
   have kept:∀ b o,b≠Hh.objs.size→s1.heap.get? b=some o→h'.get? b=some o:=fun b o hb e=>sb.extBut b o hb e;have un:=I1.base;refine I2.call' (s':={ s1 with heap:=h' }) (ch:=fp) I1.os ⟨fun b o e hn hb hx=>?_,fun b o e hn hb hx=>?_,fun b o e hn hx=>?_,fun b o e hx=>?_,fun b xs e=>?_,fun b o u e=>?_,fun b ps e=>?_⟩ ?_ I1.bare fun b hb=>?_
   ·exact kept b o (below b (lt_size e)).1 (un.keep b o e hn hb hx)
   ·obtain⟨sl,e1⟩:=un.slot b o e hn hb hx;exact⟨sl,kept b _ (below b (lt_size e)).1 e1⟩
   ·rw[aR (below b (lt_size e)).2];exact un.free b o e hn hx
   ·obtain⟨o',e1⟩:=un.there b o e hx;exact⟨o',kept b o' (below b (lt_size e)).1 e1⟩
   ·have e1:=un.tups b xs e;rw[aR (bC e1 pn1)];exact e1
   ·have e1:=un.frzs b o u e;rw[aR (bC e1 pn1)];exact e1
   ·obtain⟨mo,e1⟩:=un.tbls b ps e;exact⟨mo,by rw[aR (bC e1 pn1)]; exact e1⟩
   ·intro b u e
    by_cases hb:b=s2.heap.objs.size
    ·subst hb;rw[aW] at e
     cases e
     exact⟨hz,its,k,vs',kept _ _ hDC pd1⟩
    ·rw[aR hb] at e;refine(I1.hok b u e).stay (fun c v hc' q'=>kept c v ?_ q') (fun c q'=>by rw[aR (bC q' pn1)]; exact q') fun c xs q'=>by rw[aR (bC q' pn1)]; exact q'
     rcases hc' with z|z
     ·rw[z]; exact keepT b u e
     ·exact keepT c _ z
   ·exact⟨(f2 b hb).2.2.2.1,(f2 b hb).2.1,(f2 b hb).2.2.2.2.1,(f2 b hb).2.2.2.2.2⟩
  ·refine wpAny_mono (T.item (iJ X N scope Hh.objs.size s2 H2 fp) rfl rfl rfl hc i _ s' _ H' (fun _ _=>False) I' (ftk fr' pfp) st' go) (fun r s3 ⟨u,hr,h3⟩=>?_) fun _ _ f=>f;subst hr;refine wpAny_mono h3 (fun _ s4 ⟨x,H4,I4,r4,y4,st4,fr4⟩=>?_) fun _ _ f=>f;have I4':=I4.pinned (ftk fr4 pfp) (T.obj _ _ st4);refine wpAny_mono (hg Hh.objs.size s2 H2 fp _ s4 _ H4 x u _ I4' r4 (step x H4 y4)) (fun _ s5 ⟨σ5,H5,I5,x5,q5⟩=>?_) fun _ _ f=>f;refine wpAny_mono (ht Hh.objs.size s2 H2 fp _ s5 σ5 H5 _ I5 q5) (fun b s6 ⟨H6,I6,q6⟩=>?_) fun _ _ f=>f;have weak:∀{s':Shared} {H':Hp} {pl:List (Addr×Obj)},Inv (iJ X N scope Hh.objs.size s2 H2 fp) pl σ5 H' s'→Inv (iJ X N scope Hh.objs.size s2 H2 fp) pl (blk nt fv σ) H' s':=by
    intro s' H' pl I;refine I.weak ((a5W B I2 hCle f2 flt old ⟨_,hns₁⟩ (tk:=0)).len.trans I.len.symm) fun j v e=>?_
    by_cases hj:nt≤j
    ·rw[x5 j hj]; exact e
    ·unfold blk at e;rw[getElem?_append_left (by simpa using hj),getElem?_replicate] at e
     split at e<;>cases e
   have pnew:∀{s':Shared} {H':Hp} {σ':St},Inv (iJ X N scope Hh.objs.size s2 H2 fp) ([(s2.heap.objs.size,tG its k)]++yG fp s4.heap) σ' H' s' →
     s'.heap.get? s2.heap.objs.size=some (tG its k)∧H' s2.heap.objs.size=none∧tn (i+1) s'.heap∧∀ b∈fp,H' b=none:=fun{s' H' σ'} I=>by
    obtain⟨p1,p2,_⟩:=I.pin (s2.heap.objs.size,tG its k) (by exact mem_cons_self);refine⟨p1,p2,T.keep _ _ _ st4 fun b hb o e=>(I.pin (b,o) (mem_append_right _ (mem_append_right _ (m8 hb e)))).1,fun b hb=>?_⟩;obtain⟨o,e,d⟩:=T.obj _ _ st4 b hb;exact(I.pin (b,o) (mem_append_right _ (mem_append_right _ (m8 hb e)))).2.1
   cases b with
   | false=>
    obtain⟨m',hm,w6⟩:=q6;obtain⟨p1,p2,p3,p4⟩:=pnew I6;exact⟨m',hm,i+1,ys,its,k,H6,weak (pinD I6 p1 p2),p3,p4,w6,vs'⟩
   | true=>
    refine wpAny_mono (he Hh.objs.size s2 H2 fp _ s6 σ5 H6 _ I6 q6) (fun v s7 ⟨y,H7,I7,r7,q7⟩=>?_) fun _ _ f=>f;obtain⟨m',hm,w7⟩:=q7;obtain⟨p1,p2,p3,p4⟩:=pnew I7;have hl:=vs'.length;refine wpAny_list_append_plain (l:=s2.heap.objs.size) (items:=its.toArray) ⟨k,p1⟩ (fun h8 pl8 sb8=>?_) (by rw[size_toArray]; omega);obtain⟨k8,e8⟩:=pl8;have e8':h8.get? s2.heap.objs.size=some (tG (its++[v]) k8):=by
     rw[e8];unfold tG;simp
    have I7':=(weak I7).pins_of (pins':=[]) fun p hp=>(nomatch hp);have I8:Inv (iJ X N scope Hh.objs.size s2 H2 fp) [] (blk nt fv σ) H7 { s7 with heap:=h8 }:=I7'.turned (t':=s7.toks) (it:=s2.heap.objs.size) (fun b o hb e=>(sb8.2 b hb).trans e) p2 hDC (.inr (le_refl _)) Dcell (fun p hp=>(nomatch hp));exact⟨m',hm,i+1,ys++[y],its++[v],k8,H7,pinD I8 e8' p2,T.keep _ _ _ p3 fun b hb o e=>(sb8.2 b (fun z=>Dfp (z▸hb))).trans e,p4,w7,vs'.append (.cons r7 .nil)⟩
 exact codeAny_compStart_list (loop _ rfl) (T.self X.A 0 _ _ _ (T.keep _ _ _ st2 fun b _ o e=>old b o e) (loop _ rfl))
theorem a05 (hc:X.calm=true)(B:BlkOk X N scope nt fv)(hi:PI X tg iter wi)
  (hg:∀ C s₀ H₀ ex,PG (iJ X N scope C s₀ H₀ ex) tg g) (ht:∀ C s₀ H₀ ex,PTs (iJ X N scope C s₀ H₀ ex) ifs ti) (he:∀ C s₀ H₀ ex,PE (iJ X N scope C s₀ H₀ ex) elt te)
  (hs:∀ x,foldedSetIterable iter X.env x=pure x:=by intro _; rfl):PE X (.ListComp elt [⟨tg,iter,ifs,0⟩] scope pos) (aA5 nt fv wi g ti te):=by
 intro pins s σ H Q I h;rw[eval_ListComp];refine wpAny_comprehension_free (use:=none) rfl hs (a6U (B.cells I)) B.kind B.names (thn (hi pins s σ H _ I h) fun xv s1 h1=>thn h1 fun itv s2 h2=>?_);obtain⟨it,fp,tn,J,H2,rfl,I2,T,st2,f2,W,⟨m0,w0⟩,turn⟩:=h2;refine a1B hc B hg ht he I2 T st2 f2 w0 turn (RR:=fun acc C=>compPost (model X.prog X.w) X.A X.xe none (EP X pins σ Q) acc C) fun D C s' hC hn hq=>?_;obtain⟨m,hm⟩:=hn;refine⟨m,hm,fun h' sb=>?_⟩;obtain⟨H',I',_,q'⟩:=hq h' sb;exact⟨.ref D,H',I',rfl,q'⟩
theorem a4F {i:Nat}{x:Str}{pos' spos:Pos}(hN:X.N.Nodup)(hi':X.N[i]?=some x)(hx:X.env.scope.names.lookup x=some .local)(hc:X.calm=true)(B:BlkOk X N scope nt fv)(hi:PI X tg iter wi)
  (hg:∀ C s₀ H₀ ex,PG (iJ X N scope C s₀ H₀ ex) tg g) (ht:∀ C s₀ H₀ ex,PTs (iJ X N scope C s₀ H₀ ex) ifs ti) (he:∀ C s₀ H₀ ex,PE (iJ X N scope C s₀ H₀ ex) elt te)
  (hsw:swapsWith (.ListComp elt [⟨tg,iter,ifs,0⟩] scope pos) (some (.Name x pos')) spos.line X.env=pure true:=by rfl)
  (hs:∀ x,foldedSetIterable iter X.env x=pure x:=by intro _; rfl):PS X (.Assign [.Name x pos'] (.ListComp elt [⟨tg,iter,ifs,0⟩] scope pos) spos) (aAP (aA5 nt fv wi g ti te) (yD i)):=by
 intro pins s σ H D I h;rw[exec_Assign_Name_used _ _ _ _ hsw];refine wpAny_bind (wpAny_standAt (wpAny_bind ?_));show wpAny _ X.A (do let _←comprehension (.ListComp elt [⟨tg,iter,ifs,0⟩] scope pos) scope X.env _ (newList []) false (eval iter X.env) (some (assign (.Name x pos') X.env))) _ _ s;refine wpAny_bind (wpAny_mono (wpAny_comprehension_free (use:=some (assign (.Name x pos') X.env)) (Q:=fun _ s'=>SP X pins D .next s') rfl hs (a6U (B.cells I)) B.kind B.names
  (thn (hi pins s σ H _ I h) fun xv s1 h1=>thn h1 fun itv s2 h2=>?_)) (fun _ s' h'=>wpAny_pure (wpAny_pure h')) fun _ _ e=>e)
 obtain⟨it,fp,tn,J,H2,rfl,I2,T,st2,f2,W,⟨m0,w0⟩,turn⟩:=h2;refine a1B (Q:=fun v H1=>yD i v σ H1 D.nx) hc B hg ht he I2 T st2 f2 w0 turn (RR:=fun acc C=>compPost (model X.prog X.w) X.A X.xe (some (assign (.Name x pos') X.env)) (fun _ s'=>SP X pins D .next s') acc C) fun L C s' hC hn hq=>?_;obtain⟨m,hm⟩:=hn;obtain⟨H',I',hC',q'⟩:=hq s'.heap (Heap.SameBut.refl ..);have hCL:C≠X.env.locals:=fun z=>by
  have:=I2.lt;rw[← z] at this;exact lt_irrefl _ (lt_of_lt_of_le this hC)
 have Ccell:∀ y c,X.env.cells.lookup y=some c→c≠C:=fun y c e z=>by
  obtain⟨v,qc⟩:=I2.cell y c e;exact lt_irrefl _ (lt_of_lt_of_le (z▸qc.lt) hC)
 show wpAny _ X.A (assign (.Name x pos') X.env (.ref L)) _ _ s';refine wpAny_assign_Name (tO (v:=.ref L) I' hN hi' (.inl hx) rfl (fun s'' I'' sb''=>?_) (.inr hx));obtain⟨a,sb,ha⟩:=sb'';have haC:C≠a:=by
  rcases ha with z|z
  ·rw[z]; exact hCL
  ·exact(Ccell x a z).symm
 refine⟨m,hm.sameBut sb haC,fun h' sb'=>?_⟩;refine⟨_,H',I''.turned (t':=s''.toks) (it:=C) (fun b o hb e=>(sb'.2 b hb).trans e) hC' hCL (.inr (le_trans I2.sz hC)) Ccell fun p hp z=>?_,q'⟩;have e:=(I2.pin p hp).1;exact lt_irrefl _ (lt_of_lt_of_le (z▸lt_size e) hC)
end
end L2
namespace L2
open PySem PySem.Spec PyProof.Rows
def aJZ (scope osc:Scope):List (Str×NameKind):=scope.names.map fun(n,k)=>if (k==.free&&osc.kind==.function&&osc.names.lookup n==some .cell) then(n,.cell) else(n,k)
def aJG (osc:Scope)(ON N:List Str)(scope:Scope)(nt:Nat)(fv:List Nat):Bool:=
 scope.kind==.function&&scope.names.all (fun y=>y.2 != .cell)&&scope.names.all (fun y=>y.2 != .local||scope.names.lookup y.1==some .local) &&
 scope.names.all (fun y=>y.2 != .free||osc.names.lookup y.1==some .cell)&&N.length==nt+fv.length &&
 (List.range fv.length).all fun i=>match N[nt+i]?,fv[i]? with
  | some x,some j=>ON[j]?==some x&&osc.names.lookup x==some .cell&&(aJZ scope osc).lookup x==some .cell
  | _,_=>false
theorem a07 {X:Cx}{osc:Scope}{ON N:List Str}{scope:Scope}{nt:Nat}{fv:List Nat}(h:aJG osc ON N scope nt fv=true)(e1:X.env.scope=osc:=by rfl)(e2:X.N=ON:=by rfl):BlkOk X N scope nt fv:=by
 subst e1 e2;unfold aJG at h;simp only[and_eq_true,all_eq_true,Bool.or_eq_true,bne_iff_ne,ne_eq,beq_iff_eq] at h;obtain⟨⟨⟨⟨⟨h1,h2⟩,h3⟩,h4⟩,h5⟩,h6⟩:=h;refine⟨h1,h2,fun y hy e=>?_,fun y hy e=>?_,h5,fun i x e=>?_⟩
 ·rcases h3 y hy with z|z
  ·exact absurd e z
  ·exact z
 ·rcases h4 y hy with z|z
  ·exact absurd e z
  ·exact z
 ·have hi:i<fv.length:=by
   have:=(List.getElem?_eq_some_iff.mp e).1;omega
  have q:=h6 i (mem_range.mpr hi);rw[e,getElem?_eq_getElem hi] at q;simp only[and_eq_true,beq_iff_eq] at q;obtain⟨⟨q1,q2⟩,q3⟩:=q;exact⟨fv[i],getElem?_eq_getElem hi,q1,q2,q3⟩
end L2
namespace L2.VS
open PySem PySem.Spec PyProof.Rows
section
variable {P0:Addr→Hp→Prop}
def a5N:MT:=fun Γ Q=>Q true Γ
theorem a0J:VTT P0 aDW a5N:=fun _ _ _ _ _ _ _ r m k=>k _ _ _ _ m (Same.refl _) r
def aI9:Option Sl→Sl
 | some (.val d)=>.val d
 | some .pen=>.pen
 | some (.pub B)=>.pub B
 | _=>.no
def aC3 (nt:Nat)(fv:List Nat)(Γ:En):En:=List.replicate nt .no++fv.map fun j=>aI9 Γ[j]?
def pP (g:MG)(t:MT)(e:ME)(Γb:En):List D→List D→(List D→Prop)→Prop
 | [],acc,Q=>Q acc
 | d::ds,acc,Q=>g d Γb fun Γ1=>t Γ1 fun b Γ2=>if b=true then e Γ2 fun v _=>pP g t e Γb ds (acc++[v]) Q else pP g t e Γb ds acc Q
def a2T (nt:Nat)(fv:List Nat)(mi:MD)(g:MG)(t:MT)(e:ME):MO:=fun Γ Q=>mi Γ fun ds Γ1=>ds.length≤1000∧pP g t e (aC3 nt fv Γ1) ds [] fun out=>Q (.own out) Γ1
theorem aGS {F:Fra P0}{Γ:En}{σ:St}{G H G' H':Hp}{nt:Nat}{fv:List Nat}(r:R F Γ σ G H)(rf:Rf (F.sub r.fr) G' H')(s:Same G G'):R (F.sub r.fr) (aC3 nt fv Γ) (blk nt fv σ) G' H':=by
 have at_:∀{i:Nat} {sl:Sl},(aC3 nt fv Γ)[i]?=some sl→sl≠.no→∃(j:Nat) (s0:Sl),Γ[j]?=some s0∧sl=aI9 (some s0)∧(blk nt fv σ)[i]?=some ((σ[j]?).getD none):=by
  intro i sl e hn;unfold aC3 at e
  by_cases hi:i<nt
  ·rw[getElem?_append_left (by simpa using hi),getElem?_replicate] at e;rw[if_pos hi] at e
   cases e
   exact absurd rfl hn
  ·rw[getElem?_append_right (by simpa using hi),length_replicate,getElem?_map] at e
   cases ej:fv[i-nt]? with
   | none=>rw[ej] at e; cases e
   | some j=>
    rw[ej] at e;have e':aI9 Γ[j]?=sl:=Option.some.inj e
    cases es:Γ[j]? with
    | none=>rw[es] at e'; exact absurd e'.symm hn
    | some s0=>
     rw[es] at e';refine⟨j,s0,es,e'.symm,?_⟩;unfold blk;rw[getElem?_append_right (by simpa using hi),length_replicate,getElem?_map,ej];rfl
 refine R.of rf (by simp[aC3,blk]) (fun i sl e=>?_) (fun i B e=>?_) (fun i j x y _ e=>?_)
 ·cases sl with
  | no=>trivial
  | val d=>
   obtain⟨j,s0,h1,h2,h3⟩:=at_ e (by intro z; cases z)
   cases s0 with
   | val d0=>
    cases h2
    obtain⟨v,e1,d1⟩:=r.sl j _ h1;rw[e1] at h3;exact⟨v,h3,Dt.same s _ _ d1⟩
   | _=>cases h2
  | own ds=>
   obtain⟨j,s0,h1,h2,h3⟩:=at_ e (by intro z; cases z)
   cases s0<;>cases h2
  | pen=>
   obtain⟨j,s0,h1,h2,h3⟩:=at_ e (by intro z; cases z)
   cases s0 with
   | pen=>
    obtain⟨p,e1,e2⟩:=r.sl j _ h1;rw[e1] at h3;exact⟨p,h3,e2⟩
   | _=>cases h2
  | con q=>
   obtain⟨j,s0,h1,h2,h3⟩:=at_ e (by intro z; cases z)
   cases s0<;>cases h2
  | pub B=>
   obtain⟨j,s0,h1,h2,h3⟩:=at_ e (by intro z; cases z)
   cases s0 with
   | pub B'=>
    cases h2
    obtain⟨v,e1,e2⟩:=r.sl j _ h1;rw[e1] at h3;exact⟨v,h3,B.mono s e2⟩
   | _=>cases h2
  | box B=>
   obtain⟨j,s0,h1,h2,h3⟩:=at_ e (by intro z; cases z)
   cases s0<;>cases h2
 ·obtain⟨j,s0,h1,h2,h3⟩:=at_ e (by intro z; cases z)
  cases s0<;>cases h2
 ·obtain⟨j,s0,h1,h2,h3⟩:=at_ e (by intro z; cases z)
  cases s0<;>cases h2
theorem vJ {nt:Nat}{fv:List Nat}{wi:TI}{g:TG}{ti:TT}{te:TE}{mi:MD}{mg:MG}{mt:MT}{me:ME}(hi:VI P0 wi mi)(hg:VG P0 (fun i=>decide (i<nt)) g mg)(ht:VTT P0 ti mt)(he:VT P0 te me) :
  VO P0 (aA5 nt fv wi g ti te) (a2T nt fv mi mg mt me):=by
 intro F Γ σ G H Q Qm r m k;refine hi F Γ σ G H _ _ r m fun ds Γ1 J G1 H1 m1 s1 r1 wk=>?_;obtain⟨hsz,m1⟩:=m1;refine⟨fun i n ys H2=>n=ds.length-i∧i≤ds.length∧ys.length≤i∧∃ G2 out,Rf (F.sub r1.fr) G2 H2∧Same G1 G2∧Dts G2 ys out∧pP mg mt me (aC3 nt fv Γ1) (ds.drop i) out fun out=>Qm (.own out) Γ1,
  ⟨ds.length,by simp,zero_le _,zero_le _,G1,[],F.subRf r1.fr,Same.refl _,.nil,by simpa using m1⟩,?_⟩
 rintro i n ys H2 ⟨rfl,hle,hy,G2,out,rf2,s2,d2,m2⟩;have rb:=aGS (nt:=nt) (fv:=fv) r1 rf2 s2;obtain⟨go,stop⟩:=wk (F.sub r1.fr) _ _ G2 H2 s2 rb;have small:ys.length≤sizeLine:=jU (by omega)
 by_cases hlt:i<ds.length
 ·refine .inr ⟨(go i ds[i] (by simp[hlt])).1,small,fun x H' hyl=>?_⟩;obtain⟨G3,s3,r3,d3⟩:=(go i ds[i] (by simp[hlt])).2 x H' hyl;rw[List.drop_eq_getElem_cons hlt] at m2;refine hg (F.sub r1.fr) _ _ G3 H' x _ _ _ r3 d3 m2 fun Γ4 σ4 m4 r4 e4=>⟨fun j hj=>e4 j (decide_eq_false (by omega)),?_⟩;refine ht (F.sub r1.fr) _ _ G3 H' _ _ r4 m4 fun b Γ5 G5 H5 m5 s5 r5=>?_
  cases b with
  | true=>
   refine a1C (he (F.sub r1.fr) _ _ G5 H5 _ _ r5 m5 fun d Γ6 v G6 H6 m6 s6 r6 d6=>?_);refine⟨ds.length-(i+1),by omega,rfl,hlt,by rw[length_append,length_singleton]; omega,G6,out++[d],r6.fr,((s2.trans s3).trans s5).trans s6,?_,m6⟩;exact(Dts.same ((s3.trans s5).trans s6) _ _ d2).app (.cons d6 .nil)
  | false=>
   refine zL ?_;exact⟨ds.length-(i+1),by omega,rfl,hlt,by omega,G5,out,r5.fr,(s2.trans s3).trans s5,Dts.same (s3.trans s5) _ _ d2,m5⟩
 ·have e:i=ds.length:=by omega
  subst e;rw[drop_length] at m2;refine .inl ⟨stop,small,fun p hp=>?_⟩;obtain⟨r7,s7⟩:=r1.after rf2;obtain⟨a,b,c⟩:=n6 r7 hp d2;exact k _ _ _ _ _ m2 (s1.trans s7) a b c
theorem aFE {nt:Nat}{fv:List Nat}{mi:MD}{mg:MG}{mt:MT}{me:ME}{Γ:En}{Q:Rv→En→Prop}(h:mi Γ fun ds Γ1=>ds.length≤1000∧pP mg mt me (aC3 nt fv Γ1) ds [] fun out=>Q (.own out) Γ1):a2T nt fv mi mg mt me Γ Q:=h
theorem pQ {α:Type}{mg:MG}{mt:MT}{me:ME}{Γb:En}(p:α→Bool)(f:α→D)(enc:α→D):∀(xs:List α) (acc:List D) (Q:List D→Prop),
  (∀ x∈xs,∀(K:List D→Prop) (k:D→Prop) (k0:Prop),(p x=true→k (f x))→(p x=false→k0)→mg (enc x) Γb fun Γ1=>mt Γ1 fun b Γ2=>if b=true then me Γ2 fun v _=>k v else k0) →
  Q (acc++(xs.filter p).map f)→pP mg mt me Γb (xs.map enc) acc Q
 | [],acc,Q,_,q=>by simpa [pP] using q
 | x::xs,acc,Q,h,q=>by
  show mg (enc x) Γb fun Γ1=>mt Γ1 fun b Γ2=>if b=true then me Γ2 fun v _=>pP mg mt me Γb (xs.map enc) (acc++[v]) Q else pP mg mt me Γb (xs.map enc) acc Q
  refine h x mem_cons_self Q (fun v=>pP mg mt me Γb (xs.map enc) (acc++[v]) Q) _ (fun hp=>?_) fun hp=>?_
  ·refine pQ p f enc xs _ Q (fun y hy=>h y (mem_cons_of_mem _ hy)) ?_;simpa [filter_cons,hp,append_assoc] using q
  ·refine pQ p f enc xs _ Q (fun y hy=>h y (mem_cons_of_mem _ hy)) ?_;simpa [filter_cons,hp] using q
end
end L2.VS
namespace L2
open PySem PySem.Spec PyProof.Rows
section
variable {X:Cx}
end
end L2
namespace L2.VS
open PySem PySem.Spec PyProof.Rows
section
variable {P0:Addr→Hp→Prop}
end
end L2.VS
namespace L2
open PySem PySem.Spec PyProof.Rows
section
variable {X:Cx}
def bAt (ys:List V)(i:Nat):Bool:=match ys[i]? with
 | some (.bl b)=>b
 | _=>false
def aH5:V→Bool
 | .bl _=>true
 | _=>false
theorem a7Z {A:Around}{ys:List V}{its:List Value}(r:Vals ys its)(hb:ys.all aH5=true):TruthOf X.prog X.w A (fun i v=>its.toArray[i]?=some v) (bAt ys):=by
 intro i v s Q E hP hq;have hv:its[i]?=some v:=by simpa using hP
 have hi:i<ys.length:=by
  have:=(List.getElem?_eq_some_iff.mp hv).1;rw[r.length]; exact this
 obtain⟨u,hu,ru⟩:=r.get (getElem?_eq_getElem hi);rw[hv] at hu
 cases hu
 have hbl:=all_eq_true.mp hb ys[i] (getElem_mem hi);unfold bAt at hq;rw[getElem?_eq_getElem hi] at hq
 cases e:ys[i] with
 | bl b=>
  rw[e] at ru hq
  cases ru
  exact wpAny_truthy_bool hq
 | _=>rw[e] at hbl; cases hbl
theorem range_all (ys:List V)(bs:List Bool)(h:ys=bs.map V.bl):(List.range ys.length).all (bAt ys)=bs.all id:=by
 subst h;rw[Bool.eq_iff_iff,all_eq_true,all_eq_true];constructor
 ·intro h b hb;obtain⟨i,hi,e⟩:=List.mem_iff_getElem.mp hb;have q:=h i (mem_range.mpr (by simpa using hi));unfold bAt at q;rw[getElem?_map,getElem?_eq_getElem hi,e] at q;exact q
 ·intro h i hi;have hi':i<bs.length:=by simpa using mem_range.mp hi
  unfold bAt;rw[getElem?_map,getElem?_eq_getElem hi'];exact h _ (getElem_mem hi')
theorem aFV (bs:List Bool):(bs.map V.bl).all aH5=true:=by simp[aH5]
theorem aBQ (hc:X.calm=true){pins:List (Addr×Obj)}{σ:St}{H:Hp}{s:Shared}{p:Addr}{bs:List Bool}{f:(Nat→Bool)→List Nat→Bool}{Q:Value→Shared→Prop}(I:Inv X pins σ H s)(hx:SqL X.K H p (bs.map V.bl))
  (h:∀ s',Inv X pins σ H s'→Q (.bool (f (bAt (bs.map V.bl)) (List.range (bs.map V.bl).length))) s') :
  wpAny (model X.prog X.w) X.A.in1 (pyIter (.ref p)) (fun it s₂=>∃ I fp wr n P St tr,it=.ref I∧Walks X.prog X.w X.A.in1 I fp wr n P St∧St 0 s₂.heap∧TruthOf X.prog X.w X.A.in1 P tr ∧
   ∀ h' tk,(∀ b o,b∉wr→s₂.heap.get? b=some o→h'.get? b=some o)→Q (.bool (f tr (List.range n))) { s₂ with heap:=h',toks:=tk }) X.xe s:=by
 obtain⟨its,r,ht,hz⟩:=I.list hx;have hlt:p<s.heap.objs.size:=by
  obtain⟨o,ho,_⟩:=ht.isList;exact lt_size ho
 refine wpAny_pyIter_list ht.isList ?_;refine⟨s.heap.objs.size,_,_,_,_,_,bAt (bs.map V.bl),rfl,Walks.list (A:=X.A.in1) (show X.A.in1.handled=none from I.ok.hd hc) s.heap.objs.size p (ne_of_lt hlt) its.toArray,⟨⟨_,get?_push_size _ rfl,rfl,rfl⟩,?_⟩,a7Z r (aFV bs),fun h' tk hk=>?_⟩
 ·obtain⟨o,ho,q⟩:=ht.isList;exact⟨o,get?_push_of_some _ ho,q⟩
 ·have hl:its.toArray.size=(bs.map V.bl).length:=by rw[size_toArray]; exact r.length.symm
  rw[hl];refine h _ (I.kept (h':=h') (t':=tk) fun b o e=>hk b o (by simp; exact ne_of_lt (lt_size e)) (get?_push_of_some _ e))
theorem a6B (hc:X.calm=true):t6 X (.builtin "all") (fun xs H Q=>∃(p:Addr) (bs:List Bool),xs=[.ref p]∧SqL X.K H p (bs.map V.bl)∧Q (.bl (bs.all id)) H):=by
 intro pins s σ H xs us Q I r h;obtain⟨p,bs,rfl,hx,q⟩:=h;obtain⟨u,rfl,ru⟩:=vals1 r
 cases ru
 exact call_all_walk (aBQ (f:=fun tr l=>l.all tr) hc I hx fun s' I'=>⟨.bl _,H,I',rfl,by rw[range_all _ bs rfl]; exact q⟩)
end
end L2
namespace L2.VS
open PySem PySem.Spec PyProof.Rows
section
variable {P0:Addr→Hp→Prop}
def uO:List D→Option (List Bool)
 | []=>some []
 | .bool b::ds=>(uO ds).map (b::·)
 | _::_=>none
theorem uJ {G:Hp}:∀{vs:List V} {ds:List D} {bs:List Bool},Dts G vs ds→uO ds=some bs→vs=bs.map V.bl
 | _,_,_,.nil,e=>by cases e; rfl
 | _,d::ds,bs,.cons a b,e=>by
  cases a with
  | bl c=>
   show _;have e':(uO ds).map (c::·)=some bs:=e
   cases e2:uO ds with
   | none=>rw[e2] at e'; cases e'
   | some cs=>
    rw[e2] at e'
    cases e'
    rw[uJ b e2];rfl
  | _=>cases e
def mBs (f:List Bool→Bool)(ma:ME):ME:=fun Γ Q=>ma Γ fun x Γ1=>match x with
 | .list ds=>(match uO ds with
  | some bs=>Q (.bool (f bs)) Γ1
  | none=>False)
 | _=>False
abbrev aJ3:=mBs fun bs=>bs.all id
theorem aIF {K:Fg}{f:List Bool→Bool}{ta:TE}{ma:ME}(ha:VT P0 ta ma):VT P0 (tCB (fun xs H Q=>∃(p:Addr) (bs:List Bool),xs=[.ref p]∧SqL K H p (bs.map V.bl)∧Q (.bl (f bs)) H) (eF ta qF)) (mBs f ma):=by
 intro F Γ σ G H Q Qm r m k;refine ha F Γ σ G H _ _ r m fun d Γ1 x G1 H1 m1 s1 r1 d1=>?_
 split at m1
 ·split at m1
  ·rename_i bs e
   cases d1 with
   | @lst p xs _ hp rs=>
    refine⟨p,bs,rfl,SqL.of ?_,k _ _ _ _ _ m1 s1 r1 (.bl _)⟩;rw[← uJ rs e];exact r1.fr.sub _ _ hp
  ·exact m1.elim
 ·exact m1.elim
theorem aD0 {K:Fg}{ta:TE}{ma:ME}(ha:VT P0 ta ma):VT P0 (tCB (fun xs H Q=>∃(p:Addr) (bs:List Bool),xs=[.ref p]∧SqL K H p (bs.map V.bl)∧Q (.bl (bs.all id)) H) (eF ta qF)) (aJ3 ma):=aIF ha
theorem aK0 {f:List Bool→Bool}{ma:ME}{Γ:En}{Q:D→En→Prop}(h:ma Γ fun x Γ1=>match x with|.list ds=>(match uO ds with|some bs=>Q (.bool (f bs)) Γ1|none=>False)|_=>False):mBs f ma Γ Q:=h
end
section
variable {P0:Addr→Hp→Prop}
end
section
variable {P0:Addr→Hp→Prop}{K:Fg}
def aGW (ma:ME)(ml mh:MP):ME:=fun Γ Q=>ma Γ fun x Γ1=>ml Γ1 fun lo Γ2=>mh Γ2 fun hi Γ3=>match x with
 | .tuple ds=>¬(HT.sIx ds.length 0 lo=0∧HT.sIx ds.length ds.length hi=ds.length)∧Q (.tuple (cutD ds lo hi)) Γ3
 | _=>False
theorem aCK {ta:TE}{ma:ME}{tl th:TO}{ml mh:MP}(ha:VT P0 ta ma)(hl:VP P0 tl ml)(hh:VP P0 th mh):VT P0 (tSl (aJ7 K) ta tl th) (aGW ma ml mh):=by
 intro F Γ σ G H Q Qm r m k;refine ha F Γ σ G H _ _ r m fun d Γ1 x G1 H1 m1 s1 r1 d1=>?_;refine hl F Γ1 σ G1 H1 _ _ r1 m1 fun lo Γ2 G2 H2 m2 s2 r2=>?_;refine hh F Γ2 σ G2 H2 _ _ r2 m2 fun hi Γ3 G3 H3 m3 s3 r3=>?_
 split at m3
 ·have d1:=Dt.same (s2.trans s3) _ _ d1
  cases d1 with
  | @tup p xs _ hp rs=>
   refine⟨p,xs,rfl,SqT.of (r3.fr.sub _ _ hp),by rw[rs.len]; exact m3.1,fun l hl=>?_⟩;have g:=fP (r3.fr.gfresh hl) (.tup (a8I xs lo hi));exact k _ _ _ _ _ m3.2 (((s1.trans s2).trans s3).trans g) (r3.new hl) (.tup aW (Dts.same g _ _ (rs.cut lo hi)))
 ·exact m3.elim
theorem aHL {ma:ME}{ml mh:MP}{Γ:En}{Q:D→En→Prop}(h:ma Γ fun x Γ1=>ml Γ1 fun lo Γ2=>mh Γ2 fun hi Γ3=>match x with|.tuple ds=>¬(HT.sIx ds.length 0 lo=0∧HT.sIx ds.length ds.length hi=ds.length)∧Q (.tuple (cutD ds lo hi)) Γ3|_=>False):aGW ma ml mh Γ Q:=h
end
end L2.VS
namespace L2
open PySem PySem.Spec PyProof.Rows
section
variable {X:Cx}
end
end L2
namespace L2.VS
open PySem PySem.Spec PyProof.Rows
section
variable {P0:Addr→Hp→Prop}{A:Nat→Bool}
end
end L2.VS
namespace PySem
open Sem (wp)
namespace F
end F
set_option hygiene false in
local macro_rules|`(tactic| walk_at "zr")=>`(tactic| (
 simp only[false_eq_true,if_false,List.forIn_toArray,forIn_cons,List.forIn_nil];refine wpAny_bind (wpAny_bind (wpAny_bind (wpAny_holding ?_)));show wpAny _ _ (Builtin.SmallTypes.nextOf (.ref i1) >>= _) _ _ _;refine wpAny_bind (wpAny_nextOf_list_item (h1.extBut hs₀.extBut D.i1z) (hl1.extBut hs₀.extBut D.l1z) hx fun h₂ h1₂ hs₂=>wpAny_pure ?_);refine wpAny_pure ?_;refine wpAny_bind (wpAny_bind (wpAny_holding ?_));show wpAny _ _ (Builtin.SmallTypes.nextOf (.ref i2) >>= _) _ _ _;refine wpAny_bind (wpAny_nextOf_list_item ((h2.extBut hs₀.extBut D.i2z).extBut hs₂.extBut D.i12.symm) ((hl2.extBut hs₀.extBut D.l2z).extBut hs₂.extBut D.l2i1) hy fun h₄ h2₄ hs₄=>wpAny_pure ?_);refine wpAny_pure (wpAny_pure ?_);show wpAny _ _ (newTuple [x,y] >>= _) _ _ _;refine wpAny_bind (wpAny_newTuple (wpAny_pure ⟨_,rfl,?_⟩))
 replace hs₂:Heap.SameBut i1 h₀ h₂:=hs₂
 replace hs₄:Heap.SameBut i2 h₂ h₄:=hs₄
 have hsz:h₄.objs.size=hp.objs.size:=by rw[hs₄.1,hs₂.1,hs₀.1]
 show Q (.ref h₄.objs.size) ⟨h₄.push { cls:=.type "tuple", data:=.seq #[x,y] },g,d,tk,os⟩;have hz₄:IsZipK h₄ z TI TO (rawInt T) (.bool true):=hs₄.extBut _ _ D.i2z.symm (hs₂.extBut _ _ D.i1z.symm hz₀);have hT₄:IsPair (h₄.push { cls:=.type "tuple", data:=.seq #[x,y] }) h₄.objs.size x y:=get?_push_size _ rfl;rw[hsz] at hT₄ ⊢;exact hQ _ (get?_push_of_some _ hz₄) ((h1₂.extBut hs₄.extBut D.i12).at fun o e=>get?_push_of_some _ e) (h2₄.at fun o e=>get?_push_of_some _ e) hT₄ (by rw[size_push,hsz])
  fun c o c1 c2 c3 e=>get?_push_of_some _ (hs₄.extBut _ _ c3 (hs₂.extBut _ _ c2 (hs₀.extBut _ _ c1 e)))))
set_option hygiene false in
local macro_rules|`(tactic| walk_at "ze")=>`(tactic| (
 simp only[false_eq_true,if_false,List.forIn_toArray,forIn_cons,List.forIn_nil];refine wpAny_bind (wpAny_bind (wpAny_bind (wpAny_holding ?_)));show wpAny _ _ (Builtin.SmallTypes.nextOf (.ref i1) >>= _) _ _ _
 cases hx:xs[k1]? with
 | none=>
  refine wpAny_bind (wpAny_nextOf_list_end hh (h1.extBut hs₀.extBut D.i1z) (hl1.extBut hs₀.extBut D.l1z) hx fun h₂ e hs₂ he=>?_);exact hE h₂ e (fun c o c1 c2 c3 x=>hs₂ _ _ c2 (hs₀.extBut _ _ c1 x)) he
 | some x=>
  have hy:ys[k2]?=none:=by rcases hend with h|h; rw[hx] at h; cases h; exact h
  refine wpAny_bind (wpAny_nextOf_list_item (h1.extBut hs₀.extBut D.i1z) (hl1.extBut hs₀.extBut D.l1z) hx fun h₂ h1₂ hs₂=>wpAny_pure ?_);refine wpAny_pure ?_;refine wpAny_bind (wpAny_bind (wpAny_holding ?_));show wpAny _ _ (Builtin.SmallTypes.nextOf (.ref i2) >>= _) _ _ _;refine wpAny_bind (wpAny_nextOf_list_end hh ((h2.extBut hs₀.extBut D.i2z).extBut hs₂.extBut D.i12.symm) ((hl2.extBut hs₀.extBut D.l2z).extBut hs₂.extBut D.l2i1) hy fun h₄ e hs₄ he=>?_);exact hE h₄ e (fun c o c1 c2 c3 x=>hs₄ _ _ c3 (hs₂.extBut _ _ c2 (hs₀.extBut _ _ c1 x))) he))
section
variable {prog:Program}{w:World}{A:Around}{E:Value→Shared→Prop}{s:Shared}
end
end PySem
namespace PySem
open Sem (wp)
section
variable {prog:Program}{w:World}{A:Around}{R:Result→Shared→Prop}
end
section
variable {prog:Program}{w:World}{A:Around}{E:Value→Shared→Prop}{s:Shared}
end
end PySem
namespace L2
open PySem PySem.Spec PyProof.Rows
section
variable {X:Cx}{pins:List (Addr×Obj)}{σ:List (Option V)}{H:Hp}{s:Shared}
end
end L2
namespace L2.VS
open PySem PySem.Spec PyProof.Rows
section
variable {P0:Addr→Hp→Prop}{K:Fg}
end
end L2.VS
namespace L2
open PySem PySem.Spec PyProof.Rows
section
variable {X:Cx}{pins:List (Addr×Obj)}{σ:List (Option V)}{H:Hp}{s:Shared}
theorem Inv.turnedL {h':Heap}{t':Nat}{ch:List Addr}{T:Addr}{o:HO}(I:Inv X pins σ H s)(k:∀ b u,b∉ch→s.heap.get? b=some u→h'.get? b=some u)(hch:∀ b∈ch,a3E X pins H b)(hT:s.heap.objs.size≤T)
  (new:ObjOk X.prog X.w (upd H T o) h' T o):Inv X pins σ (upd H T o) { s with heap:=h',toks:=t' }:=by
 have hn:=I.hok.fresh hT;have nch:∀ b u,H b=some u→b∉ch:=fun b u e z=>by rw[(hch b z).1] at e; cases e
 refine I.step (g':=s.gens) (d':=s.drawn) (ch:=ch) (fun b hb=>⟨(hch b hb).2.2.2.1,(hch b hb).2.1,(hch b hb).2.2.2.2.1,(hch b hb).2.2.2.2.2⟩) (fun b o _ _ hc e _=>k b o hc e) (fun b o _ _ hc e _=>⟨o.slots,k b o hc e⟩)
  (fun b u _ e n=>by rw[aR (ne_of_lt (lt_of_lt_of_le (lt_size e) hT))]; exact n) (fun b o hc e=>⟨o,k b o hc e⟩) (fun b xs q=>by rw[aR (bC q hn)]; exact q) (fun b u xs q=>by rw[aR (bC q hn)]; exact q)
  (fun b ps q=>⟨#[],by rw[aR (bC q hn),q]; simp⟩) (fun m hm=>?_) (fun b u e=>?_) I.bare
 ·obtain⟨o,es,ep,ho,r⟩:=hm;exact⟨o,es,ep,k _ o (fun z=>(hch _ z).2.1 rfl) ho,r⟩
 ·by_cases hb:b=T
  ·subst hb; rw[aW] at e; cases e; exact new
  ·rw[aR hb] at e;refine(I.hok b u e).stay (fun c v hc q=>k c v ?_ q) (fun c q=>by rw[aR (bC q hn)]; exact q) fun c xs q=>by rw[aR (bC q hn)]; exact q
   rcases hc with z|z
   ·rw[z]; exact nch b u e
   ·exact nch c _ z
theorem Inv.turnedC {h':Heap}{t':Nat}{ch:List Addr}(I:Inv X pins σ H s)(k:∀ b u,b∉ch→s.heap.get? b=some u→h'.get? b=some u)(hch:∀ b∈ch,a3E X pins H b):Inv X pins σ H { s with heap:=h',toks:=t' }:=by
 have nch:∀ b u,H b=some u→b∉ch:=fun b u e z=>by rw[(hch b z).1] at e; cases e
 refine I.step (g':=s.gens) (d':=s.drawn) (ch:=ch) (fun b hb=>⟨(hch b hb).2.2.2.1,(hch b hb).2.1,(hch b hb).2.2.2.2.1,(hch b hb).2.2.2.2.2⟩) (fun b o _ _ hc e _=>k b o hc e) (fun b o _ _ hc e _=>⟨o.slots,k b o hc e⟩)
  (fun b u _ e n=>n) (fun b o hc e=>⟨o,k b o hc e⟩) (fun b xs q=>q) (fun b u xs q=>q) (fun b ps q=>⟨#[],by rw[q]; simp⟩) (fun m hm=>?_) (fun b u e=>?_) I.bare
 ·obtain⟨o,es,ep,ho,r⟩:=hm;exact⟨o,es,ep,k _ o (fun z=>(hch _ z).2.1 rfl) ho,r⟩
 ·refine(I.hok b u e).stay (fun c v hc q=>k c v ?_ q) (fun _ q=>q) fun _ _ q=>q;rcases hc with z|z
  ·rw[z]; exact nch b u e
  ·exact nch c _ z
end
def Ite (K:Fg)(a:Addr):It:=
  ⟨fun i H=>∃ xs x,SqL K H a xs∧xs[i]?=some x,
   fun i H v H'=>∃ T x,v=.ref T∧H T=none∧H'=upd H T (.tup [.int (i:Int),x])∧∀ xs,SqL K H a xs→xs[i]?=some x,
   fun i H=>∃ xs,SqL K H a xs∧xs.length≤i⟩
theorem a6Y {P:Program}{w:World}{K:Fg}{elts:List Expr}{cx}{tp:Pos}{e it a:Addr}(hne:e≠it):Turn P w K (.Tuple elts cx tp) (Ite K a) [e,it] e
  (fun i h=>(∃ old,IsEnum h e it (i:Int) old)∧h.IsListIter it a i) where
 mem:=by simp
 obj:=fun i h st c hc=>by
  obtain⟨⟨old,he⟩,⟨o1,e1,c1,d1⟩⟩:=st;simp only[mem_cons,not_mem_nil,or_false] at hc;rcases hc with rfl|rfl
  ·exact⟨_,he,fun v z=>by cases z⟩
  ·exact⟨o1,e1,fun v z=>by rw[d1] at z; cases z⟩
 keep:=fun i h h' st k=>by
  obtain⟨⟨old,he⟩,h1⟩:=st;exact⟨⟨old,k e (by simp) _ he⟩,h1.at fun o q=>k it (by simp) o q⟩
 item:=by
  intro X hP hw hK hc i pins s σ H E I hf st hg;subst hP hw hK;obtain⟨xs,x,qx,ex⟩:=hg;obtain⟨ix,rx,px,zx⟩:=I.list qx;obtain⟨ux,gx,rux⟩:=rx.get ex;obtain⟨⟨old,he⟩,h1⟩:=st;refine wpAny_pyNext_enum_item he h1 px.isList (x:=ux) (by simpa using gx) hne fun h' a1 a2 a3 a4 kp=>?_;refine⟨_,rfl,wpAny_letOwnedTupleGo_enum a1 fun h'' he' hs'=>?_⟩;have hs':Heap.SameBut e h' h'':=hs';have nT:s.heap.objs.size≠e:=ne_of_gt (lt_size he);have hT:h''.get? s.heap.objs.size=some { cls:=.type "tuple", data:=.seq #[.int i s.toks,ux] }:=hs'.extBut _ _ nT a3;have I2:Inv X pins σ (upd H s.heap.objs.size (.tup [.int (i:Int),x])) { s with heap:=h'',toks:=s.toks+1 }:=I.turnedL (t':=s.toks+1) (ch:=[e,it])
   (fun c o hc q=>hs'.extBut _ _ (fun q=>hc (by simp[q])) (kp c o (fun q=>hc (by simp[q])) (fun q=>hc (by simp[q])) q))
   hf (le_refl _) ⟨jU (by show 2≤1000; decide),[.int i s.toks,ux],.cons ⟨_,rfl⟩ (.cons rux .nil),⟨_,hT,rfl,_,rfl⟩⟩
  have fr:=I.hok.fresh (le_refl s.heap.objs.size);refine⟨.ref s.heap.objs.size,_,I2,rfl,⟨_,x,rfl,fr,rfl,fun xs' q1=>by rw[I.list_inj q1 qx]; exact ex⟩,⟨⟨_,by rw[Int.natCast_add]; exact he'⟩,a2.extBut hs'.extBut (Ne.symm hne)⟩,fun c hc=>?_⟩;have lt:c<s.heap.objs.size:=by
   simp only[mem_cons,not_mem_nil,or_false] at hc;rcases hc with rfl|rfl
   ·exact lt_size he
   ·obtain⟨_,q,_⟩:=h1; exact lt_size q
  rw[aR (ne_of_lt lt)];exact(hf c hc).1
 done:=by
  intro X hP hw hK hc i pins s σ H E I hf st hg;subst hP hw hK;obtain⟨xs,qx,hle⟩:=hg;obtain⟨ix,rx,px,zx⟩:=I.list qx;obtain⟨⟨old,he⟩,h1⟩:=st;have lx:=rx.length;refine wpAny_pyNext_enum_end (I.ok.hd hc) he h1 px.isList (by simp; omega) fun h' kp=>⟨rfl,I.turnedC (t':=s.toks) (ch:=[e,it]) (fun c o hc q=>?_) hf⟩;exact kp c o (fun q=>hc (by simp[q])) q
 self:=fun _ _ _ _ _ st h=>wpAny_pyIter_enum st.1.choose_spec h
section
variable {X:Cx}
def aF8 (K:Fg)(ta:TA):TI:=fun σ H R=>ta σ H fun vs H1=>∃ p xs,vs=[.ref p]∧SqL K H1 p xs∧R (Ite K p) H1
theorem aC1 {a:Expr}{ta:TA}{p pos tp:Pos}{elts:List Expr}{cx}(hg:Gl X "enumerate")(hm:X.mg "enumerate" = none)(ha:PA X [a] ta)(hs:starEach [a] X.env=[(false,eval a X.env)]:=by rfl) :
  PI X (.Tuple elts cx tp) (.Call (.Name "enumerate" p) [a] [] pos) (aF8 X.K ta):=by
 intro pins s σ H R I h;refine wpAny_Call_Name_kw (yM I hg hm boot_enumerate ?_ (by decide) (by decide));refine PyProof.Rows.callWith_type1 (rest:=[]) (thn (ha pos pins s σ H _ I h) fun us s1 ⟨vs,H1,I1,r1,p,xs,e,hp,k⟩=>?_) hs rfl;subst e
 cases r1 with
 | cons ra rc=>
  cases rc
  cases ra
  obtain⟨ix,rx,px,zx⟩:=I1.list hp;refine call_enumerate_list px.isList fun h' he hit sz kp=>?_;refine wpAny_pyIter_enum he ?_;have I2:Inv X pins σ H1 { s1 with heap:=h' }:=I1.kept (t':=s1.toks) kp;refine⟨_,[s1.heap.objs.size+1,s1.heap.objs.size],_,_,H1,rfl,I2,a6Y (ne_of_gt (lt_succ_self _)),⟨⟨_,he⟩,hit⟩,fun c hc=>?_,k⟩;have hle:s1.heap.objs.size≤c:=by
   simp only[mem_cons,not_mem_nil,or_false] at hc;rcases hc with rfl|rfl
   ·exact le_succ _
   ·exact le_refl _
  exact I1.fpOk hle (I1.hok.fresh hle)
end
end L2
namespace L2.VS
open PySem PySem.Spec PyProof.Rows
section
variable {P0:Addr→Hp→Prop}{K:Fg}
def rF (ds:List D):List D:=(List.range ds.length).map fun(i:Nat)=>PyData.tuple [.int (i:Int),ds.getD i .none]
def aHW (ma:ME):MD:=fun Γ Q=>ma Γ fun x Γ1=>match x with
 | .list ds=>Q (rF ds) Γ1
 | _=>False
theorem aBR {ta:TE}{ma:ME}(ha:VT P0 ta ma):VI P0 (aF8 K (eF ta qF)) (aHW ma):=by
 intro F Γ σ G H Q Qm r m k;refine ha F Γ σ G H _ _ r m fun d Γ1 x G1 H1 m1 s1 r1 d1=>?_
 split at m1
 ·rename_i ds
  cases d1 with
  | @lst p xs _ hp rs=>
   refine⟨p,xs,rfl,SqL.of (r1.fr.sub _ _ hp),k _ _ _ _ _ m1 s1 r1 fun F3 Γ3 σ3 G3 H3 s3 r3=>⟨fun i d e=>?_,?_⟩⟩
   ·have hp3:=SqL.of (K:=K) (r3.fr.sub _ _ (s3 _ _ hp));have hi:i<ds.length:=by
     have:=(List.getElem?_eq_some_iff.mp e).1;unfold rF at this;simpa using this
    have ed:d=.tuple [.int (i:Int),ds[i]]:=by
     unfold rF at e;rw[getElem?_map,getElem?_range hi] at e
     cases e
     simp[getD_eq_getElem?_getD,getElem?_eq_getElem hi]
    subst ed;obtain⟨v1,g1,dv1⟩:=Dts.get rs (getElem?_eq_getElem hi);refine⟨⟨xs,v1,hp3,g1⟩,fun v H4 hy=>?_⟩;obtain⟨T,x',rfl,hT,rfl,hx⟩:=hy;have h1:=hx xs hp3;rw[g1] at h1; cases h1;have g:=fP (r3.fr.gfresh hT) (.tup [.int (i:Int),v1]);exact⟨_,g,r3.new hT,.tup aW (.cons (.int _) (.cons (Dt.same (s3.trans g) _ _ dv1) .nil))⟩
   ·refine⟨xs,SqL.of (r3.fr.sub _ _ (s3 _ _ hp)),?_⟩;have l1:=rs.len;have l3:(rF ds).length=ds.length:=by unfold rF; rw[length_map,length_range]
    rw[l3,l1];exact le_refl _
 ·exact m1.elim
theorem aIA {ma:ME}{Γ:En}{Q:List D→En→Prop}(h:ma Γ fun x Γ1=>match x with|.list ds=>Q (rF ds) Γ1|_=>False):aHW ma Γ Q:=h
end
end L2.VS
namespace L2
open PySem PySem.Spec PyProof.Rows
section
variable {X:Cx}
end
end L2
namespace L2.VS
open PySem PySem.Spec PyProof.Rows
section
variable {P0:Addr→Hp→Prop}
end
section
variable {P0:Addr→Hp→Prop}{ta tb:TE}{ma mb:ME}
theorem Dts.rep {G:Hp}{xs:List V}{ds:List D}(h:Dts G xs ds):∀ k:Nat,Dts G (List.replicate k xs).flatten (List.replicate k ds).flatten
 | 0=>.nil
 | k+1=>by
  rw[replicate_succ,replicate_succ,flatten_cons,flatten_cons];exact h.app (Dts.rep h k)
def aEM (ma mb:ME):MO:=fun Γ Q=>ma Γ fun x Γ1=>mb Γ1 fun y Γ2=>match x,y with
 | .list ds,.int k=>(-(2^62)≤k∧k<2^62)∧ds.length*k.toNat≤1000∧Q (.own (List.replicate k.toNat ds).flatten) Γ2
 | _,_=>False
theorem a5S (ha:VT P0 ta ma)(hb:VT P0 tb mb):VO P0 (tOp aJ1 ta tb) (aEM ma mb):=by
 intro F Γ σ G H Q Qm r m k;refine ha F Γ σ G H _ _ r m fun x Γ1 v G1 H1 m1 s1 r1 d1=>?_;refine hb F Γ1 σ G1 H1 _ _ r1 m1 fun y Γ2 u G2 H2 m2 s2 r2 d2=>?_
 split at m2
 ·rename_i ds n
  obtain⟨⟨b1,b2⟩,hz,m2⟩:=m2
  cases d2
  cases d1 with
  | lst hp rs=>
   refine⟨_,n,_,rfl,rfl,r2.fr.sub _ _ (s2 _ _ hp),by omega,by omega,jU (by rw[rs.len]; exact hz),fun l hl=>?_⟩;obtain⟨a,b,c⟩:=n6 r2 hl (Dts.rep (Dts.same s2 _ _ rs) n.toNat);exact k _ _ _ _ _ m2 (s1.trans s2) a b c
 ·exact m2.elim
theorem aHZ {ma mb:ME}{Γ:En}{Q:Rv→En→Prop}(h:ma Γ fun x Γ1=>mb Γ1 fun y Γ2=>match x,y with
 | .list ds,.int k=>(-(2^62)≤k∧k<2^62)∧ds.length*k.toNat≤1000∧Q (.own (List.replicate k.toNat ds).flatten) Γ2
 | _,_=>False):aEM ma mb Γ Q:=h
end
end L2.VS
namespace LT
abbrev Ln:=Rat×Rat
def pl (l:Ln)(t:Rat):Rat:=l.1+l.2*t
end LT
namespace L2
open PySem PySem.Calls PyProof.Rows PySem.W
section
variable {cmp:Nat→Nat→(Bool→Shared→Prop)→Shared→Prop}
end
section
variable {prog:Program}{w:World}{A:Around}{E:Value→Shared→Prop}{s:Shared}{Q:Bool→Shared→Prop}
end
section
variable {prog:Program}{w:World}{A:Around}{E:Value→Shared→Prop}{s:Shared}
end
end L2
namespace L2
open PySem PySem.Spec PyProof.Rows
section
variable {X:Cx}
end
end L2
namespace L2.VS
open PySem PySem.Spec PyProof.Rows
section
variable {P0:Addr→Hp→Prop}{A:Nat→Bool}
end
section
variable {P0:Addr→Hp→Prop}{A:Nat→Bool}
end
end L2.VS
namespace L2
open PySem PySem.Spec PyProof.Rows
structure UnB (fs:List Addr)(H H':Hp)(h B h':Heap):Prop where
 keep:∀ b o,h.get? b=some o→H b=none→b∉fs→B.get? b=some o
 slot:∀ b o,h.get? b=some o→b∈fs→∃ sl,h'.get? b=some { o with slots:=sl }
 free:∀ b o,h.get? b=some o→H b=none→H' b=none
 there:∀ b o,h.get? b=some o→b∉fs→∃ o',B.get? b=some o'
 tups:∀ b xs,H b=some (.tup xs)→H' b=some (.tup xs)
 frzs:∀ b o u,H b=some (.frz o u)→H' b=some (.frz o u)
 tbls:∀ b ps,H b=some (.tbl ps)→∃ more,H' b=some (.tbl (ps++more))
section
variable {X:Cx}{pins:List (Addr×Obj)}{σ:St}{H:Hp}{s:Shared}{M:Model}{F:Value→Shared→Prop}{E E':XK}
theorem Inv.frsS (hs:X.stack=X.env::X.outer)(hf:X.env.frame=some X.env.locals):frs X.stack=X.env.locals::frs X.outer:=by
 rw[hs];unfold frs;rw[filterMap_cons,hf]
theorem Inv.nstk (I:Inv X pins σ H s)(hs:X.stack=X.env::X.outer)(hf:X.env.frame=some X.env.locals){b:Addr}{o:Obj}(q:X.s₀.heap.get? b=some o)(hb:b∉frs X.outer):b∉frs X.stack:=fun z=>by
 rw[Inv.frsS hs hf] at z;rcases mem_cons.mp z with e|e
 ·exact absurd (lt_of_lt_of_le (lt_size q) I.ok.above) (by rw[e]; exact lt_irrefl _)
 ·exact hb e
end
section
variable {P:Program}{w:World}{K:Fg}{mg:Mg}{base:Heap}{N:List Str}{qual:Str}{scope:Scope}{f:Addr}{cd:Value}{A:Around}{outer:List Env}{s:Shared}{H:Hp}{E E':XK}
end
section
variable {X:Cx}{E:XK}{x:Str}{C:Addr}{B newId initId:String}{bmB:List Value}{e0:Expr}{np cpos pos:Pos}{t:TA}
end
end L2
namespace L2
open PySem PySem.Spec PyProof.Rows
set_option maxRecDepth 100000
section
variable {prog:Program}{w:World}{A:Around}{E:Value→Shared→Prop}{h:Heap}{g:Array GenState}{d:Drawn}{t:Nat}{os:OsState}{a:Addr}{o:Obj}
 {nm q:Str} {C N:Addr} {bs bm:List Value} {hdct:Bool} {sn:List Str} {sub:List Value} {ab:Bool} {col:Option Bool} {dd:Option Addr} {k0 k1 k2 k3 k5:Option Value} {newId:String}
def Lk (prog:Program)(w:World)(h:Heap)(c:Value)(n:Str)(r:Option Value):Prop:=∀(A:Around) (Q:Option Value→Shared→Prop) (E:Value→Shared→Prop) (s:Shared),s.heap=h→Q r s→wpAny (model prog w) A (typeLookup c n) Q E s
theorem Lk.at {c:Value}{n:Str}{r:Option Value}{Q:Option Value→Shared→Prop}(l:Lk prog w h c n r)(hq:Q r ⟨h,g,d,t,os⟩):wpAny (model prog w) A (typeLookup c n) Q E ⟨h,g,d,t,os⟩:=l _ _ _ _ rfl hq
theorem aEB {R:Result→Shared→Prop}(hC:h.get? C=some (excClassObj nm q C N bs bm hdct sn sub ab col dd k0 k1 k2 k3 k5 newId))(ho:bm.contains (.type "object")=true)
  (hx:h.get? a=some o) (hc:o.cls=.ref C) (hq:R (.ok (.ret (.ref C))) ⟨h,g,d,t,os⟩) :
  codeAny (model prog w) A (.call (.builtin "getset_descriptor.__get__") ⟨[.builtin "object.__class__", .ref a,.ref C],[]⟩) R ⟨h,g,d,t,os⟩:=by
 have y1:(⟨h,g,d,t,os⟩:Shared).TypeIs (.builtin "object.__class__") "getset_descriptor" := F.typeOf_object_class;have y2:(Value.ref C::bm).contains (.type (".".intercalate ("object.__class__".cutAt '.').dropLast))=true:=by
  rw[F.owner_object_class,contains_cons,ho,Bool.or_true]
 refine codeAny_call_builtin F.slot_gs_get.plain F.entry_gs_get (F.slot_gs_get.check _ _ _ _ _ _ _ _ y1 (F.args_gs_get _ _ _) ?_)
 repeat (any_goals (first|assumption|(with_reducible refine wpAny_loadPart_at hx ?_; rw[hc])|(with_reducible refine wpAny_isSubtype_exc hC ?_; rw[y2])|wp_step))
 refine⟨Code.quiet_builtin _ (by decide +kernel),codeAny_builtin F.entry_object_class ?_⟩
 repeat (any_goals (first|assumption|(with_reducible refine wpAny_loadPart_at hx ?_; rw[hc])|wp_step))
theorem a8W {tk:Tok}{Q:Fin→Shared→Prop}(hC:h.get? C=some (excClassObj nm q C N bs bm hdct sn sub ab col dd k0 k1 k2 k3 k5 newId))(ho:bm.contains (.type "object")=true)
  (l1:Lk prog w h (.ref C) "__class__" (some (.builtin "object.__class__"))) (hx:h.get? a=some o) (hc:o.cls=.ref C) (hq:Q (.done (.ret (.ref C))) ⟨h,g,d,t,os⟩) :
  wpAny (model prog w) A (Builtin.«object.__getattribute__» ⟨[.ref a,.str "__class__" tk],[]⟩) Q E ⟨h,g,d,t,os⟩:=by
 have y1:(⟨h,g,d,t,os⟩:Shared).TypeIs (.builtin "object.__class__") "getset_descriptor" := F.typeOf_object_class;have y2:=F.typeOf_object_class;have y3:=F.slot_gs_get.lookup;have y4:=F.slot_gs_set.lookup
 repeat (any_goals (first|assumption|(with_reducible refine wpAny_loadPart_at hx ?_; rw[hc])|with_reducible refine l1.at ?_|wp_step))
 refine aEB hC ho hx hc ?_
 repeat (any_goals (first|assumption|wp_step))
theorem a0Y {M:Model}{v:Value}{Q:Unit→Shared→Prop}(hC:h.get? C=some (excClassObj nm q C N bs bm hdct sn sub ab col dd k0 k1 k2 k3 k5 newId))(hb:bm.contains (.type "BaseException")=true)
  (hx:h.get? a=some o) (hc:o.cls=.ref C) (hq:Q () ⟨h,g,d,t,os⟩):wpAny M A (checkBuiltinCall "BaseException.__getattribute__" ⟨[.ref a,v],[]⟩) Q E ⟨h,g,d,t,os⟩:=by
 have y1:builtinKind "BaseException.__getattribute__" = some .slot:=by decide +kernel
 have y2:splitId "BaseException.__getattribute__" = some ("BaseException", "__getattribute__"):=by decide +kernel
 have y3:(Value.ref C::bm).contains (.type "BaseException")=true:=by rw[contains_cons,hb,Bool.or_true]
 have y4:=F.args_bexc_ga (.ref a) v;simp only[checkBuiltinCall,y1,y2];refine wpAny_bind ?_;unfold isInstance
 repeat (first|(with_reducible refine wpAny_loadPart_at hx ?_; rw[hc])|(with_reducible refine wpAny_isSubtype_exc hC ?_; rw[y3])|wp_step)
 exact hq
theorem aAY {Q:Option Value→Shared→Prop}(ga:Slot "ValueError" "__getattribute__" "BaseException.__getattribute__")(hC:h.get? C=some (excClassObj nm q C N bs bm hdct sn sub ab col dd k0 k1 k2 k3 k5 newId))(ho:bm.contains (.type "object")=true)(hb:bm.contains (.type "BaseException")=true)
  (l1:Lk prog w h (.ref C) "__class__" (some (.builtin "object.__class__"))) (l2:Lk prog w h (.ref C) "__getattribute__" (some (.builtin "BaseException.__getattribute__")))
  (l3:Lk prog w h (.ref C) "__getattr__" none) (hx:h.get? a=some o) (hc:o.cls=.ref C) (hq:Q (some (.ref C)) ⟨h,g,d,t+1,os⟩):wpAny (model prog w) A (getAttr? (.ref a) "__class__") Q E ⟨h,g,d,t,os⟩:=by
 have y1:=ga.bind (.ref a);have y2:(Value.builtin "BaseException.__getattribute__" == Value.builtin "object.__getattribute__")=false:=by decide +kernel
 have y3:(onTheHeap (Value.ref C)&&Value.builtin "BaseException.__getattribute__" == Value.builtin "object.__getattribute__")=false:=by rw[y2]; rfl
 have ht:∀ t,(⟨h,g,d,t,os⟩:Shared).heap=h:=fun _=>rfl;unfold getAttr? getAttrBy? getAttrBy
 repeat (any_goals (first|assumption|(with_reducible refine wpAny_loadPart_at hx ?_; rw[hc])|with_reducible refine l2.at ?_|with_reducible refine l3.at ?_|wp_step))
 refine codeAny_call_builtin ga.plain F.entry_bexc_ga (a0Y hC hb hx hc (a8W hC ho l1 hx hc ?_))
 repeat (any_goals (first|assumption|wp_step))
theorem a2C {M:Model}{e D N':Addr}{nm' q':Str}{bs' bm':List Value}{hdct':Bool}{sn':List Str}{sub':List Value}{ab':Bool}{col':Option Bool}{dd':Option Addr}{j0 j1 j2 j3 j5:Option Value}{newId':String}{Q:Bool→Shared→Prop}
  (hC:h.get? C=some (excClassObj nm q C N bs bm hdct sn sub ab col dd k0 k1 k2 k3 k5 newId)) (hD:h.get? D=some (excClassObj nm' q' D N' bs' bm' hdct' sn' sub' ab' col' dd' j0 j1 j2 j3 j5 newId'))
  (he:h.get? e=some o) (hc:o.cls=.ref C) (hb:bm'.contains (.type "BaseException")=true) (y2:(Value.ref C::bm).contains (.ref D)=true) (hq:Q true ⟨h,g,d,t,os⟩):wpAny M A (excMatches (.ref e) (.ref D)) Q E ⟨h,g,d,t,os⟩:=by
 have y1:(Value.ref D::bm').contains (.type "BaseException")=true:=by rw[contains_cons,hb,Bool.or_true]
 have y3:=tc_notTuple;unfold excMatches
 repeat (first|(with_reducible refine wpAny_loadPart_at he ?_; rw[hc])|with_reducible refine wpAny_loadPart_at hD ?_|(with_reducible refine wpAny_isSubtype_exc hD ?_; rw[y1])|(with_reducible refine wpAny_isSubtype_exc hC ?_; rw[y2])|wp_step)
 exact hq
end
def vmro:List Value:=[.type "ValueError", .type "Exception", .type "BaseException", .type "object"]
theorem Lk.of {K:Fg}{prog:Program}{w:World}{h:Heap}{c:Value}{n:Str}{r:Option Value}(X:K.In h)(e:findIn K c n=some r):Lk prog w h c n r:=fun A Q E s hs hq=>by
 obtain⟨hh,g,d,t,os⟩:=s
 cases hs
 exact(looks_findIn X e).at hq
end L2
namespace L2
open PySem PySem.Spec PyProof.Rows
section
variable {X:Cx}{pins:List (Addr×Obj)}{σ:St}{H:Hp}{s:Shared}
abbrev Cx.marked (X:Cx)(e:Value):Cx:={ X with A:=X.A.mark (some e),calm:=false,xe:=fun _ _=>False }
theorem Inv.marked (I:Inv X pins σ H s)(e:Value):Inv (X.marked e) pins σ H s:=
 ⟨⟨I.ok.mod,I.ok.kind,I.ok.glob,I.ok.blt,I.ok.above,I.ok.inj,I.ok.has,I.ok.cab,(fun h=>nomatch h),I.ok.frames,I.ok.stk,I.ok.exf,I.ok.bs,I.ok.bsz,I.ok.noex,I.ok.exfs,I.ok.funs,I.ok.frf⟩,I.os,I.bare,I.base,I.loc,I.cell,I.free,I.freeC,I.pin,I.hok,I.len⟩
theorem Inv.unmarked {e:Value}(ok:X.Ok)(I:Inv (X.marked e) pins σ H s):Inv X pins σ H s:=
 ⟨ok,I.os,I.bare,I.base,I.loc,I.cell,I.free,I.freeC,I.pin,I.hok,I.len⟩
theorem Inv.goes {i:Nat}{x:Str}{v:Option Value}{m:Mg}{h':Heap}{t:Nat}(I:Inv X pins σ H s)(hN:X.N.Nodup)(hi:X.N[i]?=some x)(hl:X.env.kindOf x=some .local)
  (hm:s.heap.Ns X.env.locals m∧∀(j:Nat) (y:Str) (v:V),X.N[j]?=some y→σ[j]?=some (some v)→Vis X.env.scope y→∃ u,RelV v u∧Look X.env s.heap m y u)
  (hn:h'.Ns X.env.locals (fun y=>if y=x then v else m y)) (hs:Heap.SameBut X.env.locals s.heap h'):Inv X pins (σ.set i none) H { s with heap:=h',toks:=t }:=by
 obtain⟨oL,_,_,hoL,_⟩:=id hm.1;have neL:∀ b o,X.s₀.heap.get? b=some o→b≠X.env.locals:=fun b o e=>ne_of_lt (lt_of_lt_of_le (lt_size e) I.ok.above);refine⟨I.ok,I.os,I.bare,⟨fun b o e n hb hx=>(hs.2 b (neL b o e)).trans (I.base.keep b o e n hb hx),fun b o e n hb hx=>?_,I.base.free,fun b o e hx=>?_,I.base.tups,I.base.frzs,I.base.tbls⟩,⟨_,hn,fun j y u e1 e2 e3=>?_⟩,fun y c e=>?_,I.free,I.freeC,fun p hp=>?_,fun b u e=>?_,by rw[length_set]; exact I.len⟩
 ·obtain⟨sl,e1⟩:=I.base.slot b o e n hb hx;exact⟨sl,(hs.2 b (neL b o e)).trans e1⟩
 ·obtain⟨o',e1⟩:=I.base.there b o e hx;exact⟨o',(hs.2 b (neL b o e)).trans e1⟩
 ·by_cases hj:j=i
  ·subst hj;rw[List.getElem?_set] at e2
   split at e2
   ·split at e2<;>cases e2
   ·rename_i z; exact absurd rfl z
  ·rw[getElem?_set_ne (Ne.symm hj)] at e2;obtain⟨u',r',q⟩:=hm.2 j y u e1 e2 e3;have ny:y≠x:=fun z=>hj (v5 hN e1 (z▸hi));refine⟨u',r',?_⟩;rcases q with⟨k,e⟩|⟨k,c,e,z⟩
   ·exact .inl ⟨k,(if_neg ny).trans e⟩
   ·exact .inr ⟨k,c,e,z.sameBut hs (I.cne y c e)⟩
 ·obtain⟨u,z⟩:=I.cell y c e;exact⟨u,z.sameBut hs (I.cne y c e)⟩
 ·obtain⟨e,n,ne,nf,d⟩:=I.pin p hp;exact⟨(hs.2 p.1 ne).trans e,n,ne,nf,d⟩
 ·refine(I.hok b u e).stay (fun c w hc q=>(hs.2 c fun z=>?_).trans q) (fun _ q=>q) fun _ _ q=>q;have hf:=I.free;rw[← z] at hf;rcases hc with hc|hc
  ·rw[hc,e] at hf; cases hf
  ·rw[hc] at hf; cases hf
end
theorem ObjOk.has {P:Program}{w:World}{H:Hp}{h:Heap}{a:Addr}{o:HO}(x:ObjOk P w H h a o):∃ ob,h.get? a=some ob:=by
 cases o with
 | lst xs=>obtain⟨_,_,_,_,e⟩:=x; exact⟨_,e⟩
 | tup xs=>obtain⟨_,_,_,ob,e,_⟩:=x; exact⟨ob,e⟩
 | dK kvs=>obtain⟨_,_,_,_,ob,_,_,e,_⟩:=x; exact⟨ob,e⟩
 | dT kvs=>obtain⟨_,_,_,_,ob,_,_,e,_⟩:=x; exact⟨ob,e⟩
 | set S n=>obtain⟨ob,_,_,_,e,_⟩:=x; exact⟨ob,e⟩
 | ins C dx fs=>obtain⟨_,_,_,e,_⟩:=x; exact⟨_,e⟩
 | own y=>exact x
 | xd fs=>obtain⟨_,⟨ob,_,_,e,_⟩,_⟩:=x; exact⟨ob,e⟩
 | met f y=>exact⟨_,x⟩
 | rng lo hi=>obtain⟨_,_,_,e⟩:=x; exact⟨_,e⟩
 | frz ob u=>exact⟨ob,x.1⟩
 | tbl ps=>exact⟨_,x⟩
 | ext φ=>exact x.2.1
section
variable {X:Cx}{k:Nat}{f C D0:Addr}{fd:FuncData}{ps:List Str}{sp:Sp}{x lx ex cx:Str}{p cp ep lp p1 p2 p3 hp pos:Pos}{e:Expr}{es:List Expr}{t:TA}{i j:Nat}
end
end L2
namespace L2
open PySem PySem.Spec PyProof.Rows
def aER:TE:=fun _ H Q=>∀ p,H p=none→Q (.ref p) (upd H p (.dK []))
theorem a5X {X:Cx}{pos:Pos}:PE X (.Dict [] [] pos) aER:=by
 intro pins s σ H Q I h;have big:sysModules<s.heap.objs.size:=lt_trans (by decide) (show mainGlobals<s.heap.objs.size from(I.mod.glob.keeps I.bk).lt);have ok:ObjOk X.prog X.w (upd H s.heap.objs.size (.dK [])) (s.heap.push { cls:=.type "dict", data:=.dict #[] }) s.heap.objs.size (.dK []):=⟨zero_le _,beq_eq_false_iff_ne.mpr (Ne.symm (ne_of_lt big)),[],.nil,Heap.DictOf.new _⟩;exact wpAny_Dict_empty ⟨.ref s.heap.objs.size,_,I.laid (a:=s.heap.objs.size) (o:=.dK []) (t':=s.toks) (fun _ _ q=>get?_push_of_some _ q) (le_refl _) ok,rfl,h _ (I.hok.fresh (le_refl _))⟩
namespace VS
variable {P0:Addr→Hp→Prop}
def a8V:ME:=fun Γ Q=>Q (.dict []) Γ
theorem a6A:VT P0 aER a8V:=by
 intro F Γ σ G H Q Qm r m k p hp;have g:=fP (r.fr.gfresh hp) (.dK []);exact k _ _ _ _ _ m g (r.new hp) (.dic (.inl aW) .nil)
theorem aFM {Γ:En}{Q:D→En→Prop}(h:Q (.dict []) Γ):a8V Γ Q:=h
end VS
end L2
namespace L2
open PySem PySem.Spec PyProof.Rows
@[irreducible] def PSi (X:Cx) (L:List Stmt) (t:TS):Prop:=PSs X L t
@[irreducible] def PSd (X:Cx) (st:Stmt) (t:TS):Prop:=PS X st t
@[irreducible] def PEd (X:Cx) (e:Expr) (t:TE):Prop:=PE X e t
@[irreducible] def PAd (X:Cx) (es:List Expr) (t:TA):Prop:=PA X es t
section
variable {X:Cx}{L rest:List Stmt}{st:Stmt}{t u:TS}{e a b:Expr}{es:List Expr}{te ta tb:TE}{tl:TA}{pos:Pos}
theorem a5L (h:PSi X L t):PSs X L t:=by unfold PSi at h; exact h
theorem aDU (h:PS X st t):PSd X st t:=by unfold PSd; exact h
theorem aJ (h:PE X e te):PEd X e te:=by unfold PEd; exact h
theorem c7 (h1:PSd X st t)(h2:PSi X rest u):PSi X (st::rest) (aG2 t u):=by
 unfold PSi PSd at *;exact aM h1 h2
theorem dO {i:Nat}{x:Str}{pos':Pos}(hN:X.N.Nodup)(hi:X.N[i]?=some x)(hx:Loc X.env.scope x)(he:PEd X e te)(hs:swapsWith e (some (.Name x pos')) pos.line X.env=pure false:=by rfl)(hf:X.fn x=true∨X.env.scope.names.lookup x=some .local:=by first|exact .inl rfl|exact .inr rfl|assumption) :
  PSd X (.Assign [.Name x pos'] e pos) (aAP te (yD i)):=by
 unfold PSd PEd at *;exact cL hN hi hx he hs hf
theorem lU {r:R2}(hr:IxR X r)(ha:PEd X a ta)(hb:PE X b tb)(hs:a76 b):PEd X (.Subscript a b pos) (tOp r ta tb):=by
 unfold PEd at *;exact bQ hr ha hb hs
theorem cM (h:PAd X es tl):PEd X (.List es pos) (aGU tl):=by
 unfold PEd PAd at *;exact iU h
end
end L2
namespace L2.VS
open PySem PySem.Spec PyProof.Rows
section
variable {P0:Addr→Hp→Prop}{S:Type}
structure Fam (S:Type) where
 box:Addr→S→Bx
 pin:∀{p s v fp G H},(box p s).P v fp G H→v=.ref p
def RvP (G H:Hp)(v:V)(fp:List Addr):Rv→Prop
 | .val d=>fp=[]∧Dt G v d
 | .own ds=>∃ p vs,fp=[p]∧v=.ref p∧H p=some (.lst vs)∧Dts G vs ds
 | .box B=>B.P v fp G H
section
variable {G G' H H':Hp}{v:V}{fp fp':List Addr}
theorem RvP.mono (g:Same G G'):∀{rv:Rv},RvP G H v fp rv→RvP G' H v fp rv
 | .val _,h=>⟨h.1,Dt.same g _ _ h.2⟩
 | .own _,h=>let ⟨p,vs,a,b,c,d⟩:=h; ⟨p,vs,a,b,c,Dts.same g _ _ d⟩
 | .box B,h=>B.mono g h
theorem RvP.loc (k:∀ b∈fp,H' b=H b):∀{rv:Rv},RvP G H v fp rv→RvP G H' v fp rv
 | .val _,h=>h
 | .own _,h=>let ⟨p,vs,a,b,c,d⟩:=h; ⟨p,vs,a,b,(k p (by rw[a]; exact mem_singleton.mpr rfl)).trans c,d⟩
 | .box B,h=>B.loc k h
theorem RvP.dom:∀{rv:Rv},RvP G H v fp rv→∀ b∈fp,∃ o,H b=some o
 | .val _,h=>fun b hb=>by rw[h.1] at hb; cases hb
 | .own _,h=>fun b hb=>by
  obtain⟨p,vs,a,_,c,_⟩:=h;rw[a] at hb;rw[mem_singleton.mp hb];exact⟨_,c⟩
 | .box B,h=>B.dom h
theorem RvP.uniq:∀{rv:Rv},RvP G H v fp rv→RvP G H v fp' rv→fp=fp'
 | .val _,h,g=>h.1.trans g.1.symm
 | .own _,h,g=>by
  obtain⟨p,_,a,b,_⟩:=h;obtain⟨q,_,c,d,_⟩:=g;rw[b] at d
  cases d
  rw[a,c]
 | .box B,h,g=>B.uniq h g
theorem RvP.nt:∀{rv:Rv},RvP G H v fp rv→∀ b∈fp,∀ xs,H b=some (.tup xs)→∃ q∈fp,V.ref q∈xs∧∃ vs,H q=some (.lst vs)
 | .val _,h=>fun b hb=>by rw[h.1] at hb; cases hb
 | .own _,h=>fun b hb xs e=>by
  obtain⟨p,vs,a,_,c,_⟩:=h;rw[a] at hb;rw[mem_singleton.mp hb,c] at e
  cases e
 | .box B,h=>B.nt h
end
def bKp (W:Fam S)(rv:Rv)(p:Addr)(s:S):Bx where
 P:=fun v fp G H=>∃ f1 f2,fp=f1++f2∧RvP G H v f1 rv∧(W.box p s).P (.ref p) f2 G H∧∀ b∈f1,b∉f2
 mono:=fun g ⟨f1,f2,e,a,b,c⟩=>⟨f1,f2,e,a.mono g,(W.box p s).mono g b,c⟩
 loc:=fun k ⟨f1,f2,e,a,b,c⟩=>⟨f1,f2,e,a.loc fun x hx=>k x (by rw[e]; exact mem_append_left _ hx),(W.box p s).loc (fun x hx=>k x (by rw[e]; exact mem_append_right _ hx)) b,c⟩
 dom:=fun⟨f1,f2,e,a,b,c⟩ x hx=>by
  rw[e] at hx;exact(mem_append.mp hx).elim (a.dom x) ((W.box p s).dom b x)
 uniq:=fun⟨f1,f2,e,a,b,_⟩ ⟨g1,g2,e',a',b',_⟩=>by rw[e,e',a.uniq a',(W.box p s).uniq b b']
 nt:=fun⟨f1,f2,e,a,b,_⟩ x hx xs z=>by
  rw[e] at hx;rcases mem_append.mp hx with h|h
  ·obtain⟨q,h1,h2⟩:=a.nt x h xs z;exact⟨q,by rw[e]; exact mem_append_left _ h1,h2⟩
  ·obtain⟨q,h1,h2⟩:=(W.box p s).nt b x h xs z;exact⟨q,by rw[e]; exact mem_append_right _ h1,h2⟩
 view:=none
 vok:=fun _ z=>nomatch z
def iG (W:Fam S)(m:MO):MS:=fun Γ Q=>m Γ fun rv Γ1=>∃ p s,Γ1[0]?=some (.box (W.box p s))∧Q (.rt (.box (bKp W rv p s)))
theorem cX {W:Fam S}{A:Nat→Bool}{t:TE}{m:MO}(h:VO P0 t m):VSA P0 A (aFY t) (iG W m):=by
 intro F Γ σ G H E Qm r hm k;refine h F Γ σ G H _ _ r hm fun rv Γ1 v G1 H1 m1 s1 r1 v1 a1=>?_;obtain⟨p,s,e,q⟩:=m1;obtain⟨fps,h1,h2⟩:=r1.fps;have h0:=h1 0 _ e;obtain⟨w,ew,pw,nw⟩:=id h0;have z:=W.pin pw;subst z;refine k _ q v G1 H1 s1 r1.fr ?_
 cases rv with
 | val d=>exact⟨_,⟨[],fps 0,rfl,⟨rfl,v1⟩,pw,fun b hb=>nomatch hb⟩,nw⟩
 | own ds=>
  obtain⟨u,vs,rfl,e1,e2,e3,e4⟩:=v1;refine⟨_,⟨[u],fps 0,rfl,⟨u,vs,rfl,rfl,e3,e4⟩,pw,fun b hb=>?_⟩,fun b hb=>?_⟩
  ·rw[mem_singleton.mp hb];exact a1 0 _ _ e h0 u rfl
  ·rcases mem_append.mp hb with hb|hb
   ·rw[mem_singleton.mp hb];exact⟨e1,e2⟩
   ·exact nw b hb
 | box B=>
  obtain⟨fp,e1,e2⟩:=v1;refine⟨_,⟨fp,fps 0,rfl,e1,pw,fun b hb=>a1 0 _ _ fp e h0 e1 b hb⟩,fun b hb=>?_⟩;rcases mem_append.mp hb with hb|hb
  ·exact e2 b hb
  ·exact nw b hb
abbrev Lm (S:Type):=Addr→S→List Sl→(Rv→S→Prop)→Prop
def a3F (W:Fam S)(n:Nat)(b:MS):Lm S:=fun p s as Q=>b (.box (W.box p s)::(as++List.replicate n .no)) fun fl=>match fl with
 | .rt rv=>∃ rv0 s',rv=.box (bKp W rv0 p s')∧Q rv0 s'
 | .nx Γ=>∃ s',Γ[0]?=some (.box (W.box p s'))∧Q (.val .none) s'
 | _=>False
def spL (P0:Addr→Hp→Prop)(W:Fam S)(n:Nat)(f:Lm S):Sp:=fun vs H Q _=>∃(F:Fra P0) (p:Addr) (s:S) (fp:List Addr) (ws:List V) (as:List Sl) (Qm:Rv→S→Prop),vs=.ref p::ws∧(∀ b,F.H0 b=if b∈fp then none else H b)∧Rf F F.G0 H ∧
 (W.box p s).P (.ref p) fp F.G0 H∧(∀ b∈fp,F.G0 b=none)∧Paired (mZ F F.G0) ws as∧as.length+1=n∧f p s as Qm ∧
 ∀ rv s' r f1 f2 G' H',Qm rv s'→Rf F G' H'→RvP G' H' r f1 rv→(W.box p s').P (.ref p) f2 G' H'→(∀ b∈f1,b∉f2)→(∀ b∈f1++f2,F.H0 b=none∧G' b=none)→Q r H'
theorem aCM {F:Fra P0}{G:Hp}{ws:List V}{as:List Sl}{i k m:Nat}{s:Sl}(pr:Paired (mZ F G) ws as)(e:(as++List.replicate k Sl.no)[i]?=some s)(hne:s≠.no) :
  ∃ v,(ws.map some++List.replicate m none)[i]?=some (some v)∧mZ F G v s:=by
 induction pr generalizing i with
 | nil=>
  rw[nil_append,getElem?_replicate] at e
  split at e
  ·cases e; exact absurd rfl hne
  ·cases e
 | cons a b ih=>
  cases i with
  | zero=>cases e; exact⟨_,rfl,a⟩
  | succ i=>exact ih e
theorem a4I {W:Fam S}{n k:Nat}{N:List Str}{t:TS}{b:MS}(h:VS P0 t b)(hN:N.length=n+k){vs:List V}{H:Hp}{Q:VK}{E:XK}(hs:spL P0 W n (a3F W k b) vs H Q E) :
  t { nx:=fun _ H'=>Q .non H',rt:=Q } (start N vs) H:=by
 obtain⟨F,p,s,fp,ws,as,Qm,rfl,hH,rf,hP,hG,pr,hl,hm,q⟩:=hs;have hlen:ws.length=as.length:=Paired.length pr;have r:R F (.box (W.box p s)::(as++List.replicate k .no)) (start N (.ref p::ws)) F.G0 H:=by
  refine⟨rf,?_,fun i=>if i=0 then fp else[],fun i u e=>?_,fun i j u z _ _ hij b hb hc=>?_⟩
  ·unfold start;simp only[length_cons,length_append,length_replicate,length_map];omega
  ·cases i with
   | zero=>
    cases e
    exact⟨.ref p,rfl,hP,fun b hb=>⟨by have hb:b∈fp:=hb; rw[hH,if_pos hb],hG b hb⟩⟩
   | succ i=>
    have e:(as++List.replicate k Sl.no)[i]?=some u:=e;have at_:u≠.no→∃ v,(start N (.ref p::ws))[i+1]?=some (some v)∧mZ F F.G0 v u:=fun hne=>by
     obtain⟨v,ev,av⟩:=aCM (m:=N.length-(ws.length+1)) pr e hne;exact⟨v,ev,av⟩
    cases u with
    | no=>rfl
    | val d=>
     obtain⟨v,ev,av⟩:=at_ (by intro z; cases z)
     exact⟨rfl,v,ev,av⟩
    | own ds=>
     obtain⟨v,ev,av⟩:=at_ (by intro z; cases z)
     exact av.elim
    | pen=>
     obtain⟨v,ev,q,rfl,eq⟩:=at_ (by intro z; cases z)
     exact⟨rfl,q,ev,eq⟩
    | con q=>
     obtain⟨v,ev,av⟩:=at_ (by intro z; cases z)
     have av:v=.ref q:=av;rw[av] at ev;exact⟨rfl,ev⟩
    | pub B=>
     obtain⟨v,ev,av⟩:=at_ (by intro z; cases z)
     exact⟨rfl,v,ev,av⟩
    | box B=>
     obtain⟨v,ev,av⟩:=at_ (by intro z; cases z)
     exact av.elim
  ·dsimp only at hb hc
   split at hb
   ·rename_i hi
    split at hc
    ·rename_i hj; exact hij (hi.trans hj.symm)
    ·cases hc
   ·cases hb
 refine h F _ _ _ _ _ _ r hm fun fl hq=>?_
 cases fl with
 | nx Γ=>
  intro σ G' H' _ r' _;obtain⟨s',e,hq⟩:=hq;obtain⟨fps,h1,_⟩:=r'.fps;obtain⟨w,ew,pw,nw⟩:=h1 0 _ e;have z:=W.pin pw;subst z;exact q _ _ _ [] _ _ _ hq r'.fr ⟨rfl,.non⟩ pw (fun b hb=>nomatch hb) nw
 | rt rv=>
  intro v G' H' _ f' v';obtain⟨rv0,s',rfl,hq⟩:=hq;obtain⟨g,⟨f1,f2,rfl,a,b,c⟩,d⟩:=v';exact q _ _ _ _ _ _ _ hq f' a b c d
 | bk Γ=>exact hq.elim
 | ct Γ=>exact hq.elim
theorem aB7 {W:Fam S}{n:Nat}{f:Lm S}{ps:List Str}(h:ps.length=n):∀ vs H Q E,spL P0 W n f vs H Q E→vs.length=ps.length:=by
 rintro vs H Q E ⟨F,p,s,fp,ws,as,Qm,rfl,_,_,_,_,pr,hl,_⟩;rw[length_cons,Paired.length pr,hl,h]
theorem _root_.L2.Fun.okL {P:Program}{w:World}{K:Fg}{mg:Mg}{base:Heap}{x qual:Str}{st:Stmt}{f:Addr}{fd:FuncData}{N ps:List Str}{k n j:Nat}{b:MS}{W:Fam S}
  (F:Fun K x qual st f fd) (S0:FnScope N ps (aQ st)) (hn:ps.length=n) (hN:N.length=n+j)
  (hb:∀(cdv:Value) (A:Around) (outer:List Env) (s:Shared) (H:Hp) (E:XK),Room k (A.deeper (envOfC qual (aQ st) s.heap.objs.size f cdv)) →
   SsX P0 (a7E CX0 P w K mg base N qual (aQ st) f cdv A outer s H E).nox (fL st) b):FnOk P w K mg base CX0 (k+1) f fd ps (spL P0 W n (a3F W j b)):=by
 refine F.ok S0 (aB7 hn) fun cdv A outer s H vs Q E hr hs=>?_;obtain⟨t,h1,h2⟩:=hb cdv A outer s H E hr;exact⟨t,h1,a4I h2 hN hs⟩
def bZ (W:Fam S)(n:Nat)(f:Lm S)(i:Nat)(m:MA):MO:=fun Γ Q=>∃ p,(∃ s,Γ[i]?=some (.box (W.box p s)))∧m Γ fun as Γ1=>∃ s1,Γ1[i]?=some (.box (W.box p s1))∧as.length+1=n∧f p s1 as fun rv s'=>Q rv (Γ1.set i (.box (W.box p s')))
def Fra.less (F:Fra P0){G H:Hp}(r:Rf F G H)(fp:List Addr)(hf:∀ b∈fp,F.H0 b=none):Fra P0 where
 H0:=fun b=>if b∈fp then none else H b
 G0:=G
 pen:=F.pen
 stab:=fun p e H1 H2 h=>F.stab p e H1 H2 fun b o z=>by
  obtain⟨o',e'⟩:=r.dom z;exact h b o' (by rw[if_neg (fun hb=>by rw[hf b hb] at z; cases z)]; exact e')
 pin:=F.pin
 pin0:=fun p e=>by
  obtain⟨o,z⟩:=F.pin0 p e;obtain⟨o',e'⟩:=F.pin p e H (r.pn p e);exact⟨o',by rw[if_neg (fun hb=>by rw[hf p hb] at z; cases z)]; exact e'⟩
 pg:=fun p e=>by
  obtain⟨o,e0⟩:=F.pin0 p e;rw[r.g0 p o e0];exact F.pg p e
theorem bH {W:Fam S}{n i:Nat}{f:Lm S}{t:TA}{m:MA}{E:XK}(h:VA P0 t m):VO P0 (a3I (spL P0 W n f) [] E (eF (pO i) t)) (bZ W n f i m):=by
 intro F Γ σ G H Q Qm r hm k;obtain⟨p,⟨s,e⟩,hm⟩:=hm;obtain⟨fps0,g1,_⟩:=r.fps;obtain⟨w,ew,pw,_⟩:=g1 i _ e;have z:=W.pin pw;subst z;refine⟨.ref p,ew,h F Γ σ G H _ _ r hm fun as Γ1 rs G1 H1 m1 s1 r1 d1=>?_⟩;obtain⟨s1',e1,hl,hf⟩:=m1;obtain⟨fps,h1,h2⟩:=r1.fps;have hi:=h1 i _ e1;obtain⟨w,ew',pw',nw⟩:=id hi;have z:=W.pin pw';subst z;have hF:∀ b∈fps i,F.H0 b=none:=fun b hb=>(nw b hb).1;have inH:∀ b o,F.H0 b=some o→(if b∈fps i then none else H1 b)≠none:=fun b o z=>by
  obtain⟨o',e'⟩:=r1.fr.dom z;rw[if_neg (fun hb=>by rw[hF b hb] at z; cases z),e'];exact fun y=>nomatch y
 refine⟨F.less r1.fr (fps i) hF,p,s1',fps i,rs,as,fun rv s'=>Qm rv (Γ1.set i (.box (W.box p s'))),by rw[append_nil],fun b=>rfl,
  ⟨r1.fr.sub,fun _ _ _=>rfl,fun b o z _=>?_,r1.fr.pn⟩,pw',fun b hb=>(nw b hb).2,Paired.imp' (fun a s h=>by cases s<;>exact h) d1,hl,hf,fun rv s' v f1 f2 G' H' hq f' a b c d=>?_⟩
 ·have z:(if b∈fps i then none else H1 b)=some o:=z
  split at z
  ·cases z
  ·exact z
 ·have h0:∀ b,(F.less r1.fr (fps i) hF).H0 b=if b∈fps i then none else H1 b:=fun _=>rfl
  have nF:∀ b,(F.less r1.fr (fps i) hF).H0 b=none→F.H0 b=none:=fun b z=>by
   cases y:F.H0 b with
   | none=>rfl
   | some o=>exact absurd z (inH b o y)
  have sG:Same G1 G':=fun b o z=>by
   have hH:=r1.fr.sub b o z;have hb:b∉fps i:=fun hb=>by rw[(nw b hb).2] at z; cases z
   have y:=f'.g0 b o (by rw[h0,if_neg hb]; exact hH);exact y.trans z
  have rf:Rf F G' H':=by
   refine⟨f'.sub,fun b o z=>?_,fun b o z hb=>?_,f'.pn⟩
   ·obtain⟨o',e'⟩:=r1.fr.dom z;have hb:b∉fps i:=fun hb=>by rw[hF b hb] at z; cases z
    exact(f'.g0 b o' (by rw[h0,if_neg hb]; exact e')).trans (r1.fr.g0 b o z)
   ·have hb':b∉fps i:=fun hb=>by rw[hF b hb] at z; cases z
    exact f'.h0 b o (by rw[h0,if_neg hb']; exact r1.fr.h0 b o z hb) hb
  have oth:∀(j:Nat) (u:Sl),j≠i→Γ1[j]?=some u→∀ b∈fps j,(F.less r1.fr (fps i) hF).H0 b≠none∧G' b=none∧H' b=H1 b:=fun j u hj ej b hb=>by
   obtain⟨m1,m2,o,m3⟩:=(h1 j u ej).mine hb;have hb':=h2 j i u _ ej e1 hj b hb;have y:(F.less r1.fr (fps i) hF).H0 b=some o:=by rw[h0,if_neg hb']; exact m3
   refine⟨by rw[y]; exact(fun z=>nomatch z),(f'.g0 b o y).trans m2,?_⟩;rw[m3];exact f'.h0 b o y (F.pen_ne m1)
  have back:∀(j:Nat) (u:Sl),j≠i→(Γ1.set i (.box (W.box p s')))[j]?=some u→Γ1[j]?=some u:=fun j u hj ej=>by rw[getElem?_set_ne (Ne.symm hj)] at ej; exact ej
  have hil:i<Γ1.length:=(List.getElem?_eq_some_iff.mp e1).1;have new:R F (Γ1.set i (.box (W.box p s'))) σ G' H':=by
   refine⟨rf,by rw[length_set]; exact r1.len,fun j=>if j=i then f2 else fps j,fun j u ej=>?_,fun j l u z ej el hjl b hb hc=>?_⟩
   ·dsimp only
    by_cases hj:j=i
    ·subst hj;rw[if_pos rfl];rw[getElem?_set_self hil] at ej
     cases ej
     exact⟨.ref p,ew',b,fun x hx=>⟨nF x (d x (mem_append_right _ hx)).1,(d x (mem_append_right _ hx)).2⟩⟩
    ·rw[if_neg hj];have ej:=back j u hj ej;exact(h1 j u ej).go sG fun x hx=>(oth j u hj ej x hx).2
   ·dsimp only at hb hc
    by_cases hj:j=i
    ·rw[if_pos hj] at hb;have hl':l≠i:=fun y=>hjl (hj.trans y.symm);rw[if_neg hl'] at hc;exact(oth l z hl' (back l z hl' el) b hc).1 (d b (mem_append_right _ hb)).1
    ·rw[if_neg hj] at hb
     by_cases hl':l=i
     ·rw[if_pos hl'] at hc;exact(oth j u hj (back j u hj ej) b hb).1 (d b (mem_append_right _ hc)).1
     ·rw[if_neg hl'] at hc;exact h2 j l u z (back j u hj ej) (back l z hl' el) hjl b hb hc
  have apart:∀(j:Nat) (u:Sl) (fp:List Addr),(Γ1.set i (.box (W.box p s')))[j]?=some u→SlF F G' H' σ[j]? fp u→∀ x∈f1,x∉fp:=fun j u fp ej hu x hx hxf=>by
   by_cases hj:j=i
   ·subst hj;rw[getElem?_set_self hil] at ej
    cases ej
    obtain⟨w,ew2,pw2,_⟩:=hu;rw[ew'] at ew2
    cases ew2
    rw[(W.box p s').uniq pw2 b] at hxf;exact c x hx hxf
   ·have ej:=back j u hj ej;have y:=SlF.det hu ((h1 j u ej).go sG fun x hx=>(oth j u hj ej x hx).2);rw[y] at hxf;exact(oth j u hj ej x hxf).1 (d x (mem_append_left _ hx)).1
  refine k rv _ v G' H' hq (s1.trans sG) new ?_ ?_
  ·cases rv with
   | val d'=>exact a.2
   | own ds=>
    obtain⟨u,vs,e2,e3,e4,e5⟩:=a;have hu:=d u (mem_append_left _ (by rw[e2]; exact mem_singleton.mpr rfl));exact⟨u,vs,e3,nF u hu.1,hu.2,e4,e5⟩
   | box B=>exact⟨f1,a,fun x hx=>⟨nF x (d x (mem_append_left _ hx)).1,(d x (mem_append_left _ hx)).2⟩⟩
  ·cases rv with
   | val d'=>trivial
   | own ds=>
    intro j u fp ej hu y ey hy;obtain⟨u',vs,e2,e3,e4,e5⟩:=a;rw[e3] at ey
    cases ey
    exact apart j u fp ej hu _ (by rw[e2]; exact mem_singleton.mpr rfl) hy
   | box B=>
    intro j u fp g ej hu hg x hx;have y:g=f1:=B.uniq hg a;rw[y] at hx;exact apart j u fp ej hu x hx
end
section
variable {P0:Addr→Hp→Prop}
def aIZ (p:Addr)(n:Nat)(H:Hp):Prop:=∃ z c k:Int,H p=some (.lst [.int z,.int c,.int k])∧0≤z∧0≤c∧c<1099511627776∧0≤k∧k≤(n:Int)
def penF:Fam Nat where
  box:=fun p n=>
    { P:=fun v fp _ H=>v=.ref p∧fp=[p]∧aIZ p n H
      mono:=fun _ h=>h
      loc:=fun k ⟨a,b,z,c,m,e,r⟩=>⟨a,b,z,c,m,(k p (by rw[b]; exact mem_singleton.mpr rfl)).trans e,r⟩
      dom:=fun⟨_,b,z,c,m,e,_⟩ x hx=>by
        rw[b] at hx;rw[mem_singleton.mp hx];exact⟨_,e⟩
      uniq:=fun h g=>h.2.1.trans g.2.1.symm
      nt:=fun⟨_,b,z,c,m,e,_⟩ x hx xs y=>by
        rw[b] at hx;rw[mem_singleton.mp hx,e] at y
        cases y
      view:=none
      vok:=fun _ z=>nomatch z }
  pin:=fun h=>h.1
def a6D:Sp:=fun vs H Q _=>∃(pen:Addr) (m z c k:Int) (n:Nat),vs=[.ref pen,.int m]∧H pen=some (.lst [.int z,.int c,.int k])∧0≤z∧0≤c∧c<1099511627776∧0≤k∧k≤(n:Int)∧n<1000000000∧0<m∧m<1073741824 ∧
 ∀(r:Int) (H':Hp),0≤r→r<m→aIZ pen (n+1) H'→aEZ pen H H'→Q (.int r) H'
def cN:Lm Nat:=fun _ n as Q=>match as with
 | [.val (.int m)]=>0<m∧m<1073741824∧n<1000000000∧∀ r:Int,0≤r→r<m→Q (.val (.int r)) (n+1)
 | _=>False
theorem a93:∀ vs H Q E,spL P0 penF 2 cN vs H Q E→a6D vs H Q E:=by
 rintro vs H Q E ⟨F,p,n,fp,ws,as,Qm,rfl,hH,rf,hP,hG,pr,hl,hm,q⟩;unfold cN at hm
 split at hm
 ·rename_i m
  cases pr with
  | cons a1 b1=>
   cases b1
   have a1:Dt F.G0 _ (.int m):=a1
   cases a1
   obtain⟨_,rfl,z,c,k,e,hz,hc,hc2,hk,hkn⟩:=hP;refine⟨p,m,z,c,k,n,rfl,e,hz,hc,hc2,hk,hkn,hm.2.2.1,hm.1,hm.2.1,fun r H' r0 r1 hp hx=>?_⟩;have nb:∀ b o,F.H0 b=some o→b≠p∧H b=some o:=fun b o y=>by
    rw[hH] at y
    split at y
    ·cases y
    ·rename_i hb
     exact⟨fun w=>hb (by rw[w]; exact mem_singleton.mpr rfl),y⟩
   refine q _ _ _ [] [p] F.G0 H' (hm.2.2.2 r r0 r1) ⟨fun b o y=>hx b o (fun w=>?_) (rf.sub b o y),fun _ _ _=>rfl,fun b o y _=>hx b o (nb b o y).1 (nb b o y).2,F.stab' H H' (fun b o y=>?_) rf.pn⟩ ⟨rfl,.int _⟩ ⟨rfl,rfl,hp⟩ (fun b hb=>nomatch hb) fun b hb=>?_
   ·rw[w,hG p (mem_singleton.mpr rfl)] at y; cases y
   ·rw[(nb b o y).2]; exact hx b o (nb b o y).1 (nb b o y).2
   ·have hb:b∈[p]:=hb;refine⟨by rw[hH,if_pos hb],hG b hb⟩
 ·exact hm.elim
theorem cG {p:Addr}{n:Nat}{m:Int}{Q:Rv→Nat→Prop}(h1:0<m)(h2:m<1073741824)(hn:n<1000000000)(h:∀ r:Int,0≤r→r<m→Q (.val (.int r)) (n+1)):cN p n [.val (.int m)] Q:=⟨h1,h2,hn,h⟩
theorem uA {S:Type}{W:Fam S}{n:Nat}{b:MS}{p:Addr}{s:S}{as:List Sl}{Q:Rv→S→Prop}(h:b (.box (W.box p s)::(as++List.replicate n .no)) fun fl=>match fl with
 | .rt rv=>∃ rv0 s',rv=.box (bKp W rv0 p s')∧Q rv0 s'
 | .nx Γ=>∃ s',Γ[0]?=some (.box (W.box p s'))∧Q (.val .none) s'
 | _=>False):a3F W n b p s as Q:=h
end
section
abbrev NoP:Addr→Hp→Prop:=fun _ _=>False
def a08 (K:Fg):Sp:=fun vs H Q _=>∃(a:Addr) (ns:List Int) (j:Int),vs=[.ref a,.int j]∧SqL K H a (ns.map V.int)∧0≤j∧j<1000∧∀ p z c,H p=none→0≤z→0≤c→c<1099511627776→Q (.ref p) (upd H p (.lst [.int z,.int c,.int 1]))
end
end L2.VS
namespace L2
open PySem PySem.Spec PyProof.Rows
abbrev TX:=Ends→(List (Option V)→XK)→List (Option V)→Hp→Prop
section
variable {X:Cx}{k:Nat}{f C D0:Addr}{fd:FuncData}{ps:List Str}{sp:Sp}{x m lx ex cx:Str}{p cp ep lp p1 p2 p3 hp pos pos' apos:Pos}{o e:Expr}{es:List Expr}{ta:TE}{t:TA}{i j:Nat}
end
end L2
namespace L2.VS
open PySem PySem.Spec PyProof.Rows
section
variable {P0:Addr→Hp→Prop}
section
variable {C:Addr}{x:Str}{i:Nat}
variable {E:XK}
end
end
section
variable {P0:Addr→Hp→Prop}
end
section
variable {P0:Addr→Hp→Prop}{S:Type}
structure PartAt (W:Fam S)(p:Addr)(B:S→Bx)(v:V)(s:S)(fp f0:List Addr)(G H:Hp):Prop where
 sub:∀ b∈f0,b∈fp
 own:(W.box p s).P (.ref p) f0 G H
 back:∀ s' f0' G' H',Same G G'→(W.box p s').P (.ref p) f0' G' H'→(∀ b∈fp,b∉f0→H' b=H b∧b∉f0')→∃ fp',(B s').P v fp' G' H'∧∀ b∈fp',b∈f0'∨(b∈fp∧b∉f0)
def PartOf (W:Fam S)(p:Addr)(B:S→Bx):Prop:=∀{s v fp G H},(B s).P v fp G H→∃ f0,PartAt W p B v s fp f0 G H
theorem PartOf.self {W:Fam S}{p:Addr}:PartOf W p (W.box p):=fun{s v fp G H} h=>by
 have z:=W.pin h;subst z;exact⟨fp,fun _ h=>h,h,fun s' f' G' H' _ h' _=>⟨f',h',fun b hb=>.inl hb⟩⟩
section
variable {W:Fam S}{B:S→Bx}{i:Nat}{p:Addr}{s1 s':S}{F:Fra P0}{Γ1:En}{σ:St}{G1 H1 G' H':Hp}{v:V}{fp f0 f1 f2:List Addr}
theorem R.unlend (r1:R F Γ1 σ G1 H1)(e1:Γ1[i]?=some (.box (B s1)))(hi:SlF F G1 H1 σ[i]? fp (.box (B s1)))(hv:σ[i]?=some (some v))(hp:PartAt W p B v s1 fp f0 G1 H1)(hF:∀ b∈f0,F.H0 b=none)
  (f':Rf (F.less r1.fr f0 hF) G' H') (b2:(W.box p s').P (.ref p) f2 G' H') (d2:∀ b∈f2,(F.less r1.fr f0 hF).H0 b=none∧G' b=none) :
  Same G1 G'∧R F (Γ1.set i (.box (B s'))) σ G' H'∧(∀ b,(F.less r1.fr f0 hF).H0 b=none→F.H0 b=none) ∧
  ∀ f1:List Addr,(∀ b∈f1,(F.less r1.fr f0 hF).H0 b=none)→(∀ b∈f1,b∉f2)→∀(j:Nat) (u:Sl) (fq:List Addr),(Γ1.set i (.box (B s')))[j]?=some u→SlF F G' H' σ[j]? fq u→∀ x∈f1,x∉fq:=by
 obtain⟨fps,h1,h2⟩:=r1.fps;have z:=SlF.det hi (h1 i _ e1);subst z;obtain⟨v',ev',pv',nw⟩:=id hi;rw[hv] at ev'
 cases ev'
 have h0:∀ b,(F.less r1.fr f0 hF).H0 b=if b∈f0 then none else H1 b:=fun _=>rfl
 have inH:∀ b o,F.H0 b=some o→(if b∈f0 then none else H1 b)≠none:=fun b o z=>by
  obtain⟨o',e'⟩:=r1.fr.dom z;rw[if_neg (fun hb=>by rw[hF b hb] at z; cases z),e'];exact fun y=>nomatch y
 have nF:∀ b,(F.less r1.fr f0 hF).H0 b=none→F.H0 b=none:=fun b z=>by
  cases y:F.H0 b with
  | none=>rfl
  | some o=>exact absurd z (inH b o y)
 have nw0:∀ b∈f0,G1 b=none:=fun b hb=>(nw b (hp.sub b hb)).2;have sG:Same G1 G':=fun b o z=>by
  have hH:=r1.fr.sub b o z;have hb:b∉f0:=fun hb=>by rw[nw0 b hb] at z; cases z
  exact(f'.g0 b o (by rw[h0,if_neg hb]; exact hH)).trans z
 have rf:Rf F G' H':=by
  refine⟨f'.sub,fun b o z=>?_,fun b o z hb=>?_,f'.pn⟩
  ·obtain⟨o',e'⟩:=r1.fr.dom z;have hb:b∉f0:=fun hb=>by rw[hF b hb] at z; cases z
   exact(f'.g0 b o' (by rw[h0,if_neg hb]; exact e')).trans (r1.fr.g0 b o z)
  ·have hb':b∉f0:=fun hb=>by rw[hF b hb] at z; cases z
   exact f'.h0 b o (by rw[h0,if_neg hb']; exact r1.fr.h0 b o z hb) hb
 have stay:∀ b,F.H0 b=none→G1 b=none→(∃ o,H1 b=some o)→b∉f0→(F.less r1.fr f0 hF).H0 b≠none∧G' b=none∧H' b=H1 b:=fun b m1 m2 m3 hb=>by
  obtain⟨o,m3⟩:=m3;have y:(F.less r1.fr f0 hF).H0 b=some o:=by rw[h0,if_neg hb]; exact m3
  refine⟨by rw[y]; exact(fun z=>nomatch z),(f'.g0 b o y).trans m2,?_⟩;rw[m3];exact f'.h0 b o y (F.pen_ne m1)
 have oth:∀(j:Nat) (u:Sl),j≠i→Γ1[j]?=some u→∀ b∈fps j,(F.less r1.fr f0 hF).H0 b≠none∧G' b=none∧H' b=H1 b:=fun j u hj ej b hb=>by
  obtain⟨m1,m2,m3⟩:=(h1 j u ej).mine hb;exact stay b m1 m2 m3 fun z=>h2 j i u _ ej e1 hj b hb (hp.sub b z)
 have mine:∀ b∈fps i,b∉f0→(F.less r1.fr f0 hF).H0 b≠none∧G' b=none∧H' b=H1 b:=fun b hb hn=>by
  obtain⟨m1,m2,m3⟩:=(h1 i _ e1).mine hb;exact stay b m1 m2 m3 hn
 obtain⟨fp',pB,hfp⟩:=hp.back s' f2 G' H' sG b2 fun b hb hn=>⟨(mine b hb hn).2.2,fun z=>(mine b hb hn).1 (d2 b z).1⟩;have back:∀(j:Nat) (u:Sl),j≠i→(Γ1.set i (.box (B s')))[j]?=some u→Γ1[j]?=some u:=fun j u hj ej=>by rw[getElem?_set_ne (Ne.symm hj)] at ej; exact ej
 have hil:i<Γ1.length:=(List.getElem?_eq_some_iff.mp e1).1;have new:R F (Γ1.set i (.box (B s'))) σ G' H':=by
  refine⟨rf,by rw[length_set]; exact r1.len,fun j=>if j=i then fp' else fps j,fun j u ej=>?_,fun j l u z ej el hjl b hb hc=>?_⟩
  ·dsimp only
   by_cases hj:j=i
   ·subst hj;rw[if_pos rfl];rw[getElem?_set_self hil] at ej
    cases ej
    refine⟨v,hv,pB,fun x hx=>?_⟩;rcases hfp x hx with hx|⟨hx,hn⟩
    ·exact⟨nF x (d2 x hx).1,(d2 x hx).2⟩
    ·exact⟨(nw x hx).1,(mine x hx hn).2.1⟩
   ·rw[if_neg hj];have ej:=back j u hj ej;exact(h1 j u ej).go sG fun x hx=>(oth j u hj ej x hx).2
  ·dsimp only at hb hc;have cross:∀(l:Nat) (z:Sl),l≠i→Γ1[l]?=some z→∀ b∈fp',b∉fps l:=fun l z hl el b hb hc=>by
    rcases hfp b hb with hb|⟨hb,_⟩
    ·exact(oth l z hl el b hc).1 (d2 b hb).1
    ·exact h2 i l _ z e1 el (Ne.symm hl) b hb hc
   by_cases hj:j=i
   ·rw[if_pos hj] at hb;have hl':l≠i:=fun y=>hjl (hj.trans y.symm);rw[if_neg hl'] at hc;exact cross l z hl' (back l z hl' el) b hb hc
   ·rw[if_neg hj] at hb
    by_cases hl':l=i
    ·rw[if_pos hl'] at hc;exact cross j u hj (back j u hj ej) b hc hb
    ·rw[if_neg hl'] at hc;exact h2 j l u z (back j u hj ej) (back l z hl' el) hjl b hb hc
 refine⟨sG,new,nF,fun f1 hf1 ap j u fq ej hu x hx hxf=>?_⟩
 by_cases hj:j=i
 ·subst hj;rw[getElem?_set_self hil] at ej
  cases ej
  obtain⟨w,ew2,pw2,_⟩:=hu;rw[hv] at ew2
  cases ew2
  rw[(B s').uniq pw2 pB] at hxf;rcases hfp x hxf with h|⟨h,hn⟩
  ·exact ap x hx h
  ·exact(mine x h hn).1 (hf1 x hx)
 ·have ej:=back j u hj ej;have y:=SlF.det hu ((h1 j u ej).go sG fun x hx=>(oth j u hj ej x hx).2);rw[y] at hxf;exact(oth j u hj ej x hxf).1 (hf1 x hx)
theorem a67 {n:Nat}{f:Lm S}{as:List Sl}{rs:List V}{Q:VK}{E:XK}{Qm:Rv→En→Prop}(hB:PartOf W p B)(r1:R F Γ1 σ G1 H1)(e1:Γ1[i]?=some (.box (B s1)))(d1:Paired (mZ F G1) rs as)(hl:as.length+1=n)
  (hf:f p s1 as fun rv s'=>Qm rv (Γ1.set i (.box (B s')))) (k:∀ rv Γ' r G' H',Qm rv Γ'→Same G1 G'→R F Γ' σ G' H'→RvO F G' H' r rv→Apart F Γ' σ G' H' r rv→Q r H'):spL P0 W n f (.ref p::(rs++[])) H1 Q E:=by
 obtain⟨fps,h1,h2⟩:=r1.fps;have hi:=h1 i _ e1;obtain⟨v,ew',pw',nw⟩:=id hi;obtain⟨f0,hp⟩:=hB pw';have hF:∀ b∈f0,F.H0 b=none:=fun b hb=>(nw b (hp.sub b hb)).1;refine⟨F.less r1.fr f0 hF,p,s1,f0,rs,as,fun rv s'=>Qm rv (Γ1.set i (.box (B s'))),by rw[append_nil],fun b=>rfl,
  ⟨r1.fr.sub,fun _ _ _=>rfl,fun b o z _=>?_,r1.fr.pn⟩,hp.own,fun b hb=>(nw b (hp.sub b hb)).2,Paired.imp' (fun a s h=>by cases s<;>exact h) d1,hl,hf,fun rv s' v1 f1 f2 G' H' hq f' a b c d=>?_⟩
 ·have z:(if b∈f0 then none else H1 b)=some o:=z
  split at z
  ·cases z
  ·exact z
 ·obtain⟨sG,new,nF,apart⟩:=r1.unlend e1 hi ew' hp hF f' b (fun x hx=>d x (mem_append_right _ hx));have apart:=apart f1 (fun x hx=>(d x (mem_append_left _ hx)).1) c;refine k rv _ v1 G' H' hq sG new ?_ ?_
  ·cases rv with
   | val d'=>exact a.2
   | own ds=>
    obtain⟨u,vs,e2,e3,e4,e5⟩:=a;have hu:=d u (mem_append_left _ (by rw[e2]; exact mem_singleton.mpr rfl));exact⟨u,vs,e3,nF u hu.1,hu.2,e4,e5⟩
   | box B=>exact⟨f1,a,fun x hx=>⟨nF x (d x (mem_append_left _ hx)).1,(d x (mem_append_left _ hx)).2⟩⟩
  ·cases rv with
   | val d'=>trivial
   | own ds=>
    intro j u fq ej hu y ey hy;obtain⟨u',vs,e2,e3,e4,e5⟩:=a;rw[e3] at ey
    cases ey
    exact apart j u fq ej hu _ (by rw[e2]; exact mem_singleton.mpr rfl) hy
   | box B=>
    intro j u fq g ej hu hg x hx;have y:g=f1:=B.uniq hg a;rw[y] at hx;exact apart j u fq ej hu x hx
end
def a4O (i:Nat)(mj:ME):ME:=fun Γ Q=>(∃ ds,Γ[i]?=some (.own ds))∧mj Γ fun d Γ1=>∃ ds,Γ1[i]?=some (.own ds)∧oQ (ixD (.list ds) d) fun e=>Q e Γ1
theorem a7P {ds:List D}{d e:D}(h:ixD (.list ds) d=some e):∃ i j,d=.int i∧ixN ds.length i=some j∧ds[j]?=some e:=by
 unfold ixD at h
 split at h
 ·rename_i z; cases z
 ·rename_i es i z
  cases z
  unfold atI at h
  cases y:ixN ds.length i with
  | none=>rw[y] at h; cases h
  | some j=>rw[y] at h; exact⟨i,j,rfl,y,h⟩
 ·cases h
theorem a8O {K:Fg}{i:Nat}{tj:TE}{mj:ME}(hj:VT P0 tj mj):VT P0 (tOp (rIx K) (pO i) tj) (a4O i mj):=by
 intro F Γ σ G H Q Qm r hm k;obtain⟨⟨ds,e⟩,hm⟩:=hm;obtain⟨p,vs,ep,_⟩:=r.sl i _ e;refine⟨.ref p,ep,hj F Γ σ G H _ _ r hm fun d Γ1 x G1 H1 m1 g1 r1 d1=>?_⟩;obtain⟨es,e1,m1⟩:=m1;obtain⟨y,hy,q⟩:=a5J m1;obtain⟨q',us,eq',_,_,hq,hus⟩:=r1.sl i _ e1;rw[ep] at eq'
 cases eq'
 obtain⟨n,j,rfl,h1,h2⟩:=a7P hy
 cases d1
 obtain⟨v,hv,dv⟩:=Dts.get hus h2;refine .inl ⟨p,us,n,v,rfl,rfl,SqL.of hq,?_,k _ _ _ _ _ q g1 r1 dv⟩;unfold atI;rw[hus.len,h1];exact hv
end
section
section
variable {S:Type}{W:Fam S}{n i:Nat}{f:Lm S}{m:MA}{Γ Γ1:En}{p:Addr}{s:S}{as:List Sl}
def lnK (W:Fam S)(n:Nat)(f:Lm S)(i:Nat)(p:Addr)(Q:Rv→En→Prop)(as:List Sl)(Γ1:En):Prop:=∃ s1,Γ1[i]?=some (.box (W.box p s1))∧as.length+1=n∧f p s1 as fun rv s'=>Q rv (Γ1.set i (.box (W.box p s')))
theorem aEN {Q:Rv→En→Prop}(h0:Γ[i]?=some (.box (W.box p s)))(h:m Γ (lnK W n f i p Q)):bZ W n f i m Γ Q:=⟨p,⟨s,h0⟩,h⟩
theorem aGD {Q:Rv→En→Prop}(h0:Γ1[i]?=some (.box (W.box p s)))(hl:as.length+1=n)(h:f p s as fun rv s'=>Q rv (Γ1.set i (.box (W.box p s')))):lnK W n f i p Q as Γ1:=⟨s,h0,hl,h⟩
def rtK (W:Fam S)(Q:Fl→Prop)(rv:Rv)(Γ1:En):Prop:=∃ p s,Γ1[0]?=some (.box (W.box p s))∧Q (.rt (.box (bKp W rv p s)))
theorem aE1 {mo:MO}{Q:Fl→Prop}(h:mo Γ (rtK W Q)):iG W mo Γ Q:=h
theorem aID {rv:Rv}{Q:Fl→Prop}(h0:Γ1[0]?=some (.box (W.box p s)))(h:Q (.rt (.box (bKp W rv p s)))):rtK W Q rv Γ1:=⟨p,s,h0,h⟩
theorem aFD {rv:Rv}{Q:Rv→S→Prop}(h:Q rv s):∃ rv0 s',Rv.box (bKp W rv p s)=.box (bKp W rv0 p s')∧Q rv0 s':=⟨rv,s,rfl,h⟩
variable {L w0 w1:Addr}{s0 s1:S}{mj:ME}
end
def oxK (i:Nat)(Q:D→En→Prop)(d:D)(Γ1:En):Prop:=∃ ds,Γ1[i]?=some (.own ds)∧oQ (ixD (.list ds) d) fun e=>Q e Γ1
theorem a8J {i:Nat}{mj:ME}{Γ:En}{Q:D→En→Prop}{ds:List D}(h0:Γ[i]?=some (.own ds))(h:mj Γ (oxK i Q)):a4O i mj Γ Q:=⟨⟨ds,h0⟩,h⟩
theorem aIK {i:Nat}{Γ:En}{Q:D→En→Prop}{ds:List D}{d:D}(h0:Γ[i]?=some (.own ds))(h:oQ (ixD (.list ds) d) fun e=>Q e Γ):oxK i Q d Γ:=⟨ds,h0,h⟩
end
section
variable {P0:Addr→Hp→Prop}
section
variable {F:Fra P0}{Γ Γ1:En}{σ:St}{G H G1 H1:Hp}{bs:List Bool}
end
section
variable {bs:List Bool}{Γ Γ1:En}
end
end
section
variable {P0:Addr→Hp→Prop}{S:Type}
end
section
variable {P0:Addr→Hp→Prop}{S:Type}
section
variable {C:Addr}{i:Nat}
theorem vB {W:Fam S}{n:Nat}{m:Str}{f:Lm S}{t:TA}{ma:MA}{E:XK}(hW:∀{p s v fp G H},(W.box p s).P v fp G H→∃ dx fs,H p=some (.ins C dx fs)∧fs.lookup m=none)(h:VA P0 t ma):VO P0 (aFN C m (spL P0 W n f) [] E (pO i) t) (bZ W n f i ma):=by
 intro F Γ σ G H Q Qm r hm k;obtain⟨p,⟨s,e⟩,hm⟩:=hm;obtain⟨v,fp,ev,pv,_⟩:=r.sl i _ e;have z:=W.pin pv;subst z;obtain⟨dx,fs,hp,hl⟩:=hW pv;refine⟨.ref p,ev,p,dx,fs,rfl,hp,hl,h F Γ σ G H _ _ r hm fun as Γ1 rs G1 H1 m1 g1 r1 d1=>?_⟩;obtain⟨s1,e1,hn,hf⟩:=m1;exact a67 (Qm:=Qm) PartOf.self r1 e1 d1 hn hf fun rv Γ' r' G' H' q g'=>k rv Γ' r' G' H' q (g1.trans g')
end
end
end L2.VS
namespace L2
open PySem PySem.Spec PyProof.Rows
variable {X:Cx}
end L2
namespace L2.VS
open PySem PySem.Spec PyProof.Rows
section
variable {P0:Addr→Hp→Prop}
end
section
variable {P0:Addr→Hp→Prop}{A:Nat→Bool}
end
end L2.VS
namespace L2
open PySem PySem.Spec PyProof.Rows
section
variable {prog:Program}{w:World}{A:Around}{E:Value→Shared→Prop}{s:Shared}
theorem wV {it l:Addr}{items:Array Value}(hne:l≠it):∀(n i:Nat) (s:Shared) (Q:List Value→Shared→Prop),s.heap.IsListIter it l i→s.heap.IsList l items→i+n≤items.size →
  (∀ h',h'.IsListIter it l (i+n)→Heap.SameBut it s.heap h'→Q ((items.toList.drop i).take n) { s with heap:=h' })→wpAny (model prog w) A (draw (.ref it) n) Q E s
 | 0,i,s,Q,h1,h2,hl,hq=>by
  unfold draw;refine wpAny_pure ?_;have:=hq s.heap h1 ⟨rfl,fun _ _=>rfl⟩;rw[List.take_zero] at this;exact this
 | n+1,i,s,Q,h1,h2,hl,hq=>by
  unfold draw;have hi:i<items.size:=by omega
  refine wpAny_bind (wpAny_pyNext_list_item h1 h2 (Array.getElem?_eq_getElem hi) fun h' g1 g2=>?_);refine wpAny_bind (wpAny_holding ?_);refine wV hne n (i+1) _ _ g1 (h2.extBut g2.extBut hne) (by omega) fun h2' k1 k2=>wpAny_pure ?_;have e:(items.toList.drop i).take (n+1)=items[i]::(items.toList.drop (i+1)).take n:=by
   rw[List.drop_eq_getElem_cons (by simpa using hi),List.take_succ_cons];simp
  have:=hq h2' (by rw[show i+(n+1)=i+1+n by omega]; exact k1) ⟨k2.1.trans g2.1,fun b hb=>(k2.2 b hb).trans (g2.2 b hb)⟩;rw[e] at this;exact this
theorem rB {l:Addr}{items:Array Value}{Q:List Value→Shared→Prop}(hh:A.handled=none)(hl:s.heap.IsList l items)
  (hq:∀ h',Heap.ExtBut s.heap.objs.size s.heap h'→Q items.toList { s with heap:=h' }):wpAny (model prog w) A (unpackItems (.ref l) items.size none) Q E s:=by
 unfold unpackItems notIterableAtAll;refine wpAny_bind (wpAny_bind (wpAny_specialOf hl.typeIs slot_list_iter.lookup ?_));simp only[isSome_some,if_true];refine wpAny_pure ?_;simp only[false_eq_true,if_false];refine wpAny_bind (wpAny_holding (wpAny_pyIter_list hl ?_));obtain⟨o,ho,hr⟩:=id hl;have hne:l≠s.heap.objs.size:=ne_of_lt (lt_size ho);have hl1:(s.heap.push { cls:=.type "list_iterator", data:=.fields #[.ref l,.int 0 0] }).IsList l items:=⟨o,get?_push_of_some _ ho,hr⟩;refine wpAny_bind (wpAny_holding (wV (items:=items) hne items.size 0 _ _ ⟨_,get?_push_size _ rfl,rfl,rfl⟩ hl1 (by omega) fun h' k1 k2=>?_));have e:(items.toList.drop 0).take items.size=items.toList:=by rw[List.drop_zero,List.take_of_length_le (by simp)]
 rw[e,if_neg (by simp)];have hl2:h'.IsList l items:=hl1.extBut k2.extBut hne;refine wpAny_bind (wpAny_holding (wpAny_pyNext_list_end hh k1 hl2 (by simp) fun h2 g2=>?_));simp only[Option.isSome_none,false_eq_true,if_false];refine wpAny_pure (hq h2 fun b ob hb eb=>?_);exact g2 b ob hb (k2.extBut b ob hb (get?_push_of_some _ eb))
theorem pZ {env:Env}{elts:List Expr}{x1:Nat}{pos:Pos}{l:Addr}{items:Array Value}{Q:Unit→Shared→Prop}(hh:A.handled=none)(hl:s.heap.IsList l items)
  (hn:(assignEach elts env).length=items.size) (hst:List.findIdx? (fun x=>x.fst) (assignEach elts env)=none)
  (hq:∀ h',Heap.ExtBut s.heap.objs.size s.heap h'→wpAny (model prog w) A (assignInOrder ((assignEach elts env).map (fun x=>x.snd)) items.toList) Q E { s with heap:=h' }) :
  wpAny (model prog w) A (assign (.Tuple elts x1 pos) env (.ref l)) Q E s:=by
 unfold assign;refine wpAny_bind (wpAny_standAt ?_);unfold unpack;rw[hst,hn];exact wpAny_bind (wpAny_holding (rB hh hl fun h' hx=>hq h' hx))
end
variable {X:Cx}{pos:Pos}
def aE4 (K:Fg)(n:Nat)(t:TGs):TG:=fun v σ H Q=>∃ a xs,v=.ref a∧SqL K H a xs∧xs.length=n∧t xs σ H Q
theorem aA3 {es:List Expr}{k:Nat}{t:TGs}{n:Nat}(hc:X.calm=true)(h:PGs X es t)
  (hn:(assignEach es X.env).length=n:=by rfl) (hst:(assignEach es X.env).findIdx? (·.1)=none:=by rfl):PG X (.Tuple es k pos) (aE4 X.K n t):=by
 intro pins s σ H v u Q I r hw;obtain⟨a,xs,e1,hq,hl,hw⟩:=hw;subst e1
 cases r
 obtain⟨its,rv,ht,hz⟩:=I.list hq;obtain⟨o,m,ho,hcl,_,hda⟩:=ht;refine pZ (items:=its.toArray) (I.ok.hd hc) ⟨o,ho,hcl,m,hda⟩ (by simp[hn,←hl,rv.length]) hst fun h' hx=>?_;have I1:Inv X pins σ H { s with heap:=h' }:=I.kept (t':=s.toks) fun b o e=>hx b o (ne_of_lt (lt_size e)) e;exact h pins _ σ H xs _ Q I1 (by simpa using rv) hw
end L2
namespace L2.VS
open PySem PySem.Spec PyProof.Rows
section
variable {P0:Addr→Hp→Prop}{A:Nat→Bool}
def gTL (n:Nat)(gs:MGs):MG:=fun d Γ Q=>match d with
 | .list ds=>ds.length=n∧gs ds Γ Q
 | _=>False
theorem aBF {K:Fg}{n:Nat}{gs:TGs}{ms:MGs}(h:VGs P0 A gs ms):VG P0 A (aE4 K n gs) (gTL n ms):=by
 intro F Γ σ G H v d Q Qm r hd m k;unfold gTL at m
 split at m
 ·cases hd with
  | @lst p xs _ hp rs=>exact⟨p,xs,rfl,SqL.of (r.fr.sub _ _ hp),by rw[rs.len]; exact m.1,h F Γ σ G H _ _ _ _ r rs m.2 k⟩
 ·exact m.elim
theorem aGL {n:Nat}{gs:MGs}{ds:List D}{Γ:En}{Q:En→Prop}(hl:ds.length=n)(h:gs ds Γ Q):gTL n gs (.list ds) Γ Q:=⟨hl,h⟩
end
section
variable {P0:Addr→Hp→Prop}
def a4M (i:Nat)(m:ME):ME:=fun Γ Q=>(∃ ds,Γ[i]?=some (.own ds))∧m Γ fun x Γ1=>∃ ds d,∃ k:Nat,Γ1[i]?=some (.own ds)∧x=.int (k:Int)∧k<1000000∧ds[k]?=some d∧Q d (Γ1.set i (.own (ds.eraseIdx k)))
theorem yH {G:Hp}:∀{vs:List V} {ds:List D} {k:Nat},Dts G vs ds→Dts G (vs.eraseIdx k) (ds.eraseIdx k)
 | _,_,_,.nil=>.nil
 | _,_,0,.cons _ b=>b
 | _,_,k+1,.cons a b=>.cons a (yH b)
theorem a89 {K:Fg}{i:Nat}{t:TE}{m:ME}(h:VT P0 t m):VT P0 (tBM K "list" a9V (pO i) (eF t qF)) (a4M i m):=by
 intro F Γ σ G H Q Qm r hm k;obtain⟨⟨ds0,e0⟩,hm⟩:=hm;obtain⟨p,vs0,ep,_,_,hp0,_⟩:=r.sl i _ e0;refine⟨.ref p,ep,.inl ⟨rfl,_,SqL.of hp0⟩,?_⟩;refine h F Γ σ G H _ _ r hm fun x Γ1 v G1 H1 m1 g1 r1 d1=>?_;obtain⟨ds,d,n,e1,rfl,hn,hd,q⟩:=m1;obtain⟨p',vs,ep',_,_,hp,hvs⟩:=r1.sl i _ e1;rw[ep] at ep'
 cases ep'
 cases d1
 obtain⟨u,hu,du⟩:=Dts.get hvs hd;have hlt:n<vs.length:=(List.getElem?_eq_some_iff.mp hu).1;refine⟨p,vs,(n:Int),n,u,rfl,rfl,hp,by omega,by omega,?_,hu,?_⟩
 ·unfold seqIndex?;have h1:¬(n:Int)<0:=by omega
  have h2:(decide (0≤(n:Int))&&decide ((n:Int)<(vs.length:Int)))=true:=by
   rw[decide_eq_true (by omega),decide_eq_true (by omega)];rfl
  simp only[if_neg h1,h2,if_true,Int.toNat_natCast]
 ·exact k _ _ _ _ _ q g1 (r1.write e1 ep (yH hvs)) du
def ppK (i:Nat)(Q:D→En→Prop)(x:D)(Γ1:En):Prop:=∃ ds d,∃ k:Nat,Γ1[i]?=some (.own ds)∧x=.int (k:Int)∧k<1000000∧ds[k]?=some d∧Q d (Γ1.set i (.own (ds.eraseIdx k)))
theorem aB6 {i:Nat}{m:ME}{Γ:En}{Q:D→En→Prop}{ds:List D}(h0:Γ[i]?=some (.own ds))(h:m Γ (ppK i Q)):a4M i m Γ Q:=⟨⟨ds,h0⟩,h⟩
theorem aHQ {i:Nat}{Q:D→En→Prop}{Γ1:En}{ds:List D}{d:D}{k:Nat}(h0:Γ1[i]?=some (.own ds))(hk:k<1000000)(hd:ds[k]?=some d)(h:Q d (Γ1.set i (.own (ds.eraseIdx k)))):ppK i Q (.int (k:Int)) Γ1:=⟨ds,d,k,h0,rfl,hk,hd,h⟩
def a1H (i:Nat):ME:=fun Γ Q=>∃ ds,(Γ[i]?=some (.own ds)∨Γ[i]?=some (.val (.list ds)))∧Q (.int (ds.length:Int)) Γ
theorem zF {K:Fg}{i:Nat}:VT P0 (tCB (fun xs H Q=>∃ p ys,xs=[.ref p]∧(SqL K H p ys∨SqT K H p ys)∧Q (.int ys.length) H) (eF (pO i) qF)) (a1H i):=by
 intro F Γ σ G H Q Qm r hm k;obtain⟨ds,e|e,q⟩:=hm
 ·obtain⟨p,vs,ep,_,_,hp,hvs⟩:=r.sl i _ e;exact⟨.ref p,ep,p,vs,rfl,.inl (SqL.of hp),by rw[hvs.len]; exact k _ _ _ _ _ q (Same.refl _) r (.int _)⟩
 ·obtain⟨v,ev,dv⟩:=r.sl i _ e
  cases dv with
  | @lst p vs _ hp rs=>exact⟨.ref p,ev,p,vs,rfl,.inl (SqL.of (r.fr.sub _ _ hp)),by rw[rs.len]; exact k _ _ _ _ _ q (Same.refl _) r (.int _)⟩
theorem aEL {i:Nat}{Γ:En}{Q:D→En→Prop}{ds:List D}(h0:Γ[i]?=some (.own ds))(h:Q (.int (ds.length:Int)) Γ):a1H i Γ Q:=⟨ds,.inl h0,h⟩
theorem aF4 {i:Nat}{Γ:En}{Q:D→En→Prop}{ds:List D}(h0:Γ[i]?=some (.val (.list ds)))(h:Q (.int (ds.length:Int)) Γ):a1H i Γ Q:=⟨ds,.inr h0,h⟩
end
section
variable {P0:Addr→Hp→Prop}{A:Nat→Bool}
inductive DkRel (G:Hp):List (Key×V)→List (Int×D)→Prop
 | nil:DkRel G [] []
 | cons {n:Int} {v:V} {d:D} {kvs:List (Key×V)} {kds:List (Int×D)} (h:Dt G v d) (r:DkRel G kvs kds):DkRel G ((Sum.inl n,v)::kvs) ((n,d)::kds)
theorem DkRel.same {G G':Hp}(g:Same G G'){kvs:List (Key×V)}{kds:List (Int×D)}(h:DkRel G kvs kds):DkRel G' kvs kds:=by
 induction h with
 | nil=>exact .nil
 | cons h _ ih=>exact .cons (Dt.same g _ _ h) ih
theorem DkRel.len {G:Hp}{kvs:List (Key×V)}{kds:List (Int×D)}(h:DkRel G kvs kds):kvs.length=kds.length:=by
 induction h with
 | nil=>rfl
 | cons _ _ ih=>rw[length_cons,length_cons,ih]
def qJ:List (Int×D)→Int→Option D
 | [],_=>none
 | (n,d)::r,k=>if n=k then some d else qJ r k
def uR:List (Int×D)→Int→D→List (Int×D)
 | [],_,_=>[]
 | (n,d)::r,k,e=>(if n=k then(n,e) else(n,d))::uR r k e
def rG (kds:List (Int×D))(k:Int)(d:D):List (Int×D):=if (qJ kds k).isSome then uR kds k d else kds++[(k,d)]
def kI:List (Int×D)→Int→List (Int×D)
 | [],_=>[]
 | (n,d)::r,k=>if n=k then kI r k else(n,d)::kI r k
theorem DkRel.val {G:Hp}{kvs:List (Key×V)}{kds:List (Int×D)}(h:DkRel G kvs kds)(k:Int):(w5 kvs (Sum.inl k:Key)=none∧qJ kds k=none)∨∃ v d,w5 kvs (Sum.inl k:Key)=some v∧qJ kds k=some d∧Dt G v d:=by
 induction h with
 | nil=>exact .inl ⟨rfl,rfl⟩
 | @cons n v d kvs kds h r ih=>
  by_cases e:n=k
  ·refine .inr ⟨v,d,rK (by rw[e]),?_,h⟩;unfold qJ; rw[if_pos e]
  ·rw[rR (fun z=>e (Sum.inl.inj z))];unfold qJ; rw[if_neg e]; exact ih
theorem DkRel.some {G:Hp}{kvs:List (Key×V)}{kds:List (Int×D)}(h:DkRel G kvs kds){k:Int}{d:D}(e:qJ kds k=some d):∃ v,w5 kvs (Sum.inl k:Key)=some v∧Dt G v d:=by
 rcases h.val k with⟨_,z⟩|⟨v,d',a,b,c⟩
 ·rw[e] at z; cases z
 ·rw[e] at b; cases b; exact⟨v,a,c⟩
theorem DkRel.isSome {G:Hp}{kvs:List (Key×V)}{kds:List (Int×D)}(h:DkRel G kvs kds)(k:Int):(w5 kvs (Sum.inl k:Key)).isSome=(qJ kds k).isSome:=by
 rcases h.val k with⟨a,z⟩|⟨v,d',a,b,c⟩
 ·rw[a,z]; rfl
 ·rw[a,b]; rfl
theorem DkRel.repl {G:Hp}{kvs:List (Key×V)}{kds:List (Int×D)}(h:DkRel G kvs kds)(k:Int){v:V}{d:D}(dv:Dt G v d):DkRel G (kvs.map fun kv=>if kv.1=(Sum.inl k:Key) then(kv.1,v) else kv) (uR kds k d):=by
 induction h with
 | nil=>exact .nil
 | @cons n u e kvs kds h r ih=>
  unfold uR;rw[map_cons]
  by_cases z:n=k
  ·rw[if_pos z,if_pos (congrArg Sum.inl z)]; exact .cons dv ih
  ·rw[if_neg z,if_neg (fun y=>z (Sum.inl.inj y))]; exact .cons h ih
theorem DkRel.snoc {G:Hp}{kvs:List (Key×V)}{kds:List (Int×D)}(h:DkRel G kvs kds)(k:Int){v:V}{d:D}(dv:Dt G v d):DkRel G (kvs++[(Sum.inl k,v)]) (kds++[(k,d)]):=by
 induction h with
 | nil=>exact .cons dv .nil
 | cons h _ ih=>exact .cons h ih
theorem DkRel.put {G:Hp}{kvs:List (Key×V)}{kds:List (Int×D)}(h:DkRel G kvs kds)(k:Int){v:V}{d:D}(dv:Dt G v d):DkRel G (putK kvs (Sum.inl k:Key) v) (rG kds k d):=by
 unfold putK rG;rw[v4,h.isSome k]
 by_cases z:(qJ kds k).isSome=true
 ·rw[if_pos z,if_pos z]; exact h.repl k dv
 ·rw[if_neg z,if_neg z]; exact h.snoc k dv
theorem DkRel.drop {G:Hp}{kvs:List (Key×V)}{kds:List (Int×D)}(h:DkRel G kvs kds)(k:Int):DkRel G (pM kvs (Sum.inl k:Key)) (kI kds k):=by
 induction h with
 | nil=>exact .nil
 | @cons n u e kvs kds h r ih=>
  unfold kI
  by_cases z:n=k
  ·rw[if_pos z,a6Q (congrArg Sum.inl z)]; exact ih
  ·rw[if_neg z,a6L (fun y=>z (Sum.inl.inj y))]; exact .cons h ih
theorem hu1 {a:Nat}(h:a+64<cLine):a+1<cLine:=lt_of_le_of_lt (Nat.add_le_add_left (by decide) _) h
end
end L2.VS
namespace L2
open PySem PySem.Calls PyProof.Rows PySem.W
section
variable {prog:Program}{w:World}{A:Around}{E:Value→Shared→Prop}{s:Shared}
end
end L2
namespace L2
open PySem PySem.Spec PyProof.Rows
section
variable {X:Cx}
end
end L2
namespace L2.VS
open PySem PySem.Spec PyProof.Rows
section
variable {P0:Addr→Hp→Prop}{ta:TE}{ma:ME}{K:Fg}
end
end L2.VS
namespace L2
open PySem PySem.Spec PyProof.Rows
section
variable {X:Cx}
end
end L2
namespace L2.VS
open PySem PySem.Spec PyProof.Rows
section
variable {P0:Addr→Hp→Prop}
end
end L2.VS
namespace L2
open PySem PySem.Spec PyProof.Rows
def aDL:List V→Hp→VK→Prop:=fun xs H Q=>∃(p:Addr) (kvs:List (Key×V)),xs=[.ref p]∧H p=some (.dK kvs)∧Q (.int kvs.length) H
theorem a6H {X:Cx}:t6 X (.builtin "len") aDL:=by
 intro pins s σ H xs us Q I r h;obtain⟨p,kvs,rfl,hp,q⟩:=h;obtain⟨u,rfl,rx⟩:=vals1 r
 cases rx
 exact aGX I (.inl hp) fun t s' I'=>⟨.int kvs.length,H,I',⟨t,rfl⟩,q⟩
end L2
namespace L2.VS
open PySem PySem.Spec PyProof.Rows
section
variable {P0:Addr→Hp→Prop}
end
section
variable {P0:Addr→Hp→Prop}{A:Nat→Bool}
structure FS where
 d:Addr
 p:Addr
 kds:List (Int×D)
 jn:Int
 la:D
def aI2 (s:FS)(vl:V):List (Str×V):=[("running", .ref s.p),("joined", .int s.jn),("last", vl)]
structure FdAt (C w:Addr)(s:FS)(kvs:List (Key×V))(vl:V)(H:Hp):Prop where
 i:H w=some (.ins C s.d (aI2 s vl))
 d:H s.d=some (.own w)
 k:H s.p=some (.dK kvs)
structure FdDt (s:FS)(kvs:List (Key×V))(vl:V)(G:Hp):Prop where
 k:DkRel G kvs s.kds
 l:Dt G vl s.la
theorem FdAt.at {C w:Addr}{s:FS}{kvs:List (Key×V)}{vl:V}{H H':Hp}(h:FdAt C w s kvs vl H)(k:∀ b∈[w,s.d,s.p],H' b=H b):FdAt C w s kvs vl H':=
 ⟨(k w (by simp)).trans h.i,(k s.d (by simp)).trans h.d,(k s.p (by simp)).trans h.k⟩
theorem FdAt.same {C w:Addr}{s:FS}{kvs:List (Key×V)}{vl:V}{H H':Hp}(h:FdAt C w s kvs vl H)(g:Same H H'):FdAt C w s kvs vl H':=⟨g _ _ h.i,g _ _ h.d,g _ _ h.k⟩
theorem FdDt.same {s:FS}{kvs:List (Key×V)}{vl:V}{G G':Hp}(h:FdDt s kvs vl G)(g:Same G G'):FdDt s kvs vl G':=⟨h.k.same g,Dt.same g _ _ h.l⟩
theorem FdAt.dom {C w:Addr}{s:FS}{kvs:List (Key×V)}{vl:V}{H:Hp}(h:FdAt C w s kvs vl H):∀ y∈[w,s.d,s.p],∃ o,H y=some o∧∀ xs,o≠.tup xs:=fun y hy=>by
 simp only[mem_cons,not_mem_nil,or_false] at hy;rcases hy with rfl|rfl|rfl
 ·exact⟨_,h.i,fun _ z=>nomatch z⟩
 ·exact⟨_,h.d,fun _ z=>nomatch z⟩
 ·exact⟨_,h.k,fun _ z=>nomatch z⟩
def a9O (C w:Addr)(s:FS):Pb where
 P:=fun v G=>v=.ref w∧∃ kvs vl,FdAt C w s kvs vl G∧FdDt s kvs vl G
 mono:=fun g ⟨a,kvs,vl,b,c⟩=>⟨a,kvs,vl,b.same g,c.same g⟩
def bF (C:Addr):Fam FS where
  box:=fun w s=>
    { P:=fun v fp G H=>v=.ref w∧fp=[w,s.d,s.p]∧∃ kvs vl,FdAt C w s kvs vl H∧FdDt s kvs vl G
      mono:=fun g ⟨a,b,kvs,vl,c,e⟩=>⟨a,b,kvs,vl,c,e.same g⟩
      loc:=fun k ⟨a,b,kvs,vl,c,e⟩=>⟨a,b,kvs,vl,c.at (fun y hy=>k y (by rw[b]; exact hy)),e⟩
      dom:=fun⟨a,b,kvs,vl,c,e⟩ y hy=>by
        rw[b] at hy;obtain⟨o,ho,_⟩:=c.dom y hy;exact⟨o,ho⟩
      uniq:=fun h g=>h.2.1.trans g.2.1.symm
      nt:=fun⟨a,b,kvs,vl,c,e⟩ y hy xs q=>by
        rw[b] at hy;obtain⟨o,ho,hn⟩:=c.dom y hy;rw[ho] at q;exact absurd (Option.some.inj q) (hn xs)
      view:=none
      vok:=fun _ z=>nomatch z
      pv:=some (a9O C w s)
      pok:=fun⟨a,b,kvs,vl,c,e⟩ y g k=>by
        cases y
        exact⟨a,kvs,vl,c.at (fun y hy=>k y (by rw[b]; exact hy)),e.same g⟩ }
  pin:=fun h=>h.1
def InF (C w:Addr)(s:FS)(sl:Sl):Prop:=sl=.box ((bF C).box w s)∨sl=.pub (a9O C w s)
section
variable {C:Addr}{i:Nat}
theorem R.fd {F:Fra P0}{Γ:En}{σ:St}{G H:Hp}{w:Addr}{s:FS}{sl:Sl}(r:R F Γ σ G H)(e:Γ[i]?=some sl)(h:InF C w s sl):∃ kvs vl,σ[i]?=some (some (.ref w))∧FdAt C w s kvs vl H∧FdDt s kvs vl G:=by
 rcases h with rfl|rfl
 ·obtain⟨v,fp,e1,⟨rfl,_,kvs,vl,b,c⟩,_⟩:=r.sl i _ e;exact⟨kvs,vl,e1,b,c⟩
 ·obtain⟨v,e1,rfl,kvs,vl,b,c⟩:=r.sl i _ e;exact⟨kvs,vl,e1,b.same r.fr.sub,c⟩
def t7 (C:Addr)(i:Nat):ME:=fun Γ Q=>∃ w s sl,Γ[i]?=some sl∧InF C w s sl∧Q (.int s.jn) Γ
theorem a03 {K:Fg}(cl:Cls K C)(na:NoAttr K C "joined"):VT P0 (a9P K (pO i) "joined") (t7 C i):=by
 intro F Γ σ G H Q Qm r hm k;obtain⟨w,s,sl,e,h,q⟩:=hm;obtain⟨kvs,vl,ew,a,b⟩:=r.fd e h;exact⟨.ref w,ew,w,C,s.d,_,.int s.jn,rfl,a.i,cl,na,rfl,k _ _ _ _ _ q (Same.refl _) r (.int _)⟩
def vK (C:Addr)(i:Nat):ME:=fun Γ Q=>∃ w s sl,Γ[i]?=some sl∧InF C w s sl∧Q s.la Γ
theorem xY {K:Fg}(cl:Cls K C)(na:NoAttr K C "last"):VT P0 (a9P K (pO i) "last") (vK C i):=by
 intro F Γ σ G H Q Qm r hm k;obtain⟨w,s,sl,e,h,q⟩:=hm;obtain⟨kvs,vl,ew,a,b⟩:=r.fd e h;exact⟨.ref w,ew,w,C,s.d,_,vl,rfl,a.i,cl,na,rfl,k _ _ _ _ _ q (Same.refl _) r b.l⟩
def aC9 (C:Addr)(i:Nat)(mj:ME):ME:=fun Γ Q=>∃ w s,(∃ sl,Γ[i]?=some sl∧InF C w s sl)∧mj Γ fun x Γ1=>(∃ sl,Γ1[i]?=some sl∧InF C w s sl)∧∃ k d,x=.int k∧qJ s.kds k=some d∧Q d Γ1
theorem aBJ {K:Fg}{tj:TE}{mj:ME}(cl:Cls K C)(na:NoAttr K C "running")(hj:VT P0 tj mj):VT P0 (aCO (a9P K (pO i) "running") tj) (aC9 C i mj):=by
 intro F Γ σ G H Q Qm r hm k;obtain⟨w,s,⟨sl,e,h⟩,hm⟩:=hm;obtain⟨kvs,vl,ew,a,b⟩:=r.fd e h;refine⟨.ref w,ew,w,C,s.d,_,.ref s.p,rfl,a.i,cl,na,rfl,hj F Γ σ G H _ _ r hm fun x Γ1 y G1 H1 m1 g1 r1 d1=>?_⟩;obtain⟨⟨sl1,e1,h1⟩,n,d,rfl,hd,q⟩:=m1;obtain⟨kvs1,vl1,_,a1,b1⟩:=r1.fd e1 h1
 cases d1
 obtain⟨v,hv,dv⟩:=b1.k.some hd;refine⟨s.p,v,rfl,?_,k _ _ _ _ _ q g1 r1 dv⟩;have z:=DGet.k (k:=Sum.inl n) a1.k;rw[hv] at z;exact z
def aBB (C:Addr)(i:Nat)(mj:ME):ME:=fun Γ Q=>mj Γ fun x Γ1=>∃ w s sl k,Γ1[i]?=some sl∧InF C w s sl∧x=.int k∧Q (.bool (qJ s.kds k).isSome) Γ1
theorem aBM {K:Fg}{tj:TE}{mj:ME}(cl:Cls K C)(na:NoAttr K C "running")(hj:VT P0 tj mj):VT P0 (aJK tj (a9P K (pO i) "running")) (aBB C i mj):=by
 intro F Γ σ G H Q Qm r hm k;refine hj F Γ σ G H _ _ r hm fun x Γ1 y G1 H1 m1 g1 r1 d1=>?_;obtain⟨w,s,sl,n,e,h,rfl,q⟩:=m1;obtain⟨kvs,vl,ew,a,b⟩:=r1.fd e h
 cases d1
 refine⟨.ref w,ew,w,C,s.d,_,.ref s.p,rfl,a.i,cl,na,rfl,s.p,_,rfl,DGet.k (k:=Sum.inl n) a.k,?_⟩;rw[b.k.isSome n];exact k _ _ _ _ _ q g1 r1 (.bl _)
def a3Y (C:Addr)(i:Nat):ME:=fun Γ Q=>∃ w s sl,Γ[i]?=some sl∧InF C w s sl∧Q (.int (s.kds.length:Int)) Γ
theorem a7M {K:Fg}(cl:Cls K C)(na:NoAttr K C "running"):VT P0 (tCB aDL (eF (a9P K (pO i) "running") qF)) (a3Y C i):=by
 intro F Γ σ G H Q Qm r hm k;obtain⟨w,s,sl,e,h,q⟩:=hm;obtain⟨kvs,vl,ew,a,b⟩:=r.fd e h;exact⟨.ref w,ew,w,C,s.d,_,.ref s.p,rfl,a.i,cl,na,rfl,s.p,kvs,rfl,a.k,by rw[b.k.len]; exact k _ _ _ _ _ q (Same.refl _) r (.int _)⟩
theorem R.fdI {F:Fra P0}{Γ:En}{σ:St}{G H:Hp}{w:Addr}{s:FS}(r:R F Γ σ G H)(e:Γ[i]?=some (.box ((bF C).box w s))){n:Int}{y:V}{d:D}(dy:Dt G y d):R F (Γ.set i (.box ((bF C).box w { s with jn:=n,la:=d }))) σ G (upd H w (.ins C s.d (aI2 { s with jn:=n } y))):=by
 obtain⟨v,fp,ev,⟨rfl,rfl,kvs,vl,a,b⟩,nf⟩:=r.sl i _ e;have hw:=nf w (by simp);refine r.writeF e (r.fr.priv hw.1 hw.2) fun fp h=>?_;obtain⟨u,eu2,⟨rfl,rfl,_⟩,nf2⟩:=h;have ed:s.d≠w:=a3M a.d a.i (by intro z; cases z);have ek:s.p≠w:=a3M a.k a.i (by intro z; cases z);refine⟨[w,s.d,s.p],⟨.ref w,ev,⟨rfl,rfl,kvs,y,⟨?_,?_,?_⟩,⟨b.k,dy⟩⟩,nf2⟩,fun b hb _=>?_⟩
 ·rw[aW]; rfl
 ·show upd H w _ s.d=_;rw[aR ed]; exact a.d
 ·show upd H w _ s.p=_;rw[aR ek]; exact a.k
 ·exact⟨aR fun y=>hb (by rw[y]; simp),hb⟩
theorem R.fdK {F:Fra P0}{Γ:En}{σ:St}{G H:Hp}{w:Addr}{s:FS}(r:R F Γ σ G H)(e:Γ[i]?=some (.box ((bF C).box w s))){kvs':List (Key×V)}{kds':List (Int×D)}(rel:DkRel G kvs' kds'):R F (Γ.set i (.box ((bF C).box w { s with kds:=kds' }))) σ G (upd H s.p (.dK kvs')):=by
 obtain⟨v,fp,ev,⟨rfl,rfl,kvs,vl,a,b⟩,nf⟩:=r.sl i _ e;have hw:=nf s.p (by simp);refine r.writeF e (r.fr.priv hw.1 hw.2) fun fp h=>?_;obtain⟨u,eu2,⟨rfl,rfl,_⟩,nf2⟩:=h;have ed:s.d≠s.p:=a3M a.d a.k (by intro z; cases z);have ew:w≠s.p:=a3M a.i a.k (by intro z; cases z);refine⟨[w,s.d,s.p],⟨.ref w,ev,⟨rfl,rfl,kvs',vl,⟨?_,?_,?_⟩,⟨rel,b.l⟩⟩,nf2⟩,fun b hb _=>?_⟩
 ·show upd H s.p _ w=_;rw[aR ew]; exact a.i
 ·show upd H s.p _ s.d=_;rw[aR ed]; exact a.d
 ·show upd H s.p _ s.p=_;rw[aW]
 ·exact⟨aR fun y=>hb (by rw[y]; simp),hb⟩
def vC (C:Addr)(i:Nat)(m:ME):MS:=fun Γ Q=>m Γ fun d Γ1=>∃ w s,Γ1[i]?=some (.box ((bF C).box w s))∧Q (.nx (Γ1.set i (.box ((bF C).box w { s with la:=d }))))
theorem a2K {K:Fg}{t:TE}{m:ME}(cl:Cls K C)(na:NoAttr K C "last")(h:VT P0 t m):VSA P0 A (aJB K (pO i) t "last") (vC C i m):=by
 intro F Γ σ G H E Qm r hm k;refine h F Γ σ G H _ _ r hm fun d Γ1 y G1 H1 m1 g1 r1 d1=>?_;obtain⟨w,s,e,q⟩:=m1;obtain⟨kvs,vl,ev,a,b⟩:=r1.fd e (.inl rfl);refine⟨.ref w,ev,w,C,s.d,_,rfl,a.i,cl,na,(by show 3<1000; decide),?_⟩;exact k _ q σ G1 _ g1 (r1.fdI (n:=s.jn) e d1) fun _ _=>rfl
def vD (C:Addr)(i:Nat)(n:Int):MS:=fun Γ Q=>∃ w s,Γ[i]?=some (.box ((bF C).box w s))∧Q (.nx (Γ.set i (.box ((bF C).box w { s with jn:=s.jn+n }))))
theorem a1Z {K:Fg}{n:Int}(cl:Cls K C)(na:NoAttr K C "joined"):VSA P0 A (a3L K (pO i) (tC (.int n)) aJL "joined") (vD C i n):=by
 intro F Γ σ G H E Qm r hm k;obtain⟨w,s,e,q⟩:=hm;obtain⟨kvs,vl,ev,a,b⟩:=r.fd e (.inl rfl);refine⟨.ref w,ev,w,C,s.d,_,.int s.jn,rfl,a.i,cl,na,rfl,?_⟩;refine⟨s.jn,n,rfl,rfl,s.d,_,a.i,(by show 3<1000; decide),?_⟩;exact k _ q σ G _ (Same.refl _) (r.fdI (n:=s.jn+n) e b.l) fun _ _=>rfl
def a0X (C:Addr)(i:Nat)(m mj:ME):MS:=fun Γ Q=>m Γ fun d Γ1=>∃ w s,Γ1[i]?=some (.box ((bF C).box w s))∧mj Γ1 fun x Γ2=>∃ k,Γ2[i]?=some (.box ((bF C).box w s))∧x=.int k∧s.kds.length<1000∧Q (.nx (Γ2.set i (.box ((bF C).box w { s with kds:=rG s.kds k d }))))
theorem a0G {K:Fg}{t tj:TE}{m mj:ME}(cl:Cls K C)(na:NoAttr K C "running")(h:VT P0 t m)(hj:VT P0 tj mj):VSA P0 A (aDM (a9P K (pO i) "running") tj t) (a0X C i m mj):=by
 intro F Γ σ G H E Qm r hm k;refine h F Γ σ G H _ _ r hm fun d Γ1 v G1 H1 m1 g1 r1 d1=>?_;obtain⟨w,s,e,m1⟩:=m1;obtain⟨kvs,vl,ev,a,b⟩:=r1.fd e (.inl rfl);refine⟨.ref w,ev,w,C,s.d,_,.ref s.p,rfl,a.i,cl,na,rfl,hj F Γ1 σ G1 H1 _ _ r1 m1 fun x Γ2 u G2 H2 m2 g2 r2 d2=>?_⟩;obtain⟨n,e2,rfl,hl,q⟩:=m2;obtain⟨kvs2,vl2,ev2,a2,b2⟩:=r2.fd e2 (.inl rfl)
 cases d2
 refine⟨s.p,_,rfl,DPut.k (k:=Sum.inl n) a2.k (by rw[b2.k.len]; exact lt_of_lt_of_le hl (by decide)),?_⟩;exact k _ q σ G2 _ (g1.trans g2) (r2.fdK e2 (b2.k.put n (Dt.same g2 _ _ d1))) fun _ _=>rfl
def a6Z (C:Addr)(i:Nat)(mj:ME):ME:=fun Γ Q=>∃ w s,Γ[i]?=some (.box ((bF C).box w s))∧mj Γ fun x Γ1=>∃ k d,Γ1[i]?=some (.box ((bF C).box w s))∧x=.int k∧qJ s.kds k=some d∧Q d (Γ1.set i (.box ((bF C).box w { s with kds:=kI s.kds k })))
theorem a7W {K:Fg}{tj:TE}{mj:ME}(cl:Cls K C)(na:NoAttr K C "running")(hj:VT P0 tj mj):VT P0 (a9S (a9P K (pO i) "running") tj) (a6Z C i mj):=by
 intro F Γ σ G H Q Qm r hm k;obtain⟨w,s,e,hm⟩:=hm;obtain⟨kvs,vl,ev,a,b⟩:=r.fd e (.inl rfl);refine⟨.ref w,ev,w,C,s.d,_,.ref s.p,rfl,a.i,cl,na,rfl,s.p,rfl,.inl ⟨kvs,.inl a.k⟩,hj F Γ σ G H _ _ r hm fun x Γ1 y G1 H1 m1 g1 r1 d1=>?_⟩;obtain⟨n,d,e1,rfl,hd,q⟩:=m1;obtain⟨kvs1,vl1,ev1,a1,b1⟩:=r1.fd e1 (.inl rfl)
 cases d1
 obtain⟨v,hv,dv⟩:=b1.k.some hd;exact⟨kvs1,Sum.inl n,v,a1.k,rfl,hv,k _ _ _ _ _ q g1 (r1.fdK e1 (b1.k.drop n)) dv⟩
theorem a4G {m:Str}(hm:∀ s vl,(aI2 s vl).lookup m=none){p:Addr}{s:FS}{v:V}{fp:List Addr}{G H:Hp}(h:((bF C).box p s).P v fp G H):∃ dx fs,H p=some (.ins C dx fs)∧fs.lookup m=none:=by
 obtain⟨_,_,kvs,vl,a,_⟩:=h;exact⟨_,_,a.i,hm s vl⟩
def uY (C:Addr):Sp:=fun vs H Q _=>∃(w d:Addr),vs=[.ref w]∧H w=some (.ins C d [])∧∀ p,H p=none→Q .non (upd (upd H p (.dK [])) w (.ins C d [("running", .ref p),("joined", .int 0),("last", .non)]))
def a6M (C:Addr):MO:=fun Γ Q=>∀ w d p,Q (.box ((bF C).box w ⟨d,p,[],0,.none⟩)) Γ
theorem a91 {E:XK}:VO P0 (aCH C (uY C) [] E qF) (a6M C):=by
 intro F Γ σ G H Q Qm r hm k w d hw hd hdw;refine⟨w,d,rfl,aW,fun p hp=>⟨rfl,?_⟩⟩;have pw:p≠w:=fun z=>by rw[z,aW] at hp; cases hp
 have pd:p≠d:=fun z=>by rw[z,aR hdw,aW] at hp; cases hp
 have hp0:H p=none:=by rw[aR pw,aR pd] at hp; exact hp
 have g3:∀ b o,H b=some o→upd (upd (upd (upd H d (.own w)) w (.ins C d [])) p (.dK [])) w (.ins C d [("running", .ref p),("joined", .int 0),("last", .non)]) b=some o:=fun b o e=>by
  rw[aR (bC e hw),aR (bC e hp0),aR (bC e hw),aR (bC e hd)];exact e
 have r1:=(((r.newP (o:=.own w) hd).newP (p:=w) (o:=.ins C d []) (by rw[aR (Ne.symm hdw)]; exact hw)).newP (o:=.dK []) hp);have rf:Rf F G (upd (upd (upd (upd H d (.own w)) w (.ins C d [])) p (.dK [])) w (.ins C d [("running", .ref p),("joined", .int 0),("last", .non)])):=r1.fr.priv (r.fr.fresh hw) (r.fr.gfresh hw);have r2:R F Γ σ G (upd (upd (upd (upd H d (.own w)) w (.ins C d [])) p (.dK [])) w (.ins C d [("running", .ref p),("joined", .int 0),("last", .non)])):=r.keep rf (Same.refl _) fun q u _ _ g h=>⟨g,g3 q u h⟩;have hP:((bF C).box w ⟨d,p,[],0,.none⟩).P (.ref w) [w,d,p] G (upd (upd (upd (upd H d (.own w)) w (.ins C d [])) p (.dK [])) w (.ins C d [("running", .ref p),("joined", .int 0),("last", .non)])):=
  ⟨rfl,rfl,[],.non,⟨aW,(by show upd _ w _ d=_; rw[aR hdw,aR (Ne.symm pd),aR hdw,aW]),(by show upd _ w _ p=_; rw[aR pw,aW])⟩,⟨.nil,.non⟩⟩
 have fr:∀ b∈[w,d,p],H b=none:=fun b hb=>by
  simp only[mem_cons,not_mem_nil,or_false] at hb;rcases hb with rfl|rfl|rfl
  ·exact hw
  ·exact hd
  ·exact hp0
 refine k _ _ _ _ _ (hm w d p) (Same.refl _) r2 ⟨[w,d,p],hP,fun b hb=>⟨r.fr.fresh (fr b hb),r.fr.gfresh (fr b hb)⟩⟩ (Apart.newB r (fun fp h b hb=>?_) (Same.refl _) fun b o _ g e=>⟨g,g3 b o e⟩);rw[Bx.uniq _ h hP] at hb;exact fr b hb
end
end
section
variable {P0:Addr→Hp→Prop}{A:Nat→Bool}
theorem a0T {K:Fg}{G G':Hp}{a:Addr}{xs:List V}(g:Same G G')(h:SqL K G a xs):SqL K G' a xs:=by
 rcases h with(h|⟨o,h⟩)|h
 ·exact .inl (.inl (g _ _ h))
 ·exact .inl (.inr ⟨o,g _ _ h⟩)
 ·exact .inr h
def a8Q (K:Fg)(a:Addr)(ns:List Int):Pb where
 P:=fun v G=>v=.ref a∧SqL K G a (ns.map V.int)
 mono:=fun g h=>⟨h.1,a0T g h.2⟩
def aAL (K:Fg)(i j:Nat):MO:=fun Γ Q=>∃ a ns n,Γ[i]?=some (.pub (a8Q K a ns))∧Γ[j]?=some (.val (.int n))∧0≤n∧n<1000∧∀ pen,Q (.box (penF.box pen 1)) Γ
theorem aA9 {K:Fg}{i j:Nat}{E:XK}:VO P0 (a3I (a08 K) [] E (eF (pO i) (eF (pO j) qF))) (aAL K i j):=by
 intro F Γ σ G H Q Qm r hm k;obtain⟨a,ns,n,e,ej,n0,n1,m⟩:=hm;obtain⟨v,ev,rfl,hs⟩:=r.sl i _ e;obtain⟨vj,evj,dj⟩:=r.sl j _ ej
 cases dj
 refine⟨.ref a,ev,_,evj,a,ns,n,rfl,a0T r.fr.sub hs,n0,n1,fun p z c hp hz hc hc2=>?_⟩;have hP:(penF.box p 1).P (.ref p) [p] G (upd H p (.lst [.int z,.int c,.int 1])):=⟨rfl,rfl,z,c,1,aW,hz,hc,hc2,by decide,by decide⟩;refine k _ _ _ _ _ (m p) (Same.refl _) (r.newP hp) ⟨[p],hP,fun b hb=>?_⟩ (Apart.newB r (fun fp h b hb=>?_) (Same.refl _) fun b o _ g e=>⟨g,by rw[aR (bC e hp)]; exact e⟩)
 ·rw[mem_singleton.mp hb]; exact⟨r.fr.fresh hp,r.fr.gfresh hp⟩
 ·rw[(penF.box p 1).uniq h hP] at hb;rw[mem_singleton.mp hb]; exact hp
theorem law_bodyS {K:Fg}{a:Addr}{ns:List Int}{k:Nat}{b:MS}{H:Hp}{Q:VK}{nx:St→Hp→Prop}{X:Cx}{sts:List Stmt}{N:List Str}
    (h2:∃ t,PSs X sts t∧VS NoP t b) (hN:N.length=k+1) (hS:SqL K H a (ns.map V.int))
    (hb:∀ a ns,b (.pub (a8Q K a ns)::List.replicate k .no) pF) (q:∀ H',Q (.bl true) H'):∃ t,PSs X sts t∧t { nx:=nx,rt:=Q } (start N [.ref a]) H:=by
  obtain⟨t,h2,h⟩:=h2;refine⟨_,h2,?_⟩;have e:start N [.ref a]=some (.ref a)::List.replicate k none:=by
    unfold start;rw[hN];rfl
  rw[e]
  let F:Fra NoP:=
    { H0:=H
      G0:=fun b=>if b=a then H b else none
      pen:=none
      stab:=fun p e=>nomatch e
      pin:=fun p e=>nomatch e
      pin0:=fun p e=>nomatch e
      pg:=fun _ e=>nomatch e }
  have ga:F.G0 a=H a:=by show(if a=a then H a else none)=_; rw[if_pos rfl]
  have hG:SqL K F.G0 a (ns.map V.int):=by
    rcases hS with(h|⟨o,h⟩)|h
    · exact .inl (.inl (ga.trans h))
    · exact .inl (.inr ⟨o,ga.trans h⟩)
    · exact .inr h
  have r:R F (.pub (a8Q K a ns)::List.replicate k .no) (some (.ref a)::List.replicate k none) F.G0 H:=by
    refine⟨⟨fun b o e=>?_,fun _ _ _=>rfl,fun b o e _=>e,fun p e=>nomatch e⟩,by simp,fun i=>[],fun i s e=>?_,fun i j s u _ _ hij b hb hc=>nomatch hb⟩
    · have e:(if b=a then H b else none)=some o:=e
      split at e
      · exact e
      · cases e
    · match i with
      | 0=>
        cases e
        exact⟨rfl,.ref a,rfl,rfl,hG⟩
      | i+1=>
        have e':(List.replicate k Sl.no)[i]?=some s:=by simpa using e
        rw[getElem?_replicate] at e'
        split at e'
        · cases e'; rfl
        · cases e'
  refine h F _ _ F.G0 _ _ pF r (hb a ns) fun fl e=>?_;unfold pF at e;subst e;intro v G' H' _ _ hr;have hr:Dt G' v (.bool true):=hr
  cases hr
  exact q H'
end
section
section
variable {i j:Nat}{Γ Γ1:En}{Q:D→En→Prop}{Qf:Fl→Prop}{Qo:Rv→En→Prop}{m ma mj:ME}{kds:List (Int×D)}{d:D}{n:Int}{C w:Addr}{s:FS}{sl:Sl}{mo:MO}
theorem a2L (h0:Γ[i]?=some (.box ((bF C).box w s)))(h:Q (.int s.jn) Γ):t7 C i Γ Q:=⟨w,s,_,h0,.inl rfl,h⟩
theorem a90 (h0:Γ[i]?=some (.box ((bF C).box w s)))(h:Q s.la Γ):vK C i Γ Q:=⟨w,s,_,h0,.inl rfl,h⟩
def fxK (C:Addr)(i:Nat)(w:Addr)(s:FS)(Q:D→En→Prop)(x:D)(Γ1:En):Prop:=(∃ sl,Γ1[i]?=some sl∧InF C w s sl)∧∃ k d,x=.int k∧qJ s.kds k=some d∧Q d Γ1
theorem aFC (h0:Γ[i]?=some (.box ((bF C).box w s)))(h:mj Γ (fxK C i w s Q)):aC9 C i mj Γ Q:=⟨w,s,⟨_,h0,.inl rfl⟩,h⟩
theorem aI1 (h0:Γ1[i]?=some (.box ((bF C).box w s)))(hd:qJ s.kds n=some d)(h:Q d Γ1):fxK C i w s Q (.int n) Γ1:=⟨⟨_,h0,.inl rfl⟩,n,d,rfl,hd,h⟩
def fiK (C:Addr)(i:Nat)(Q:D→En→Prop)(x:D)(Γ1:En):Prop:=∃ w s sl k,Γ1[i]?=some sl∧InF C w s sl∧x=.int k∧Q (.bool (qJ s.kds k).isSome) Γ1
theorem aDB (h:mj Γ (fiK C i Q)):aBB C i mj Γ Q:=h
theorem aH7 (h0:Γ1[i]?=some (.box ((bF C).box w s)))(h:Q (.bool (qJ s.kds n).isSome) Γ1):fiK C i Q (.int n) Γ1:=⟨w,s,_,n,h0,.inl rfl,rfl,h⟩
theorem aC4 (h0:Γ[i]?=some (.box ((bF C).box w s)))(h:Q (.int (s.kds.length:Int)) Γ):a3Y C i Γ Q:=⟨w,s,_,h0,.inl rfl,h⟩
def aJJ (C:Addr)(i:Nat)(Q:Fl→Prop)(d:D)(Γ1:En):Prop:=∃ w s,Γ1[i]?=some (.box ((bF C).box w s))∧Q (.nx (Γ1.set i (.box ((bF C).box w { s with la:=d }))))
theorem a6R (h:m Γ (aJJ C i Qf)):vC C i m Γ Qf:=h
theorem aE0 (h0:Γ1[i]?=some (.box ((bF C).box w s)))(h:Qf (.nx (Γ1.set i (.box ((bF C).box w { s with la:=d }))))):aJJ C i Qf d Γ1:=⟨w,s,h0,h⟩
theorem a4E (h0:Γ[i]?=some (.box ((bF C).box w s)))(h:Qf (.nx (Γ.set i (.box ((bF C).box w { s with jn:=s.jn+n }))))):vD C i n Γ Qf:=⟨w,s,h0,h⟩
def fpK (C:Addr)(i:Nat)(d:D)(w:Addr)(s:FS)(Q:Fl→Prop)(x:D)(Γ2:En):Prop:=∃ k,Γ2[i]?=some (.box ((bF C).box w s))∧x=.int k∧s.kds.length<1000∧Q (.nx (Γ2.set i (.box ((bF C).box w { s with kds:=rG s.kds k d }))))
def fpJ (C:Addr)(i:Nat)(mj:ME)(Q:Fl→Prop)(d:D)(Γ1:En):Prop:=∃ w s,Γ1[i]?=some (.box ((bF C).box w s))∧mj Γ1 (fpK C i d w s Q)
theorem aAE (h:m Γ (fpJ C i mj Qf)):a0X C i m mj Γ Qf:=h
theorem aH9 (h0:Γ1[i]?=some (.box ((bF C).box w s)))(h:mj Γ1 (fpK C i d w s Qf)):fpJ C i mj Qf d Γ1:=⟨w,s,h0,h⟩
theorem aE3 (h0:Γ1[i]?=some (.box ((bF C).box w s)))(hl:s.kds.length<1000)(h:Qf (.nx (Γ1.set i (.box ((bF C).box w { s with kds:=rG s.kds n d }))))):fpK C i d w s Qf (.int n) Γ1:=⟨n,h0,rfl,hl,h⟩
def fqK (C:Addr)(i:Nat)(w:Addr)(s:FS)(Q:D→En→Prop)(x:D)(Γ1:En):Prop:=∃ k d,Γ1[i]?=some (.box ((bF C).box w s))∧x=.int k∧qJ s.kds k=some d∧Q d (Γ1.set i (.box ((bF C).box w { s with kds:=kI s.kds k })))
theorem aBD (h0:Γ[i]?=some (.box ((bF C).box w s)))(h:mj Γ (fqK C i w s Q)):a6Z C i mj Γ Q:=⟨w,s,h0,h⟩
theorem aHD (h0:Γ1[i]?=some (.box ((bF C).box w s)))(hd:qJ s.kds n=some d)(h:Q d (Γ1.set i (.box ((bF C).box w { s with kds:=kI s.kds n })))):fqK C i w s Q (.int n) Γ1:=⟨n,d,h0,rfl,hd,h⟩
theorem aA1 (h:∀ w d p,Qo (.box ((bF C).box w ⟨d,p,[],0,.none⟩)) Γ):a6M C Γ Qo:=h
theorem aD1 {K:Fg}{a:Addr}{ns:List Int}(h0:Γ[i]?=some (.pub (a8Q K a ns)))(hj:Γ[j]?=some (.val (.int n)))(n0:0≤n)(n1:n<1000)(h:∀ pen,Qo (.box (penF.box pen 1)) Γ):aAL K i j Γ Qo:=⟨a,ns,n,h0,hj,n0,n1,h⟩
end
end
end L2.VS
namespace L2
open PySem PySem.Spec PyProof.Rows
end L2
namespace L2.VS
open PySem PySem.Spec PyProof.Rows
section
variable {P0:Addr→Hp→Prop}
end
section
variable {P0:Addr→Hp→Prop}{A:Nat→Bool}{S:Type}
section
variable {F:Fra P0}{Γ:En}{σ:St}{G H:Hp}{fp:List Addr}
end
end
end L2.VS
namespace L2
open PySem PySem.Spec PyProof.Rows
section
variable {X:Cx}
theorem aC8 {a b:PySem.Str}(h:a.cps.toList=b.cps.toList):a=b:=by
 obtain⟨a⟩:=a;obtain⟨b⟩:=b;have:a=b:=Array.toList_inj.mp h;rw[this]
theorem a77 (a b:PySem.Str):(a++b).cps.toList=a.cps.toList++b.cps.toList:=Array.toList_append
def txI (i:Int):PySem.Str:=PySem.Str.ofString (toString i)
end
end L2
namespace L2.VS
open PySem PySem.Spec PyProof.Rows
section
variable {P0:Addr→Hp→Prop}
section
variable {ma mb:ME}{ml mh:MP}{Γ:En}{Q:D→En→Prop}{Qo:Rv→En→Prop}{Qd:List D→En→Prop}{a b:PySem.Str}
end
end
end L2.VS
namespace L2
open PySem PySem.Spec PyProof.Rows
section
variable {X:Cx}
theorem len_app (a b:PySem.Str):(a++b).length=a.length+b.length:=by
 show(a++b).cps.size=a.cps.size+b.cps.size
 rw[← length_toList,a77,length_append,length_toList,length_toList]
theorem empty_app (a:PySem.Str):PySem.Str.empty++a=a:=aC8 (by rw[a77]; rfl)
def aD6 (K:Fg):List V→Hp→VK→Prop:=fun xs H Q=>∃(p:Addr) (ys:List V),xs=[.ref p]∧SqL K H p ys∧∀ q,H q=none→Q (.ref q) (upd H q (.tup ys))
theorem a6G:t6 X (.type "tuple") (aD6 X.K):=by
 intro pins s σ H xs us Q I r h;obtain⟨p,ys,rfl,hq,q⟩:=h;obtain⟨u,rfl,rx⟩:=vals1 r
 cases rx
 obtain⟨its,r',pl,hz⟩:=I.list hq;refine call_tuple_list pl.isList (fun h' hk=>?_) (by rw[size_toArray,←r'.length]; exact hz);have I1:Inv X pins σ H { s with heap:=h' }:=I.kept (t':=s.toks) hk;refine⟨.ref h'.objs.size,_,I1.laid (t':=s.toks) (o:=.tup ys) (fun b ob q=>get?_push_of_some _ q) (le_refl _) ?_,rfl,q _ (I1.hok.fresh (le_refl _))⟩;exact⟨hz,its,r',IsTup.new _ _⟩
end
end L2
namespace L2.VS
open PySem PySem.Spec PyProof.Rows
section
variable {P0:Addr→Hp→Prop}
def tlK (Q:D→En→Prop)(x:D)(Γ:En):Prop:=∃ ds,x=.list ds∧Q (.tuple ds) Γ
def aCF (ma:ME):ME:=fun Γ Q=>ma Γ (tlK Q)
theorem aA0 {K:Fg}{ta:TE}{ma:ME}(ha:VT P0 ta ma):VT P0 (tCB (aD6 K) (eF ta qF)) (aCF ma):=by
 intro F Γ σ G H Q Qm r m k;refine ha F Γ σ G H _ _ r m fun d Γ1 x G1 H1 m1 s1 r1 d1=>?_;obtain⟨ds,rfl,q⟩:=m1
 cases d1 with
 | @lst p xs _ hp rs=>
  refine⟨p,xs,rfl,SqL.of (r1.fr.sub _ _ hp),fun l hl=>?_⟩;have g:=fP (r1.fr.gfresh hl) (.tup xs);exact k _ _ _ _ _ q (s1.trans g) (r1.new hl) (.tup aW (Dts.same g _ _ rs))
end
end L2.VS
namespace L2
open PySem PySem.Spec PyProof.Rows
theorem a79 {f:Array Value→Array Value}:∀ o:Obj,(Obj.mapFields f o).dict=o.dict
 | ⟨_,_,dt,_⟩=>by cases dt<;>rfl
section
variable {M:Model}{A:Around}{E:Value→Shared→Prop}{s:Shared}{base:Heap}{env:Env}{outer l:List Env}{L e:Addr}{cls fl:Value}{dct:Option Addr}{Q:Unit→Shared→Prop}
def TrD (h base:Heap)(e:Addr)(cls:Value)(dct:Option Addr)(fl:Value):Prop:=
 ∃ oe vs T oT ts,h.get? e=some oe∧oe.cls=cls∧oe.dict=dct∧oe.data=.fields vs∧vs[1]?=some (.ref T)∧base.get? T=none∧T≠e∧h.get? T=some oT∧oT.data=.fields ts∧ts[3]?=some fl
structure LyD (base:Heap)(l:List Env)(e:Addr)(cls:Value)(dct:Option Addr)(fl:Value)(h:Heap):Prop where
 kb:base.StaysIn h
 en:base.get? e=none
 fr:h.FunFrames base l
 tr:TrD h base e cls dct fl
theorem enD {oe:Obj}{vs:Array Value}{head:Value}{hadNext:Bool}(hfr:A.frames=some (env::outer))(hl:s.heap.FunFrames base (env::outer))(hf:env.frame=some L)
  (he:s.heap.get? e=some oe) (kb:base.StaysIn s.heap) (en:base.get? e=none) (hd:oe.data=.fields vs) (hsz:1<vs.size)
  (h:∀ h',LyD base (env::outer) e oe.cls oe.dict (rawInt L) h'→s.heap.UpToSlots h'→Q () { s with heap:=h' }) :
  wpAny M A (do let a←frameOf env; let pl←entryPlaceOf L hadNext; let b←EntryCells.newEntry head a .none (rawInt L) .none pl; setField (.ref e) 1 b) Q E s:=by
 have nin:e∉(env::outer).filterMap (·.frame):=fun z=>by
  obtain⟨_,o,q,n⟩:=hl.mem z;rw[he] at q; cases q; exact n vs hd
 refine wpAny_bind (wpAny_frameOf_fun hfr hl hf fun h1 hs=>wpAny_bind (wpAny_entryPlaceOf fun pl hpl=>?_));unfold EntryCells.newEntry newFields;refine wpAny_bind (wpAny_newObj_type ?_ (hpl.sizeOk5 _ _ _ _ _));generalize hob:({ cls:=.type "traceback", dict:=none,data:=.fields ([head,.ref L,.none,rawInt L,.none]++(if pl.isEmpty then List.replicate 6 Value.none else pl)).toArray }:Obj)=ob;have obd:ob.data=.fields ([head,.ref L,.none,rawInt L,.none]++(if pl.isEmpty then List.replicate 6 Value.none else pl)).toArray:=by rw[← hob]
 have e1:h1.get? e=some oe:=(hs.2.1 e nin).trans he;have k1:base.StaysIn h1:=fun b o q=>(hs.2.1 b fun z=>by rw[(hl.mem z).1] at q; cases q).trans (kb b o q);have e2:=get?_push_of_some (h:=h1) ob e1;have ne:h1.objs.size≠e:=ne_of_gt (lt_size e1);have d3:=Obj.data_mapFields hd (·.setIfInBounds 1 (Value.ref h1.objs.size));refine wpAny_setField e2 hd hsz (h _ ?_ ?_)
 ·have keep:∀ b o,b≠e→h1.get? b=some o→((h1.push ob).update e (Obj.mapFields (·.setIfInBounds 1 (Value.ref h1.objs.size)))).get? b=some o:=fun b o z q=>by
   rw[get?_update_other _ _ (Ne.symm z)]; exact get?_push_of_some _ q
  refine⟨fun b o q=>keep b o (fun z=>by rw[z,en] at q; cases q) (k1 b o q),en,hl.of_keeps fun b o q nf=>?_,?_⟩
  ·obtain⟨sl,q2⟩:=hs.2.2 b o q;exact⟨_,keep b _ (fun z=>by rw[z,he] at q; cases q; exact nf vs hd) q2,rfl⟩
  ·refine⟨_,_,h1.objs.size,ob,_,get?_update_self _ e2 (Obj.isFreed_of_fields d3),Obj.cls_mapFields _ _,a79 _,d3,by simp[hsz],k1.fresh,ne,?_,obd,?_⟩
   ·rw[get?_update_other _ _ (Ne.symm ne)];exact get?_push_size h1 (Obj.isFreed_of_fields obd)
   ·rcases hpl with rfl|⟨_,_,_,_,_,_,_,rfl⟩<;>simp
 ·intro b o q nf;obtain⟨sl,q2⟩:=hs.2.2 b o q;refine⟨sl,?_⟩;rw[get?_update_other _ _ fun z=>by rw[← z,he] at q; cases q; exact nf vs hd];exact get?_push_of_some _ q2
theorem aEQ {oe:Obj}{vs:Array Value}(hfr:A.frames=some (env::outer))(hl:s.heap.FunFrames base (env::outer))(hf:env.frame=some L)
  (he:s.heap.get? e=some oe) (kb:base.StaysIn s.heap) (en:base.get? e=none) (hd:oe.data=.fields vs) (h1:vs[1]?=some .none)
  (h:∀ h',LyD base (env::outer) e oe.cls oe.dict (rawInt L) h'→s.heap.UpToSlots h'→Q () { s with heap:=h' }):wpAny M A (noteFrame (.ref e) env) Q E s:=by
 unfold noteFrame;simp only[hf];refine wpAny_bind (wpAny_field he hd h1 ?_);rw[if_neg (by decide)];exact enD hfr hl hf he kb en hd (Array.getElem?_eq_some_iff.mp h1).1 h
theorem aDJ (hfr:A.frames=some (env::outer))(hf:env.frame=some L)(y:LyD base (env::outer) e cls dct .none s.heap)
  (h:∀ h',LyD base (env::outer) e cls dct (rawInt L) h'→s.heap.UpToSlots h'→Q () { s with heap:=h' }):wpAny M A (noteFrame (.ref e) env) Q E s:=by
 obtain⟨kb,en,hl,oe,vs,T,oT,ts,he,rfl,rfl,hd,h1,nT,ne,hT,dT,h3⟩:=y;unfold noteFrame;simp only[hf];refine wpAny_bind (wpAny_field he hd h1 ?_);rw[if_pos (show(Value.ref T != Value.none)=true from by simp)];refine wpAny_bind (wpAny_field hT dT h3 ?_);rw[if_neg (show ¬((Value.none==rawInt L)=true) from by simp[rawInt])];refine wpAny_bind (wpAny_setField hT dT (Array.getElem?_eq_some_iff.mp h3).1 ?_);have other:∀ b,b≠T→(s.heap.update T (Obj.mapFields (·.setIfInBounds 3 Value.none))).get? b=s.heap.get? b:=fun b z=>get?_update_other _ _ (Ne.symm z);have noT:∀ b o,s.heap.get? b=some o→(∀ vs,o.data≠.fields vs)→b≠T:=fun b o q nf z=>by rw[z,hT] at q; cases q; exact nf ts dT
 refine enD hfr (hl.of_keeps fun b o q nf=>⟨o,(other b (noT b o q nf)).trans q,rfl⟩) hf ((other e (Ne.symm ne)).trans he) (fun b o q=>(other b fun z=>by rw[z,nT] at q; cases q).trans (kb b o q)) en hd (Array.getElem?_eq_some_iff.mp h1).1
  fun h' y u=>h h' y fun b o q nf=>u b o ((other b (noT b o q nf)).trans q) nf
theorem yQ (y:LyD base l e cls dct fl s.heap)(h:∀ h',LyD base l e cls dct .none h'→s.heap.UpToSlots h'→Q () { s with heap:=h' }):wpAny M A (setFlight (.ref e) none) Q E s:=by
 obtain⟨kb,en,hl,oe,vs,T,oT,ts,he,rfl,rfl,hd,h1,nT,ne,hT,dT,h3⟩:=y;have z3:=(Array.getElem?_eq_some_iff.mp h3).1;have other:∀ b,b≠T→(s.heap.update T (Obj.mapFields (·.setIfInBounds 3 ((none:Option Addr).elim Value.none fun f=>rawInt f)))).get? b=s.heap.get? b:=fun b z=>get?_update_other _ _ (Ne.symm z);have noT:∀ b o,s.heap.get? b=some o→(∀ vs,o.data≠.fields vs)→b≠T:=fun b o q nf z=>by rw[z,hT] at q; cases q; exact nf ts dT
 unfold setFlight;refine wpAny_bind (wpAny_field he hd h1 ?_);rw[if_pos (show(Value.ref T != Value.none)=true from by simp)];refine wpAny_setField hT dT z3 (h _ ⟨fun b o q=>(other b fun z=>by rw[z,nT] at q; cases q).trans (kb b o q),en,hl.of_keeps fun b o q nf=>⟨o,(other b (noT b o q nf)).trans q,rfl⟩,?_⟩ fun b o q nf=>⟨o.slots,(other b (noT b o q nf)).trans q⟩);exact⟨oe,vs,T,_,_,(other e (Ne.symm ne)).trans he,rfl,rfl,hd,h1,nT,ne,get?_update_self _ hT (Obj.isFreed_of_fields (Obj.data_mapFields dT _)),Obj.data_mapFields dT _,by simp[z3]⟩
theorem LyD.out (y:LyD base (env::outer) e cls dct fl s.heap):LyD base outer e cls dct fl s.heap:=⟨y.kb,y.en,y.fr.2.2,y.tr⟩
theorem aC7 {oe:Obj}{vs:Array Value}(hfr:A.frames=some (env::outer))(hl:s.heap.FunFrames base (env::outer))(hf:env.frame=some L)
  (he:s.heap.get? e=some oe) (kb:base.StaysIn s.heap) (en:base.get? e=none) (hd:oe.data=.fields vs) (h1:vs[1]?=some .none)
  (h:∀ h',LyD base outer e oe.cls oe.dict .none h'→s.heap.UpToSlots h'→Q () { s with heap:=h' }):wpAny M A (leaving env (.ref e)) Q E s:=by
 unfold leaving;exact wpAny_bind (aEQ hfr hl hf he kb en hd h1 fun h' y u=>yQ (s:={ s with heap:=h' }) y fun h2 y2 u2=>h h2 (LyD.out (s:={ s with heap:=h2 }) y2) (u.trans u2))
end
end L2
namespace L2
open PySem PySem.Spec PyProof.Rows
def CX2 (P:Program)(w:World):CXT:=fun outer H s E e s'=>∃(ea C:Addr) (D:Option Addr) (B:Heap) (H':Hp),e=.ref ea∧s'.os=s.os∧AllBare s'.gens ∧
 LyD B outer ea (.ref C) D .none s'.heap∧UnB (frs outer) H H' s.heap B s'.heap∧HOk P w H' B∧E (.ref C) D H'
def XNh (a C:Addr)(h:Heap):Prop:=∃ t,h.get? a=some { cls:=.ref C,data:=.fields #[.ref t,.none,.none,.none,.bool false,.none] }
def XN (a C:Addr):HO:=.ext (XNh a C)
def XFh (a C:Addr)(D:Option Addr)(h:Heap):Prop:=∃ t,h.get? a=some { cls:=.ref C,dict:=D,data:=.fields #[.ref t,.none,.none,.none,.bool false,.none] }
def XF (a C:Addr)(D:Option Addr):HO:=.ext (XFh a C D)
def XDh (a C:Addr)(D:Option Addr)(h:Heap):Prop:=∃ o vs,h.get? a=some o∧o.cls=.ref C∧o.dict=D∧o.data=.fields vs
def XD (a C:Addr)(D:Option Addr):HO:=.ext (XDh a C D)
theorem aF3 {P:Program}{w:World}{H:Hp}{h:Heap}{a C:Addr}(q:XNh a C h):ObjOk P w H h a (XN a C):=⟨q,let ⟨_,q⟩:=q; ⟨_,q⟩,fun _ _ ⟨t,q⟩ k=>⟨t,k _ q⟩⟩
theorem aH4 {P:Program}{w:World}{H:Hp}{h:Heap}{a C:Addr}{D:Option Addr}(q:XFh a C D h):ObjOk P w H h a (XF a C D):=⟨q,let ⟨_,q⟩:=q; ⟨_,q⟩,fun _ _ ⟨t,q⟩ k=>⟨t,k _ q⟩⟩
theorem aGY {P:Program}{w:World}{H:Hp}{h:Heap}{a C:Addr}{D:Option Addr}(q:XDh a C D h):ObjOk P w H h a (XD a C D):=⟨q,let ⟨o,_,q,_⟩:=q; ⟨o,q⟩,fun _ _ ⟨o,vs,q,r⟩ k=>⟨o,vs,k _ q,r⟩⟩
section
variable {X:Cx}{pins:List (Addr×Obj)}{σ:St}{H:Hp}{s:Shared}{M:Model}{F:Value→Shared→Prop}{E E':XK}
theorem Inv.leave2 {e C:Addr}{D:Option Addr}(I:Inv X pins σ (upd H e (XF e C D)) s)(hs:X.stack=X.env::X.outer)(hf:X.env.frame=some X.env.locals)(hex:X.ex=[])
  (hn:H e=none) (hnew:X.s₀.heap.get? e=none) (hE:E (.ref C) D H) :
  wpAny M X.A (leaving X.env (.ref e)) (fun _ s2=>CX2 X.prog X.w X.outer X.H₀ X.s₀ E (.ref e) s2) F s:=by
 have nex:∀ b:Addr,b∉X.ex:=fun b z=>by rw[hex] at z; exact nomatch z
 have hin:∀ env∈X.stack,∀ b,env.frame=some b→b∈e::frs X.stack:=fun env he b hb=>mem_cons_of_mem _ (mem_filterMap.mpr ⟨env,he,hb⟩);have stk:=PySem.W.funFrames_hide I.stack hin;obtain⟨t,he⟩:=(show ObjOk X.prog X.w _ s.heap e (XF e C D) from I.hok e _ aW).1;have ne:∀ b o,X.s₀.heap.get? b=some o→b≠e:=fun b o q z=>by rw[z,hnew] at q; cases q
 have nl:∀ b o,X.s₀.heap.get? b=some o→b∉frs X.outer→b∉e::frs X.stack:=fun b o q hb z=>(mem_cons.mp z).elim (ne b o q) (I.nstk hs hf q hb);have up:∀{b:Addr} {o:HO},(upd H e (XF e C D)) b=some o→b≠e→H b=some o:=fun{b o} q z=>by rw[aR z] at q; exact q
 refine aC7 (base:=hideAll s.heap (e::frs X.stack)) (outer:=X.outer) (L:=X.env.locals) (by rw[← hs]; exact I.ok.frames) (by rw[← hs]; exact stk) hf he (fun b o q=>of_hideAll _ q) (hideAll_none _ mem_cons_self) rfl rfl fun h2 y ups=>?_;refine⟨e,C,D,_,H,rfl,I.os,I.bare,y,⟨fun b o q n hb=>?_,fun b o q hb=>?_,fun b o q n=>?_,fun b o q hb=>?_,fun b xs q=>?_,fun b o u q=>?_,fun b ps q=>?_⟩,fun b o q=>?_,hE⟩
 ·exact hideAll_get _ (I.base.keep b o q n hb (nex b)) (nl b o q hb)
 ·obtain⟨sl,q1⟩:=I.base.slot b o q (I.ok.frf b hb) hb (nex b);obtain⟨_,o',q2,nf⟩:=I.ok.funs.mem hb;rw[q] at q2
  cases q2
  exact ups b { o with slots:=sl } q1 nf
 ·have z:=I.base.free b o q n (nex b);rw[aR (ne b o q)] at z;exact z
 ·obtain⟨o',q1⟩:=I.base.there b o q (nex b);exact⟨o',hideAll_get _ q1 (nl b o q hb)⟩
 ·have z:=I.base.tups b xs q;exact up z fun y=>by rw[y,aW] at z; cases z
 ·have z:=I.base.frzs b o u q;exact up z fun y=>by rw[y,aW] at z; cases z
 ·obtain⟨more,z⟩:=I.base.tbls b ps q;exact⟨more,up z fun y=>by rw[y,aW] at z; cases z⟩
 ·have nb:∀{c:Addr} {u:HO},H c=some u→c≠e:=fun{c u} q z=>by rw[z,hn] at q; cases q
  refine(I.hok b o (by rw[aR (nb q)]; exact q)).stay (fun c u hc q1=>hideAll_get _ q1 fun z=>?_) (fun c q1=>up q1 fun y=>by rw[y,aW] at q1; cases q1) fun c xs q1=>up q1 fun y=>by rw[y,aW] at q1; cases q1
  rcases mem_cons.mp z with z|z
  ·subst z;rcases hc with hc|hc
   ·exact nb q hc.symm
   ·rw[aW] at hc; cases hc
  ·have hnn:=I.stkFree c z;rcases hc with hc|hc
   ·rw[hc,aR (nb q),q] at hnn; cases hnn
   ·rw[hc] at hnn; cases hnn
theorem Inv.caught2 {H':Hp}{B h h6:Heap}{ea C:Addr}{D:Option Addr}{fl:Value}{g:Array GenState}{d:Drawn}{t:Nat}(I:Inv X pins σ H s)
    (u:UnB (frs X.stack) H H' s.heap B h) (hok:HOk X.prog X.w H' B) (bare:AllBare g) (y:LyD B X.stack ea (.ref C) D fl h6) (ups:h.UpToSlots h6) :
    H' ea=none∧Inv X pins σ (upd H' ea (XD ea C D)) { s with heap:=h6,gens:=g,drawn:=d,toks:=t }:=by
  have tB:∀ b o,H' b=some o→∃ o',B.get? b=some o':=fun b o q=>(hok b o q).has;have hne:H' ea=none:=by
    cases z:H' ea with
    | none=>rfl
    | some o=>
      obtain⟨o',q⟩:=tB ea o z;rw[y.en] at q; cases q
  obtain⟨oe,vs,_,_,_,hoe,hoc,hdd,hod,_⟩:=y.tr;have nfr:ea∉frs X.stack:=fun z=>by
    obtain⟨_,o,q,nf⟩:=y.fr.mem z;rw[hoe] at q; cases q;exact nf _ hod
  have nea:∀ b o,s.heap.get? b=some o→b≠ea:=fun b o q z=>by
    subst z;obtain⟨o',q'⟩:=u.there b o q nfr;rw[y.en] at q'; cases q'
  have slot:∀ b o,s.heap.get? b=some o→b∈frs X.stack→∃ sl,h6.get? b=some { o with slots:=sl }:=fun b o q hb=>by
    obtain⟨sl,q1⟩:=u.slot b o q hb;obtain⟨_,o',q2,nf⟩:=I.stack.mem hb;rw[q] at q2; cases q2;exact ups b { o with slots:=sl } q1 nf
  have un:Un (frs X.stack) [] H (upd H' ea (XD ea C D)) s.heap h6:=
    ⟨fun b o q n hb _=>y.kb b o (u.keep b o q n hb),fun b o q n hb _=>slot b o q hb,fun b o q n _=>by rw[aR (nea b o q)]; exact u.free b o q n,fun b o q _=>by
      by_cases hb:b∈frs X.stack
      · obtain⟨sl,q1⟩:=slot b o q hb; exact⟨_,q1⟩
      · obtain⟨o',q1⟩:=u.there b o q hb; exact⟨o',y.kb b o' q1⟩,
     fun b xs q=>by rw[aR (bC (u.tups b xs q) hne)]; exact u.tups b xs q,fun b o x q=>by rw[aR (bC (u.frzs b o x q) hne)]; exact u.frzs b o x q,
     fun b ps q=>by
      obtain⟨more,z⟩:=u.tbls b ps q;exact⟨more,by rw[aR (bC z hne)]; exact z⟩⟩
  refine⟨hne,I.call (ch:=[]) un (fun b o q=>?_) bare fun _ z=>nomatch z⟩
  by_cases hb:b=ea
  · subst hb;rw[aW] at q
    cases q
    exact aGY ⟨oe,vs,hoe,hoc,hdd,hod⟩
  · rw[aR hb] at q;exact(hok b o q).stay (fun c v _ q=>y.kb c v q) (fun c q=>by rw[aR (bC q hne)]; exact q) fun c xs q=>by rw[aR (bC q hne)]; exact q
end
section
variable {P:Program}{w:World}{K:Fg}{mg:Mg}{base:Heap}{N:List Str}{qual:Str}{scope:Scope}{f:Addr}{cd:Value}{A:Around}{outer:List Env}{s:Shared}{H:Hp}{E E':XK}
end
def zH (K:Fg)(C:Addr):Bool:=match K.lookup C with
 | some ⟨.type "type", _,.cls cd,sl⟩=>(match cd.mro,sl.toList with
  | .ref C'::bm,[_,_,_,_,some (.builtin n),_]=>C'==C&&n == "ValueError.__new__" && !cd.hasDel&&cd.hasDict&&tailIn K vmro bm
  | _,_=>false)
 | _=>false
theorem rC {K:Fg}{C:Addr}{h:Heap}(G:K.In h)(z:zH K C=true) :
  ∃ bm N nm q bs sn sub ab col dd k0 k1 k2 k3 k5,h.get? C=some (excClassObj nm q C N bs bm true sn sub ab col dd k0 k1 k2 k3 k5 "ValueError.__new__")∧OwnTail h vmro bm ∧
   K.lookup C=some (excClassObj nm q C N bs bm true sn sub ab col dd k0 k1 k2 k3 k5 "ValueError.__new__"):=by
 unfold zH at z
 split at z
 next dd cd sl ho=>
  split at z
  next D bm k0 k1 k2 k3 n k5 hm hs=>
   simp only[and_eq_true,beq_iff_eq,Bool.not_eq_true'] at z;obtain⟨⟨⟨⟨e1,e2⟩,e3⟩,e4⟩,e5⟩:=z;obtain⟨nm,bs,mro,ns,qn,hd,sn,sub,ab,col,del⟩:=cd;obtain⟨l⟩:=sl;dsimp only at hm hs e3 e4;subst e1 e2 hm hs e3 e4;exact⟨bm,ns,nm,qn,bs,sn,sub,ab,col,dd,k0,k1,k2,k3,k5,G _ _ ho,PySem.W.tail_of_in G e5,ho⟩
  next=>cases z
 next=>cases z
section
variable {prog:Program}{w:World}{A:Around}{E:Value→Shared→Prop}{h:Heap}{g:Array GenState}{d:Drawn}{t:Nat}{os:OsState}{K:Fg}{C fI:Addr}{rest:List Value}
theorem aAK {Q:Fin→Shared→Prop}(G:K.In h)(z:zH K C=true)(hi:findIn K (.ref C) "__init__" = some (some (.ref fI)))(hf:typeIn K (.ref fI)=some (.type "function"))
  (hq:∀ h' e,(∀ b o,h.get? b=some o→h'.get? b=some o)→h.objs.size≤e→XNh e C h' →
   wpAny (model prog w) A (call (.ref fI) (.ref e::rest)) (fun r s'=>r=.none∧Q (.done (.ret (.ref e))) s') E ⟨h',g,d,t,os⟩) (hrest:rest.length≤sizeLine) :
  wpAny (model prog w) A (Builtin.«type.__call__» ⟨.ref C::rest,[]⟩) Q E ⟨h,g,d,t,os⟩:=by
 obtain⟨bm,N,nm,q,bs,sn,sub,ab,col,dd,k0,k1,k2,k3,k5,hC,T,_⟩:=rC G z;have FB:=PySem.F.excBase_ValueError
 repeat (first|with_reducible refine wpAny_loadPart_at hC ?_|with_reducible refine wpAny_madeBy_exc hC ?_|wp_step)
 refine codeAny_call_builtin_code (Code.quiet_builtin _ FB.quiet) (wpAny_check_new_subT FB T hC ?_);refine codeAny_exc_new_subT FB T hC ?_ hrest;show wpAny _ _ _ _ _ _;generalize h2e:(h.push { cls:=.type "tuple", data:=.seq rest.toArray }).push { cls:=.ref C,data:=.fields #[.ref h.objs.size,.none,.none,.none,.bool false,.none] }=h2;have kp:∀ b o,h.get? b=some o→h2.get? b=some o:=fun b o q=>by rw[← h2e]; exact get?_push_of_some _ (get?_push_of_some _ q)
 have hget:h2.get? (h.objs.size+1)=some { cls:=.ref C,data:=.fields #[.ref h.objs.size,.none,.none,.none,.bool false,.none] }:=by rw[← h2e]; heap_get
 have G2:K.In h2:=G.keeps kp;have hC2:=kp _ _ hC;have y2:(Value.ref C::bm).contains (.ref C)=true:=by simp
 unfold isInstance
 repeat (first|with_reducible refine wpAny_loadPart_at hget ?_|(with_reducible refine wpAny_isSubtype_exc hC2 ?_; rw[y2])|wp_step)
 show wpAny _ _ (typeLookup (.ref C) _) _ _ _;refine(looks_findIn G2 hi).at ?_;refine wpAny_holding (wpAny_bind ((bind_fn G2 _ hf).at ?_));refine wpAny_bind (wpAny_mono (hq h2 (h.objs.size+1) kp (le_succ _) ⟨_,hget⟩) (fun r s' hr=>?_) fun _ _ x=>x);obtain⟨rfl,hQ⟩:=hr
 wp_walk
 exact hQ
theorem aBG {Q:Value→Shared→Prop}(G:K.In h)(z:zH K C=true)(hi:findIn K (.ref C) "__init__" = some (some (.ref fI)))(hf:typeIn K (.ref fI)=some (.type "function"))
  (hq:∀ h' e,(∀ b o,h.get? b=some o→h'.get? b=some o)→h.objs.size≤e→XNh e C h' →
   wpAny (model prog w) (A.under (.builtin "type.__call__" ⟨.ref C::rest,[]⟩)) (call (.ref fI) (.ref e::rest)) (fun r s'=>r=.none∧Q (.ref e) s') E ⟨h',g,d,t,os⟩) (hrest:rest.length≤sizeLine) :
  wpAny (model prog w) A (call (.ref C) rest) Q E ⟨h,g,d,t,os⟩:=by
 obtain⟨bm,N,nm,q,bs,sn,sub,ab,col,dd,k0,k1,k2,k3,k5,hC,T,_⟩:=rC G z;have y1:=tc_lookup;have y2:=tc_bind (.ref C);have y3:(⟨h,g,d,t,os⟩:Shared).TypeIs (.ref C) "type" := ⟨_,hC,rfl⟩;refine wpAny_call (codeAny_of_tree ?_);show wpAny _ _ (callAny (.ref C) _) _ _ _
 repeat (any_goals (first|assumption|with_reducible refine wpAny_loadPart_at hC ?_|wp_step))
 refine⟨rfl,?_⟩;exact codeAny_call_builtin_at (Code.quiet_builtin _ (by decide +kernel)) entry_typeCall (wpAny_check_type_call_sub hC (aAK G z hi hf hq hrest))
end
end L2
namespace L2
open PySem PySem.Spec PyProof.Rows Builtin Builtin.ObjectAttr
section
variable {prog:Program}{w:World}{A:Around}{E:Value→Shared→Prop}{s:Shared}{K:Fg}{C x:Addr}
theorem aB3 {rest:List Value}{Q:Value→Shared→Prop}(G:K.In s.heap)(z:zH K C=true)(hx:XNh x C s.heap)
  (h:∀ h',(∀ b o,b≠x→s.heap.get? b=some o→h'.get? b=some o)→XNh x C h'→Q .none { s with heap:=h' }) (hz:rest.length≤sizeLine) :
  wpAny (model prog w) A (call (.builtin "ValueError.__init__") (.ref x::rest)) Q E s:=by
 obtain⟨bm,N,nm,q,bs,sn,sub,ab,col,dd,k0,k1,k2,k3,k5,hC,T,_⟩:=rC G z;have FB:=PySem.F.excBase_ValueError;obtain⟨hh,g,d,t,os⟩:=s;obtain⟨t0,hx⟩:=hx;dsimp only at hC T hx h;refine wpAny_call (codeAny_call_builtin FB.init.plain FB.initEntry (wpAny_check_init_subT FB T hC hx rfl ?_));have hx2:=get?_push_of_some { cls:=.type "tuple", data:=.seq rest.toArray } hx
 wp_walk
 refine h _ (fun b o nb q=>?_) ⟨hh.objs.size,?_⟩
 ·rw[get?_update_other _ _ (Ne.symm nb)];exact get?_push_of_some _ q
 ·rw[get?_update_self _ hx2 rfl];rfl
theorem aFG {f:Str}{v:Value}{Q:Unit→Shared→Prop}(G:K.In s.heap)(z:zH K C=true)(hs:findIn K (.ref C) "__setattr__" = some (some (.builtin "object.__setattr__")))(hn:findIn K (.ref C) f=some none)(hx:XNh x C s.heap)
  (h:∀ h' t',(∀ b o,b≠x→s.heap.get? b=some o→h'.get? b=some o)→XFh x C (some s.heap.objs.size) h'→h'.Ns1 s.heap.objs.size (fun y=>if y=f then some v else none)→Q () { s with heap:=h',toks:=t' }) :
  wpAny (model prog w) A (setAttr (.ref x) f v) Q E s:=by
 obtain⟨bm,N,nm,q,bs,sn,sub,ab,col,dd,k0,k1,k2,k3,k5,hC,T,hl⟩:=rC G z;have SF:=PySem.F.store_ValueError;obtain⟨t0,hx⟩:=hx;obtain⟨hh,g,d,t,os⟩:=s;dsimp only at hC T hx h G;have J:PySem.W.InstAt hh x _ C none:=⟨hx,rfl,rfl,trivial⟩;refine set_plain G J hs ?_;have ho:(Value.ref C::bm).contains (.type "object")=true:=by rw[contains_cons,T.hasType (by decide:vmro.contains (.type "object")=true),Bool.or_true]
 have rl:∀ self:Value,refuseLoop self "__setattr__" bm=pure ():=fun self=>by
  clear hC ho hl
  induction T with
  | base=>exact SF.passes self
  | own _ _ _ _ ih=>rw[refuseLoop_ref]; exact ih
 have hm:PySem.W.Looks (model prog w) hh (mroOf (.ref C)) (.ref C::bm):=fun A Q E s k q=>wpAny_mroOf_exc (k _ _ hC) q;have hin:PySem.W.Looks (model prog w) hh (isInstance (.ref x) (.type "object")) true:=J.type.andThen fun A Q E s k q=>wpAny_isSubtype_exc (k _ _ hC) (by rw[ho]; exact q);refine codeAny_call_builtin SF.slot.plain SF.entry (@PySem.W.check_slot (model prog w) _ _ ⟨hh,g,d,t+1,os⟩ "object.__setattr__" "object" "__setattr__" (.ref x) [.str f t,v] [] _ SF.kind SF.split hin (SF.args (.ref x) (.str f t) v) ?_);rw[osa_eq,refuse_eq];refine wpAny_bind (wpAny_bind (J.type.at (wpAny_bind (hm.at ?_))));rw[refuseLoop_ref,rl];refine wpAny_pure (wpAny_bind (J.type.at (wpAny_bind ((looks_findIn G hn).at (wpAny_bind (wpAny_pure ?_))))));unfold storeInOwnDict;generalize hsd:storeInDict=sd
 repeat (first|with_reducible refine wpAny_loadPart_at hx ?_|with_reducible refine wpAny_loadPart_at hC ?_|wp_step)
 subst hsd;have hx1:(hh.push { cls:=.type "dict", data:=.dict #[] }).get? x=some { cls:=.ref C,data:=.fields #[.ref t0,.none,.none,.none,.bool false,.none] }:=get?_push_of_some _ hx;have nx:x≠hh.objs.size:=ne_of_lt (lt_size hx);generalize he:((hh.push { cls:=.type "dict", data:=.dict #[] }).update x fun o=>{ cls:=o.cls,dict:=some hh.objs.size,data:=o.data,slots:=o.slots })=h1;have x1:h1.get? x=some { cls:=.ref C,dict:=some hh.objs.size,data:=.fields #[.ref t0,.none,.none,.none,.bool false,.none] }:=by rw[← he]; exact get?_update_self _ hx1 rfl
 have d1:h1.get? hh.objs.size=some { cls:=.type "dict", data:=.dict #[] }:=by rw[← he]; exact(Heap.get?_update_ne _ _ _ _ nx.symm).trans (Heap.get?_push_at rfl rfl)
 have k1:∀ b o,b≠x→hh.get? b=some o→h1.get? b=some o:=fun b o nb q=>by rw[← he]; exact(Heap.get?_update_ne _ _ _ _ nb).trans (get?_push_of_some _ q)
 have n1:h1.Ns hh.objs.size (fun _=>none):=⟨_,#[],_,d1,rfl,fun e z=>absurd z (by simp),fun _=>rfl⟩;unfold storeInDict newKeyGuard;refine wpAny_bind (wpAny_pure (wpAny_bind (wpAny_nsSet1 (Heap.Ns1.of_empty n1) fun h' n2 sb=>?_)));obtain⟨oD,esD,epD,hoD,hdD,hcD⟩:=n2.count (Within.cons f v Within.nil);refine wpAny_bind (wpAny_lookBehind hoD (by rw[hdD]; exact pastItsLine_dict (le_trans hcD (by rw[length_cons,length_nil,sizeLine_eq]; omega))) ?_);exact wpAny_pure (h h' _ (fun b o nb q=>(sb.2 b (ne_of_lt (lt_size q))).trans (k1 b o nb q)) ⟨t0,(sb.2 x nx).trans x1⟩ n2)
end
theorem a94 {H:Hp}{a:Addr}{o:HO}(h:H a=some o):upd H a o=H:=by
 funext b
 unfold upd
 split
 ·rename_i z; rw[z]; exact h.symm
 ·rfl
section
variable {X:Cx}{pins:List (Addr×Obj)}{σ:St}{H:Hp}{s:Shared}
theorem Inv.xset {x C d:Addr}{f:Str}{y:V}{v:Value}{h':Heap}{t':Nat}(I:Inv X pins σ H s)(hx:H x=some (XN x C))(hd:s.heap.objs.size≤d)(ne:d≠x)(k:∀ b o,b≠x→s.heap.get? b=some o→h'.get? b=some o)
  (xf:XFh x C (some d) h') (n:h'.Ns1 d (fun z=>if z=f then some v else none)) (r:RelV y v):Inv X pins σ (upd (upd H d (.xd [(f,y)])) x (XF x C (some d))) { s with heap:=h',toks:=t' }:=by
 have fd:H d=none:=I.hok.fresh hd;have nd:∀{b:Addr} {o:Obj},s.heap.get? b=some o→b≠d:=fun{b o} q z=>absurd (lt_size q) (by rw[z]; exact not_lt.mpr hd);have up:∀{b:Addr},b≠x→b≠d→(upd (upd H d (.xd [(f,y)])) x (XF x C (some d))) b=H b:=fun{b} a c=>by rw[aR a,aR c]
 have nx:∀{b:Addr} {o:HO},H b=some o→o≠XN x C→b≠x:=fun{b o} q z e=>by rw[e,hx] at q; cases q; exact z rfl
 have ndd:∀{b:Addr} {o:HO},H b=some o→b≠d:=fun{b o} q e=>by rw[e,fd] at q; cases q
 refine I.un ⟨fun b o q n _ _=>k b o (fun z=>by rw[z,hx] at n; cases n) q,fun b o q n _ _=>⟨o.slots,k b o (fun z=>by rw[z,hx] at n; cases n) q⟩,fun b o q n _=>?_,fun b o q _=>?_,fun b xs q=>?_,fun b o u q=>?_,fun b ps q=>?_⟩ fun b o q=>?_
 ·rw[up (fun z=>by rw[z,hx] at n; cases n) (nd q)]; exact n
 ·by_cases z:b=x
  ·obtain⟨_,q⟩:=xf;exact⟨_,z▸q⟩
  ·exact⟨o,k b o z q⟩
 ·rw[up (nx q fun z=>nomatch z) (ndd q)]; exact q
 ·rw[up (nx q fun z=>nomatch z) (ndd q)]; exact q
 ·exact⟨#[],by rw[up (nx q fun z=>nomatch z) (ndd q),q,Array.append_empty]⟩
 ·by_cases z:b=x
  ·subst z;rw[aW] at q
   cases q
   exact aH4 xf
  ·rw[aR z] at q
   by_cases z2:b=d
   ·subst z2;rw[aW] at q
    cases q
    refine⟨_,n,fun g=>?_⟩;show RelO (List.lookup g [(f,y)]) _
    by_cases e:g=f
    ·subst e;simp only[List.lookup,beq_self_eq_true,if_true];exact r
    ·have e2:(g==f)=false:=beq_eq_false_iff_ne.mpr e;simp only[List.lookup,e2,if_neg e];exact trivial
   ·rw[aR z2] at q;refine(I.hok b o q).stay (fun c u hc q1=>k c u (fun e=>?_) q1) (fun c q1=>?_) fun c xs q1=>?_
    ·rcases hc with hc|hc
     ·exact z (hc.symm.trans e)
     ·rw[e,hx] at hc; cases hc
    ·rw[up (nx q1 fun z=>nomatch z) (ndd q1)]; exact q1
    ·rw[up (nx q1 fun z=>nomatch z) (ndd q1)]; exact q1
end
section
variable {X:Cx}{C D0:Addr}{lx f:Str}{lp ap cp p p1 pos pos':Pos}{e1 e2 o value:Expr}{t:TA}{ta tv:TE}
def aCD (C:Addr)(t:TA):TS:=fun D σ H=>t σ H fun vs H1=>∃ x v,vs=[.ref x,v]∧H1 x=some (XN x C)∧D.nx σ H1
theorem a8B {pl:Sem Bool}(hg:Gl X lx)(hm:X.mg lx=some (.ref D0))(hsp:specialIn X.K (.ref D0) "__getattribute__" = some (some (.builtin "type.__getattribute__")))(hr:readsIn X.K D0 (.type "type")=true)
  (hc:findCls X.K (.ref D0) (.type "type") "__init__" = some (.val (.builtin "ValueError.__init__"))) (z:zH X.K C=true) (ha:PA X [e1,e2] t)
  (hd:(lx==("__debug__" : Str))=false:=by decide) (hs:swapsWith (.Call (.Attribute (.Name lx lp) "__init__" ap) [e1,e2] [] cp) none p.line X.env=pure false:=by rfl) (hst:starEach [e1,e2] X.env=[(false,eval e1 X.env),(false,eval e2 X.env)]:=by rfl)
  (ht:eval (.Call (.Attribute (.Name lx lp) "__init__" ap) [e1,e2] [] cp) X.env=(do
   let ov←eval (.Name lx lp) X.env
   standAt ap.atName
   let (f,first)←holding [ov] (getMethod ov "__init__" pl)
   callWith cp f first (backTo cp (starEach [e1,e2] X.env)) (backToKw cp (keywordEach [] X.env))):=by rfl) :
  PS X (.Expr (.Call (.Attribute (.Name lx lp) "__init__" ap) [e1,e2] [] cp) p) (aCD C t):=by
 intro pins s σ H D I h;refine wpAny_Expr_any ?_ I.quiet hs;refine methodCall_KW (pl:=pl) (nC I hg hm ?_ hd) ht;refine PySem.W.method_cls I.kIn hsp (PySem.W.cls_value I.kIn hr hc rfl ?_);have hh:=ha cp pins { s with toks:=s.toks+1 } σ H _ (I.tok _) h;show wpAny _ _ (callWith cp (.builtin "ValueError.__init__") [] (backTo cp (starEach [e1,e2] X.env)) []) _ _ _;rw[hst] at hh ⊢;refine Calls.callWith_builtin rfl (Calls.evalArgs_plain (wpAny_mono hh (fun us s1 y=>?_) fun _ _ y=>y));obtain⟨vs,H1,I1,r,x,v,rfl,hx,q⟩:=y;obtain⟨u1,u2,rfl,r1,_⟩:=vals2 r
 cases r1
 refine aB3 I1.kIn z (show ObjOk X.prog X.w _ s1.heap x (XN x C) from I1.hok x _ hx).1 (fun h' k xn=>⟨σ,H1,?_,q⟩) (by rw[sizeLine_eq]; simp);have I2:=I1.write (x:=x) (e:=x) (o:=XN x C) (h':=h') (t':=s1.toks) (by rw[hx]; exact True.intro) (.inl rfl) (fun b u nb q=>k b u nb q) (let ⟨_,q⟩:=xn; ⟨_,q⟩) (aF3 xn);rw[a94 hx] at I2;exact I2
def aH3 (C:Addr)(f:Str)(ta tv:TE):TS:=fun D σ H=>tv σ H fun y H1=>ta σ H1 fun ox H2=>∃ x,ox=.ref x∧H2 x=some (XN x C)∧∀ d,H2 d=none→d≠x→D.nx σ (upd (upd H2 d (.xd [(f,y)])) x (XF x C (some d)))
theorem aAB (z:zH X.K C=true)(hsa:findIn X.K (.ref C) "__setattr__" = some (some (.builtin "object.__setattr__")))(hn:findIn X.K (.ref C) f=some none)(ha:PE X o ta)(hv:PE X value tv)
  (hs:swapsWith value (some (.Attribute o f pos')) pos.line X.env=pure false:=by rfl):PS X (.Assign [.Attribute o f pos'] value pos) (aH3 C f ta tv):=by
 intro pins s σ H D I h;refine plainObj_wpAny_Assign_Attribute (thn (hv pins s σ H _ I h) fun u s1 ⟨y,H1,I1,ry,q⟩=>thn (ha pins s1 σ H1 _ I1 q) fun ov s2 ⟨ox,H2,I2,rx,x,ex,hx,q2⟩=>?_) hs;subst ex
 cases rx
 refine aFG I2.kIn z hsa hn (show ObjOk X.prog X.w _ s2.heap x (XN x C) from I2.hok x _ hx).1 fun h' t' k xf n=>?_;have ne:s2.heap.objs.size≠x:=ne_of_gt (I2.hok.lt hx);exact⟨σ,_,I2.xset hx (le_refl _) ne k xf n ry,q2 _ (I2.hok.fresh (le_refl _)) ne⟩
def aK6 (m:PySem.Str)(ta:TE):TE:=fun σ H Q=>ta σ H fun x H1=>∃ i:Int,x=.int i∧i.natAbs.log2<1920∧(m++txI i).length≤sizeLine∧Q (.str (m++txI i)) H1
theorem a8T {m:PySem.Str}{k:Nat}(ha:PE X e1 ta)(hz:m.length≤1000:=by decide):PE X (.JoinedStr [.Constant (.str m) k p,.FormattedValue e1 (-1) none p1] pos) (aK6 m ta):=by
 intro pins s σ H Q I h;have key:∀ t:Nat,wpAny (model X.prog X.w) X.A (eval (.FormattedValue e1 (-1) none p1) X.env) (fun v s1=>∃ i:Int,(∃ t2,v=Value.str (txI i) t2)∧(m++txI i).length≤sizeLine∧∃ H1,Inv X pins σ H1 s1∧Q (.str (m++txI i)) H1) X.xe { s with toks:=t }:=fun t=>by
  refine wpAny_FormattedValue_plain (thn (ha pins _ σ H _ (I.tok t) h) fun v s1 ⟨x,H1,I1,r1,i,e,hi,hm,q1⟩=>?_);subst e;obtain⟨t,rfl⟩:=r1;exact wpAny_formatField_int hi ⟨i,⟨_,rfl⟩,hm,H1,I1.tok _,q1⟩
 refine wpAny_JoinedStr ?_;show wpAny _ _ (eval (.Constant (.str m) k p) X.env) _ _ _;refine Calls.Constant_str ⟨m,_,rfl,?_,?_⟩
 ·rw[empty_app,sizeLine_eq];exact le_trans hz (by decide)
 show wpAny _ _ (eval (.FormattedValue e1 (-1) none p1) X.env) _ _ _;refine wpAny_mono (key _) (fun v s1 z=>?_) fun _ _ z=>z;obtain⟨i,⟨t2,rfl⟩,hm,H1,I1,q⟩:=z;refine⟨txI i,_,rfl,?_,?_⟩
 ·rw[empty_app]; exact hm
 ·rw[empty_app];exact⟨hm,.str _,H1,I1.tok _,⟨_,rfl⟩,q⟩
theorem a9Z {M:Model}{A:Around}{E:Value→Shared→Prop}{s:Shared}{env:Env}{K:Fg}{x:Sem Value}{Q:Flow→Shared→Prop}(z:zH K C=true)(hh:A.handled=none)
  (h:wpAny M A x (fun v s1=>∃ e D,v=.ref e∧K.In s1.heap∧XFh e C D s1.heap∧E (.ref e) s1) E s):wpAny M A (raiseStmt env (some x) none) Q E s:=by
 unfold raiseStmt;refine wpAny_bind (wpAny_mono h (fun v s1 h1=>?_) fun _ _ x=>x);obtain⟨e,D,rfl,G,⟨t0,he⟩,hE⟩:=h1;obtain⟨bm,N,nm,q,bs,sn,sub,ab,col,dd,k0,k1,k2,k3,k5,hC,T,_⟩:=rC G z;have y:(Value.ref C::bm).contains (.type "BaseException")=true:=by rw[contains_cons,T.hasType (by decide:vmro.contains (.type "BaseException")=true),Bool.or_true]
 obtain⟨hp,g,d,tk,os⟩:=s1;dsimp only at hC he
 repeat (first|with_reducible refine wpAny_loadPart_at he ?_|with_reducible refine wpAny_loadPart_at hC ?_|(with_reducible refine wpAny_isSubtype_exc hC ?_; rw[y])|wp_step)
 exact wpAny_raiseNew_none hh hE
def aIL (C:Addr)(f:Str):Sp:=fun vs H Q _=>∃(x:Addr) (i:Int),vs=[.ref x,.int i]∧H x=some (XN x C)∧i.natAbs<1000∧∀ d,H d=none→d≠x→Q .non (upd (upd H d (.xd [(f,.int i)])) x (XF x C (some d)))
def zX (C:Addr)(f:Str)(E:XK)(t:TA):TS:=fun _ σ H=>t σ H fun vs H1=>∃ i:Int,vs=[.int i]∧i.natAbs<1000∧∀ d,H1 d=none→E (.ref C) (some d) (upd H1 d (.xd [(f,.int i)]))
theorem a6V {E:XK}{fI:Addr}{fd:FuncData}{ps:List Str}{k:Nat}{x:Str}{e0:Expr}{np cpos:Pos}
  (hxe:∀(pins:List (Addr×Obj)) (σ:St) (H:Hp) (s:Shared) (e:Addr) (D:Option Addr),Inv X pins σ (upd H e (XF e C D)) s→H e=none→X.s₀.heap.get? e=none→E (.ref C) D H→X.xe (.ref e) s)
  (hex:X.ex=[]) (hcalm:X.calm=true) (hg:Gl X x) (hm:X.mg x=some (.ref C)) (z:zH X.K C=true) (hi:findIn X.K (.ref C) "__init__" = some (some (.ref fI))) (hf:typeIn X.K (.ref fI)=some (.type "function"))
  (F:FnOk X.prog X.w X.K X.mg X.base CX0 k fI fd ps (aIL C f)) (hr:Room (k+1) X.A) (hb:Binds X.K fd ps []) (ha:PA X [e0] t)
  (he:starEach [e0] X.env=[(false,eval e0 X.env)]:=by rfl) (hd:(x==("__debug__" : Str))=false:=by decide) :
  PS X (.Raise (some (.Call (.Name x np) [e0] [] cpos)) none pos) (zX C f E t):=by
 intro pins s σ H D I h;rw[arm_exec_Raise];refine wpAny_bind (wpAny_standAt (a9Z z (I.ok.hd hcalm) (wpAny_bind (wpAny_mono (wpAny_Call_ofName (nC I hg hm ?_ hd)) (fun v s3 h3=>wpAny_bind (wpAny_standAt (wpAny_pure h3))) fun _ _ x=>x))));have hh:=ha cpos pins s σ H _ I h;unfold callWith;rw[he] at hh ⊢;refine wpAny_bind (wpAny_holding (Calls.evalArgs_plain (wpAny_mono hh (fun us s2 y=>wpAny_bind (wpAny_standAt ?_)) fun _ _ x=>x)));obtain⟨vs,H1,I1,r,i,rfl,hz,q⟩:=y;obtain⟨u,rfl,ru⟩:=vals1 r;obtain⟨bm,N,nm,qn,bs,sn,sub,ab,col,dd,k0,k1,k2,k3,k5,hC,T,_⟩:=rC I1.kIn z;obtain⟨hp,g,d,tk,os⟩:=s2;dsimp only at hC;refine wpAny_bind (wpAny_keeperOf_exc hC ?_);refine wpAny_bind (aBG I1.kIn z hi hf (fun h' e kp hle xn=>?_) (by rw[sizeLine_eq]; simp));have fe:H1 e=none:=I1.hok.fresh hle;have I2:Inv X pins σ (upd H1 e (XN e C)) ⟨h',g,d,tk,os⟩:=I1.laid (t':=tk) (fun b u q=>kp b u q) hle (aF3 xn);have hbn:=hb ⟨h',g,d,tk,os⟩ [.ref e,u] I2.kIn (by rw[append_nil]; exact(F.len [.ref e,.int i] (upd H1 e (XN e C)) (fun _ _=>True) (fun _ _ _=>True) ⟨e,i,rfl,aW,hz,fun _ _ _=>trivial⟩));rw[append_nil] at hbn;refine wpAny_call (codeAny_mono (F.run (X.A.under (.builtin "type.__call__" ⟨[.ref C,u],[]⟩)) X.stack ⟨h',g,d,tk,os⟩ (upd H1 e (XN e C)) ⟨[.ref e,u],[]⟩ [.ref e,u] [.ref e,.int i] (fun v H2=>v=.non∧∃ dd,H1 dd=none∧dd≠e∧H2=upd (upd H1 dd (.xd [(f,.int i)])) e (XF e C (some dd))) (fun _ _ _=>False) ?_ (I2.env0.make C [u] []) hbn (.cons rfl (.cons ru .nil)) ⟨e,i,rfl,aW,hz,fun dd h1 h2=>⟨rfl,dd,?_,h2,?_⟩⟩) fun r s' hq=>?_)
 ·exact hr.make C [u] []
 ·rw[aR h2] at h1; exact h1
 ·funext b
  unfold upd
  split
  ·rfl
  ·split<;>rfl
 ·cases r with
  | error ev=>exact False.elim hq
  | ok fl=>
   cases fl with
   | ret v=>
    obtain⟨v',H2,I3,rv,rfl,dd,fd,ne,rfl⟩:=I2.after hq;obtain rfl:v=Value.none:=rv;refine⟨rfl,wpAny_bind (wpAny_holding (wpAny_point (wpAny_pure ?_)))⟩;refine⟨e,some dd,rfl,I3.kIn,(show ObjOk X.prog X.w _ s'.heap e (XF e C (some dd)) from I3.hok e _ aW).1,hxe pins σ _ s' e (some dd) I3 (by rw[aR (Ne.symm ne)]; exact fe) ?_ (q dd fd)⟩
    cases e0:X.s₀.heap.get? e with
    | none=>rfl
    | some o=>
     obtain⟨o',q'⟩:=I1.base.there e o e0 (by rw[hex]; exact fun z=>nomatch z);exact absurd (lt_size q') (not_lt.mpr hle)
   | next=>exact False.elim hq
   | brk=>exact False.elim hq
   | cont=>exact False.elim hq
end
end L2
namespace L2
open PySem PySem.Spec PyProof.Rows Builtin Builtin.ObjectAttr
structure XCl (K:Fg)(C:Addr):Prop where
 ex:zH K C=true
 l1:findIn K (.ref C) "__class__" = some (some (.builtin "object.__class__"))
 l2:findIn K (.ref C) "__getattribute__" = some (some (.builtin "BaseException.__getattribute__"))
 l3:findIn K (.ref C) "__getattr__" = some none
theorem XCl.kit {K:Fg}{a C:Addr}{D:Option Addr}(z:XCl K C):PySem.W.KitX K (.ref a) (.ref C) (XDh a C D) where
 ty:=fun M h _ ⟨o,_,q,c,_⟩=>c▸(PySem.W.Looks.ld q).andThen .now
 it:=fun M h G _=>by
  obtain⟨bm,N,nm,q,bs,sn,sub,ab,col,dd,k0,k1,k2,k3,k5,hC,T,_⟩:=rC G z.ex;intro A Q E s k r;unfold isType loadHead;exact wpAny_bind (wpAny_loadPart (k _ _ hC) (wpAny_pure r))
 ne:=fun h tp dd its n sl G htp=>by
  obtain⟨bm,N,nm,q,bs,sn,sub,ab,col,dd,k0,k1,k2,k3,k5,hC,T,_⟩:=rC G z.ex;refine Bool.eq_false_iff.mpr fun q=>?_;have e:C=tp:=Value.ref.inj (beq_iff_eq.mp q);subst e;rw[hC] at htp;have z2:=congrArg Obj.data (Option.some.inj htp)
  cases z2
 ca:=fun{prog w A E Q s} G p k=>by
  obtain⟨bm,N,nm,q,bs,sn,sub,ab,col,dd,k0,k1,k2,k3,k5,hC,T,_⟩:=rC G z.ex;obtain⟨hh,g,d,t,os⟩:=s;obtain⟨o,_,q,c,_⟩:=p;exact aAY PySem.F.attrBase_ValueError.ga hC (T.hasType (by decide)) (T.hasType (by decide)) (Lk.of G z.l1) (Lk.of G z.l2) (Lk.of G z.l3) q c k
def aF2 (K:Fg):List V→Hp→VK→Prop:=fun xs H Q=>∃(ea C:Addr) (D:Option Addr) (c:V) (b:Bool),xs=[.ref ea,c]∧H ea=some (XD ea C D)∧XCl K C ∧
 ((∃ u,(∀ v,RelV c v→v=u)∧kitOne K (.ref C) u=some b)∨∃(tp:Addr) (cs:List V) (us:List Value),c=.ref tp∧H tp=some (.tup cs)∧(∀ vs,Vals cs vs→vs=us)∧kitAny K (.ref C) us=some b)∧Q (.bl b) H
theorem vH {X:Cx}:t6 X (.builtin "isinstance") (aF2 X.K):=by
 intro pins s σ H xs us Q I r h;obtain⟨ea,C,D,c,b,rfl,hE,z,hc,q⟩:=h
 cases r with
 | cons r1 r=>
  cases r with
  | cons r2 r=>
   cases r
   have e1:=(show _=Value.ref ea from r1);subst e1;obtain⟨hx,_,_⟩:=(show ObjOk X.prog X.w H s.heap ea (XD ea C D) from I.hok ea _ hE);rcases hc with⟨u,hu,hk⟩|⟨tp,cs,us,rfl,ht,hu,hk⟩
   ·rw[hu _ r2];exact kia_one z.kit I.kIn hx hk (fun z=>nomatch z) fun tk=>⟨.bl b,H,I.tok _,rfl,q⟩
   ·have e2:=(show _=Value.ref tp from r2);subst e2;obtain⟨_,its,rv,o,h1,h2,n,h3⟩:=(show ObjOk X.prog X.w H s.heap tp (.tup cs) from I.hok tp _ ht);rw[hu _ rv] at h3;obtain⟨oc,od,dt,sl⟩:=o;dsimp only at h2 h3;subst h2 h3;exact PySem.W.kia_tup z.kit I.kIn hx h1 hk (fun z=>nomatch z) fun tk=>⟨.bl b,H,I.tok _,rfl,q⟩
section
variable {prog:Program}{w:World}{A:Around}{E:Value→Shared→Prop}{s:Shared}{K:Fg}{C a:Addr}
theorem aAS {f:Str}{v:Value}{o od:Obj}{b:Bool}{Q:Value→Shared→Prop}(G:K.In s.heap)(z:XCl K C)(J:PySem.W.InstAt s.heap a o C (some od))(hf:PySem.W.findObj K C (some od) f=some (.value v))(hv:handedIn v=true)
  (h:Q v { s with toks:=s.toks+1 }):wpAny (model prog w) A (getAttr (.ref a) f b) Q E s:=by
 obtain⟨bm,N,nm,q,bs,sn,sub,ab,col,dd,k0,k1,k2,k3,k5,hC,T,_⟩:=rC G z.ex;obtain⟨hh,g,d,t,os⟩:=s;dsimp only at hC G J h;have hx:=J.at_
 have hc:=J.cls;have y1:=PySem.F.attrBase_ValueError.ga.bind (.ref a);have y0:(b&&onTheHeap (Value.builtin "BaseException.__getattribute__"))=false:=by cases b<;>rfl
 have y2:(Value.builtin "BaseException.__getattribute__" == Value.builtin "object.__getattribute__")=false:=by decide +kernel
 have y3:(onTheHeap (Value.ref C)&&Value.builtin "BaseException.__getattribute__" == Value.builtin "object.__getattribute__")=false:=by rw[y2]; rfl
 have l2:=Lk.of (prog:=prog) (w:=w) G z.l2;have l3:=Lk.of (prog:=prog) (w:=w) G z.l3;have ht:∀ t,(⟨hh,g,d,t,os⟩:Shared).heap=hh:=fun _=>rfl;unfold getAttr getAttrBy
 repeat (any_goals (first|assumption|(with_reducible refine wpAny_loadPart_at hx ?_; rw[hc])|with_reducible refine l2.at ?_|with_reducible refine l3.at ?_|wp_step))
 refine codeAny_call_builtin PySem.F.attrBase_ValueError.ga.plain F.entry_bexc_ga (a0Y hC (T.hasType (by decide)) hx hc ?_);refine wpAny_bind (wpAny_pure (wpAny_bind (wpAny_pure (wpAny_bind (J.type.at (wpAny_bind ((PySem.W.looks_find G J hf).at ?_)))))));refine wpAny_pure ?_;have hv2:=PySem.W.handedOut_of hv
 repeat (any_goals (first|assumption|rw[hv2]|wp_step))
end
end L2
namespace L2
open PySem PySem.Spec PyProof.Rows
theorem Fun.ok2 {P:Program}{w:World}{K:Fg}{mg:Mg}{base:Heap}{x qual:Str}{st:Stmt}{f:Addr}{fd:FuncData}{N ps:List Str}{k:Nat}{sp:Sp}(F:Fun K x qual st f fd)(S:FnScope N ps (aQ st))(len:∀ vs H Q E,sp vs H Q E→vs.length=ps.length)
  (hb:∀(cdv:Value) (A:Around) (outer:List Env) (s:Shared) (H:Hp) (vs:List V) (Q:VK) (E:XK),Room k (A.deeper (envOfC qual (aQ st) s.heap.objs.size f cdv))→sp vs H Q E →
   ∃ t,PSs (a7E (CX2 P w) P w K mg base N qual (aQ st) f cdv A outer s H E) (fL st) t∧t { nx:=fun _ H'=>Q .non H',rt:=Q } (start N vs) H):FnOk P w K mg base (CX2 P w) (k+1) f fd ps sp:=by
 obtain⟨oc,od,kV,doc,pm,an,cdv,ct,osl,rfl,lk,hcd⟩:=F.ex;exact aCN lk hcd S len fun A outer s H vs Q E hr hsp=>hb cdv A outer s H vs Q E hr hsp
end L2
namespace L2.VS
open PySem PySem.Spec PyProof.Rows
section
variable {P0:Addr→Hp→Prop}{A:Nat→Bool}
abbrev XO:=Option (Str×D)
def xoD:XO→D
 | none=>.none
 | some (n,d)=>.tuple [.str n,d]
def a2V (C:Addr)(o:XO):Bx where
 P:=fun _ _ _ _=>False
 mono:=fun _ h=>h
 loc:=fun _ h=>h
 dom:=fun h=>False.elim h
 uniq:=fun h=>False.elim h
 nt:=fun h=>False.elim h
 view:=some (.tuple [.int (C:Nat),xoD o])
 vok:=fun h=>False.elim h
theorem a8E {C C':Addr}{o o':XO}(h:Rv.box (a2V C o)=.box (a2V C' o')):C=C'∧o=o':=by
 have h1:=congrArg Bx.view (Rv.box.inj h);simp only[a2V,Option.some.injEq,PyData.tuple.injEq,List.cons.injEq,PyData.int.injEq,and_true] at h1;refine⟨Int.ofNat.inj h1.1,?_⟩;have h2:=h1.2
 cases o with
 | none=>cases o' with
  | none=>rfl
  | some p=>cases h2
 | some p=>cases o' with
  | none=>cases h2
  | some q=>
   obtain⟨n,d⟩:=p;obtain⟨n2,d2⟩:=q;simp only[xoD,PyData.tuple.injEq,List.cons.injEq,PyData.str.injEq,and_true] at h2;rw[h2.1,h2.2]
def XPost (F:Fra P0)(G:Hp)(X0:XK)(C:Addr):XO→Prop
 | none=>∀ G' H',Same G G'→Rf F G' H'→X0 (.ref C) none H'
 | some (n,d)=>∀ D x G' H',Same G G'→Rf F G' H'→G' D=some (.xd [(n,x)])→Dt G' x d→X0 (.ref C) (some D) H'
theorem XPost.same {F:Fra P0}{G G':Hp}{X0:XK}{C:Addr}(g:Same G G'):∀{o:XO},XPost F G X0 C o→XPost F G' X0 C o
 | none,h=>fun G2 H2 s=>h G2 H2 (g.trans s)
 | some _,h=>fun D x G2 H2 s=>h D x G2 H2 (g.trans s)
def VSX (X0:XK)(P0:Addr→Hp→Prop)(A:Nat→Bool)(t:TS)(m:MS):Prop:=∀(F:Fra P0) (Γ:En) (σ:St) (G H:Hp) (E:Ends) (Qm:Fl→Prop),R F Γ σ G H→m Γ Qm→(∀ fl,Qm fl→Post F A σ G E fl) →
 (∀ C o,Qm (.rt (.box (a2V C o)))→XPost F G X0 C o)→t E σ H
variable {X0:XK}
theorem a5G {t:TS}{m:MS}(h:VSA P0 A t m):VSX X0 P0 A t m:=fun F Γ σ G H E Qm r hm k _=>h F Γ σ G H E Qm r hm k
theorem a0A {t u:TS}{a b:MS}(ha:VSX X0 P0 A t a)(hb:VSX X0 P0 A u b):VSX X0 P0 A (aG2 t u) (cW a b):=by
 intro F Γ σ G H E Qm r m k kx;refine ha F Γ σ G H _ _ r m (fun fl q=>?_) fun C o q=>kx C o q
 cases fl with
 | nx Γ1=>exact fun σ1 G1 H1 s1 r1 e1=>hb F Γ1 σ1 G1 H1 E Qm r1 q (fun fl q=>(k fl q).same s1 e1) fun C o q=>(kx C o q).same s1
 | rt rv=>exact k _ q
 | bk Γ1=>exact k _ q
 | ct Γ1=>exact k _ q
theorem aDP {c:TT}{t u:TS}{mc:MT}{a b:MS}(hc:VTT P0 c mc)(ha:VSX X0 P0 A t a)(hb:VSX X0 P0 A u b):VSX X0 P0 A (aG4 c t u) (mIf mc a b):=by
 intro F Γ σ G H E Qm r m k kx;refine hc F Γ σ G H _ _ r m fun k1 Γ1 G1 H1 m1 s1 r1=>?_
 cases k1 with
 | true=>exact a1C (ha F Γ1 σ G1 H1 E Qm r1 m1 (fun fl q=>(k fl q).same s1 fun _ _=>rfl) fun C o q=>(kx C o q).same s1)
 | false=>exact zL (hb F Γ1 σ G1 H1 E Qm r1 m1 (fun fl q=>(k fl q).same s1 fun _ _=>rfl) fun C o q=>(kx C o q).same s1)
theorem aES {wi:TI}{g:TG}{t:TS}{mi:MD}{mg:MG}{b:MS}(hi:VI P0 wi mi)(hg:VG P0 A g mg)(hb:VSX X0 P0 A t b):VSX X0 P0 A (aGZ wi g t) (aCC mi mg b):=by
 intro F Γ σ G H E Qm r m k kx;refine hi F Γ σ G H _ _ r m fun ds Γ1 J G1 H1 m1 s1 r1 wk=>?_;refine⟨fun i n σ2 H2=>n=ds.length-i∧i≤ds.length∧∃ Γ2 G2,Same G1 G2∧R F Γ2 σ2 G2 H2∧forL mg b (ds.drop i) Γ2 Qm∧∀ i,A i=false→σ2[i]?=σ[i]?,⟨ds.length,by simp,zero_le _,Γ1,G1,Same.refl _,r1,m1,fun _ _=>rfl⟩,?_⟩;rintro i n σ2 H2 ⟨rfl,hle,Γ2,G2,s2,r2,m2,e2⟩;obtain⟨go,stop⟩:=wk F Γ2 σ2 G2 H2 s2 r2
 by_cases hlt:i<ds.length
 ·refine .inr ⟨(go i ds[i] (by simp[hlt])).1,fun σ' H'=>ds.length-(i+1)<ds.length-i∧i+1≤ds.length∧∃ Γ3 G3,Same G1 G3∧R F Γ3 σ' G3 H'∧forL mg b (ds.drop (i+1)) Γ3 Qm∧∀ i,A i=false→σ'[i]?=σ[i]?,fun σ' H' h=>⟨_,h.1,rfl,h.2⟩,fun x H' hy=>?_⟩;obtain⟨G3,s3,r3,d3⟩:=(go i ds[i] (by simp[hlt])).2 x H' hy;rw[List.drop_eq_getElem_cons hlt] at m2;refine hg F Γ2 σ2 G3 H' x _ _ _ r3 d3 m2 fun Γ4 σ4 m4 r4 e4=>?_;refine hb F Γ4 σ4 G3 H' _ _ r4 m4 (fun fl q=>?_) fun C o q=>(kx C o q).same (s1.trans (s2.trans s3))
  cases fl with
  | nx Γ5=>exact fun σ5 G5 H5 s5 r5 e5=>⟨by omega,hlt,Γ5,G5,(s2.trans s3).trans s5,r5,q,fun i hi=>((e5 i hi).trans (e4 i hi)).trans (e2 i hi)⟩
  | ct Γ5=>exact fun σ5 G5 H5 s5 r5 e5=>⟨by omega,hlt,Γ5,G5,(s2.trans s3).trans s5,r5,q,fun i hi=>((e5 i hi).trans (e4 i hi)).trans (e2 i hi)⟩
  | bk Γ5=>exact fun σ5 G5 H5 s5 r5 e5=>k _ q _ _ _ ((s1.trans s2).trans (s3.trans s5)) r5 fun i hi=>((e5 i hi).trans (e4 i hi)).trans (e2 i hi)
  | rt rv=>exact fun v G5 H5 s5 r5=>k _ q _ _ _ ((s1.trans s2).trans (s3.trans s5)) r5
 ·have e:i=ds.length:=by omega
  subst e;rw[drop_length] at m2;exact .inl ⟨stop,k _ m2 _ _ _ (s1.trans s2) r2 e2⟩
theorem RvO.noX {F:Fra P0}{G H:Hp}{r:V}{rv:Rv}(h:RvO F G H r rv):∀ C o,rv≠.box (a2V C o):=fun C o e=>by
 subst e;obtain⟨_,h,_⟩:=h;exact h
def a0S (C:Addr)(n:Str)(m:MD):MS:=fun Γ Q=>m Γ fun ds _=>∃ i:Int,ds=[.int i]∧i.natAbs<1000∧Q (.rt (.box (a2V C (some (n,.int i)))))
theorem a0P {C:Addr}{n:Str}{t:TA}{m:MD}(h:VD P0 t m):VSX X0 P0 A (zX C n X0 t) (a0S C n m):=by
 intro F Γ σ G H E Qm r hm k kx;refine h F Γ σ G H _ _ r hm fun ds Γ1 rs G1 H1 m1 s1 r1 d1=>?_;obtain⟨i,rfl,hz,q⟩:=m1
 cases d1 with
 | cons a b=>
  cases a
  cases b
  exact⟨i,rfl,hz,fun d hd=>kx _ _ q d (.int i) _ _ (s1.trans (fP (r1.fr.gfresh hd) _)) (r1.new hd).fr aW (.int _)⟩
def spX (P0:Addr→Hp→Prop)(n:Nat)(f:Fm):Sp:=fun vs H Q E=>∃(F:Fra P0) (as:List Sl) (Qm:Rv→Prop),F.H0=H∧Rf F F.G0 H∧Paired (mZ F F.G0) vs as∧as.length=n∧f as Qm ∧
 (∀ rv r G' H',Qm rv→Rf F G' H'→RvO F G' H' r rv→Q r H')∧∀ C o,Qm (.box (a2V C o))→XPost F F.G0 E C o
theorem aB8 {F:Fra P0}{n k:Nat}{N:List Str}{vs:List V}{as:List Sl}(hN:N.length=n+k)(rf:Rf F F.G0 F.H0)(pr:Paired (mZ F F.G0) vs as)(hl:as.length=n):R F (as++List.replicate k .no) (start N vs) F.G0 F.H0:=by
 have hlen:vs.length=as.length:=Paired.length pr;have get:∀{vs:List V} {as:List Sl} {i:Nat} {s:Sl},Paired (mZ F F.G0) vs as→as[i]?=some s→∃ v,vs[i]?=some v∧mZ F F.G0 v s:=by
  intro vs as i s pr
  induction pr generalizing i with
  | nil=>intro e; simp at e
  | cons a b ih=>
   cases i with
   | zero=>intro e; simp at e; subst e; exact⟨_,rfl,a⟩
   | succ i=>intro e; simpa using ih (i:=i) (by simpa using e)
 have at_:∀{i:Nat} {s:Sl},(as++List.replicate k Sl.no)[i]?=some s→s≠.no→∃ v,(start N vs)[i]?=some (some v)∧mZ F F.G0 v s:=by
  intro i s e hne
  by_cases hi:i<as.length
  ·rw[getElem?_append_left hi] at e;obtain⟨v,ev,av⟩:=get pr e;refine⟨v,?_,av⟩;unfold start;rw[getElem?_append_left (by rw[length_map]; omega),getElem?_map,ev];rfl
  ·rw[getElem?_append_right (by omega),getElem?_replicate] at e
   split at e
   ·cases e; exact absurd rfl hne
   ·cases e
 have r:R F (as++List.replicate k .no) (start N vs) F.G0 F.H0:=by
  refine R.of rf ?_ (fun i s e=>?_) (fun i B e=>?_) (fun i j x y _ e _=>?_)
  ·unfold start;simp only[length_append,length_replicate,length_map];omega
  ·cases s with
   | no=>trivial
   | val d=>
    obtain⟨v,ev,av⟩:=at_ e (by intro z; cases z)
    exact⟨v,ev,av⟩
   | own ds=>
    obtain⟨v,ev,av⟩:=at_ e (by intro z; cases z)
    exact av.elim
   | pen=>
    obtain⟨v,ev,p,rfl,ep⟩:=at_ e (by intro z; cases z)
    exact⟨p,ev,ep⟩
   | con q=>
    obtain⟨v,ev,av⟩:=at_ e (by intro z; cases z)
    have av:v=.ref q:=av;rw[av] at ev;exact ev
   | pub B=>
    obtain⟨v,ev,av⟩:=at_ e (by intro z; cases z)
    exact⟨v,ev,av⟩
   | box B=>
    obtain⟨v,ev,av⟩:=at_ e (by intro z; cases z)
    exact av.elim
  ·obtain⟨v,ev,av⟩:=at_ e (by intro z; cases z)
   exact av.elim
  ·obtain⟨v,ev,av⟩:=at_ e (by intro z; cases z)
   exact av.elim
 exact r
theorem a71 {n k:Nat}{N:List Str}{t:TS}{b:MS}{vs:List V}{H:Hp}{Q:VK}{E:XK}(h:VSX E P0 aFZ t b)(hN:N.length=n+k)(hs:spX P0 n (mFn k b) vs H Q E) :
  t { nx:=fun _ H'=>Q .non H',rt:=Q } (start N vs) H:=by
 obtain⟨F,as,Qm,rfl,rf,pr,hl,hm,q,qx⟩:=hs;refine h F _ _ _ _ _ _ (aB8 hN rf pr hl) hm (fun fl hq=>?_) fun C o hq=>qx C o hq
 cases fl with
 | nx Γ=>exact fun σ G' H' _ r' _=>q _ _ _ _ hq r'.fr .non
 | rt rv=>exact fun v G' H' _ f' v'=>q _ _ _ _ hq f' v'
 | bk Γ=>exact hq.elim
 | ct Γ=>exact hq.elim
theorem aAV {n:Nat}{f:Fm}{ps:List Str}(h:ps.length=n):∀ vs H Q E,spX P0 n f vs H Q E→vs.length=ps.length:=by
 rintro vs H Q E ⟨F,as,Qm,_,_,pr,hl,_⟩;rw[Paired.length pr,hl,h]
theorem _root_.L2.Fun.okE {P:Program}{w:World}{K:Fg}{mg:Mg}{base:Heap}{x qual:Str}{st:Stmt}{f:Addr}{fd:FuncData}{N ps:List Str}{k n j:Nat}{b:MS}
  (F:Fun K x qual st f fd) (S:FnScope N ps (aQ st)) (hn:ps.length=n) (hN:N.length=n+j)
  (hbody:∀(cdv:Value) (A:Around) (outer:List Env) (s:Shared) (H:Hp) (E:XK),Room k (A.deeper (envOfC qual (aQ st) s.heap.objs.size f cdv)) →
   ∃ t,PSs (a7E (CX2 P w) P w K mg base N qual (aQ st) f cdv A outer s H E) (fL st) t∧VSX E P0 aFZ t b):FnOk P w K mg base (CX2 P w) (k+1) f fd ps (spX P0 n (mFn j b)):=by
 refine F.ok2 S (aAV hn) fun cdv A outer s H vs Q E hr hs=>?_;obtain⟨t,h1,h2⟩:=hbody cdv A outer s H E hr;exact⟨t,h1,a71 h2 hN hs⟩
end
end L2.VS
namespace L2
open PySem PySem.Spec PyProof.Rows
def XP2 (X:Cx)(pins:List (Addr×Obj))(W:List (Option V)→XK)(e:Value)(s':Shared):Prop:=∃(σ1:List (Option V)) (H1:Hp) (s1:Shared),Inv X pins σ1 H1 s1∧CX2 X.prog X.w X.stack H1 s1 (W σ1) e s'
def PX2 (X:Cx)(sts:List Stmt)(t:TX):Prop:=
 ∀(pins:List (Addr×Obj)) (s:Shared) (σ:List (Option V)) (H:Hp) (D:Ends) (W:List (Option V)→XK),Inv X pins σ H s→t D W σ H→wpAny (model X.prog X.w) X.A (execs sts X.env) (SP X pins D) (XP2 X pins W) s
def trW (K:Fg)(D0:Addr)(i j:Nat)(D:Ends):List (Option V)→XK:=fun σ1 c o H'=>∃ C,c=.ref C∧XCl K C∧mroIn K C (.ref D0)=some true ∧
 ∀ ea,H' ea=none→D.nx (((σ1.set i (some (.ref ea))).set j (some (.ref ea))).set i none) (upd H' ea (XD ea C o))
section
variable {X:Cx}{k:Nat}{f D0:Addr}{fd:FuncData}{ps:List Str}{sp:Sp}{x m lx ex cx:Str}{p cp ep lp p1 p2 p3 hp pos pos' apos:Pos}{o e:Expr}{es:List Expr}{ta:TE}{t:TA}{i j:Nat}
theorem a2D {pins:List (Addr×Obj)}{σ:St}{H1:Hp}{s1 s':Shared}{D:Ends}{ev:Value}(hs:X.stack=X.env::X.outer)(hf:X.env.frame=some X.env.locals)
  (hgL:Gl X lx) (hmL:X.mg lx=some (.ref D0)) (zD:XCl X.K D0)
  (hN:X.N.Nodup) (hi:X.N[i]?=some ex) (hl:X.env.kindOf ex=some .local) (hv:Vis X.env.scope ex) (hL:Loc X.env.scope ex) (hj:X.N[j]?=some cx) (hc:Loc X.env.scope cx)
  (hfi:X.fn ex=true∨X.env.scope.names.lookup ex=some .local) (hfj:X.fn cx=true∨X.env.scope.names.lookup cx=some .local) (hdl:(lx==("__debug__" : Str))=false) (hde:(ex==("__debug__" : Str))=false) (hcd:(ex==("__classdict__" : Str))=false)
  (hsw2:swapsWith (.Name ex p2) (some (.Name cx p1)) p3.line X.env=pure false) (I1:Inv X pins σ H1 s1)
  (hq:CX2 X.prog X.w X.stack H1 s1 (trW X.K D0 i j D σ) ev s') :
  wpAny (model X.prog X.w) X.A (noteFrame ev X.env) (fun _ s₂=>wpAny (model X.prog X.w) X.A (setFlight ev none) (fun _ s₃=>wpAny (model X.prog X.w) X.A (handleBy ev X.env [.ExceptHandler (some (.Name lx lp)) (some ex) [.Assign [.Name cx p1] (.Name ex p2) p3] hp]) (SP X pins D) X.xe s₃) X.xe s₂) X.xe s':=by
 obtain⟨ea,C',dct,B,H',rfl,os,bare,fl,u,hok,C,hC',zC,zs,hD⟩:=hq
 cases hC'
 obtain⟨h3,g3,d3,t3,os3⟩:=s';dsimp only at os bare fl u;subst os;have fl':=fl;rw[hs] at fl';refine aDJ (by rw[← hs]; exact I1.ok.frames) hf fl' fun h4 y4 ups4=>?_;refine yQ (s:=⟨h4,g3,d3,t3,s1.os⟩) y4 fun h5 y5 ups5=>?_;have bK:∀ b o,X.base.get? b=some o→h5.get? b=some o:=fun b o q=>y5.kb b o (u.keep b o (I1.bs b o q).1 (I1.bs b o q).2 fun z=>by
  rw[(I1.stack.mem z).1] at q; cases q)
 have G5:X.K.In h5:=I1.ok.mod.kin.keeps bK;refine wpAny_handleBy_cons (codeAny_handlers_test (Calls.Name_function_global I1.ok.kind hgL (Calls.loadGlobal_global (by rw[I1.ok.glob]; exact I1.mod.glob.keeps bK) hmL ?_) hdl)) (by intro q; cases q);obtain⟨bm,Nn,nm,qn,bs,sn,sub,ab,col,dd,k0,k1,k2,k3,k5,hCo,T,lC⟩:=rC G5 zC.ex;obtain⟨bm',Nn',nm',qn',bs',sn',sub',ab',col',dd',j0,j1,j2,j3,j5,hDo,T',lD⟩:=rC G5 zD.ex;have hin:(Value.ref C'::bm).contains (.ref D0)=true:=by
  unfold mroIn clsIn at zs;rw[lC] at zs;exact Option.some.inj zs
 obtain⟨oe,_,_,_,_,hoe,hoc,_⟩:=y5.tr;refine a2C hCo hDo hoe hoc (T'.hasType (by decide)) hin (codeAny_handlers_suite_as ?_);refine yQ (s:=⟨h5,g3,d3,t3,s1.os⟩) y5 fun h6 y6 ups6=>?_;rw[← hs] at y6;obtain⟨hne,I6⟩:=I1.caught2 (g:=g3) (d:=d3) (t:=t3) u hok bare y6 ((ups4.trans ups5).trans ups6);refine tO I6 hN hi hL (v:=.ref ea) rfl (fun s7 I7 _=>?_) hfi;have body:PSs (X.marked (.ref ea)) [.Assign [.Name cx p1] (.Name ex p2) p3] (aAP (pO i) (yD j)):=aU (cL (X:=X.marked (.ref ea)) hN hj hc (a9R (X:=X.marked (.ref ea)) hi hv hde hcd) hsw2 hfj);have hil:i<σ.length:=by rw[I1.len]; exact(List.getElem?_eq_some_iff.mp hi).1
 refine wpAny_mono (body pins s7 _ _ { nx:=fun σ' H2=>σ'=(σ.set i (some (.ref ea))).set j (some (.ref ea))∧H2=upd H' ea (XD ea C' dct),rt:=fun _ _=>False } (I7.marked _) ?_) (fun fl s8 z=>?_) fun _ _ z=>z.elim
 ·exact⟨_,getElem?_set_self hil,rfl,rfl⟩
 ·cases fl with
  | next=>
   obtain⟨σ',H2,I8,rfl,rfl⟩:=z;have I8:=I8.unmarked I1.ok;obtain⟨m,hm8⟩:=I8.loc;refine wpAny_nameGoes_keeps hl hm8.1 (by rw[I1.ok.kind]; rfl) fun h9 v hn9 hs9=>?_;exact⟨_,_,I8.goes hN hi hl hm8 hn9 hs9,hD ea hne⟩
  | ret u=>obtain⟨_,_,_,_,_,z⟩:=z; exact z.elim
  | brk=>obtain⟨_,_,_,z⟩:=z; exact z.elim
  | cont=>obtain⟨_,_,_,z⟩:=z; exact z.elim
def aHF (i:Nat)(sp:Sp)(t:TA):TX:=fun D W σ H=>t σ H fun vs H1=>sp vs H1 (fun r H2=>D.nx (σ.set i (some r)) H2) (W σ)
theorem aI6 (F:FnOk X.prog X.w X.K X.mg X.base (CX2 X.prog X.w) k f fd ps sp)(hr:Room k X.A)(hg:Gl X m)(hm:X.mg m=some (.ref f))(hk:keepIn X.K (.ref f)=true)(hb:Binds X.K fd ps [])(ha:PA X.nox (e::es) t)
  (hN:X.N.Nodup) (hi:X.N[i]?=some x) (hx:Loc X.env.scope x) (hf:X.fn x=true∨X.env.scope.names.lookup x=some .local)
  (hdb:(m==("__debug__" : Str))=false:=by decide)
  (hs:swapsWith (.Call (.Name m p) (e::es) [] cp) (some (.Name x pos')) pos.line X.env=pure false:=by rfl)
  (he:starEach (e::es) X.env=(false,eval e X.env)::starEach es X.env:=by rfl) (hpl:(backTo cp (starEach es X.env)).any (·.1)=false:=by rfl) :
  PX2 X [.Assign [.Name x pos'] (.Call (.Name m p) (e::es) [] cp) pos] (aHF i sp t):=by
 intro pins s σ H D W I h;refine wpAny_execs_cons (wpAny_Assign_Name (Q:=fun f s1=>match f with|.next=>wpAny (model X.prog X.w) X.A (execs [] X.env) (SP X pins D) (XP2 X pins W) s1|f=>SP X pins D f s1) (wpAny_Call_Name_kw (nC I hg hm ?_ hdb)) hs);refine callWith_K (h₀:=X.base) I.ok.mod.kin hk (wpAny_mono (ha cp pins s σ H _ (I.wish _) h) (fun us s1 z=>?_) fun _ _ z=>z.elim) he hpl;obtain⟨vs,H1,I1,r,q⟩:=z;have I1:=I1.unwish;refine⟨I1.kIn,?_⟩;have hl2:us.length=ps.length:=by rw[← r.length]; exact F.len _ _ _ _ q
 have hbn:=hb s1 us I1.kIn (by rw[append_nil]; exact hl2);rw[append_nil] at hbn;refine wpAny_call (codeAny_mono (F.run X.A X.stack s1 H1 ⟨us,[]⟩ us vs _ _ hr I1.env0 hbn r q) fun r s' hq=>?_)
 cases r with
 | error ev=>exact⟨σ,H1,s1,I1,hq⟩
 | ok fl=>
  cases fl with
  | ret u=>
   obtain⟨v3,H3,I3,rv3,q3⟩:=I1.after hq;exact nZ I3 hN hi hx rv3 (fun s4 I4=>wpAny_execs_nil ⟨_,H3,I4,q3⟩) hf
  | next=>exact False.elim hq
  | brk=>exact False.elim hq
  | cont=>exact False.elim hq
def a6P (sp:Sp)(t:TA):TX:=fun D W σ H=>t σ H fun vs H1=>sp vs H1 (fun _ H2=>D.nx σ H2) (W σ)
theorem a8Z (F:FnOk X.prog X.w X.K X.mg X.base (CX2 X.prog X.w) k f fd ps sp)(hr:Room k X.A)(hg:Gl X m)(hm:X.mg m=some (.ref f))(hk:keepIn X.K (.ref f)=true)(hb:Binds X.K fd ps [])(ha:PA X.nox (e::es) t)
  (hdb:(m==("__debug__" : Str))=false:=by decide)
  (hs:swapsWith (.Call (.Name m p) (e::es) [] cp) none pos.line X.env=pure false:=by rfl)
  (he:starEach (e::es) X.env=(false,eval e X.env)::starEach es X.env:=by rfl) (hpl:(backTo cp (starEach es X.env)).any (·.1)=false:=by rfl) :
  PX2 X [.Expr (.Call (.Name m p) (e::es) [] cp) pos] (a6P sp t):=by
 intro pins s σ H D W I h;refine wpAny_execs_cons (wpAny_Expr_any (Q:=fun f s1=>match f with|.next=>wpAny (model X.prog X.w) X.A (execs [] X.env) (SP X pins D) (XP2 X pins W) s1|f=>SP X pins D f s1) (wpAny_Call_Name_kw (nC I hg hm ?_ hdb)) I.quiet hs);refine callWith_K (h₀:=X.base) I.ok.mod.kin hk (wpAny_mono (ha cp pins s σ H _ (I.wish _) h) (fun us s1 z=>?_) fun _ _ z=>z.elim) he hpl;obtain⟨vs,H1,I1,r,q⟩:=z;have I1:=I1.unwish;refine⟨I1.kIn,?_⟩;have hl2:us.length=ps.length:=by rw[← r.length]; exact F.len _ _ _ _ q
 have hbn:=hb s1 us I1.kIn (by rw[append_nil]; exact hl2);rw[append_nil] at hbn;refine wpAny_call (codeAny_mono (F.run X.A X.stack s1 H1 ⟨us,[]⟩ us vs _ _ hr I1.env0 hbn r q) fun r s' hq=>?_)
 cases r with
 | error ev=>exact⟨σ,H1,s1,I1,hq⟩
 | ok fl=>
  cases fl with
  | ret u=>
   obtain⟨v3,H3,I3,rv3,q3⟩:=I1.after hq;exact wpAny_execs_nil ⟨_,H3,I3,q3⟩
  | next=>exact False.elim hq
  | brk=>exact False.elim hq
  | cont=>exact False.elim hq
def aF7 (K:Fg)(D0:Addr)(i j:Nat)(t:TX):TS:=fun D σ H=>t D (trW K D0 i j D) σ H
theorem aA2 {body:List Stmt}{t:TX}(hbody:PX2 X body t)(hs:X.stack=X.env::X.outer)(hf:X.env.frame=some X.env.locals)
  (hgL:Gl X lx) (hmL:X.mg lx=some (.ref D0)) (zD:XCl X.K D0)
  (hN:X.N.Nodup) (hi:X.N[i]?=some ex) (hl:X.env.kindOf ex=some .local) (hv:Vis X.env.scope ex) (hL:Loc X.env.scope ex) (hj:X.N[j]?=some cx) (hc:Loc X.env.scope cx)
  (hfi:X.fn ex=true∨X.env.scope.names.lookup ex=some .local) (hfj:X.fn cx=true∨X.env.scope.names.lookup cx=some .local)
  (hdl:(lx==("__debug__" : Str))=false:=by decide) (hde:(ex==("__debug__" : Str))=false:=by decide) (hcd:(ex==("__classdict__" : Str))=false:=by decide)
  (hsw2:swapsWith (.Name ex p2) (some (.Name cx p1)) p3.line X.env=pure false:=by rfl) :
  PS X (.Try body [.ExceptHandler (some (.Name lx lp)) (some ex) [.Assign [.Name cx p1] (.Name ex p2) p3] hp] [] [] pos) (aF7 X.K D0 i j t):=by
 intro pins s σ H D I h;refine wpAny_Try_except (wpAny_mono (hbody pins s σ H D _ I h) (fun f s1 q=>?_) fun ev s' q=>?_)
 ·cases f with
  | next=>exact wpAny_execs_nil q
  | ret v=>exact q
  | brk=>exact q
  | cont=>exact q
 ·obtain⟨σ1,H1,s1,I1,q⟩:=q;exact a2D hs hf hgL hmL zD hN hi hl hv hL hj hc hfi hfj hdl hde hcd hsw2 I1 q
def aE8 (K:Fg)(ta:TE)(f:Str):TE:=fun σ H Q=>ta σ H fun x H1=>∃ a C D fs v,x=.ref a∧H1 a=some (XD a C (some D))∧XCl K C∧NoAttr K C f∧hasDictIn K C=true∧H1 D=some (.xd fs)∧fs.lookup f=some v∧Q v H1
theorem a3S {f:Str}(he:PE X e ta)(hb:attributeBase e f X.env (eval e X.env)=eval e X.env):PE X (.Attribute e f pos) (aE8 X.K ta f):=by
 intro pins s σ H Q I h;refine a3H hb (thn (he pins s σ H _ I h) fun u s1 ⟨x,H1,I1,rx,a,C,D,fs,v,ex,ea,z,n,hd,eD,l,q⟩=>?_);subst ex;obtain rfl:u=Value.ref a:=rx;obtain⟨o,vs,ho,hc,hdd,hdt⟩:=(show ObjOk X.prog X.w _ s1.heap a (XD a C (some D)) from I1.hok a _ ea).1;obtain⟨mA,O,r⟩:=(show ObjOk X.prog X.w _ s1.heap D (.xd fs) from I1.hok D _ eD);obtain⟨od,hod,hlk⟩:=xH O;obtain⟨u,hu,ru⟩:=RelO.some_of (v:=v) (o:=mA f) (by rw[← l]; exact r f);have J:PySem.W.InstAt s1.heap a o C (some od):=⟨ho,hc,by unfold notCls; rw[hdt],by rw[hdd]; exact hod⟩;exact aAS I1.kIn z J (findObj_own hd n rfl (by rw[hlk,hu])) (xF ru) ⟨v,H1,I1.tok _,ru,q⟩
end
end L2
namespace L2.VS
open PySem PySem.Spec PyProof.Rows
section
variable {P0:Addr→Hp→Prop}{A:Nat→Bool}
theorem R.set0 {F:Fra P0}{Γ:En}{σ:St}{G H:Hp}(r:R F Γ σ G H){i:Nat}{x:Option V}{s:Sl}(h:SlF F G H (some x) [] s):R F (Γ.set i s) (σ.set i x) G H:=by
 obtain⟨fps,h1,h2⟩:=r.fps;have back:∀{m z},m≠i→(Γ.set i s)[m]?=some z→Γ[m]?=some z:=fun{m z} hm e=>by rw[getElem?_set_ne (Ne.symm hm)] at e; exact e
 refine⟨r.fr,by rw[length_set,length_set]; exact r.len,fun j=>if j=i then[] else fps j,fun j s' e=>?_,fun j k s t ej ek hjk b hb hc=>?_⟩
 ·dsimp only
  by_cases hj:j=i
  ·subst hj;have hi:j<Γ.length:=by
    have:=(List.getElem?_eq_some_iff.mp e).1;simpa using this
   rw[getElem?_set_self hi] at e
   cases e
   rw[if_pos rfl,getElem?_set_self (by rw[← r.len]; exact hi)];exact h
  ·rw[if_neg hj,getElem?_set_ne (Ne.symm hj)];exact h1 j s' (back hj e)
 ·dsimp only at hb hc
  by_cases hj:j=i
  ·rw[if_pos hj] at hb; cases hb
  ·by_cases hk:k=i
   ·rw[if_pos hk] at hc; cases hc
   ·rw[if_neg hj] at hb;rw[if_neg hk] at hc;exact h2 j k s t (back hj ej) (back hk ek) hjk b hb hc
def aAZ (C:Addr)(o:XO):Pb where
 P:=fun v G=>∃ a dct,v=.ref a∧G a=some (XD a C dct)∧∀ n d,o=some (n,d)→∃ dd x,dct=some dd∧G dd=some (.xd [(n,x)])∧Dt G x d
 mono:=fun g h=>let ⟨a,dct,e,h,k⟩:=h; ⟨a,dct,e,g _ _ h,fun n d z=>let ⟨dd,x,e1,e2,e3⟩:=k n d z; ⟨dd,x,e1,g _ _ e2,Dt.same g _ _ e3⟩⟩
def xsp (cs:List Addr)(rv:Rv)(a:Addr→XO→Prop)(b:Prop):Prop:=(∀ C o,rv=.box (a2V C o)→C∈cs∧a C o)∧((∀ C o,rv≠.box (a2V C o))→b)
theorem a9Y {cs:List Addr}{C:Addr}{o:XO}{a:Addr→XO→Prop}{b:Prop}(hc:C∈cs)(h:a C o):xsp cs (.box (a2V C o)) a b:=⟨fun C' o' e=>by
 obtain⟨rfl,rfl⟩:=a8E e;exact⟨hc,h⟩,fun n=>absurd rfl (n C o)⟩
def enX (i j:Nat)(C:Addr)(o:XO)(Γ:En):En:=(Γ.set j (.pub (aAZ C o))).set i .no
def v7 (i j:Nat)(cs:List Addr)(n:Nat)(f:Fm)(m:MA):MS:=fun Γ Q=>m Γ fun as Γ1=>as.length=n∧f as fun rv=>xsp cs rv (fun C o=>Q (.nx (enX i j C o Γ1))) (Q (.nx Γ1))
def VPX (K:Fg)(D0:Addr)(i j:Nat)(P0:Addr→Hp→Prop)(A:Nat→Bool)(t:TX)(m:MS):Prop:=∀(F:Fra P0) (Γ:En) (σ:St) (G H:Hp) (D:Ends) (Qm:Fl→Prop),R F Γ σ G H→m Γ Qm→(∀ fl,Qm fl→Post F A σ G D fl)→t D (trW K D0 i j D) σ H
variable {K:Fg}{D0:Addr}{i j:Nat}{cs:List Addr}
theorem aBC {t:TX}{m:MS}(h:VPX K D0 i j P0 A t m):VSA P0 A (aF7 K D0 i j t) m:=fun F Γ σ G H E Qm r hm k=>h F Γ σ G H E Qm r hm k
theorem aCP {F:Fra P0}{Γ1:En}{σ:St}{G G1 H1:Hp}{D:Ends}{Qm:Fl→Prop}{C:Addr}{o:XO}(r1:R F Γ1 σ G1 H1)(s1:Same G G1)(zC:XCl K C)(zs:mroIn K C (.ref D0)=some true)(q:Qm (.nx (enX i j C o Γ1)))
  (k:∀ fl,Qm fl→Post F A σ G D fl) (hij:i≠j) (hA:A i=true) (hB:A j=true):XPost (F.sub r1.fr) G1 (trW K D0 i j D σ) C o:=by
 have fin:∀ dct G2 H2,Rf (F.sub r1.fr) G2 H2→(∀ n d,o=some (n,d)→∃ dd x,dct=some dd∧G2 dd=some (.xd [(n,x)])∧Dt G2 x d)→trW K D0 i j D σ (.ref C) dct H2:=fun dct G2 H2 f2 hx=>by
  refine⟨C,rfl,zC,zs,fun ea hea=>?_⟩;obtain⟨r2,s2⟩:=r1.after f2;have g2:G2 ea=none:=r2.fr.gfresh hea;have sn:Same G2 (upd G2 ea (XD ea C dct)):=fP g2 _;have r3:=r2.new (o:=XD ea C dct) hea;have hB:(aAZ C o).P (.ref ea) (upd G2 ea (XD ea C dct)):=⟨ea,dct,rfl,aW,fun n d z=>by
   obtain⟨dd,x,e1,e2,e3⟩:=hx n d z;exact⟨dd,x,e1,sn _ _ e2,Dt.same sn _ _ e3⟩⟩
  have r4:=(r3.set0 (i:=j) (x:=some (.ref ea)) (s:=.pub (aAZ C o)) ⟨rfl,_,rfl,hB⟩).set0 (i:=i) (x:=none) (s:=.no) rfl;have e:((σ.set i (some (V.ref ea))).set j (some (.ref ea))).set i none=(σ.set j (some (.ref ea))).set i none:=by
   rw[set_comm _ _ hij,List.set_set]
  rw[e];refine k _ q _ _ _ ((s1.trans s2).trans sn) r4 fun n hn=>?_;have ni:i≠n:=fun z=>by rw[← z,hA] at hn; cases hn
  have nj:j≠n:=fun z=>by rw[← z] at hn; simp_all
  rw[getElem?_set_ne ni,getElem?_set_ne nj]
 cases o with
 | none=>exact fun G2 H2 s2 f2=>fin none G2 H2 f2 fun n d z=>nomatch z
 | some p=>
  obtain⟨n,d⟩:=p;exact fun D x G2 H2 s2 f2 e1 e2=>fin (some D) G2 H2 f2 fun n' d' z=>by
   cases z
   exact⟨D,x,rfl,e1,e2⟩
theorem aBW {n:Nat}{f:Fm}{t:TA}{m:MA}(h:VA P0 t m)(hcs:∀ C∈cs,XCl K C∧mroIn K C (.ref D0)=some true)(hij:i≠j:=by decide)(hA:A i=true:=by rfl)(hB:A j=true:=by rfl) :
  VPX K D0 i j P0 A (a6P (spX P0 n f) t) (v7 i j cs n f m):=by
 intro F Γ σ G H D Qm r hm k;refine h F Γ σ G H _ _ r hm fun as Γ1 rs G1 H1 m1 s1 r1 d1=>?_;refine⟨F.sub r1.fr,as,fun rv=>xsp cs rv (fun C o=>Qm (.nx (enX i j C o Γ1))) (Qm (.nx Γ1)),rfl,F.subRf r1.fr,Paired.imp' (fun a s h=>by cases s<;>exact h) d1,m1.1,m1.2,fun rv v G2 H2 q f2 v2=>?_,fun C o q=>?_⟩
 ·obtain⟨r2,s2⟩:=r1.after f2;exact k _ (q.2 v2.noX) _ _ _ (s1.trans s2) r2 fun _ _=>rfl
 ·obtain⟨hc,q⟩:=q.1 C o rfl;exact aCP r1 s1 (hcs C hc).1 (hcs C hc).2 q k hij hA hB
def aHM (i:Nat)(tbl:Addr→Option Bool):ME:=fun Γ Q=>∃ C o b,Γ[i]?=some (.pub (aAZ C o))∧tbl C=some b∧Q (.bool b) Γ
theorem aAX {c:V}{u:Value}{tbl:Addr→Option Bool}(hu:∀ v,RelV c v→v=u)(h:∀ C b,tbl C=some b→XCl K C∧kitOne K (.ref C) u=some b) :
  VT P0 (tCB (aF2 K) (eF (pO i) (eF (tC c) qF))) (aHM i tbl):=by
 intro F Γ σ G H Q Qm r hm k;obtain⟨C,o,b,e,hb,q⟩:=hm;obtain⟨v,ev,a,dct,rfl,ha,_⟩:=r.sl i _ e;obtain⟨z,hk⟩:=h C b hb;exact⟨_,ev,a,C,dct,c,b,rfl,r.fr.sub _ _ ha,z,.inl ⟨u,hu,hk⟩,k _ _ _ _ _ q (Same.refl _) r (.bl _)⟩
def tCs:List Addr→TA
 | []=>qF
 | c::r=>eF (tC (.ref c)) (tCs r)
theorem a5R:∀{as:List Addr} {σ:St} {H:Hp} {Q:List V→Hp→Prop},Q (as.map V.ref) H→tCs as σ H Q
 | [],_,_,_,h=>h
 | _::r,σ,H,_,h=>a5R (as:=r) (σ:=σ) (H:=H) h
theorem wN:∀{as:List Addr} {vs:List Value},Vals (as.map V.ref) vs→vs=as.map Value.ref
 | [],_,.nil=>rfl
 | _::_,_,.cons a b=>by rw[wN b,show _=Value.ref _ from a]; rfl
theorem aAI {as:List Addr}{tbl:Addr→Option Bool}(hz:as.length≤100)(h:∀ C b,tbl C=some b→XCl K C∧kitAny K (.ref C) (as.map Value.ref)=some b) :
  VT P0 (tCB (aF2 K) (eF (pO i) (eF (aDA (tCs as)) qF))) (aHM i tbl):=by
 intro F Γ σ G H Q Qm r hm k;obtain⟨C,o,b,e,hb,q⟩:=hm;obtain⟨v,ev,a,dct,rfl,ha,_⟩:=r.sl i _ e;obtain⟨z,hk⟩:=h C b hb;refine⟨_,ev,a5R ⟨by rw[length_map,sizeLine_eq]; omega,fun p hp=>?_⟩⟩;have g:=fP (r.fr.gfresh hp) (.tup (as.map V.ref));have r2:=r.new (o:=.tup (as.map V.ref)) hp;exact⟨a,C,dct,_,b,rfl,r2.fr.sub _ _ (g _ _ ha),z,.inr ⟨p,_,_,rfl,aW,fun vs hv=>wN hv,hk⟩,k _ _ _ _ _ q g r2 (.bl _)⟩
def a7F (i:Nat)(f:Str)(cs:List Addr):ME:=fun Γ Q=>∃ C d,Γ[i]?=some (.pub (aAZ C (some (f,d))))∧C∈cs∧Q d Γ
theorem a78 {f:Str}(h:∀ C∈cs,XCl K C∧NoAttr K C f∧hasDictIn K C=true):VT P0 (aE8 K (pO i) f) (a7F i f cs):=by
 intro F Γ σ G H Q Qm r hm k;obtain⟨C,d,e,hC,q⟩:=hm;obtain⟨v,ev,a,dct,rfl,ha,hx⟩:=r.sl i _ e;obtain⟨dd,x,rfl,e2,e3⟩:=hx f d rfl;obtain⟨z,n,hd⟩:=h C hC;exact⟨_,ev,a,C,dd,_,x,rfl,r.fr.sub _ _ ha,z,n,hd,r.fr.sub _ _ e2,by simp[List.lookup],k _ _ _ _ _ q (Same.refl _) r e3⟩
end
end L2.VS
namespace L2
open PySem PySem.Spec PyProof.Rows
theorem tx3:∀ n:Fin 1000,(txI ((n.val:Nat):Int)).length≤10∧(txI (-((n.val:Nat):Int))).length≤10:=by decide +kernel
theorem a8S {i:Int}(h:i.natAbs<1000):(txI i).length≤10:=by
 rcases Int.eq_nat_or_neg i with⟨m,rfl|rfl⟩
 ·exact(tx3 ⟨m,by omega⟩).1
 ·exact(tx3 ⟨m,by omega⟩).2
theorem a3Z {i:Int}(h:i.natAbs<1000):i.natAbs.log2<1920:=by
 by_cases z:i.natAbs=0
 ·rw[z]; decide
 ·exact(log2_lt z).mpr (lt_of_lt_of_le (lt_trans h (by decide:1000<2^10)) (Nat.pow_le_pow_right (by decide) (by decide)))
theorem aCT {i:Int}{m:PySem.Str}(h:i.natAbs<1000)(hm:m.length≤1000:=by decide):(m++txI i).length≤sizeLine:=by
 have:=a8S h;rw[len_app,sizeLine_eq];omega
structure CalX (P:Program)(w:World)(K:Fg)(mg:Mg)(base:Heap)(k:Nat)(x:Str)(ps:List Str)(sp:Sp):Prop where
 ex:∃(f:Addr) (fd:FuncData),FnOk P w K mg base (CX2 P w) k f fd ps sp∧mg x=some (.ref f)∧keepIn K (.ref f)=true∧Binds K fd ps []
structure Ini (P:Program)(w:World)(K:Fg)(mg:Mg)(base:Heap)(k:Nat)(C:Addr)(f:Str):Prop where
 ex:∃(fI:Addr) (fd:FuncData) (ps:List Str),FnOk P w K mg base CX0 k fI fd ps (aIL C f)∧findIn K (.ref C) "__init__" = some (some (.ref fI))∧typeIn K (.ref fI)=some (.type "function")∧Binds K fd ps []
section
variable {X:Cx}{j k:Nat}{x m:Str}{ps:List Str}{sp:Sp}{e:Expr}{es:List Expr}{t:TA}{p pos pos' cp np cpos:Pos}{i:Nat}{E:XK}{C:Addr}{f:Str}{e0:Expr}
theorem a7V (c:CalX X.prog X.w X.K X.mg X.base j m ps sp)(hr:Room k X.A)(hg:Gl X m)(ha:PA X.nox (e::es) t)(hjk:j≤k:=by decide)
  (hdb:(m==("__debug__" : Str))=false:=by decide)
  (hs:swapsWith (.Call (.Name m p) (e::es) [] cp) none pos.line X.env=pure false:=by rfl)
  (he:starEach (e::es) X.env=(false,eval e X.env)::starEach es X.env:=by rfl) (hpl:(backTo cp (starEach es X.env)).any (·.1)=false:=by rfl) :
  PX2 X [.Expr (.Call (.Name m p) (e::es) [] cp) pos] (a6P sp t):=by
 obtain⟨f,fd,F,hm,hk,hb⟩:=c.ex;exact a8Z F (hr.mono hjk) hg hm hk hb ha hdb hs he hpl
theorem yL (c:Ini X.prog X.w X.K X.mg X.base j C f)(hr:Room k X.A)
  (hxe:∀(pins:List (Addr×Obj)) (σ:St) (H:Hp) (s:Shared) (e:Addr) (D:Option Addr),Inv X pins σ (upd H e (XF e C D)) s→H e=none→X.s₀.heap.get? e=none→E (.ref C) D H→X.xe (.ref e) s)
  (hex:X.ex=[]) (hcalm:X.calm=true) (hg:Gl X x) (hm:X.mg x=some (.ref C)) (z:XCl X.K C) (ha:PA X [e0] t) (hjk:j+1≤k:=by decide)
  (he:starEach [e0] X.env=[(false,eval e0 X.env)]:=by rfl) (hd:(x==("__debug__" : Str))=false:=by decide) :
  PS X (.Raise (some (.Call (.Name x np) [e0] [] cpos)) none pos) (zX C f E t):=by
 obtain⟨fI,fd,ps,F,hi,hf,hb⟩:=c.ex;exact a6V hxe hex hcalm hg hm z.ex hi hf F (hr.mono hjk) hb ha he hd
end
theorem aEP {K:Fg}{D0 ns:Addr}{dd:Option Addr}{nm qn:Str}{bs sub:List Value}{sn:List Str}{ab:Bool}{col:Option Bool}{k0 k1 k2 k3 k5:Option Value}
  (l:K.lookup D0=some ⟨.type "type", dd,.cls ⟨nm,bs,[.ref D0,.type "ValueError", .type "Exception", .type "BaseException", .type "object"],ns,qn,true,sn,sub,ab,col,false⟩,#[k0,k1,k2,k3,some (.builtin "ValueError.__new__"),k5]⟩):zH K D0=true:=by
 unfold zH;rw[l];simp[tailIn,vmro]
theorem aFW {K:Fg}{C D0 ns:Addr}{dd:Option Addr}{nm qn:Str}{bs sub:List Value}{sn:List Str}{ab:Bool}{col:Option Bool}{k0 k1 k2 k3 k5:Option Value}
  (l:K.lookup C=some ⟨.type "type", dd,.cls ⟨nm,bs,[.ref C,.ref D0,.type "ValueError", .type "Exception", .type "BaseException", .type "object"],ns,qn,true,sn,sub,ab,col,false⟩,#[k0,k1,k2,k3,some (.builtin "ValueError.__new__"),k5]⟩)
  (d:excIn K D0 [.type "ValueError", .type "Exception", .type "BaseException", .type "object"] "ValueError.__new__" = true):zH K C=true:=by
 have hD:tailIn K vmro (.ref D0::vmro)=true:=by
  unfold excIn at d
  split at d
  next dd cd sl ho=>
   split at d
   next D bm k0 k1 k2 k3 n k5 hm hs=>
    simp only[and_eq_true] at d;unfold tailIn;dsimp only;rw[ho];have t2:tailIn K vmro vmro=true:=by simp[tailIn,vmro]
    simp only[d.1.2,d.2,t2];simp
   next=>cases d
  next=>cases d
 unfold zH;rw[l];have hD:tailIn K vmro [.ref D0,.type "ValueError", .type "Exception", .type "BaseException", .type "object"]=true:=hD;simp[hD]
theorem uQ {α:Type}{Φ:α→Prop}:∀ p∈([]:List α),Φ p:=fun _ h=>nomatch h
theorem pC {α:Type}{Φ:α→Prop}{a:α}{r:List α}(h:Φ a)(k:∀ p∈r,Φ p):∀ p∈a::r,Φ p:=fun p hp=>(mem_cons.mp hp).elim (fun e=>e▸h) (k p)
end L2
namespace L2.VS
open PySem PySem.Spec PyProof.Rows
section
variable {P0:Addr→Hp→Prop}{A:Nat→Bool}{X0:XK}{K:Fg}{i:Nat}
def aCB (i:Nat)(tb:List (Addr×Bool)):ME:=aHM i fun C=>tb.lookup C
theorem lookup_mem {tb:List (Addr×Bool)}{C:Addr}{b:Bool}(h:tb.lookup C=some b):(C,b)∈tb:=by
 induction tb with
 | nil=>cases h
 | cons p r ih=>
  obtain⟨a,c⟩:=p;rw[lookup_cons] at h
  split at h
  ·rename_i e
   cases h
   rw[beq_iff_eq.mp e];exact mem_cons_self
  ·exact mem_cons_of_mem _ (ih h)
theorem a5D {c:V}{u:Value}{tb:List (Addr×Bool)}(hu:∀ v,RelV c v→v=u)(h:∀ p∈tb,XCl K p.1∧kitOne K (.ref p.1) u=some p.2) :
  VT P0 (tCB (aF2 K) (eF (pO i) (eF (tC c) qF))) (aCB i tb):=aAX hu fun _ _ e=>h _ (lookup_mem e)
theorem aB1 {as:List Addr}{tb:List (Addr×Bool)}(hz:as.length≤100)(h:∀ p∈tb,XCl K p.1∧kitAny K (.ref p.1) (as.map Value.ref)=some p.2) :
  VT P0 (tCB (aF2 K) (eF (pO i) (eF (aDA (tCs as)) qF))) (aCB i tb):=aAI hz fun _ _ e=>h _ (lookup_mem e)
theorem aAR {C:Addr}{n:Str}{m:MD}{Γ:En}{Q:Fl→Prop}(h:m Γ fun ds _=>∃ i:Int,ds=[.int i]∧i.natAbs<1000∧Q (.rt (.box (a2V C (some (n,.int i)))))):a0S C n m Γ Q:=h
theorem aC6 {tb:List (Addr×Bool)}{Γ:En}{Q:D→En→Prop}{C:Addr}{o:XO}{b:Bool}(h1:Γ[i]?=some (.pub (aAZ C o)))(h2:tb.lookup C=some b)(h:Q (.bool b) Γ):aCB i tb Γ Q:=⟨C,o,b,h1,h2,h⟩
theorem a9E {f:Str}{cs:List Addr}{Γ:En}{Q:D→En→Prop}{C:Addr}{d:D}(h1:Γ[i]?=some (.pub (aAZ C (some (f,d)))))(h2:C∈cs)(h:Q d Γ):a7F i f cs Γ Q:=⟨C,d,h1,h2,h⟩
end
section
structure XA where
 nt:Addr
 nl:Addr
 tm:Addr
 rw:Addr
def aG3 (rv:Rv):Prop:=∀ C o,rv≠.box (a2V C o)
theorem aBN {ds:List D}:aG3 (.own ds):=fun _ _ e=>nomatch e
theorem _root_.L2.FnOk.noX2 {P0:Addr→Hp→Prop}{P:Program}{w:World}{K:Fg}{mg:Mg}{base:Heap}{k n:Nat}{f:Addr}{fd:FuncData}{ps:List Str}{m m':Fm}(F:FnOk P w K mg base (CX2 P w) k f fd ps (spX P0 n m))
  (hm:∀ as Q,m' as Q→m as fun rv=>aG3 rv∧Q rv):FnOk P w K mg base CX0 k f fd ps (spM P0 n m'):=by
 have key:∀ vs H Q E,spM P0 n m' vs H Q E→spX P0 n m vs H Q fun _ _ _=>False:=by
  rintro vs H Q E ⟨F,as,Qm,h1,h2,h3,h4,h5,h6⟩;exact⟨F,as,_,h1,h2,h3,h4,hm _ _ h5,fun rv r G' H' q=>h6 rv r G' H' q.2,fun C o q=>absurd rfl (q.1 C o)⟩
 exact⟨fun vs H Q E h=>F.len vs H Q _ (key _ _ _ _ h),fun A outer s H args us vs Q E hr he hb hv hs=>codeAny_mono (F.run A outer s H args us vs Q _ hr he hb hv (key _ _ _ _ hs)) fun r s' hq=>by
  cases r with
  | ok fl=>
   cases fl with
   | ret u=>exact hq
   | next=>exact hq
   | brk=>exact hq
   | cont=>exact hq
  | error e=>
   obtain⟨_,_,_,_,_,_,_,_,_,_,_,z⟩:=hq;exact z.elim⟩
end
end L2.VS
namespace L2
open PySem PySem.Spec PyProof.Rows
section
variable {X:Cx}
end
end L2
namespace L2.VS
open PySem PySem.Spec PyProof.Rows
section
variable {P0:Addr→Hp→Prop}{ta tb:TE}{ma mb:ME}{Γ:En}{Q:D→En→Prop}
end
end L2.VS
namespace L2
open PySem PySem.Spec PyProof.Rows
@[irreducible] def PTd (X:Cx) (c:Expr) (t:TT):Prop:=PT X c t
section
variable {X:Cx}{pos:Pos}{e a b:Expr}{es:List Expr}{te ta tb:TE}{tl:TA}{L rest:List Stmt}{st:Stmt}{t u:TS}
theorem bG {x1}(h:PAd X es tl):PEd X (.Tuple es x1 pos) (aDA tl):=by
 unfold PEd PAd at *;exact cO h
theorem aP:PAd X [] qF:=by unfold PAd; exact aK
theorem aC (ha:PEd X e te)(hr:PAd X es tl)(hs:starEach (e::es) X.env=(false,eval e X.env)::starEach es X.env:=by rfl):PAd X (e::es) (eF te tl):=by
 unfold PEd PAd at *;exact aB ha hr hs
theorem gH {op:Operator}{r:R2}(ho:OpR X (binaryOp op) r)(ha:PEd X a ta)(hb:PEd X b tb):PEd X (.BinOp a op b pos) (tOp r ta tb):=by
 unfold PEd at *;exact bN ho ha hb
theorem j4 (h:PSd X st t):PSi X [st] t:=by
 unfold PSi PSd at *;exact aU h
theorem lH:PSi X [] aBE:=by unfold PSi; exact cP
theorem jB (he:PEd X e te):PSd X (.Return (some e) pos) (aFY te):=by
 unfold PSd PEd at *;exact bY he
theorem qN {c:Expr}{tc:TT}(h:PT X c tc):PTd X c tc:=by unfold PTd; exact h
theorem qR {c:Expr}{a b:List Stmt}{tc:TT}(hc:PTd X c tc)(ha:PSi X a t)(hb:PSi X b u):PSd X (.If c a b pos) (aG4 tc t u):=by
 unfold PSd PSi PTd at *;exact fG hc ha hb
end
end L2
namespace L2
open PySem PySem.Spec PyProof.Rows
mutual
theorem Dt.readsH {P:Program}{w:World}{H:Hp}{h:Heap}(ok:HOk P w H h):∀(d:PyData) (x:V) (v:Value),Dt H x d→RelV x v→∃ as,Reads h v d as∧∀ a∈as,H a≠none
 | .none,_,_,e,r=>by cases e; cases r; exact⟨_,.none,fun _ h=>nomatch h⟩
 | .bool _,_,_,e,r=>by cases e; cases r; exact⟨_,.bool _,fun _ h=>nomatch h⟩
 | .int _,_,_,e,r=>by cases e; obtain⟨t,rfl⟩:=r; exact⟨_,.int _ _,fun _ h=>nomatch h⟩
 | .str _,_,_,e,r=>by cases e; obtain⟨t,rfl⟩:=r; exact⟨_,.str _ _,fun _ h=>nomatch h⟩
 | .list ds,_,_,e,r=>by
  cases e with
  | @lst p xs _ hp rs=>
   cases r
   obtain⟨_,its,n,r',hg⟩:=(show ObjOk P w H h p (.lst xs) from ok p _ hp);obtain⟨as,q,ha⟩:=Dts.readsH ok ds xs its rs r';refine⟨_,.list hg rfl rfl (by simpa using q),fun a m=>?_⟩;rcases mem_cons.mp m with rfl|m
   ·rw[hp]; simp
   ·exact ha a m
 | .tuple ds,_,_,e,r=>by
  cases e with
  | @tup p xs _ hp rs=>
   cases r
   obtain⟨_,its,r',o,h1,h2,n,h3⟩:=(show ObjOk P w H h p (.tup xs) from ok p _ hp);obtain⟨as,q,ha⟩:=Dts.readsH ok ds xs its rs r';exact⟨_,.tuple h1 h2 h3 (by simpa using q),ha⟩
 | .dict kds,_,_,e,r=>by
  cases e with
  | @dic p kvs _ hp rs=>
   cases r
   obtain⟨_,_,vs,kv,o,es,ep,h1,h2,h3,_,h4,_⟩:=(show ObjOk P w H h p (.dK kvs) from hp.ok ok);obtain⟨as,bs,q1,q2,ha,hb⟩:=Dtk.readsH ok kds kvs vs es.toList rs kv h4;refine⟨_,.dict h1 h2.1 h3 q1 q2,fun a m=>?_⟩;rcases mem_append.mp m with m|m
   ·rcases mem_cons.mp m with rfl|m
    ·rcases hp with e|⟨o,e⟩<;>rw[e]<;>simp
    ·exact ha a m
   ·exact hb a m
theorem Dts.readsH {P:Program}{w:World}{H:Hp}{h:Heap}(ok:HOk P w H h):∀(ds:List PyData) (xs:List V) (vs:List Value),Dts H xs ds→Vals xs vs→∃ as,ReadsAll h vs ds as∧∀ a∈as,H a≠none
 | [],_,_,e,r=>by cases e; cases r; exact⟨_,.nil,fun _ h=>nomatch h⟩
 | d::ds,_,_,e,r=>by
  cases e with
  | cons e1 e2=>
   cases r with
   | cons r1 r2=>
    obtain⟨as,q1,ha⟩:=Dt.readsH ok d _ _ e1 r1;obtain⟨bs,q2,hb⟩:=Dts.readsH ok ds _ _ e2 r2;exact⟨_,.cons q1 q2,fun a m=>(mem_append.mp m).elim (ha a) (hb a)⟩
theorem Dtk.readsH {P:Program}{w:World}{H:Hp}{h:Heap}(ok:HOk P w H h):∀(kds:List (PyData×PyData)) (kvs:List (Key×V)) (vs:List (Key×Value)) (es:List DictEntry),Dtk H kvs kds→KV kvs vs→Pairs (dH P w) es vs →
  ∃ as bs,ReadsAll h (es.map (·.key)) (kds.map (·.1)) as∧ReadsAll h (es.map (·.val)) (kds.map (·.2)) bs∧(∀ a∈as,H a≠none)∧∀ a∈bs,H a≠none
 | [],_,_,_,e,r,z=>by cases e; cases r; cases z; exact⟨[],[],.nil,.nil,by simp,by simp⟩
 | (k,d)::kds,_,_,_,e,r,z=>by
  cases e with
  | @cons n _ _ _ _ e1 e2=>
   cases r with
   | cons r1 r2=>
    cases z with
    | @cons en kv _ _ z1 z2 z3=>
     obtain⟨k1,rv⟩:=r1;obtain⟨as,q1,ha⟩:=Dt.readsH ok d _ _ e1 rv;obtain⟨as2,bs2,q3,q4,ha2,hb2⟩:=Dtk.readsH ok kds _ _ _ e2 r2 z3;have kr:Reads h en.key (.int n) []:=by
      rcases cQ ((uP P w _ _).symm.trans z1) with⟨i,t,a,b⟩|⟨_,_,a,_⟩
      ·rw[← k1] at a
       cases a
       rw[b];exact .int _ _
      ·rw[← k1] at a
       cases a
     exact⟨_,_,.cons kr q3,.cons (z2▸q1:Reads h en.val d as) q4,ha2,fun a m=>(mem_append.mp m).elim (ha a) (hb2 a)⟩
end
def aDH:List V→Hp→VK→Prop:=fun xs H Q=>∃ x d,xs=[x]∧Dt H x d∧d.showable=true∧d.depth≤50∧d.shown.length≤sizeLine∧Q (.str d.shown) H
theorem wC {X:Cx}{k:Nat}(hr:Room k X.A):t6 X (.builtin "repr") aDH:=by
 intro pins s σ H xs us Q I r h;obtain⟨x,d,rfl,dt,hs,hd,hz,q⟩:=h;obtain⟨v,rfl,rv⟩:=vals1 r;obtain⟨as,rd,ha⟩:=Dt.readsH I.hok d x v dt rv;have hsm:d.hasDict=true→sysModules∉as:=fun _ m=>by
  obtain⟨mm,o,es,ep,e,_⟩:=I.mod.sm;exact ha _ m (I.bs _ o e).2
 have hu:=hr.units
 cases dt with
 | non=>cases rv; exact P.repr_of_none ⟨.str _,H,I.tok _,⟨_,rfl⟩,q⟩
 | bl b=>cases rv; exact P.repr_of_bool ⟨.str _,H,I.tok _,⟨_,rfl⟩,by rw[PyData.shown] at q; exact q⟩
 | int i=>
  obtain⟨t,rfl⟩:=rv;exact P.repr_of_int (by simpa [PyData.showable] using hs) ⟨.str _,H,I.tok _,⟨_,rfl⟩,by rw[PyData.shown] at q; exact q⟩
 | str a=>
  obtain⟨t,rfl⟩:=rv;rw[PyData.shown] at q hz;exact P.repr_of_str ⟨.str _,H,I.tok _,⟨_,rfl⟩,q⟩ hz
 | tup hp rs=>cases rv; exact repr_of_reads' rd hs hsm hr.gd (by omega) (fun _ _ e=>e) (fun h' u tk hk=>⟨.str _,H,I.kept hk,⟨_,rfl⟩,q⟩) hz
 | lst hp rs=>cases rv; exact repr_of_reads' rd hs hsm hr.gd (by omega) (fun _ _ e=>e) (fun h' u tk hk=>⟨.str _,H,I.kept hk,⟨_,rfl⟩,q⟩) hz
 | dic hp rs=>cases rv; exact repr_of_reads' rd hs hsm hr.gd (by omega) (fun _ _ e=>e) (fun h' u tk hk=>⟨.str _,H,I.kept hk,⟨_,rfl⟩,q⟩) hz
theorem uI:bootBuiltins "repr" = some (.builtin "repr"):=by decide +kernel
def aIU:R2:=fun x y H Q=>∃ a b:PySem.Str,x=.str a∧y=.str b∧Q (.bl (a.cps.toList != b.cps.toList)) H
theorem aET {X:Cx}:OpR X (compareOp .NotEq) aIU:=by
 intro pins s σ H x y v u Q I rx ry h;obtain⟨a,b,rfl,rfl,q⟩:=h;obtain⟨t,rfl⟩:=rx;obtain⟨t',rfl⟩:=ry;exact P.ne_str ⟨.bl _,H,I,rfl,q⟩
namespace VS
variable {P0:Addr→Hp→Prop}
def neJ (Q:D→En→Prop)(x y:D)(Γ2:En):Prop:=∃ a b:PySem.Str,x=.str a∧y=.str b∧Q (.bool (a.cps.toList != b.cps.toList)) Γ2
def neI (mb:ME)(Q:D→En→Prop)(x:D)(Γ1:En):Prop:=mb Γ1 (neJ Q x)
def aHX (ma mb:ME):ME:=fun Γ Q=>ma Γ (neI mb Q)
theorem aHH {ma mb:ME}{Γ:En}{Q:D→En→Prop}(h:ma Γ (neI mb Q)):aHX ma mb Γ Q:=h
theorem aGG {mb:ME}{Γ:En}{Q:D→En→Prop}{x:D}(h:mb Γ (neJ Q x)):neI mb Q x Γ:=h
theorem aHN {Γ:En}{Q:D→En→Prop}{a:PySem.Str}(h:Q (.bool false) Γ):neJ Q (.str a) (.str a) Γ:=⟨a,a,rfl,rfl,by rw[show(a.cps.toList != a.cps.toList)=false by simp]; exact h⟩
theorem aD3 {ta tb:TE}{ma mb:ME}(ha:VT P0 ta ma)(hb:VT P0 tb mb):VT P0 (tOp aIU ta tb) (aHX ma mb):=by
 intro F Γ σ G H Q Qm r hm k;refine ha F Γ σ G H _ _ r hm fun x Γ1 v G1 H1 m1 g1 r1 d1=>?_;refine hb F Γ1 σ G1 H1 _ _ r1 m1 fun y Γ2 u G2 H2 m2 g2 r2 d2=>?_;obtain⟨a,b,rfl,rfl,q⟩:=m2
 cases d1
 cases d2
 exact⟨a,b,rfl,rfl,k _ _ _ _ _ q (g1.trans g2) r2 (.bl _)⟩
def rpK (Q:D→En→Prop)(x:D)(Γ:En):Prop:=x.showable=true∧x.depth≤50∧x.shown.length≤1000000∧Q (.str x.shown) Γ
def a8Y (ma:ME):ME:=fun Γ Q=>ma Γ (rpK Q)
theorem a4J {ta:TE}{ma:ME}(ha:VT P0 ta ma):VT P0 (tCB aDH (eF ta qF)) (a8Y ma):=by
 intro F Γ σ G H Q Qm r m k;refine ha F Γ σ G H _ _ r m fun d Γ1 x G1 H1 m1 s1 r1 d1=>?_;obtain⟨h1,h2,h3,q⟩:=m1;exact⟨x,d,rfl,Dt.same r1.fr.sub _ _ d1,h1,h2,le_trans h3 (by rw[sizeLine_eq]; decide),k _ _ _ _ _ q s1 r1 (.str _)⟩
theorem aDC {ma:ME}{Γ:En}{Q:D→En→Prop}(h:ma Γ (rpK Q)):a8Y ma Γ Q:=h
end VS
end L2
namespace My
open PySem PySem.Spec PyProof.Rows L2 L2.VS LT
def top (i:Nat):Stmt:=PySem.Challenge.pw_leadtimes_k30_no_logs.main.body.getD i (.Pass ⟨0,0,0,0⟩)
set_option hygiene false in
local macro_rules|`(tactic| walk_at "vn")=>`(tactic| dsimp only[set_cons_zero,set_cons_succ,List.set_nil,Rv.sl,Rv.d,nbQ,List.replicate,List.cons_append,nil_append,a4U,map_cons,map_nil])
set_option hygiene false in
local macro_rules | `(tactic| walk_at $s:str) => do
 let cs := s.getString.toList
 if cs.head? != some '!' then Lean.Macro.throwUnsupported
 let a := "i_c aEY aHP aGF aHR aEV aGH aKB aFS aI8 aHG aIC aJX aGQ aK8 aD7 aHS aKA aKC aFD aE1 i_I aGN aK7 aGV aJQ a1C aII aFI aI7 aG9 aGK zL aH2 aHB aHT aHA a8A aJO aIH i_U aCS aCU aFE aAR aGR aDB aAD a8K aHZ aAE aE6 aFM aDC aCW aHJ aBZ a6R aK0 aH0 aHL aIA aHO aGI aHH aGG aHN".splitOn " "
 let x := "#$'(*+,-./01458:;<=@ABEFGHJLNPQRSTUVYZ]abcdfgijmnosuxy|ĀāĉčĎďĐĒēĔĕĖ".toList
 let b := "aI3 aEN aID a8P a90 aKE aH7 aJW aEL aH9 aC4 aJV isT aF4 aB6 a8J aIK aCZ a2L a4E aE0 aBD aFC isF".splitOn " "
 let y := "&2?WXeklrtvw{ĂăĄąĆćĈĊċČđ".toList
 let mut r : Array (Lean.TSyntax `tactic) := #[]
 for c in cs.tail do
  let i := x.idxOf c
  let j := y.idxOf c
  let t ← if i < a.length then `(tactic| with_reducible apply $(Lean.mkIdent (a[i]!).toName)) else if j < b.length then `(tactic| with_reducible refine $(Lean.mkIdent (b[j]!).toName) (by with_unfolding_all rfl) ?_) else match c with
   | '%' => `(tactic| (dsimp only[Rv.d,Rv.sl,nbQ,Bool.not_true,Bool.not_false,isN,a0H]))
   | ')' => `(tactic| (with_reducible refine And.intro (Nat.le_of_ble_eq_true (by with_unfolding_all rfl)) ?_))
   | '3' => `(tactic| (with_reducible refine aGD (by with_unfolding_all rfl) rfl ?_))
   | '6' => `(tactic| (refine⟨_,rfl,?_⟩))
   | '7' => `(tactic| (with_reducible refine And.intro rfl ?_))
   | '9' => `(tactic| (refine⟨_,_,rfl,rfl,?_⟩))
   | '>' => `(tactic| (dsimp only [List.cons_append,nil_append,replicate_succ,List.replicate_zero,set_cons_zero,set_cons_succ]))
   | 'C' => `(tactic| (dsimp only [replicate_succ,List.replicate_zero,set_cons_zero,set_cons_succ]))
   | 'D' => `(tactic| (with_reducible (refine And.intro (good_int _) (And.intro (good_int _) ?_); rw[aBL])))
   | 'I' => `(tactic| (with_reducible apply dF (aA8 _)))
   | 'K' => `(tactic| (refine And.intro (aDS (by assumption) (by assumption)) ?_))
   | 'M' => `(tactic| (with_reducible refine And.intro (aDS (by assumption) (by assumption)) ?_))
   | 'O' => `(tactic| (with_reducible apply dF (aA4 _)))
   | '[' => `(tactic| (refine And.intro (show(0:Int)<_ by decide) ?_))
   | '^' => `(tactic| (refine And.intro (by assumption) ?_))
   | '_' => `(tactic| (refine⟨_,_,_,_,rfl,rfl,SqL.of (by assumption),rfl,?_⟩))
   | '`' => `(tactic| (refine⟨_,_,_,_,rfl,rfl,SqL.of aW,rfl,?_⟩))
   | 'h' => `(tactic| (refine⟨_,_,rfl,.inl (by assumption),?_⟩))
   | 'p' => `(tactic| (refine And.intro (a5H rfl) ?_))
   | 'q' => `(tactic| (refine⟨_,_,_,_,rfl,rfl,(by assumption),rfl,?_⟩))
   | 'z' => `(tactic| (refine And.intro ⟨by decide,by decide⟩ ?_))
   | '}' => `(tactic| (with_reducible apply dF (a97 _)))
   | '~' => `(tactic| (with_reducible apply dF (a82 _)))
   | _ => Lean.Macro.throwUnsupported
  r := r.push t
 `(tactic| ($[$r:tactic];*))
set_option hygiene false in
local macro_rules|`(tactic| walk_at "v1")=>`(tactic| first
 | (with_reducible first
  | apply aHR|apply aIC|apply aGH|apply aHS|apply aJX|apply aHG
  | refine aI3 (by with_unfolding_all rfl) ?_
  | apply i_c|apply aHP|apply aD7|apply aEV
  | refine i_apen (by with_unfolding_all rfl) ?_
  | apply aFS|apply aGF|apply aEY|apply aI8|apply aGQ|apply aKB|apply aK8|apply i_I|apply i_U|apply aKA|apply aJO
  | apply aHT|apply aK7|apply aGN|apply aFI|apply aCW|apply aCU|apply aII|apply aHB|apply aIH
  | apply aGR|apply aHO|apply aH0|apply aCS|apply aJQ
  | refine aJV (by with_unfolding_all rfl) ?_
  | apply a8A|apply aAD|apply aGI|apply aHJ|apply aKC|apply aE6|apply aBZ|apply a8K|apply aH2|apply aG9|apply aI7|apply aGV
  | refine a8P (by with_unfolding_all rfl) ?_
  | refine i_clear (by with_unfolding_all rfl) ?_
  | refine i_pubS (by with_unfolding_all rfl) ?_
  | refine i_pubS0 (by with_unfolding_all rfl) ?_
  | refine aCZ (by with_unfolding_all rfl) ?_
  | refine i_moveV (by with_unfolding_all rfl) ?_
  | apply dF (aA4 _)|apply dF (aA8 _)|apply dF (a97 _)|apply dF (a82 _)
  | apply a1C|apply zL
  | refine isT (by with_unfolding_all rfl) ?_
  | refine isF (by with_unfolding_all rfl) ?_
  | refine aKE (by with_unfolding_all rfl) ?_
  | refine aJW (by with_unfolding_all rfl) ?_
  | apply aGK|apply aHA
  | refine And.intro rfl ?_
  | refine And.intro (Nat.le_of_ble_eq_true (by with_unfolding_all rfl)) ?_
  | refine And.intro (aDS (by assumption) (by assumption)) ?_
  | (refine And.intro (good_int _) (And.intro (good_int _) ?_); rw[aBL])
  | (refine And.intro (good_num _) (And.intro (good_num _) ?_); rw[eqv_num])
  | (refine And.intro (good_line _) (And.intro (good_line _) ?_); rw[eqv_line])
  | (refine And.intro (good_bool _) (And.intro (good_bool _) ?_); rw[eqv_bool]))
 | dsimp only[Rv.d,Rv.sl,nbQ,Bool.not_true,Bool.not_false,isN,a0H])
set_option hygiene false in
local macro_rules|`(tactic| walk_at "w1")=>`(tactic| first
 | walk_at "v1"
 | with_reducible apply aFE
 | with_reducible apply aK0
 | with_reducible apply aHL
 | with_reducible apply aIA
 | with_reducible apply aFM
 | with_reducible refine i_ixC (by with_unfolding_all rfl) ?_)
set_option hygiene false in
local macro_rules|`(tactic| walk_at "ws")=>`(tactic| repeat (walk_at "w1"))
set_option hygiene false in
local macro_rules|`(tactic| walk_at "l1")=>`(tactic| first
 | walk_at "w1"
 | with_reducible refine aEN (by with_unfolding_all rfl) ?_
 | with_reducible refine aGD (by with_unfolding_all rfl) rfl ?_
 | with_reducible apply aE1
 | with_reducible refine aID (by with_unfolding_all rfl) ?_
 | with_reducible apply aFD
 | with_reducible refine a8J (by with_unfolding_all rfl) ?_
 | with_reducible refine aIK (by with_unfolding_all rfl) ?_
 | with_reducible apply aHZ)
set_option hygiene false in
local macro_rules|`(tactic| walk_at "kp")=>`(tactic| repeat (with_unfolding_all first
 | exact kept_n
 | apply kept_f))
set_option hygiene false in
local macro_rules|`(tactic| walk_at "m1")=>`(tactic| first
 | walk_at "l1")
set_option hygiene false in
local macro_rules|`(tactic| walk_at "f1")=>`(tactic| first
 | walk_at "m1"
 | with_reducible refine aB6 (by with_unfolding_all rfl) ?_
 | with_reducible refine aEL (by with_unfolding_all rfl) ?_
 | with_reducible refine aF4 (by with_unfolding_all rfl) ?_
 | with_reducible refine a2L (by with_unfolding_all rfl) ?_
 | with_reducible refine a90 (by with_unfolding_all rfl) ?_
 | with_reducible refine aFC (by with_unfolding_all rfl) ?_
 | with_reducible apply a6R
 | with_reducible refine aE0 (by with_unfolding_all rfl) ?_
 | with_reducible refine a4E (by with_unfolding_all rfl) ?_
 | with_reducible apply aAE
 | with_reducible refine aH9 (by with_unfolding_all rfl) ?_
 | with_reducible refine aBD (by with_unfolding_all rfl) ?_)
set_option hygiene false in
local macro_rules|`(tactic| walk_at "fs")=>`(tactic| repeat (walk_at "f1"))
set_option hygiene false in
local macro_rules|`(tactic| walk_at "fS")=>`(tactic| (try dsimp only[List.cons_append,nil_append,replicate_succ,List.replicate_zero,set_cons_zero,set_cons_succ]); walk_at "fs")
structure Xcs (K:Fg)(mg:Mg)(xa:XA)(D0 c0 c1 c2 c3 c4:Addr):Prop where
 h_NoLog:mg "NoLog" = some (.ref xa.nl)
 z_NoLog:XCl K xa.nl
 s_NoLog:mroIn K xa.nl (.ref D0)=some true
 a_NoLog:findIn K (.ref xa.nl) "__setattr__" = some (some (.builtin "object.__setattr__"))
 n_NoLog:findIn K (.ref xa.nl) "at" = some none
 d_NoLog:hasDictIn K xa.nl=true
 hD:mg "LeadError" = some (.ref D0)
 zD:XCl K D0
 pD:specialIn K (.ref D0) "__getattribute__" = some (some (.builtin "type.__getattribute__"))
 rD:readsIn K D0 (.type "type")=true
 fD:findCls K (.ref D0) (.type "type") "__init__" = some (.val (.builtin "ValueError.__init__"))
 hV:mg "ValueError" = none
 h_NoKey:mg "NoKey" = some (.ref c0)
 h_NoNumber:mg "NoNumber" = some (.ref c1)
 h_NoRow:mg "NoRow" = some (.ref c2)
 h_NoText:mg "NoText" = some (.ref c3)
 h_NoTime:mg "NoTime" = some (.ref c4)
 t_NoLog_KNRTT:kitAny K (.ref xa.nl) [.ref c0,.ref c1,.ref c2,.ref c3,.ref c4]=some false
 k_NoLog_NoLog:kitOne K (.ref xa.nl) (.ref xa.nl)=some true
 k_NoLog_ValueError:kitOne K (.ref xa.nl) (.type "ValueError")=some true
def lZ:MS:=
 (nR (cZ (sZ (a8X "int" (aX 0)) (aC0 (a8X "bool" (aX 0))))))
def dD:Fm:=mFn 0 lZ
def fY:MS:=
 (nR (cZ (aX 2)))
def fW:MS:=
 (cW (gF 4 (cZ (aG7 (aX 2) (aX 3))))
  (cW (gF 2 (cZ (aX 3)))
  (gF 3 (cZ (aX 4)))))
def eO:MS:=
 (cW (gF 2 (cZ (aCA (aX 0))))
  (cW (gF 3 (cZ (aCA (aX 1))))
  (cW (a0Z (fO (mNe (aX 3) (mC (.int 0))))
  fW)
  fY)))
def cV:Fm:=mFn 3 eO
def mV:MS:=
 (nR (cZ (dM (aH (a2P (aX 0) (aX 2)) (aH (a2P (aX 1) (aX 2)) cF)))))
def mW:MS:=
 (cW (gF 2 (cZ (cA (dX 2 cV (cT (aX 0) (cT (aX 1) dG))))))
  (cW (mIf (fO (mLt (aX 1) (mC (.int 0))))
  (gF 2 (cZ (aE9 (aX 2))))
  mNx)
  mV))
def nM:MS:=
 (cW (mIf (mOr (zJ (fO (cA (dX 1 dD (cT (aX 0) dG))))) (mOr (zJ (fO (cA (dX 1 dD (cT (aX 1) dG))))) (fO (mEq (aX 1) (mC (.int 0))))))
  a9D
  mNx)
  mW)
def fM:Fm:=mFn 1 nM
def vA:MS:=
 (nR (dX 2 fM (cT (a3V (a1K (mIx (aX 0) (mC (.int 0))) (mIx (aX 1) (mC (.int 1)))) (a1K (mIx (aX 1) (mC (.int 0))) (mIx (aX 0) (mC (.int 1))))) (cT (a1K (mIx (aX 0) (mC (.int 1))) (mIx (aX 1) (mC (.int 1)))) dG))))
def rM:Fm:=mFn 0 vA
def gR:MS:=
 (nR (dX 2 fM (cT (a9N (a1K (mIx (aX 0) (mC (.int 0))) (mIx (aX 1) (mC (.int 1)))) (a1K (mIx (aX 1) (mC (.int 0))) (mIx (aX 0) (mC (.int 1))))) (cT (a1K (mIx (aX 0) (mC (.int 1))) (mIx (aX 1) (mC (.int 1)))) dG))))
def eQ:Fm:=mFn 0 gR
def lA:MS:=
 (nR (dX 2 fM (cT (a1K (mIx (aX 0) (mC (.int 0))) (mIx (aX 1) (mC (.int 0)))) (cT (a1K (mIx (aX 0) (mC (.int 1))) (mIx (aX 1) (mC (.int 1)))) dG))))
def g8:Fm:=mFn 0 lA
def tW:MS:=
 (nR (cZ (mLt (a1K (mIx (aX 0) (mC (.int 0))) (mIx (aX 1) (mC (.int 1)))) (a1K (mIx (aX 1) (mC (.int 0))) (mIx (aX 0) (mC (.int 1)))))))
def oA:Fm:=mFn 0 tW
def pX:MS:=
 (nR (dX 2 rM (cT (mIx (aX 0) (mC (.int 0))) (cT (cA (dX 2 g8 (cT (mIx (aX 0) (mC (.int 1))) (cT (aX 1) dG)))) dG))))
def lX:Fm:=mFn 0 pX
def iV:MS:=
 (nR (cZ (dM (aH (cA (dX 2 eQ (cT (aX 1) (cT (cA (dX 2 g8 (cT (aX 2) (cT (aX 0) dG)))) dG)))) (aH (aX 2) cF)))))
def dZ:Fm:=mFn 0 iV
def mK:MS:=
 (nR (cZ (sZ (mGe (mIx (aX 0) (mC (.int 1))) (mC (.int 1))) (mEq (cA (dX 2 cV (cT (mIx (aX 0) (mC (.int 0))) (cT (mIx (aX 0) (mC (.int 1))) dG)))) (mC (.int 1))))))
def mO:MS:=
 (cW (mIf (mOr (zJ (fO (cA (dX 1 dD (cT (mIx (aX 0) (mC (.int 0))) dG))))) (zJ (fO (cA (dX 1 dD (cT (mIx (aX 0) (mC (.int 1))) dG))))))
  (nR (cZ (mC (.bool false))))
  mNx)
  mK)
def nP:MS:=
 (cW (mIf (mOr (zJ (fO (a8X "tuple" (aX 0)))) (fO (mNe (a8H (aX 0)) (mC (.int 2)))))
  (nR (cZ (mC (.bool false))))
  mNx)
  mO)
def jT:Fm:=mFn 0 nP
def lM:MS:=
 (nR (cZ (dM (aH (a2P (aX 0) (aX 2)) (aH (a2P (aX 1) (aX 2)) cF)))))
def lL:MS:=
 (aGE 2 3 (aH (aX 3) (aH (aG7 (aX 2) (aX 3)) cF)))
def lO:MS:=
 (cW (gF 2 (cZ (aCA (aX 0))))
  (cW (gF 3 (cZ (aX 1)))
  (cW (a0Z (fO (mGt (aX 3) (mC (.int 0))))
  lL)
  lM)))
def eG:Fm:=mFn 2 lO
def sX:MS:=
 (cW (gF 1 (cZ (a3V (a3V (a1K (cA (bZ penF 2 cN 0 (cT (mC (.int 1000)) dG))) (mC (.int 1000000))) (a1K (cA (bZ penF 2 cN 0 (cT (mC (.int 1000)) dG))) (mC (.int 1000)))) (cA (bZ penF 2 cN 0 (cT (mC (.int 1000)) dG))))))
  (iG penF (cZ (mIx (cA (jD (aH (aX 1) (aH (a9N (mC (.int 0)) (aX 1)) cF)))) (cA (bZ penF 2 cN 0 (cT (mC (.int 2)) dG)))))))
def oW:Lm Nat:=a3F penF 1 sX
def mH:MS:=
 (iG penF (dX 2 eG (cT (cA (bZ penF 1 oW 0 dG)) (cT (a3V (mC (.int 1)) (cA (bZ penF 2 cN 0 (cT (mC (.int 12)) dG)))) dG))))
def nG:MS:=
 (cW (mIf (fO (mGt (cA (bZ penF 2 cN 0 (cT (mC (.int 4)) dG))) (mC (.int 0))))
  (iG penF (cZ (dM (aH (a9N (cA (bZ penF 2 cN 0 (cT (mC (.int 7)) dG))) (mC (.int 3))) (aH (mC (.int 1)) cF)))))
  mNx)
  mH)
def fH:Lm Nat:=a3F penF 0 nG
def qM:MS:=
 (iG penF (a6J 4))
def qO:MS:=
 (cW (gF 3 (cZ (a3V (aX 3) (mIx (cA (jD (aH (mC (.int 0)) (aH (mC (.int 1)) (aH (mC (.int 2)) (aH (mC (.int 1)) (aH (mC (.int 0)) (aH (mC (.int 5)) cF)))))))) (cA (bZ penF 2 cN 0 (cT (mC (.int 6)) dG)))))))
  (cW (gF 8 (cZ (cA (dX 2 eG (cT (aX 3) (cT (aX 2) dG))))))
  (cW (gF 9 (cZ (cA (bZ penF 2 cN 0 (cT (mC (.int 6)) dG)))))
  (mIf (a4Y (mOr (fO (mEq (aX 5) (cA (jD cF)))) (aDE (fO (mLt (aX 9) (mC (.int 3)))) (fO (mLt (a1H 5) (mC (.int 8)))))))
  (cW (kY 4 (dM (aH (mC (.str "join")) (aH (aX 8) (aH (cA (bZ penF 1 fH 0 dG)) (aH (cA (bZ penF 1 fH 0 dG)) cF))))))
  (cW (kY 5 (aX 6))
  (gF 6 (cZ (a3V (aX 6) (mC (.int 1)))))))
  (mIf (fO (mEq (aX 9) (mC (.int 3))))
  (kY 4 (dM (aH (mC (.str "leave")) (aH (aX 8) (aH (a4M 5 (cA (bZ penF 2 cN 0 (cT (a1H 5) dG)))) cF)))))
  (kY 4 (dM (aH (mC (.str "turn")) (aH (aX 8) (aH (a4O 5 (cA (bZ penF 2 cN 0 (cT (a1H 5) dG)))) (aH (cA (bZ penF 1 fH 0 dG)) cF)))))))))))
def sE:MS:=
 (cW (gF 2 (cZ (mIx (cA (jD (aH (mC (.int 1)) (aH (mC (.int 1)) (aH (a3V (mC (.int 1)) (cA (bZ penF 2 cN 0 (cT (mC (.int 12)) dG)))) cF))))) (cA (bZ penF 2 cN 0 (cT (mC (.int 3)) dG))))))
  (cW (gF 3 (cZ (a9N (cA (bZ penF 2 cN 0 (cT (mC (.int 41)) dG))) (mC (.int 20)))))
  (cW (gF 4 (jD cF))
  (cW (gF 5 (jD cF))
  (cW (gF 6 (cZ (mC (.int 0))))
  (cW (aCC (a3B (aH (aX 1) cF)) (gN 7)
  qO)
  qM))))))
def lK:Lm Nat:=a3F penF 8 sE
def iW (c:Addr):MS:=
 (cW (gF 2 (cZ (t7 c 0)))
  (cW (a0X c 0 (aX 1) (aX 2))
  (cW (vD c 0 1)
  (iG (bF c) (cZ (aX 2))))))
def fU (c:Addr):Lm FS:=a3F (bF c) 1 (iW c)
def tH (c:Addr):MS:=
 (iG (bF c) (cZ (mC .none)))
def tU (c:Addr):MS:=
 (cW (mIf (fO (mEq (mIx (aX 1) (mC (.int 0))) (mC (.str "leave"))))
  (a7Q (a6Z c 0 (mIx (aX 1) (mC (.int 2)))))
  (cW (gF 2 (cZ (cA (dX 2 lX (cT (aC9 c 0 (mIx (aX 1) (mC (.int 2)))) (cT (mIx (aX 1) (mC (.int 1))) dG))))))
  (a0X c 0 (cA (dX 3 dZ (cT (mIx (aX 1) (mC (.int 1))) (cT (aX 2) (cT (mIx (aX 1) (mC (.int 3))) dG))))) (mIx (aX 1) (mC (.int 2))))))
  (tH c))
def a65 (c:Addr):MS:=
 (cW (vC c 0 (mIx (aX 1) (mC (.int 1))))
  (cW (mIf (fO (mEq (mIx (aX 1) (mC (.int 0))) (mC (.str "join"))))
  (iG (bF c) (bZ (bF c) 2 (fU c) 0 (cT (cA (dX 3 dZ (cT (mIx (aX 1) (mC (.int 1))) (cT (mIx (aX 1) (mC (.int 2))) (cT (mIx (aX 1) (mC (.int 3))) dG))))) dG)))
  mNx)
  (tU c)))
def a04 (c:Addr):Lm FS:=a3F (bF c) 1 (a65 c)
def f9 (c:Addr):MS:=
 (iG (bF c) (cZ (aBB c 0 (mIx (aX 1) (mC (.int 2))))))
def dW (c:Addr):MS:=
 (cW (mIf (fO (mEq (mIx (aX 1) (mC (.int 0))) (mC (.str "join"))))
  (iG (bF c) (cZ (mLt (a3Y c 0) (mC (.int 8)))))
  mNx)
  (f9 c))
def mF (c:Addr):MS:=
 (cW (mIf (aDE (fO (aB2 (vK c 0))) (fO (cA (dX 2 oA (cT (mIx (aX 1) (mC (.int 1))) (cT (vK c 0) dG))))))
  (iG (bF c) (cZ (mC (.bool false))))
  mNx)
  (dW c))
def gQ (c:Addr):Lm FS:=a3F (bF c) 0 (mF c)
def gU:MS:=
 (nR (cZ (sZ (mLe (aCA (mIx (aX 0) (mC (.int 0)))) (mC (.int 999999999))) (mLe (mIx (aX 0) (mC (.int 1))) (mC (.int 12))))))
def gA:MS:=
 (cW (mIf (zJ (fO (cA (dX 1 jT (cT (aX 0) dG)))))
  (nR (cZ (mC (.bool false))))
  mNx)
  gU)
def cJ:Fm:=mFn 0 gA
def qP:MS:=
 (nR (cZ (mC (.bool false))))
def qQ:MS:=
 (cW (mIf (fO (mEq (mIx (aX 0) (mC (.int 0))) (mC (.str "turn"))))
  (nR (cZ (sZ (mEq (a8H (aX 0)) (mC (.int 4))) (sZ (cA (dX 1 dD (cT (mIx (aX 0) (mC (.int 2))) dG))) (sZ (cA (dX 1 cJ (cT (mIx (aX 0) (mC (.int 1))) dG))) (cA (dX 1 cJ (cT (mIx (aX 0) (mC (.int 3))) dG))))))))
  mNx)
  qP)
def qX:MS:=
 (cW (mIf (fO (mEq (mIx (aX 0) (mC (.int 0))) (mC (.str "leave"))))
  (nR (cZ (sZ (mEq (a8H (aX 0)) (mC (.int 3))) (sZ (cA (dX 1 cJ (cT (mIx (aX 0) (mC (.int 1))) dG))) (cA (dX 1 dD (cT (mIx (aX 0) (mC (.int 2))) dG)))))))
  mNx)
  qQ)
def q9:MS:=
 (cW (mIf (fO (mEq (mIx (aX 0) (mC (.int 0))) (mC (.str "join"))))
  (nR (cZ (sZ (mEq (a8H (aX 0)) (mC (.int 4))) (aJ3 (cA (a2T 1 [] (aGO (aGW (aX 0) (pSo (mC (.int 1))) pNo)) (gN 0) a5N (cA (dX 1 cJ (cT (aX 0) dG)))))))))
  mNx)
  qX)
def sJ:MS:=
 (cW (mIf (mOr (zJ (fO (a8X "tuple" (aX 0)))) (mOr (fO (mLt (a8H (aX 0)) (mC (.int 3)))) (zJ (fO (a8X "str" (mIx (aX 0) (mC (.int 0))))))))
  (nR (cZ (mC (.bool false))))
  mNx)
  q9)
def kW:Fm:=mFn 1 sJ
def oZ (xa:XA)(c:Addr):MS:=
 (nR (rZ (aX 0)))
def oM (xa:XA)(c:Addr):MS:=
 (a7Q (cA (bZ (bF c) 2 (a04 c) 1 (cT (aX 3) dG))))
def jQ (xa:XA)(c:Addr):MS:=
 (cW (mIf (mOr (fO (mEq (aX 2) (mC (.int 40)))) (mOr (zJ (fO (cA (dX 1 kW (cT (aX 3) dG))))) (zJ (fO (cA (bZ (bF c) 2 (gQ c) 1 (cT (aX 3) dG)))))))
  (a0S xa.nl "at" (aH (aX 2) cF))
  mNx)
  (oM xa c))
def o9 (xa:XA)(c:Addr):MS:=
 (cW (gF 1 (a6M c))
  (cW (aCC (aHW (aX 0)) (gT 2 (uK (gN 2) (uK (gN 3) a85)))
  (jQ xa c))
  (oZ xa c)))
def mD (xa:XA)(c:Addr):MS:=
 (cW (mIf (zJ (fO (a8X "list" (aX 0))))
  (a0S xa.nl "at" (aH (mC (.int 0)) cF))
  mNx)
  (o9 xa c))
def dU (xa:XA)(c:Addr):Fm:=mFn 3 (mD xa c)
def oG:Fm:=fun as Q=>∀ xa c,dU xa c as fun rv=>aG3 rv∧Q rv
def iH:MS:=
 (cW (gF 1 (cZ (cA (jD (aH (dM (aH (mC (.int 1000000000)) (aH (mC (.int 1)) cF))) (aH (dM (aH (aE9 (mC (.int 1000000000))) (aH (mC (.int 1)) cF))) (aH (dM (aH (mC (.int 1)) (aH (mC (.int 13)) cF))) (aH (dM (aH (mC (.int 2)) (aH (mC (.int 4)) cF))) (aH (dM (aH (mC (.int 0)) (aH (mC (.int 2)) cF))) (aH (dM (aH (mC (.int 1)) (aH (mC (.int 0)) cF))) (aH (dM (aH (mC (.int 1)) (aH (aE9 (mC (.int 1))) cF))) (aH (dM (aH (mC (.bool true)) (aH (mC (.int 1)) cF))) (aH (dM (aH (mC (.int 1)) (aH (mC (.bool true)) cF))) (aH (dM (aH (mC (.int 1)) cF)) (aH (mC (.int 3)) cF)))))))))))))))
  (cW (gF 1 (cZ (cA (vG (aX 1) (cA (jD (aH (mC .none) (aH (dM (aH (mC (.int 1)) (aH (mC (.int 2)) (aH (mC (.int 3)) cF)))) (aH (cA (jD (aH (mC (.int 1)) (aH (mC (.int 1)) cF)))) (aH (mC (.str "1")) (aH (dM (aH (mC (.int 100000000000000000000000000000000000000000000000000000000000)) (aH (mC (.int 7)) cF))) (aH (dM cF) (aH (dM (aH (mC (.int 1)) (aH (mC .none) cF))) cF)))))))))))))
  (iG penF (cZ (mIx (aX 1) (cA (bZ penF 2 cN 0 (cT (a8H (aX 1)) dG))))))))
def fB:Lm Nat:=a3F penF 1 iH
def pK:MS:=
 (cW (gF 2 (cZ (cA (a2T 1 [] (aGB (cA (a7D (aX 0) pNo (pSo (aX 1))))) (gN 0) (fO (mEq (mIx (aX 0) (mC (.int 0))) (mC (.str "leave")))) (mIx (aX 0) (mC (.int 2)))))))
  (nR (cZ (mIx (cA (vG (aX 2) (cA (jD (aH (mC (.int 40)) cF))))) (mC (.int 0))))))
def lY:Fm:=mFn 2 pK
def qC:MS:=
 (cW (gF 6 (cZ (mIx (cA (jD (aH (aE9 (mC (.int 1))) (aH (mC (.int 41)) (aH (mC (.int 100000000000000000000000000000000000000000000000000000000000)) (aH (mC (.bool true)) (aH (mC (.bool false)) (aH (mC .none) (aH (mC (.str "0")) (aH (dM (aH (mC (.int 0)) (aH (mC (.int 1)) cF))) (aH (cA (jD (aH (mC (.int 0)) cF))) (aH (mC (.int 99)) cF)))))))))))) (cA (bZ penF 2 cN 0 (cT (mC (.int 10)) dG))))))
  (iG penF (cZ (mIx (cA (jD (aH (dM (aH (mC (.str "leave")) (aH (aX 1) (aH (aX 6) cF)))) (aH (dM (aH (mC (.str "turn")) (aH (aX 1) (aH (aX 6) (aH (aX 2) cF))))) cF)))) (cA (bZ penF 2 cN 0 (cT (mC (.int 2)) dG)))))))
def qI:MS:=
 (cW (mIf (fO (mLt (aX 3) (mC (.int 6))))
  (cW (gF 5 (cZ (cA (bZ penF 1 fB 0 dG))))
  (cW (gF 4 (cZ (cA (jD (aH (dM (aH (mC (.str "join")) (aH (aX 5) (aH (aX 2) (aH (aX 2) cF))))) (aH (dM (aH (mC (.str "join")) (aH (aX 1) (aH (aX 5) (aH (aX 2) cF))))) (aH (dM (aH (mC (.str "join")) (aH (aX 1) (aH (aX 2) (aH (aX 5) cF))))) (aH (dM (aH (mC (.str "leave")) (aH (aX 5) (aH (mC (.int 0)) cF)))) cF))))))))
  (iG penF (cZ (mIx (cA (vG (aX 4) (cA (jD (aH (dM (aH (mC (.str "turn")) (aH (aX 5) (aH (mC (.int 0)) (aH (aX 2) cF))))) (aH (dM (aH (mC (.str "turn")) (aH (aX 1) (aH (mC (.int 0)) (aH (aX 5) cF))))) cF)))))) (cA (bZ penF 2 cN 0 (cT (mC (.int 6)) dG))))))))
  mNx)
  qC)
def qK:MS:=
 (cW (mIf (fO (mEq (aX 3) (mC (.int 1))))
  (cW (gF 4 (cZ (cA (jD (aH (dM (aH (mC (.str "joins")) (aH (aX 1) (aH (aX 2) (aH (aX 2) cF))))) (aH (dM (aH (mC (.str "Leave")) (aH (aX 1) (aH (mC (.int 0)) cF)))) (aH (dM (aH (mC .none) (aH (aX 1) (aH (mC (.int 0)) cF)))) (aH (dM (aH (mC (.int 0)) (aH (aX 1) (aH (mC (.int 0)) (aH (aX 2) cF))))) (aH (dM (aH (mC (.str "")) (aH (aX 1) (aH (mC (.int 0)) cF)))) cF)))))))))
  (cW (gF 4 (cZ (cA (vG (aX 4) (cA (jD (aH (dM (aH (mC (.str "join")) (aH (aX 1) (aH (aX 2) cF)))) (aH (dM (aH (mC (.str "join")) (aH (aX 1) (aH (aX 2) (aH (aX 2) (aH (aX 2) cF)))))) (aH (dM (aH (mC (.str "leave")) (aH (aX 1) cF))) (aH (dM (aH (mC (.str "turn")) (aH (aX 1) (aH (mC (.int 0)) cF)))) cF))))))))))
  (cW (gF 4 (cZ (cA (vG (aX 4) (cA (jD (aH (dM (aH (mC (.str "leave")) (aH (aX 1) (aH (mC (.int 0)) (aH (aX 2) cF))))) (aH (dM (aH (mC (.str "turn")) (aH (aX 1) (aH (mC (.int 0)) (aH (aX 2) (aH (mC (.int 0)) cF)))))) (aH (dM (aH (dM (aH (mC (.str "join")) cF)) (aH (aX 1) (aH (mC (.int 0)) cF)))) (aH (dM (aH (cA (jD (aH (mC (.str "join")) cF))) (aH (aX 1) (aH (mC (.int 0)) cF)))) cF))))))))))
  (iG penF (cZ (mIx (aX 4) (cA (bZ penF 2 cN 0 (cT (mC (.int 13)) dG)))))))))
  mNx)
  qI)
def u6:MS:=
 (cW (gF 2 (cZ (dM (aH (mC (.int 1)) (aH (mC (.int 1)) cF)))))
  (cW (gF 3 (cZ (cA (bZ penF 2 cN 0 (cT (mC (.int 9)) dG)))))
  (cW (mIf (fO (mEq (aX 3) (mC (.int 0))))
  (cW (gF 4 (cZ (cA (jD (aH (mC .none) (aH (mC (.int 7)) (aH (mC (.str "join")) (aH (cA (jD cF)) (aH (dM cF) (aH (mC (.bool true)) (aH a8V (aH (dM (aH (mC (.str "join")) cF)) (aH (cA (jD (aH (mC (.str "join")) (aH (aX 1) (aH (aX 2) (aH (aX 2) cF)))))) cF)))))))))))))
  (iG penF (cZ (mIx (cA (vG (aX 4) (cA (jD (aH (dM (aH (dM (aH (mC (.str "join")) (aH (aX 1) (aH (aX 2) (aH (aX 2) cF))))) cF)) cF))))) (cA (bZ penF 2 cN 0 (cT (mC (.int 10)) dG)))))))
  mNx)
  qK)))
def nW:Lm Nat:=a3F penF 5 u6
def gZ:MS:=
 (cW (gF 9 (cZ (cA (vG (cA (vG (cA (a7D (aX 1) pNo (pSo (aX 3)))) (cA (jD (aH (cA (bZ penF 2 nW 0 (cT (aX 4) dG))) cF))))) (cA (a7D (aX 1) (pSo (a3V (aX 3) (mC (.int 1)))) pNo))))))
  (iG penF (jD (aH (cA (vG (aX 9) (cA (aEM (cA (jD (aH (mC .none) cF))) (cA (bZ penF 2 cN 0 (cT (mC (.int 2)) dG))))))) (aH (aX 3) cF)))))
def kJ:MS:=
 (cW (mIf (fO (mEq (aX 2) (mC (.int 4))))
  (cW (gF 7 (cZ (cA (vG (cA (jD (aH (dM (aH (mC (.str "join")) (aH (dM (aH (mC (.int 5)) (aH (mC (.int 1)) cF))) (aH (dM (aH (mC (.int 0)) (aH (mC (.int 1)) cF))) (aH (dM (aH (mC (.int 0)) (aH (mC (.int 1)) cF))) cF))))) cF))) (cA (a2T 1 [] (a3B (aH (mC (.int 39)) cF)) (gN 0) (fO (mGt (aG7 (aX 0) (mC (.int 7))) (mC (.int 0)))) (dM (aH (mC (.str "turn")) (aH (dM (aH (mC (.int 5)) (aH (mC (.int 1)) cF))) (aH (mC (.int 0)) (aH (dM (aH (aX 0) (aH (mC (.int 7)) cF))) cF)))))))))))
  (cW (gF 7 (cZ (cA (a7D (cA (vG (aX 7) (cA (aEM (cA (jD (aH (dM (aH (mC (.str "turn")) (aH (dM (aH (mC (.int 5)) (aH (mC (.int 1)) cF))) (aH (mC (.int 0)) (aH (dM (aH (mC (.int 1)) (aH (mC (.int 1)) cF))) cF))))) cF))) (mC (.int 8)))))) pNo (pSo (mC (.int 40)))))))
  (iG penF (jD (aH (cA (vG (aX 7) (cA (jD (aH (mIx (cA (jD (aH (dM (aH (mC (.str "leave")) (aH (dM (aH (mC (.int 5)) (aH (mC (.int 1)) cF))) (aH (mC (.int 0)) cF)))) (aH (mC .none) (aH (dM (aH (mC (.str "turn")) (aH (dM (aH (mC (.int 6)) (aH (mC (.int 1)) cF))) (aH (mC (.int 0)) (aH (dM (aH (mC (.int 1)) (aH (mC (.int 1)) cF))) cF))))) cF))))) (cA (bZ penF 2 cN 0 (cT (mC (.int 3)) dG)))) cF))))) (aH (mC (.int 40)) cF))))))
  mNx)
  gZ)
def lV:MS:=
 (cW (mIf (fO (mEq (aX 2) (mC (.int 3))))
  (cW (gF 7 (cZ (cA (a2T 1 [] (a3B (aH (mC (.int 9)) cF)) (gN 0) a5N (dM (aH (mC (.str "join")) (aH (dM (aH (mC (.int 5)) (aH (mC (.int 1)) cF))) (aH (dM (aH (aX 0) (aH (mC (.int 1)) cF))) (aH (dM (aH (mC (.int 0)) (aH (mC (.int 1)) cF))) cF)))))))))
  (iG penF (jD (aH (cA (vG (aX 7) (cA (aEM (cA (jD (aH (mC .none) cF))) (cA (bZ penF 2 cN 0 (cT (mC (.int 2)) dG))))))) (aH (mC (.int 8)) cF)))))
  mNx)
  kJ)
def gY:MS:=
 (cW (mIf (fO (mEq (aX 2) (mC (.int 2))))
  (iG penF (jD (aH (cA (vG (cA (vG (cA (a7D (aX 1) pNo (pSo (aX 3)))) (cA (jD (aH (dM (aH (mC (.str "leave")) (aH (aX 4) (aH (cA (dX 2 lY (cT (aX 1) (cT (aX 3) dG)))) cF)))) cF))))) (cA (a7D (aX 1) (pSo (aX 3)) pNo)))) (aH (aX 3) cF))))
  mNx)
  lV)
def iC:MS:=
 (cW (mIf (aDE (fO (mEq (aX 2) (mC (.int 1)))) (fO (mGt (aX 3) (mC (.int 0)))))
  (cW (gF 5 (cZ (mIx (mIx (aX 1) (a9N (aX 3) (mC (.int 1)))) (mC (.int 1)))))
  (cW (gF 6 (cZ (cA (dX 2 eG (cT (a9N (a9N (a2P (mIx (aX 5) (mC (.int 0))) (mIx (aX 5) (mC (.int 1)))) (mC (.int 1))) (cA (bZ penF 2 cN 0 (cT (mC (.int 2)) dG)))) (cT (mC (.int 1)) dG))))))
  (iG penF (jD (aH (cA (vG (cA (vG (cA (a7D (aX 1) pNo (pSo (aX 3)))) (cA (jD (aH (dM (aH (mC (.str "join")) (aH (aX 6) (aH (aX 6) (aH (aX 6) cF))))) cF))))) (cA (a7D (aX 1) (pSo (a3V (aX 3) (mC (.int 1)))) pNo)))) (aH (aX 3) cF))))))
  mNx)
  gY)
def kZ:MS:=
 (cW (gF 2 (cZ (cA (bZ penF 2 cN 0 (cT (mC (.int 8)) dG)))))
  (cW (gF 3 (cZ (cA (bZ penF 2 cN 0 (cT (a8H (aX 1)) dG)))))
  (cW (gF 4 (cZ (mIx (mIx (aX 1) (aX 3)) (mC (.int 1)))))
  (cW (mIf (fO (mEq (aX 2) (mC (.int 0))))
  (iG penF (jD (aH (mIx (cA (jD (aH (mC .none) (aH (mC (.int 3)) (aH (mC (.str "log")) (aH (aCF (aX 1)) (aH a8V (aH (mC (.bool true)) (aH (dM (aH (mC (.str "join")) (aH (aX 4) (aH (aX 4) (aH (aX 4) cF))))) cF))))))))) (cA (bZ penF 2 cN 0 (cT (mC (.int 7)) dG)))) (aH (mC (.int 0)) cF))))
  mNx)
  iC))))
def iQ:Lm Nat:=a3F penF 8 kZ
def iT (xa:XA)(c:Addr):MS:=
 (nR (cZ (a7F 1 "at" [xa.nl])))
def iK (xa:XA)(c:Addr):MS:=
 (cW (mIf (mOr (fO (aCB 1 [(xa.nl,false)])) (fO (a8X "bool" (a7F 1 "at" [xa.nl]))))
  (nR (cZ (mC .none)))
  mNx)
  (iT xa c))
def gW (xa:XA)(c:Addr):MS:=
 (cW (gF 1 (cZ (mC .none)))
  (cW (v7 2 1 [xa.nl] 1 (dU xa c) (cT (aX 0) dG))
  (cW (mIf (mOr (zJ (fO (aCB 1 [(xa.nl,true)]))) (zJ (fO (aCB 1 [(xa.nl,true)]))))
  (nR (cZ (mC .none)))
  mNx)
  (iK xa c))))
def lJ (xa:XA)(c:Addr):Fm:=mFn 2 (gW xa c)
def gO:Fm:=fun as Q=>∀ xa c,lJ xa c as Q
def uE (KK:Fg)(c:Addr):MS:=
 (nR (cZ (mC (.bool true))))
def uH (KK:Fg)(c:Addr):MS:=
 (mIf (fO (mNe (cA (dX 1 oG (cT (cA (rZ (aX 4))) dG))) (aX 4)))
  (nR (cZ (mC (.bool false))))
  mNx)
def pA (KK:Fg)(c:Addr):MS:=
 (cW (gF 4 (cZ (cA (bZ penF 2 lK 2 (cT (aX 3) dG)))))
  (cW (aI0 (cA (bZ penF 2 iQ 2 (cT (aX 4) dG))) (gTL 2 (uK (gN 5) (uK (gN 6) a85))))
  (cW (gF 7 (cZ (a8Y (aX 5))))
  (cW (mIf (mOr (fO (mNe (cA (dX 1 oG (cT (cA (rZ (aX 4))) dG))) (aX 4))) (mOr (fO (mNe (cA (dX 1 gO (cT (aX 5) dG))) (aX 6))) (fO (aHX (a8Y (aX 5)) (aX 7)))))
  (nR (cZ (mC (.bool false))))
  mNx)
  (uH KK c)))))
def uN (KK:Fg)(c:Addr):MS:=
 (cW (gF 2 (aAL KK 0 1))
  (cW (gF 3 (cZ (a3V (mC (.int 1)) (cA (bZ penF 2 cN 2 (cT (mC (.int 10)) dG))))))
  (cW (mIf (fO (mEq (cA (bZ penF 2 cN 2 (cT (mC (.int 8)) dG))) (mC (.int 0))))
  (gF 3 (cZ (mC (.int 40))))
  mNx)
  (pA KK c))))
def sO (KK:Fg)(c:Addr):MS:=
 (cW (aCC (a3B (aH (mC (.int 6)) cF)) (gN 1)
  (uN KK c))
  (uE KK c))
section
variable (P0:Addr→Hp→Prop)(P:Program)(w:World)(K:Fg)(mg:Mg)(base:Heap)
abbrev cU:Prop:=Cal P w K mg base 1 "greatest_divisor" ["one", "other"] (spM P0 2 cV)
abbrev fJ:Prop:=Cal P w K mg base 1 "is_whole" ["thing"] (spM P0 1 dD)
abbrev eE:Prop:=Cal P w K mg base 2 "number_of" ["top", "bottom"] (spM P0 2 fM)
abbrev vI:Prop:=Cal P w K mg base 3 "sum_of" ["a", "b"] (spM P0 2 rM)
abbrev fZ:Prop:=Cal P w K mg base 3 "product_of" ["a", "b"] (spM P0 2 g8)
abbrev iI:Prop:=Cal P w K mg base 3 "difference_of" ["a", "b"] (spM P0 2 eQ)
abbrev cH:Prop:=Cal P w K mg base 1 "_law_take" ["_law_pen_here", "_law_many"] (spL P0 penF 2 cN)
abbrev dB:Prop:=Cal P w K mg base 1 "_law_lowest" ["_law_top", "_law_bottom"] (spM P0 2 eG)
abbrev pU:Prop:=Cal P w K mg base 2 "_law_far" ["_law_pen_here"] (spL P0 penF 1 oW)
abbrev lB:Prop:=Cal P w K mg base 3 "_law_small" ["_law_pen_here"] (spL P0 penF 1 fH)
abbrev mX:Prop:=Cal P w K mg base 4 "line_through" ["time", "place", "slope"] (spM P0 3 dZ)
abbrev uG:Prop:=Cal P w K mg base 4 "place_at" ["line", "time"] (spM P0 2 lX)
abbrev xP:Prop:=Cal P w K mg base 1 "is_less" ["a", "b"] (spM P0 2 oA)
abbrev tY:Prop:=Cal P w K mg base 2 "is_number" ["thing"] (spM P0 1 jT)
abbrev jY:Prop:=Cal P w K mg base 3 "is_deed_number" ["thing"] (spM P0 1 cJ)
abbrev yI:Prop:=Cal P w K mg base 4 "is_deed" ["thing"] (spM P0 1 kW)
abbrev gD:Prop:=Cal P w K mg base 2 "_law_no_number" ["_law_pen_here"] (spL P0 penF 1 fB)
abbrev pN:Prop:=Cal P w K mg base 3 "_law_bad" ["_law_pen_here", "_law_time"] (spL P0 penF 2 nW)
abbrev nA:Prop:=Cal P w K mg base 1 "_law_left" ["_law_log_here", "_law_at"] (spM P0 2 lY)
abbrev a99:Prop:=Cal P w K mg base 6 "log_of" ["thing"] (spM P0 1 oG)
abbrev uB:Prop:=Cal P w K mg base 7 "_law_refused" ["_law_thing"] (spM P0 1 gO)
abbrev oU:Prop:=Cal P w K mg base 4 "_law_spoilt" ["_law_pen_here", "_law_log_here"] (spL P0 penF 2 iQ)
abbrev uV:Prop:=Cal P w K mg base 4 "_law_log" ["_law_pen_here", "_law_many"] (spL P0 penF 2 lK)
end
theorem scM {N ps:List Str}{sc:Scope}(a:sc.kind=.function:=by rfl)(b:sc.isCoroutine=false:=by rfl)(c:sc.isGenerator=false:=by rfl)(d:N.Nodup:=by decide +kernel)(e:N.take ps.length=ps:=by rfl)(f:∀ x∈ps,sc.names.lookup x=some .local∨sc.names.lookup x=some .cell:=by decide +kernel)(g:∀ y∈sc.names,y.2≠.free:=by decide +kernel):FnScope N ps sc:=⟨a,b,c,d,e,f,g⟩
set_option hygiene false in
local macro_rules|`(tactic| walk_at "lc")=>`(tactic| first|exact Or.inl rfl|exact Or.inr rfl)
section
variable {P0:Addr→Hp→Prop}{P:Program}{w:World}{K:Fg}{mg:Mg}{base:Heap}{f:Addr}{fd:FuncData}
abbrev m9:Stmt:=top 10
theorem a01:FnScope ["thing"] ["thing"] (aQ m9):=scM
theorem z8  (F:Fun K "is_whole" "is_whole" m9 f fd)(B:Bl K mg)(Kt:Kit K) :
  FnOk P w K mg base CX0 1 f fd ["thing"] (spM P0 1 dD):=
 F.okV a01 rfl rfl fun cdv A outer s H E hr=>
 have hu:=hr.units
 ⟨_,(aU (bY (oR (bJ jR rfl B.isinstance_ boot_isinstance (aB (pv 0) (aB (lQ (v:=.ty "int") rfl B.int_ boot_int rfl) aK))) (uF (aCG (bJ jR rfl B.isinstance_ boot_isinstance (aB (pv 0) (aB (lQ (v:=.ty "bool") rfl B.bool_ boot_bool rfl) aK)))))))),
  ((cY (aZ (nU (tZ Kt (by decide) aF) (aF5 (tZ Kt (by decide) aF))))):VS P0 _ lZ)⟩
abbrev dJ:Stmt:=top 11
theorem sc_greatest_divisor:FnScope ["one", "other", "divisor", "rest", "left_over"] ["one", "other"] (aQ dJ):=scM
theorem nD  (F:Fun K "greatest_divisor" "greatest_divisor" dJ f fd)(B:Bl K mg)(Kt:Kit K) :
  FnOk P w K mg base CX0 1 f fd ["one", "other"] (spM P0 2 cV):=
 F.okV sc_greatest_divisor rfl rfl fun cdv A outer s H E hr=>
 have hu:=hr.units
 ⟨_,(aM (cL (i:=2) sc_greatest_divisor.nd rfl (by walk_at "lc") (bJ rQ rfl B.abs_ boot_abs (aB (pv 0) aK)))
   (aM (cL (i:=3) sc_greatest_divisor.nd rfl (by walk_at "lc") (bJ rQ rfl B.abs_ boot_abs (aB (pv 1) aK)))
   (aM (a0W PassesOwn.never (bL (wD hu) (pv 3) aD (bU _)) (aM (cL (i:=4) sc_greatest_divisor.nd rfl (by walk_at "lc") (bN kE (pv 2) (pv 3)))
   (aM (cL (i:=2) sc_greatest_divisor.nd rfl (by walk_at "lc") (pv 3))
   (aU (cL (i:=3) sc_greatest_divisor.nd rfl (by walk_at "lc") (pv 4))))))
   (aU (bY (pv 2)))))),
  ((aY (bO (aZ (a0M aF)))
   (aY (bO (aZ (a0M aF)))
   (aY (a0Q (bT (a5Z aF aG)) (aY (bO (aZ (a6E aF aF)))
   (aY (bO (aZ aF))
   (bO (aZ aF)))))
   (cY (aZ aF))))):VS P0 _ eO)⟩
abbrev jL:Stmt:=top 13
theorem sc_number_of:FnScope ["top", "bottom", "divisor"] ["top", "bottom"] (aQ jL):=scM
theorem wW  (F:Fun K "number_of" "number_of" jL f fd)(B:Bl K mg)(Kt:Kit K)
  (al:cU P0 P w K mg base)
  (af:fJ P0 P w K mg base) :
  FnOk P w K mg base CX0 2 f fd ["top", "bottom"] (spM P0 2 fM):=
 F.okV sc_number_of rfl rfl fun cdv A outer s H E hr=>
 have hu:=hr.units
 ⟨_,(aM (fG (PW.pt (pJ (jC (gM (aN af hr rfl (aB (pv 0) aK)))) (pJ (jC (gM (aN af hr rfl (aB (pv 1) aK)))) (p8 (bL (dR hu) (pv 1) aD (bU _)))))) (aU a7R) cP)
   (aM (cL (i:=2) sc_number_of.nd rfl (by walk_at "lc") (aN al hr rfl (aB (pv 0) (aB (pv 1) aK))))
   (aM (fG (bL wR (pv 1) aD (bU _)) (aU (cL (i:=2) sc_number_of.nd rfl (by walk_at "lc") (a7I a1A (pv 2)))) cP)
   (aU (bY (cO (aB (bN oV (pv 0) (pv 2)) (aB (bN oV (pv 1) (pv 2)) aK)))))))),
  ((aY (eX (jE (fK (mG (aL (cB (aV aF bA))))) (jE (fK (mG (aL (cB (aV aF bA))))) (bT (iD aF aG)))) a7J fC)
   (aY (bO (aZ (aL (cB (aV aF (aV aF bA))))))
   (aY (eX (bT (zW aF aG)) (bO (aZ (a0R aF))) fC)
   (cY (aZ (bD (aA (sY aF aF) (aA (sY aF aF) aO)))))))):VS P0 _ nM)⟩
abbrev rW:Stmt:=top 14
theorem a66:FnScope ["a", "b"] ["a", "b"] (aQ rW):=scM
theorem a3R  (F:Fun K "sum_of" "sum_of" rW f fd)(B:Bl K mg)(Kt:Kit K)
  (ai:eE P0 P w K mg base) :
  FnOk P w K mg base CX0 3 f fd ["a", "b"] (spM P0 2 rM):=
 F.okV a66 rfl rfl fun cdv A outer s H E hr=>
 have hu:=hr.units
 ⟨_,(aU (bY (aN ai hr rfl (aB (bN eZ (bN cR (bQ bB (pv 0) aD (fun _ _=>rfl)) (bQ bB (pv 1) aD (fun _ _=>rfl))) (bN cR (bQ bB (pv 1) aD (fun _ _=>rfl)) (bQ bB (pv 0) aD (fun _ _=>rfl)))) (aB (bN cR (bQ bB (pv 0) aD (fun _ _=>rfl)) (bQ bB (pv 1) aD (fun _ _=>rfl))) aK))))),
  ((cY (cB (aV (mQ (jZ (bR aF aG) (bR aF aG)) (jZ (bR aF aG) (bR aF aG))) (aV (jZ (bR aF aG) (bR aF aG)) bA)))):VS P0 _ vA)⟩
abbrev eY:Stmt:=top 15
theorem qY:FnScope ["a", "b"] ["a", "b"] (aQ eY):=scM
theorem rE  (F:Fun K "difference_of" "difference_of" eY f fd)(B:Bl K mg)(Kt:Kit K)
  (ai:eE P0 P w K mg base) :
  FnOk P w K mg base CX0 3 f fd ["a", "b"] (spM P0 2 eQ):=
 F.okV qY rfl rfl fun cdv A outer s H E hr=>
 have hu:=hr.units
 ⟨_,(aU (bY (aN ai hr rfl (aB (bN qW (bN cR (bQ bB (pv 0) aD (fun _ _=>rfl)) (bQ bB (pv 1) aD (fun _ _=>rfl))) (bN cR (bQ bB (pv 1) aD (fun _ _=>rfl)) (bQ bB (pv 0) aD (fun _ _=>rfl)))) (aB (bN cR (bQ bB (pv 0) aD (fun _ _=>rfl)) (bQ bB (pv 1) aD (fun _ _=>rfl))) aK))))),
  ((cY (cB (aV (sV (jZ (bR aF aG) (bR aF aG)) (jZ (bR aF aG) (bR aF aG))) (aV (jZ (bR aF aG) (bR aF aG)) bA)))):VS P0 _ gR)⟩
abbrev iM:Stmt:=top 16
theorem vY:FnScope ["a", "b"] ["a", "b"] (aQ iM):=scM
theorem vZ  (F:Fun K "product_of" "product_of" iM f fd)(B:Bl K mg)(Kt:Kit K)
  (ai:eE P0 P w K mg base) :
  FnOk P w K mg base CX0 3 f fd ["a", "b"] (spM P0 2 g8):=
 F.okV vY rfl rfl fun cdv A outer s H E hr=>
 have hu:=hr.units
 ⟨_,(aU (bY (aN ai hr rfl (aB (bN cR (bQ bB (pv 0) aD (fun _ _=>rfl)) (bQ bB (pv 1) aD (fun _ _=>rfl))) (aB (bN cR (bQ bB (pv 0) aD (fun _ _=>rfl)) (bQ bB (pv 1) aD (fun _ _=>rfl))) aK))))),
  ((cY (cB (aV (jZ (bR aF aG) (bR aF aG)) (aV (jZ (bR aF aG) (bR aF aG)) bA)))):VS P0 _ lA)⟩
abbrev nY:Stmt:=top 17
theorem a1J:FnScope ["a", "b"] ["a", "b"] (aQ nY):=scM
theorem a1R  (F:Fun K "is_less" "is_less" nY f fd)(B:Bl K mg)(Kt:Kit K) :
  FnOk P w K mg base CX0 1 f fd ["a", "b"] (spM P0 2 oA):=
 F.okV a1J rfl rfl fun cdv A outer s H E hr=>
 have hu:=hr.units
 ⟨_,(aU (bY (jW wR (bN cR (bQ bB (pv 0) aD (fun _ _=>rfl)) (bQ bB (pv 1) aD (fun _ _=>rfl))) (bN cR (bQ bB (pv 1) aD (fun _ _=>rfl)) (bQ bB (pv 0) aD (fun _ _=>rfl))) (bU _)))),
  ((cY (aZ (zW (jZ (bR aF aG) (bR aF aG)) (jZ (bR aF aG) (bR aF aG))))):VS P0 _ tW)⟩
abbrev m7:Stmt:=top 19
theorem z7:FnScope ["line", "time"] ["line", "time"] (aQ m7):=scM
theorem zY  (F:Fun K "place_at" "place_at" m7 f fd)(B:Bl K mg)(Kt:Kit K)
  (b6:vI P0 P w K mg base)
  (am:fZ P0 P w K mg base) :
  FnOk P w K mg base CX0 4 f fd ["line", "time"] (spM P0 2 lX):=
 F.okV z7 rfl rfl fun cdv A outer s H E hr=>
 have hu:=hr.units
 ⟨_,(aU (bY (aN b6 hr rfl (aB (bQ bB (pv 0) aD (fun _ _=>rfl)) (aB (aN am hr rfl (aB (bQ bB (pv 0) aD (fun _ _=>rfl)) (aB (pv 1) aK))) aK))))),
  ((cY (cB (aV (bR aF aG) (aV (aL (cB (aV (bR aF aG) (aV aF bA)))) bA)))):VS P0 _ pX)⟩
abbrev fQ:Stmt:=top 20
theorem tV:FnScope ["time", "place", "slope"] ["time", "place", "slope"] (aQ fQ):=scM
theorem sS  (F:Fun K "line_through" "line_through" fQ f fd)(B:Bl K mg)(Kt:Kit K)
  (b7:iI P0 P w K mg base)
  (am:fZ P0 P w K mg base) :
  FnOk P w K mg base CX0 4 f fd ["time", "place", "slope"] (spM P0 3 dZ):=
 F.okV tV rfl rfl fun cdv A outer s H E hr=>
 have hu:=hr.units
 ⟨_,(aU (bY (cO (aB (aN b7 hr rfl (aB (pv 1) (aB (aN am hr rfl (aB (pv 2) (aB (pv 0) aK))) aK))) (aB (pv 2) aK))))),
  ((cY (aZ (bD (aA (aL (cB (aV aF (aV (aL (cB (aV aF (aV aF bA)))) bA)))) (aA aF aO))))):VS P0 _ iV)⟩
abbrev jX:Stmt:=top 12
theorem yC:FnScope ["thing"] ["thing"] (aQ jX):=scM
theorem wJ  (F:Fun K "is_number" "is_number" jX f fd)(B:Bl K mg)(Kt:Kit K)
  (al:cU P0 P w K mg base)
  (af:fJ P0 P w K mg base) :
  FnOk P w K mg base CX0 2 f fd ["thing"] (spM P0 1 jT):=
 F.okV yC rfl rfl fun cdv A outer s H E hr=>
 have hu:=hr.units
 ⟨_,(aM (fG (PW.pt (pJ (jC (gM (bJ jR rfl B.isinstance_ boot_isinstance (aB (pv 0) (aB (lQ (v:=.ty "tuple") rfl B.tuple_ boot_tuple rfl) aK))))) (p8 (bL (wD hu) (bJ cC rfl B.len_ boot_len (aB (pv 0) aK)) aD (bU _))))) (aU (bY nJ)) cP)
   (aM (fG (PW.pt (pJ (jC (gM (aN af hr rfl (aB (bQ bB (pv 0) aD (fun _ _=>rfl)) aK)))) (p8 (jC (gM (aN af hr rfl (aB (bQ bB (pv 0) aD (fun _ _=>rfl)) aK))))))) (aU (bY nJ)) cP)
   (aU (bY (oR (jW aCQ (bQ bB (pv 0) aD (fun _ _=>rfl)) aD (bU _)) (uF (jW (dR hu) (aN al hr rfl (aB (bQ bB (pv 0) aD (fun _ _=>rfl)) (aB (bQ bB (pv 0) aD (fun _ _=>rfl)) aK))) aD (bU _)))))))),
  ((aY (eX (jE (fK (mG (tZ Kt (by decide) aF))) (bT (a5Z (tM aF) aG))) (cY (aZ nH)) fC)
   (aY (eX (jE (fK (mG (aL (cB (aV (bR aF aG) bA))))) (fK (mG (aL (cB (aV (bR aF aG) bA)))))) (cY (aZ nH)) fC)
   (cY (aZ (nU (aIM (bR aF aG) aG) (iD (aL (cB (aV (bR aF aG) (aV (bR aF aG) bA)))) aG)))))):VS P0 _ nP)⟩
local macro_rules|`(tactic| walk_at "rd1")=>`(tactic| first
 | refine⟨_,rfl,?_⟩
 | refine⟨_,_,rfl,rfl,?_⟩
 | refine And.intro rfl ?_
 | refine And.intro (a5H rfl) ?_
 | refine⟨_,_,_,_,rfl,rfl,SqT.of (by assumption),rfl,?_⟩
 | refine⟨_,_,_,_,rfl,rfl,SqL.of (by assumption),rfl,?_⟩
 | refine⟨_,_,_,_,rfl,rfl,SqL.of aW,rfl,?_⟩
 | refine⟨_,_,_,_,rfl,rfl,(by assumption),rfl,?_⟩
 | refine⟨_,_,_,_,rfl,rfl,aW,rfl,?_⟩
 | refine⟨_,_,by assumption,by assumption,good_num _,good_num _,?_⟩
 | refine⟨_,_,by assumption,by assumption,good_line _,good_line _,?_⟩
 | refine And.intro (aDS (by assumption) (by assumption)) ?_
 | refine And.intro (.inl (by decide)) ?_
 | refine And.intro (CMul_mod (by decide) (by decide)) ?_
 | refine And.intro (.inr (by decide)) ?_
 | refine⟨_,_,rfl,.inl (by assumption),?_⟩
 | refine⟨_,_,rfl,.inr (SqT.of (by assumption)),?_⟩
 | refine And.intro (by assumption) ?_
 | refine And.intro ⟨by decide,by decide⟩ ?_
 | refine And.intro ⟨by decide,by decide,by decide⟩ ?_
 | refine And.intro (show(0:Int)<_ by decide) ?_
 | refine And.intro (by decide) ?_
 | refine⟨_,_,rfl,?_⟩)
local macro_rules|`(tactic| walk_at "rd")=>`(tactic| repeat walk_at "rd1")
abbrev oK:Stmt:=top 32
theorem sc_law_pen:FnScope ["_law_script", "_law_k", "_law_cell"] ["_law_script", "_law_k"] (aQ oK):=scM
theorem a2R  (F:Fun K "_law_pen" "_law_pen" oK f fd)(B:Bl K mg) :
  FnOk P w K mg base CX0 1 f fd ["_law_script", "_law_k"] (a08 K):=by
 refine F.ok sc_law_pen (fun vs H Q E h=>?_) (fun cdv A outer s H vs Q E hr h=>?_)
 ·obtain⟨a,ns,j,rfl,hS,j0,j1,q⟩:=h;rfl
 have hu:=hr.units;obtain⟨a,ns,j,rfl,hS,j0,j1,q⟩:=h;refine⟨_,(aM (cL (i:=2) sc_law_pen.nd rfl (Or.inl rfl) (bN eZ (bN eZ (bN cR (bN cR aD (pv 1)) (pv 1)) (bN cR aD (pv 1))) aD))
   (aM (fG (bL wR (pv 1) (bJ cC rfl B.len_ boot_len (aB (pv 0) aK)) (bU _)) (aU (cL (i:=2) sc_law_pen.nd rfl (Or.inl rfl) (bQ ix_list (pv 0) (pv 1) (fun _ _=>rfl)))) (aU (fG (bL a2M (bJ cC rfl B.len_ boot_len (aB (pv 0) aK)) aD (bU _)) (aU (cL (i:=2) sc_law_pen.nd rfl (Or.inl rfl) (bN eZ (bN kE (bQ ix_list (pv 0) (bN kE (bN cR (pv 1) aD) (bJ cC rfl B.len_ boot_len (aB (pv 0) aK))) (fun _ _=>rfl)) (lG (v:=100000000000000000) (by decide) ⟨by decide,by decide,by decide⟩)) (bN cR aD (pv 1))))) cP)))
   (aM (fG (bL aCQ (pv 2) (lG (v:=1000000000000000000) (by decide) ⟨by decide,by decide,by decide⟩) (bU _)) (aU (bY (iU (aB (bN qW (pv 2) (lG (v:=1000000000000000000) (by decide) ⟨by decide,by decide,by decide⟩)) (aB (bN eZ (bN kE (pv 2) aD) (pv 1)) (aB aD aK)))))) cP)
   (aU (bY (iU (aB aD (aB (bN eZ (bN kE (pv 2) aD) (bN cR aD (pv 1))) (aB aD aK))))))))),?_⟩
 have hl:(ns.map V.int).length=ns.length:=length_map _;have bs:∀ x:Int,0≤x→x<2147483648→LT.Bt 31 x:=fun x h1 h2=>by
  show x.natAbs<2^31;omega
 have a1:=bs j (by omega) (by omega);have a2:=bs 104729 (by decide) (by decide);have a3:=bs 7 (by decide) (by decide);have a4:=bs 65537 (by decide) (by decide);have a5:=bs 40503 (by decide) (by decide);have a6:=a2.mul a1;have fin:∀ cell x:Int,0≤x→x<100000000→0≤cell%2147483629+x∧cell%2147483629+x<1099511627776:=fun cell x h1 h2=>by
  have h3:=emod_nonneg cell (b:=2147483629) (by decide);have h4:=emod_lt_of_pos cell (b:=2147483629) (by decide);omega
 walk_at "!69K69K69K9966h96";refine dN (fun e=>?a) (fun e=>?b)
 case' a=>
  have e':j<(ns.length:Int):=by rw[hl] at e; exact e
  obtain⟨i,rfl⟩:∃ i:Nat,j=(i:Int):=⟨j.toNat,by omega⟩;have hi:i<ns.length:=by omega
  have hv:atI (ns.map V.int) (i:Int)=some (.int ns[i]):=by
   refine n8 ?_;rw[getElem?_map,getElem?_eq_getElem hi];rfl
  walk_at "!66";refine⟨_,_,_,_,rfl,rfl,hS,hv,?_⟩
 case' b=>
  walk_at "!6h96";refine dN (fun e2=>?b1) (fun e2=>?b2)
  case' b1=>
   have e3:0<(ns.length:Int):=by rw[hl] at e2; exact e2
   have h1:=emod_nonneg (j*7) (b:=(ns.length:Int)) (by omega);have h2:=emod_lt_of_pos (j*7) e3;obtain⟨i,hi0⟩:∃ i:Nat,j*7%(ns.length:Int)=(i:Int):=⟨(j*7%(ns.length:Int)).toNat,by omega⟩;have hi:i<ns.length:=by omega
   have hv:atI (ns.map V.int) (j*7%((ns.map V.int).length:Int))=some (.int ns[i]):=by
    rw[hl,hi0];refine n8 ?_;rw[getElem?_map,getElem?_eq_getElem hi];rfl
   have hpos:0<((ns.map V.int).length:Int):=by rw[hl]; exact e3
   walk_at "!669K6h9^";refine⟨_,_,_,_,rfl,rfl,hS,hv,?_⟩
 all_goals
  walk_at "rd";refine dN (fun e9=>?_) (fun e9=>?_)
  ·walk_at "!6969[69p";intro p hp;exact q _ _ _ hp (by omega) (fin _ _ (by omega) (by omega)).1 (fin _ _ (by omega) (by omega)).2
  ·walk_at "!69[69K9p";intro p hp;exact q _ _ _ hp (by decide) (fin _ _ (by omega) (by omega)).1 (fin _ _ (by omega) (by omega)).2
local macro_rules|`(tactic| walk_at "rd1")=>`(tactic| first
 | refine⟨_,rfl,?_⟩
 | refine⟨_,_,rfl,rfl,?_⟩
 | refine And.intro rfl ?_
 | refine And.intro (a5H rfl) ?_
 | refine⟨_,_,_,_,rfl,rfl,SqT.of (by assumption),rfl,?_⟩
 | refine⟨_,_,_,_,rfl,rfl,SqL.of (by assumption),rfl,?_⟩
 | refine⟨_,_,_,_,rfl,rfl,SqL.of aW,rfl,?_⟩
 | refine⟨_,_,_,_,rfl,rfl,(by assumption),rfl,?_⟩
 | refine⟨_,_,_,_,rfl,rfl,aW,rfl,?_⟩
 | refine⟨_,_,by assumption,by assumption,good_num _,good_num _,?_⟩
 | refine⟨_,_,by assumption,by assumption,good_line _,good_line _,?_⟩
 | refine And.intro (aDS (by assumption) (by assumption)) ?_
 | refine And.intro (.inl (by decide)) ?_
 | refine And.intro (CMul_mod (by decide) (by decide)) ?_
 | refine And.intro (.inr (by decide)) ?_
 | refine⟨_,_,rfl,.inl (by assumption),?_⟩
 | refine⟨_,_,rfl,.inr (SqT.of (by assumption)),?_⟩
 | refine And.intro (by assumption) ?_
 | refine And.intro ⟨by decide,by decide⟩ ?_
 | refine And.intro ⟨by decide,by decide,by decide⟩ ?_
 | refine And.intro (show(0:Int)<_ by decide) ?_
 | refine And.intro (by decide) ?_
 | refine⟨_,_,rfl,?_⟩)
local macro_rules|`(tactic| walk_at "rd")=>`(tactic| repeat walk_at "rd1")
abbrev jF:Stmt:=top 33
theorem sc_law_take:FnScope ["_law_pen_here", "_law_many", "_law_digit", "_law_number"] ["_law_pen_here", "_law_many"] (aQ jF):=scM
theorem zG  (F:Fun K "_law_take" "_law_take" jF f fd)(B:Bl K mg) :
  FnOk P w K mg base CX0 1 f fd ["_law_pen_here", "_law_many"] a6D:=by
 refine F.ok sc_law_take (fun vs H Q E h=>?_) (fun cdv A outer s H vs Q E hr h=>?_)
 ·obtain⟨pen,m,z,c,k,n,rfl,hp,hz,hc,hc2,hk,hkn,hn,hm,hm2,q⟩:=h;rfl
 have hu:=hr.units;obtain⟨pen,m,z,c,k,n,rfl,hp,hz,hc,hc2,hk,hkn,hn,hm,hm2,q⟩:=h;refine⟨_,(aM (fG (bL a2M (bQ ix_list (pv 0) aD (fun _ _=>rfl)) aD (bU _)) (aM (cL (i:=2) sc_law_take.nd rfl (Or.inl rfl) (bN kE (bQ ix_list (pv 0) aD (fun _ _=>rfl)) (pv 1)))
   (aM (a4R (bN a68 (bQ ix_list (pv 0) aD (fun _ _=>rfl)) (pv 1)) (a9J (pv 0) aD set_list))
   (aU (bY (pv 2))))) cP)
   (aM (a4R (bN eZ (bQ ix_list (pv 0) aD (fun _ _=>rfl)) aD) (a9J (pv 0) aD set_list))
   (aM (cL (i:=3) sc_law_take.nd rfl (Or.inl rfl) (bN kE (bN cR (bN kE (bN eZ (bQ ix_list (pv 0) aD (fun _ _=>rfl)) (bN cR (bN cR (bQ ix_list (pv 0) aD (fun _ _=>rfl)) (bQ ix_list (pv 0) aD (fun _ _=>rfl))) aD)) aD) aD) aD))
   (aM (cL (i:=3) sc_law_take.nd rfl (Or.inl rfl) (bN kE (bN eZ (bN eZ (bN cR (pv 3) (pv 3)) (bN cR aD (pv 3))) (bQ ix_list (pv 0) aD (fun _ _=>rfl))) aD))
   (aU (bY (bN kE (bN a68 (pv 3) aD) (pv 1)))))))),?_⟩
 have hcd:aIN z m:=⟨hm,hm2⟩;walk_at "!6_96";refine dN (fun e=>?_) (fun e=>?_)
 ·walk_at "!6_69^6_69^6q6";exact q _ _ (emod_nonneg _ (by omega)) (emod_lt_of_pos _ hm) ⟨z/m,c,k,aW,Int.ediv_nonneg hz (by omega),hc,hc2,hk,by omega⟩ (wZ _)
 ·have bm:∀ x y:Int,0<y→y<2147483648→LT.Bt 31 (x%y):=fun x y h1 h2=>by
   have:=emod_nonneg x (b:=y) (by omega);have:=emod_lt_of_pos x h1
   show(x%y).natAbs<2^31
   omega
  have bs:∀ x:Int,0≤x→x<2147483648→LT.Bt 31 x:=fun x h1 h2=>by
   show x.natAbs<2^31;omega
  have a1:=bs (k+1) (by omega) (by omega);have a2:=bs 7919 (by decide) (by decide);have a3:=bs 48271 (by decide) (by decide);have a4:=bs 69621 (by decide) (by decide);have a5:=a1.mul a1;have a6:=bm (c+(k+1)*(k+1)*7919) 2147483629 (by decide) (by decide);have a7:=bm ((c+(k+1)*(k+1)*7919)%2147483629*48271) 2147483587 (by decide) (by decide);walk_at "!6_96q6`6`6`9K9K99[9K9[669K69K96`99[69z69^";exact q _ _ (emod_nonneg _ (by omega)) (emod_lt_of_pos _ hm) ⟨z,c,k+1,aW,hz,hc,hc2,by omega,by omega⟩ (wZ _)
theorem wG  (F:Fun K "_law_take" "_law_take" jF f fd)(B:Bl K mg) :
  FnOk P w K mg base CX0 1 f fd ["_law_pen_here", "_law_many"] (spL P0 penF 2 cN):=(zG F B).imp a93
abbrev iR:Stmt:=top 34
theorem sc_law_lowest:FnScope ["_law_top", "_law_bottom", "_law_one", "_law_other"] ["_law_top", "_law_bottom"] (aQ iR):=scM
theorem vQ  (F:Fun K "_law_lowest" "_law_lowest" iR f fd)(B:Bl K mg)(Kt:Kit K) :
  FnOk P w K mg base CX0 1 f fd ["_law_top", "_law_bottom"] (spM P0 2 eG):=
 F.okV sc_law_lowest rfl rfl fun cdv A outer s H E hr=>
 have hu:=hr.units
 ⟨_,(aM (cL (i:=2) sc_law_lowest.nd rfl (by walk_at "lc") (bJ rQ rfl B.abs_ boot_abs (aB (pv 0) aK)))
   (aM (cL (i:=3) sc_law_lowest.nd rfl (by walk_at "lc") (pv 1))
   (aM (a0W PassesOwn.never (bL a2M (pv 3) aD (bU _)) (aU (aEO (i:=2) (j:=3) rfl sc_law_lowest.nd rfl rfl (by decide) rfl rfl (aB (pv 3) (aB (bN kE (pv 2) (pv 3)) aK)) rfl)))
   (aU (bY (cO (aB (bN oV (pv 0) (pv 2)) (aB (bN oV (pv 1) (pv 2)) aK)))))))),
  ((aY (bO (aZ (a0M aF)))
   (aY (bO (aZ aF))
   (aY (a0Q (bT (a87 aF aG)) (aDF (aA aF (aA (a6E aF aF) aO))))
   (cY (aZ (bD (aA (sY aF aF) (aA (sY aF aF) aO)))))))):VS P0 _ lO)⟩
abbrev oF:Stmt:=top 35
theorem sc_law_far:FnScope ["_law_pen_here", "_law_number"] ["_law_pen_here"] (aQ oF):=scM
theorem a2Z  (F:Fun K "_law_far" "_law_far" oF f fd)(B:Bl K mg)(Kt:Kit K)
  (a8:cH P0 P w K mg base) :
  FnOk P w K mg base CX0 2 f fd ["_law_pen_here"] (spL P0 penF 1 oW):=
 F.okL sc_law_far rfl rfl fun cdv A outer s H E hr=>
 have hu:=hr.units
 ⟨_,(aM (cL (i:=1) sc_law_far.nd rfl (by walk_at "lc") (bN eZ (bN eZ (bN cR (aN a8 hr rfl (aB (pv 0) (aB aD aK))) (lG (v:=1000000) (by decide) ⟨by decide,by decide,by decide⟩)) (bN cR (aN a8 hr rfl (aB (pv 0) (aB aD aK))) aD)) (aN a8 hr rfl (aB (pv 0) (aB aD aK)))))
   (aU (bY (bQ bB (iU (aB (pv 1) (aB (bN qW aD (pv 1)) aK))) (aN a8 hr rfl (aB (pv 0) (aB aD aK))) (fun _ _=>rfl))))),
  ((aY (bO (aZ (mQ (mQ (jZ (aL (bH (aV aG bA))) aG) (jZ (aL (bH (aV aG bA))) aG)) (aL (bH (aV aG bA))))))
   (cX (aZ (bR (aL (cI (aA aF (aA (sV aG aF) aO)))) (aL (bH (aV aG bA))))))):VS P0 _ sX)⟩
abbrev jN:Stmt:=top 36
theorem xJ:FnScope ["_law_pen_here"] ["_law_pen_here"] (aQ jN):=scM
theorem xV  (F:Fun K "_law_small" "_law_small" jN f fd)(B:Bl K mg)(Kt:Kit K)
  (aj:dB P0 P w K mg base)
  (a8:cH P0 P w K mg base)
  (b8:pU P0 P w K mg base) :
  FnOk P w K mg base CX0 3 f fd ["_law_pen_here"] (spL P0 penF 1 fH):=
 F.okL xJ rfl rfl fun cdv A outer s H E hr=>
 have hu:=hr.units
 ⟨_,(aM (fG (bL a2M (aN a8 hr rfl (aB (pv 0) (aB aD aK))) aD (bU _)) (aU (bY (cO (aB (bN qW (aN a8 hr rfl (aB (pv 0) (aB aD aK))) aD) (aB aD aK))))) cP)
   (aU (bY (aN aj hr rfl (aB (aN b8 hr rfl (aB (pv 0) aK)) (aB (bN eZ aD (aN a8 hr rfl (aB (pv 0) (aB aD aK)))) aK)))))),
  ((aY (eX (bT (a87 (aL (bH (aV aG bA))) aG)) (cX (aZ (bD (aA (sV (aL (bH (aV aG bA))) aG) (aA aG aO))))) fC)
   (cX (cB (aV (aL (bH bA)) (aV (mQ aG (aL (bH (aV aG bA)))) bA))))):VS P0 _ nG)⟩
abbrev oJ:Stmt:=top 37
theorem sc_law_log:FnScope ["_law_pen_here", "_law_many", "_law_parts", "_law_turn", "_law_log_here", "_law_running", "_law_joined", "_law_k", "_law_time", "_law_way"] ["_law_pen_here", "_law_many"] (aQ oJ):=scM
theorem a1U  (F:Fun K "_law_log" "_law_log" oJ f fd)(B:Bl K mg)(Kt:Kit K)
  (ao:lB P0 P w K mg base)
  (a8:cH P0 P w K mg base)
  (aj:dB P0 P w K mg base) :
  FnOk P w K mg base CX0 4 f fd ["_law_pen_here", "_law_many"] (spL P0 penF 2 lK):=
 F.okL sc_law_log rfl rfl fun cdv A outer s H E hr=>
 have hu:=hr.units
 ⟨_,(aM (cL (i:=2) sc_law_log.nd rfl (by walk_at "lc") (bQ bB (iU (aB aD (aB aD (aB (bN eZ aD (aN a8 hr rfl (aB (pv 0) (aB aD aK)))) aK)))) (aN a8 hr rfl (aB (pv 0) (aB aD aK))) (fun _ _=>rfl)))
   (aM (cL (i:=3) sc_law_log.nd rfl (by walk_at "lc") (bN qW (aN a8 hr rfl (aB (pv 0) (aB aD aK))) aD))
   (aM (cL (i:=4) sc_law_log.nd rfl (by walk_at "lc") (iU aK))
   (aM (cL (i:=5) sc_law_log.nd rfl (by walk_at "lc") (iU aK))
   (aM (cL (i:=6) sc_law_log.nd rfl (by walk_at "lc") aD)
   (aM (a5M PassesOwn.never rfl (oX rfl B.range_ (aB (pv 1) aK)) (jA (i:=7) sc_law_log.nd rfl (by walk_at "lc")) (aM (cL (i:=3) sc_law_log.nd rfl (by walk_at "lc") (bN eZ (pv 3) (bQ bB (iU (aB aD (aB aD (aB aD (aB aD (aB aD (aB aD aK))))))) (aN a8 hr rfl (aB (pv 0) (aB aD aK))) (fun _ _=>rfl))))
   (aM (cL (i:=8) sc_law_log.nd rfl (by walk_at "lc") (aN aj hr rfl (aB (pv 3) (aB (pv 2) aK))))
   (aM (cL (i:=9) sc_law_log.nd rfl (by walk_at "lc") (aN a8 hr rfl (aB (pv 0) (aB aD aK))))
   (aU (fG (PW.pt (pJ (bL (dR hu) (pv 5) (iU aK) (bU _)) (p8 (PW.pt (a3Q (bL wR (pv 9) aD (bU _)) (a02 (bL wR (bJ cC rfl B.len_ boot_len (aB (pv 5) aK)) aD (bU _)))))))) (aM (pH (a4K PySem.F.plainAttrs_list PySem.F.slot_list_append PySem.F.type_list_append o8 (pv 4) (aB (cO (aB bW (aB (pv 8) (aB (aN ao hr rfl (aB (pv 0) aK)) (aB (aN ao hr rfl (aB (pv 0) aK)) aK))))) aK)))
   (aM (pH (a4K PySem.F.plainAttrs_list PySem.F.slot_list_append PySem.F.type_list_append o8 (pv 5) (aB (pv 6) aK)))
   (aU (cL (i:=6) sc_law_log.nd rfl (by walk_at "lc") (bN eZ (pv 6) aD))))) (aU (fG (bL (dR hu) (pv 9) aD (bU _)) (aU (pH (a4K PySem.F.plainAttrs_list PySem.F.slot_list_append PySem.F.type_list_append o8 (pv 4) (aB (cO (aB bW (aB (pv 8) (aB (a4K PySem.F.plainAttrs_list PySem.F.slot_list_pop PySem.F.type_list_pop a7K (pv 5) (aB (aN a8 hr rfl (aB (pv 0) (aB (bJ cC rfl B.len_ boot_len (aB (pv 5) aK)) aK))) aK)) aK)))) aK)))) (aU (pH (a4K PySem.F.plainAttrs_list PySem.F.slot_list_append PySem.F.type_list_append o8 (pv 4) (aB (cO (aB bW (aB (pv 8) (aB (bQ bB (pv 5) (aN a8 hr rfl (aB (pv 0) (aB (bJ cC rfl B.len_ boot_len (aB (pv 5) aK)) aK))) (fun _ _=>rfl)) (aB (aN ao hr rfl (aB (pv 0) aK)) aK))))) aK))))))))))))
   (aU (bY (pv 4))))))))),
  ((aY (bO (aZ (bR (aL (cI (aA aG (aA aG (aA (mQ aG (aL (bH (aV aG bA)))) aO))))) (aL (bH (aV aG bA))))))
   (aY (bO (aZ (sV (aL (bH (aV aG bA))) aG)))
   (aY (bO (cI aO))
   (aY (bO (cI aO))
   (aY (bO (aZ aG))
   (aY (a9K (vR (aA aF aO)) j7 (aY (bO (aZ (mQ aF (bR (aL (cI (aA aG (aA aG (aA aG (aA aG (aA aG (aA aG aO)))))))) (aL (bH (aV aG bA)))))))
   (aY (bO (aZ (aL (cB (aV aF (aV aF bA))))))
   (aY (bO (aZ (aL (bH (aV aG bA)))))
   (eX (a96 (jE (bT (iD aF (aL (cI aO)))) (zQ (bT (zW aF aG)) (bT (zW zF aG))))) (aY (p7 (bD (aA bV (aA aF (aA (aL (bH bA)) (aA (aL (bH bA)) aO))))))
   (aY (p7 aF)
   (bO (aZ (mQ aF aG))))) (eX (bT (iD aF aG)) (p7 (bD (aA bV (aA aF (aA (a89 (aL (bH (aV zF bA)))) aO))))) (p7 (bD (aA bV (aA aF (aA (a8O (aL (bH (aV zF bA)))) (aA (aL (bH bA)) aO))))))))))))
   (cX aAN))))))):VS P0 _ sE)⟩
abbrev vW:Stmt:=inClass (top 23) 0
theorem a70:FnScope ["self"] ["self"] (aQ vW):=scM
theorem aJ6 {H:Hp}{w:Addr}{o o':HO}:upd (upd H w o) w o'=upd H w o':=by
 funext b
 by_cases h:b=w
 ·rw[h,aW,aW]
 ·rw[aR h,aR h,aR h]
theorem a2W  {c:Addr}(cl:Cls K c)(n_running:NoAttr K c "running")(n_joined:NoAttr K c "joined")(n_last:NoAttr K c "last")(F:Fun K "__init__" "Field.__init__" vW f fd)(B:Bl K mg):FnOk P w K mg base CX0 1 f fd ["self"] (uY c):=by
 refine F.ok a70 (fun vs H Q E h=>?_) (fun cdv A outer s H vs Q E hr h=>?_)
 ·obtain⟨w,d,rfl,_⟩:=h;rfl
 have hu:=hr.units;obtain⟨w,d,rfl,hw,q⟩:=h;refine⟨_,(aM (a0K (pv 0) a8M rfl) (aM (a0K (pv 0) aD rfl) (aU (a0K (pv 0) iB rfl)))),?_⟩;intro p hp;have pw:w≠p:=fun z=>by rw[z,hp] at hw; cases hw
 refine⟨_,rfl,w,c,d,[],rfl,by rw[aR pw]; exact hw,cl,n_running,by decide,?_⟩;refine⟨_,rfl,w,c,d,_,rfl,aW,cl,n_joined,(by show 1<1000; decide),?_⟩;refine⟨_,rfl,w,c,d,_,rfl,aW,cl,n_last,(by show 2<1000; decide),?_⟩;have z:=q p hp;rw[aJ6,aJ6];exact z
abbrev j8:Stmt:=inClass (top 23) 3
theorem sc_f_add_runner:FnScope ["self", "line", "runner"] ["self", "line"] (aQ j8):=scM
theorem sW  {c:Addr}(cl:Cls K c)(n_running:NoAttr K c "running")(n_joined:NoAttr K c "joined")(n_last:NoAttr K c "last")(F:Fun K "add_runner" "Field.add_runner" j8 f fd)(B:Bl K mg)(Kt:Kit K) :
  FnOk P w K mg base CX0 1 f fd ["self", "line"] (spL P0 (bF c) 2 (fU c)):=
 F.okL sc_f_add_runner rfl rfl fun cdv A outer s H E hr=>
 have hu:=hr.units
 ⟨_,(aM (cL (i:=2) sc_f_add_runner.nd rfl (by walk_at "lc") (oN (pv 0) rfl))
   (aM (a75 (hu1 hu) (oN (pv 0) rfl) (pv 2) (pv 1) rfl)
   (aM (a5T (pv 0) aD aEI)
   (aU (bY (pv 2)))))),
  ((aY (bO (aZ (a03 cl n_joined)))
   (aY (a0G cl n_running aF aF)
   (aY (a1Z cl n_joined)
   (cX (aZ aF))))):VS P0 _ (iW c))⟩
abbrev a3O:Stmt:=inClass (top 23) 2
theorem sc_f_do:FnScope ["self", "deed", "place"] ["self", "deed"] (aQ a3O):=scM
theorem aB4  {c:Addr}(cl:Cls K c)(n_running:NoAttr K c "running")(n_joined:NoAttr K c "joined")(n_last:NoAttr K c "last"){f_add_runner:Addr}{fd_add_runner:FuncData}(M_add_runner:Meth K c "add_runner" f_add_runner)(F_add_runner:FnOk P w K mg base CX0 1 f_add_runner fd_add_runner ["self", "line"] (spL P0 (bF c) 2 (fU c)))(b_add_runner:Binds K fd_add_runner ["self", "line"] [])(F:Fun K "do" "Field.do" a3O f fd)(B:Bl K mg)(Kt:Kit K)
  (b4:mX P0 P w K mg base)
  (b9:uG P0 P w K mg base) :
  FnOk P w K mg base CX0 5 f fd ["self", "deed"] (spL P0 (bF c) 2 (a04 c)):=
 F.okL sc_f_do rfl rfl fun cdv A outer s H E hr=>
 have hu:=hr.units
 ⟨_,(aM (a0K (pv 0) (bQ bB (pv 1) aD (fun _ _=>rfl)) rfl)
   (aM (fG (bL (dR hu) (bQ bB (pv 1) aD (fun _ _=>rfl)) bW (bU _)) (aU (bY (zN (pv 0) cl M_add_runner F_add_runner (hr.mono (by decide)) b_add_runner .nil a4S (aB (aN b4 hr rfl (aB (bQ bB (pv 1) aD (fun _ _=>rfl)) (aB (bQ bB (pv 1) aD (fun _ _=>rfl)) (aB (bQ bB (pv 1) aD (fun _ _=>rfl)) aK)))) aK)))) cP)
   (aM (fG (bL (dR hu) (bQ bB (pv 1) aD (fun _ _=>rfl)) bW (bU _)) (aU (pH (a81 (oN (pv 0) rfl) (bQ bB (pv 1) aD (fun _ _=>rfl)) ⟨rfl,rfl,rfl,rfl⟩))) (aM (cL (i:=2) sc_f_do.nd rfl (by walk_at "lc") (aN b9 hr rfl (aB (aB5 (hu1 hu) (oN (pv 0) rfl) (bQ bB (pv 1) aD (fun _ _=>rfl)) (fun _ _=>rfl)) (aB (bQ bB (pv 1) aD (fun _ _=>rfl)) aK))))
   (aU (a75 (hu1 hu) (oN (pv 0) rfl) (bQ bB (pv 1) aD (fun _ _=>rfl)) (aN b4 hr rfl (aB (bQ bB (pv 1) aD (fun _ _=>rfl)) (aB (pv 2) (aB (bQ bB (pv 1) aD (fun _ _=>rfl)) aK)))) rfl))))
   (aU (bY iB))))),
  ((aY (a2K cl n_last (bR aF aG))
   (aY (eX (bT (iD (bR aF aG) bV)) (cX (vB (a4G (fun _ _=>rfl)) (aV (aL (cB (aV (bR aF aG) (aV (bR aF aG) (aV (bR aF aG) bA))))) bA))) fC)
   (aY (eX (bT (iD (bR aF aG) bV)) (a4L (a7W cl n_running (bR aF aG))) (aY (bO (aZ (aL (cB (aV (aBJ cl n_running (bR aF aG)) (aV (bR aF aG) bA))))))
   (a0G cl n_running (aL (cB (aV (bR aF aG) (aV aF (aV (bR aF aG) bA))))) (bR aF aG))))
   (cX (aZ jJ))))):VS P0 _ (a65 c))⟩
abbrev pW:Stmt:=inClass (top 23) 1
theorem yP:FnScope ["self", "deed"] ["self", "deed"] (aQ pW):=scM
theorem zO  {c:Addr}(cl:Cls K c)(n_running:NoAttr K c "running")(n_joined:NoAttr K c "joined")(n_last:NoAttr K c "last"){tk_MOST_RUNNERS:Tok}(hg_MOST_RUNNERS:mg "MOST_RUNNERS" = some (.int 8 tk_MOST_RUNNERS))(F:Fun K "allows" "Field.allows" pW f fd)(B:Bl K mg)(Kt:Kit K)
  (ba:xP P0 P w K mg base) :
  FnOk P w K mg base CX0 2 f fd ["self", "deed"] (spL P0 (bF c) 2 (gQ c)):=
 F.okL yP rfl rfl fun cdv A outer s H E hr=>
 have hu:=hr.units
 ⟨_,(aM (fG (PW.pt (a3Q (bL aAJ (oN (pv 0) rfl) iB (bU _)) (a02 (gM (aN ba hr rfl (aB (bQ bB (pv 1) aD (fun _ _=>rfl)) (aB (oN (pv 0) rfl) aK))))))) (aU (bY nJ)) cP)
   (aM (fG (bL (dR hu) (bQ bB (pv 1) aD (fun _ _=>rfl)) bW (bU _)) (aU (bY (jW wR (bJ a6H rfl B.len_ boot_len (aB (oN (pv 0) rfl) aK)) (iZ (v:=.int 8) rfl hg_MOST_RUNNERS ⟨_,rfl⟩) (bU _)))) cP)
   (aU (bY (aEX (aDI (hu1 hu) (bQ bB (pv 1) aD (fun _ _=>rfl)) (oN (pv 0) rfl))))))),
  ((aY (eX (zQ (bT (aBO (xY cl n_last))) (mG (aL (cB (aV (bR aF aG) (aV (xY cl n_last) bA)))))) (cX (aZ nH)) fC)
   (aY (eX (bT (iD (bR aF aG) bV)) (cX (aZ (zW (a7M cl n_running) aG))) fC)
   (cX (aZ (aBM cl n_running (bR aF aG)))))):VS P0 _ (mF c))⟩
abbrev gG:Stmt:=top 28
theorem pR:FnScope ["thing"] ["thing"] (aQ gG):=scM
theorem pY  {tk_GREATEST_TOP:Tok}(hg_GREATEST_TOP:mg "GREATEST_TOP" = some (.int 999999999 tk_GREATEST_TOP)){tk_GREATEST_BOTTOM:Tok}(hg_GREATEST_BOTTOM:mg "GREATEST_BOTTOM" = some (.int 12 tk_GREATEST_BOTTOM))(F:Fun K "is_deed_number" "is_deed_number" gG f fd)(B:Bl K mg)(Kt:Kit K)
  (bb:tY P0 P w K mg base) :
  FnOk P w K mg base CX0 3 f fd ["thing"] (spM P0 1 cJ):=
 F.okV pR rfl rfl fun cdv A outer s H E hr=>
 have hu:=hr.units
 ⟨_,(aM (fG (jC (gM (aN bb hr rfl (aB (pv 0) aK)))) (aU (bY nJ)) cP)
   (aU (bY (oR (jW aF6 (bJ rQ rfl B.abs_ boot_abs (aB (bQ bB (pv 0) aD (fun _ _=>rfl)) aK)) (iZ (v:=.int 999999999) rfl hg_GREATEST_TOP ⟨_,rfl⟩) (bU _)) (uF (jW aF6 (bQ bB (pv 0) aD (fun _ _=>rfl)) (iZ (v:=.int 12) rfl hg_GREATEST_BOTTOM ⟨_,rfl⟩) (bU _))))))),
  ((aY (eX (fK (mG (aL (cB (aV aF bA))))) (cY (aZ nH)) fC)
   (cY (aZ (nU (aEG (a0M (bR aF aG)) aG) (aEG (bR aF aG) aG))))):VS P0 _ gA)⟩
abbrev lE:Stmt:=top 29
theorem a2A:FnScope ["thing", "part"] ["thing"] (aQ lE):=scM
theorem a1F  (F:Fun K "is_deed" "is_deed" lE f fd)(B:Bl K mg)(Kt:Kit K)
  (ak:jY P0 P w K mg base)
  (af:fJ P0 P w K mg base) :
  FnOk P w K mg base CX0 4 f fd ["thing"] (spM P0 1 kW):=
 F.okV a2A rfl rfl fun cdv A outer s H E hr=>
 have hu:=hr.units
 ⟨_,(aM (fG (PW.pt (pJ (jC (gM (bJ jR rfl B.isinstance_ boot_isinstance (aB (pv 0) (aB (lQ (v:=.ty "tuple") rfl B.tuple_ boot_tuple rfl) aK))))) (pJ (bL wR (bJ cC rfl B.len_ boot_len (aB (pv 0) aK)) aD (bU _)) (p8 (jC (gM (bJ jR rfl B.isinstance_ boot_isinstance (aB (bQ bB (pv 0) aD (fun _ _=>rfl)) (aB (lQ (v:=.ty "str") rfl B.str_ boot_str rfl) aK))))))))) (aU (bY nJ)) cP)
   (aM (fG (bL (dR hu) (bQ bB (pv 0) aD (fun _ _=>rfl)) bW (bU _)) (aU (bY (oR (jW (dR hu) (bJ cC rfl B.len_ boot_len (aB (pv 0) aK)) aD (bU _)) (uF (bJ (a6B rfl) rfl B.all_ boot_all (aB (a05 (N:=["part"]) (nt:=1) (fv:=[]) rfl (a07 (osc:=aQ lE) (ON:=["thing", "part"]) (by decide +kernel)) (aF9 (gP aCI (pv 0) (jP aD) jM)) (fun _ _ _ _=>(jA (i:=0) (show(["part"]:List Str).Nodup by decide +kernel) rfl (by walk_at "lc"))) (fun _ _ _ _=>a4H) (fun _ _ _ _=>(aN ak hr rfl (aB (pv 0) aK)))) aK)))))) cP)
   (aM (fG (bL (dR hu) (bQ bB (pv 0) aD (fun _ _=>rfl)) bW (bU _)) (aU (bY (oR (jW (dR hu) (bJ cC rfl B.len_ boot_len (aB (pv 0) aK)) aD (bU _)) (oR (aN ak hr rfl (aB (bQ bB (pv 0) aD (fun _ _=>rfl)) aK)) (uF (aN af hr rfl (aB (bQ bB (pv 0) aD (fun _ _=>rfl)) aK))))))) cP)
   (aM (fG (bL (dR hu) (bQ bB (pv 0) aD (fun _ _=>rfl)) bW (bU _)) (aU (bY (oR (jW (dR hu) (bJ cC rfl B.len_ boot_len (aB (pv 0) aK)) aD (bU _)) (oR (aN af hr rfl (aB (bQ bB (pv 0) aD (fun _ _=>rfl)) aK)) (oR (aN ak hr rfl (aB (bQ bB (pv 0) aD (fun _ _=>rfl)) aK)) (uF (aN ak hr rfl (aB (bQ bB (pv 0) aD (fun _ _=>rfl)) aK)))))))) cP)
   (aU (bY nJ)))))),
  ((aY (eX (jE (fK (mG (tZ Kt (by decide) aF))) (jE (bT (zW (tM aF) aG)) (fK (mG (tZ Kt (by decide) (bR aF aG)))))) (cY (aZ nH)) fC)
   (aY (eX (bT (iD (bR aF aG) bV)) (cY (aZ (nU (iD (tM aF) aG) (aD0 (aL (vJ (aEH (aCK aF (vL aG) vN)) j7 a0J (aL (cB (aV aF bA))))))))) fC)
   (aY (eX (bT (iD (bR aF aG) bV)) (cY (aZ (nU (iD (tM aF) aG) (nU (aL (cB (aV (bR aF aG) bA))) (aL (cB (aV (bR aF aG) bA))))))) fC)
   (aY (eX (bT (iD (bR aF aG) bV)) (cY (aZ (nU (iD (tM aF) aG) (nU (aL (cB (aV (bR aF aG) bA))) (nU (aL (cB (aV (bR aF aG) bA))) (aL (cB (aV (bR aF aG) bA)))))))) fC)
   (cY (aZ nH)))))):VS P0 _ sJ)⟩
abbrev o4:Stmt:=inClass (top 6) 0
theorem a2H:FnScope ["self", "at"] ["self", "at"] (aQ o4):=scM
theorem a2S  {xa:XA}{D0 c0 c1 c2 c3 c4:Addr}(F:Fun K "__init__" "NoLog.__init__" o4 f fd)(x:Xcs K mg xa D0 c0 c1 c2 c3 c4) :
  FnOk P w K mg base CX0 1 f fd ["self", "at"] (aIL xa.nl "at"):=by
 refine F.ok a2H (fun vs H Q E h=>?_) (fun cdv A outer s H vs Q E hr h=>?_)
 ·obtain⟨e,i,rfl,_⟩:=h;rfl
 have hu:=hr.units;obtain⟨e,i,rfl,hx,hz,q⟩:=h;refine⟨_,(aM (a8B (D0:=D0) (C:=xa.nl) rfl x.hD x.pD x.rD x.fD x.z_NoLog.ex (aB (pv 0) (aB (a8T (pv 1)) aK)))
  (aU (aAB (C:=xa.nl) x.z_NoLog.ex x.a_NoLog x.n_NoLog (pv 0) (pv 1)))),?_⟩
 exact⟨_,rfl,_,rfl,i,rfl,a3Z hz,aCT hz,e,_,rfl,hx,_,rfl,_,rfl,e,rfl,hx,q⟩
abbrev vV:Stmt:=top 30
theorem sc_log_of:FnScope ["thing", "field", "at", "deed"] ["thing"] (aQ vV):=scM
theorem a2Q  {xa:XA}{c:Addr}{D0 c0 c1 c2 c3 c4:Addr}(cl:Cls K c)(n_running:NoAttr K c "running")(n_joined:NoAttr K c "joined")(n_last:NoAttr K c "last"){fI:Addr}{fdI:FuncData}(hmF:mg "Field" = some (.ref c))(MI:Mk K c fI)(FI:FnOk P w K mg base CX0 1 fI fdI ["self"] (uY c))(bI:Binds K fdI ["self"] []){f_allows:Addr}{fd_allows:FuncData}(M_allows:Meth K c "allows" f_allows)(F_allows:FnOk P w K mg base CX0 2 f_allows fd_allows ["self", "deed"] (spL P0 (bF c) 2 (gQ c)))(b_allows:Binds K fd_allows ["self", "deed"] []){f_do:Addr}{fd_do:FuncData}(M_do:Meth K c "do" f_do)(F_do:FnOk P w K mg base CX0 5 f_do fd_do ["self", "deed"] (spL P0 (bF c) 2 (a04 c)))(b_do:Binds K fd_do ["self", "deed"] []){tk_MOST_DEEDS:Tok}(hg_MOST_DEEDS:mg "MOST_DEEDS" = some (.int 40 tk_MOST_DEEDS))(F:Fun K "log_of" "log_of" vV f fd)(B:Bl K mg)(Kt:Kit K)(x:Xcs K mg xa D0 c0 c1 c2 c3 c4)(i_NoLog:Ini P w K mg base 1 xa.nl "at")
  (bc:yI P0 P w K mg base) :
  FnOk P w K mg base (CX2 P w) 6 f fd ["thing"] (spX P0 1 (dU xa c)):=
 F.okE sc_log_of rfl rfl fun cdv A outer s H E hr=>
 have hu:=hr.units
 ⟨_,(aM (fG (jC (gM (bJ jR rfl B.isinstance_ boot_isinstance (aB (pv 0) (aB (lQ (v:=.ty "list") rfl B.list_ boot_list rfl) aK))))) (aU (yL (E:=E) i_NoLog hr (fun _ _ _ _ _ _ I h1 h2 hE=>I.leave2 rfl rfl rfl h1 h2 hE) rfl rfl rfl x.h_NoLog x.z_NoLog (aB aD aK))) cP)
   (aM (cL (i:=1) sc_log_of.nd rfl (by walk_at "lc") (a7S MI FI (hr.mono (by decide)) rfl hmF bI .nil a4S))
   (aM (a5M PassesOwn.leaving rfl (aC1 rfl B.enumerate_ (aB (pv 0) aK)) (aFU rfl (rP (jA (i:=2) sc_log_of.nd rfl (by walk_at "lc")) (rP (jA (i:=3) sc_log_of.nd rfl (by walk_at "lc")) a4X))) (aM (fG (PW.pt (pJ (bL (dR hu) (pv 2) (iZ (v:=.int 40) rfl hg_MOST_DEEDS ⟨_,rfl⟩) (bU _)) (pJ (jC (gM (aN bc hr rfl (aB (pv 3) aK)))) (p8 (jC (gM (zN (pv 1) cl M_allows F_allows (hr.mono (by decide)) b_allows .nil a4S (aB (pv 3) aK)))))))) (aU (yL (E:=E) i_NoLog hr (fun _ _ _ _ _ _ I h1 h2 hE=>I.leave2 rfl rfl rfl h1 h2 hE) rfl rfl rfl x.h_NoLog x.z_NoLog (aB (pv 2) aK))) cP)
   (aU (pH (zN (pv 1) cl M_do F_do (hr.mono (by decide)) b_do .nil a4S (aB (pv 3) aK))))))
   (aU (bY (oY lR rfl B.list_ boot_list (aB (pv 0) aK))))))),
  ((a0A (aDP (fK (mG (tZ Kt (by decide) aF))) (a0P (aA aG aO)) (a5G fC))
   (a0A (a5G (bO a91))
   (a0A (aES (aBR aF) (aEE (rO j7 (rO j7 a5O))) (a0A (aDP (jE (bT (iD aF aG)) (jE (fK (mG (aL (cB (aV aF bA))))) (fK (mG (aL (vB (a4G (fun _ _=>rfl)) (aV aF bA))))))) (a0P (aA aF aO)) (a5G fC))
   (a5G (a4L (aL (vB (a4G (fun _ _=>rfl)) (aV aF bA)))))))
   (a5G (cY (sH aF)))))):VSX E P0 aFZ _ (mD xa c))⟩
abbrev eU:Stmt:=top 38
theorem sc_law_no_number:FnScope ["_law_pen_here", "_law_some"] ["_law_pen_here"] (aQ eU):=scM
theorem rH  (F:Fun K "_law_no_number" "_law_no_number" eU f fd)(B:Bl K mg)(Kt:Kit K)
  (a8:cH P0 P w K mg base) :
  FnOk P w K mg base CX0 2 f fd ["_law_pen_here"] (spL P0 penF 1 fB):=
 F.okL sc_law_no_number rfl rfl fun cdv A outer s H E hr=>
 have hu:=hr.units
 ⟨_,(aM (cL (i:=1) sc_law_no_number.nd rfl (by walk_at "lc") (iU (aB (cO (aB (lG (v:=1000000000) (by decide) ⟨by decide,by decide,by decide⟩) (aB aD aK))) (aB (cO (aB (a7I a1A (lG (v:=1000000000) (by decide) ⟨by decide,by decide,by decide⟩)) (aB aD aK))) (aB (cO (aB aD (aB aD aK))) (aB (cO (aB aD (aB aD aK))) (aB (cO (aB aD (aB aD aK))) (aB (cO (aB aD (aB aD aK))) (aB (cO (aB aD (aB (a7I a1A aD) aK))) (aB (cO (aB nJ (aB aD aK))) (aB (cO (aB aD (aB nJ aK))) (aB (cO (aB aD aK)) (aB aD aK)))))))))))))
   (aM (cL (i:=1) sc_law_no_number.nd rfl (by walk_at "lc") (bN fX (pv 1) (iU (aB iB (aB (cO (aB aD (aB aD (aB aD aK)))) (aB (iU (aB aD (aB aD aK))) (aB bW (aB (cO (aB (lG (v:=100000000000000000000000000000000000000000000000000000000000) (by decide) ⟨by decide,by decide,by decide⟩) (aB aD aK))) (aB (cO aK) (aB (cO (aB aD (aB iB aK))) aK))))))))))
   (aU (bY (bQ bB (pv 1) (aN a8 hr rfl (aB (pv 0) (aB (bJ cC rfl B.len_ boot_len (aB (pv 1) aK)) aK))) (fun _ _=>rfl)))))),
  ((aY (bO (aZ (aL (cI (aA (bD (aA aG (aA aG aO))) (aA (bD (aA (a0R aG) (aA aG aO))) (aA (bD (aA aG (aA aG aO))) (aA (bD (aA aG (aA aG aO))) (aA (bD (aA aG (aA aG aO))) (aA (bD (aA aG (aA aG aO))) (aA (bD (aA aG (aA (a0R aG) aO))) (aA (bD (aA nH (aA aG aO))) (aA (bD (aA aG (aA nH aO))) (aA (bD (aA aG aO)) (aA aG aO)))))))))))))))
   (aY (bO (aZ (aL (fV aF (aL (cI (aA jJ (aA (bD (aA aG (aA aG (aA aG aO)))) (aA (aL (cI (aA aG (aA aG aO)))) (aA bV (aA (bD (aA aG (aA aG aO))) (aA (bD aO) (aA (bD (aA aG (aA jJ aO))) aO)))))))))))))
   (cX (aZ (bR aF (aL (bH (aV (tM aF) bA)))))))):VS P0 _ iH)⟩
abbrev jH:Stmt:=top 40
theorem sc_law_left:FnScope ["_law_log_here", "_law_at", "_law_gone", "_law_deed"] ["_law_log_here", "_law_at"] (aQ jH):=scM
theorem yZ  (F:Fun K "_law_left" "_law_left" jH f fd)(B:Bl K mg)(Kt:Kit K) :
  FnOk P w K mg base CX0 1 f fd ["_law_log_here", "_law_at"] (spM P0 2 lY):=
 F.okV sc_law_left rfl rfl fun cdv A outer s H E hr=>
 have hu:=hr.units
 ⟨_,(aM (a4F (N:=["_law_deed"]) (nt:=1) (fv:=[]) (i:=2) sc_law_left.nd rfl rfl rfl (a07 (osc:=aQ jH) (ON:=["_law_log_here", "_law_at", "_law_gone", "_law_deed"]) (by decide +kernel)) (aBT (gP kO (pv 0) jM (jP (pv 1)))) (fun _ _ _ _=>(jA (i:=0) (show(["_law_deed"]:List Str).Nodup by decide +kernel) rfl (by walk_at "lc"))) (fun _ _ _ _=>(a5Y (bL (dR hu) (bQ bB (pv 0) aD (fun _ _=>rfl)) bW (bU _)))) (fun _ _ _ _=>(bQ bB (pv 0) aD (fun _ _=>rfl))))
   (aU (bY (bQ bB (bN fX (pv 2) (iU (aB aD aK))) aD (fun _ _=>rfl))))),
  ((aY (bO (aZ (aL (vJ (aB9 (aL (qU aF vN (vL aF)))) j7 (bT (iD (bR aF aG) bV)) (bR aF aG)))))
   (cY (aZ (bR (aL (fV aF (aL (cI (aA aG aO))))) aG)))):VS P0 _ pK)⟩
abbrev oH:Stmt:=top 39
theorem sc_law_bad:FnScope ["_law_pen_here", "_law_time", "_law_good", "_law_way", "_law_some", "_law_bad_here", "_law_runner"] ["_law_pen_here", "_law_time"] (aQ oH):=scM
theorem a1W  (F:Fun K "_law_bad" "_law_bad" oH f fd)(B:Bl K mg)(Kt:Kit K)
  (a8:cH P0 P w K mg base)
  (bd:gD P0 P w K mg base) :
  FnOk P w K mg base CX0 3 f fd ["_law_pen_here", "_law_time"] (spL P0 penF 2 nW):=
 F.okL sc_law_bad rfl rfl fun cdv A outer s H E hr=>
 have hu:=hr.units
 ⟨_,(a5L (c7 (dO (i:=2) sc_law_bad.nd rfl (by walk_at "lc") (bG (aC (aJ aD) (aC (aJ aD) aP))))
   (c7 (dO (i:=3) sc_law_bad.nd rfl (by walk_at "lc") (aJ (aN a8 hr rfl (aB (pv 0) (aB aD aK)))))
   (c7 (qR (qN (bL (dR hu) (pv 3) aD (bU _))) (c7 (dO (i:=4) sc_law_bad.nd rfl (by walk_at "lc") (cM (aC (aJ iB) (aC (aJ aD) (aC (aJ bW) (aC (cM aP) (aC (bG aP) (aC (aJ nJ) (aC (aJ a5X) (aC (bG (aC (aJ bW) aP)) (aC (cM (aC (aJ bW) (aC (aJ (pv 1)) (aC (aJ (pv 2)) (aC (aJ (pv 2)) aP))))) aP)))))))))))
   (j4 (jB (lU bB (gH fX (aJ (pv 4)) (cM (aC (bG (aC (bG (aC (aJ bW) (aC (aJ (pv 1)) (aC (aJ (pv 2)) (aC (aJ (pv 2)) aP))))) aP)) aP))) (aN a8 hr rfl (aB (pv 0) (aB aD aK))) (fun _ _=>rfl))))) lH)
   (c7 (qR (qN (bL (dR hu) (pv 3) aD (bU _))) (c7 (dO (i:=4) sc_law_bad.nd rfl (by walk_at "lc") (cM (aC (bG (aC (aJ bW) (aC (aJ (pv 1)) (aC (aJ (pv 2)) (aC (aJ (pv 2)) aP))))) (aC (bG (aC (aJ bW) (aC (aJ (pv 1)) (aC (aJ aD) aP)))) (aC (bG (aC (aJ iB) (aC (aJ (pv 1)) (aC (aJ aD) aP)))) (aC (bG (aC (aJ aD) (aC (aJ (pv 1)) (aC (aJ aD) (aC (aJ (pv 2)) aP))))) (aC (bG (aC (aJ bW) (aC (aJ (pv 1)) (aC (aJ aD) aP)))) aP)))))))
   (c7 (dO (i:=4) sc_law_bad.nd rfl (by walk_at "lc") (gH fX (aJ (pv 4)) (cM (aC (bG (aC (aJ bW) (aC (aJ (pv 1)) (aC (aJ (pv 2)) aP)))) (aC (bG (aC (aJ bW) (aC (aJ (pv 1)) (aC (aJ (pv 2)) (aC (aJ (pv 2)) (aC (aJ (pv 2)) aP)))))) (aC (bG (aC (aJ bW) (aC (aJ (pv 1)) aP))) (aC (bG (aC (aJ bW) (aC (aJ (pv 1)) (aC (aJ aD) aP)))) aP)))))))
   (c7 (dO (i:=4) sc_law_bad.nd rfl (by walk_at "lc") (gH fX (aJ (pv 4)) (cM (aC (bG (aC (aJ bW) (aC (aJ (pv 1)) (aC (aJ aD) (aC (aJ (pv 2)) aP))))) (aC (bG (aC (aJ bW) (aC (aJ (pv 1)) (aC (aJ aD) (aC (aJ (pv 2)) (aC (aJ aD) aP)))))) (aC (bG (aC (bG (aC (aJ bW) aP)) (aC (aJ (pv 1)) (aC (aJ aD) aP)))) (aC (bG (aC (cM (aC (aJ bW) aP)) (aC (aJ (pv 1)) (aC (aJ aD) aP)))) aP)))))))
   (j4 (jB (lU bB (aJ (pv 4)) (aN a8 hr rfl (aB (pv 0) (aB aD aK))) (fun _ _=>rfl))))))) lH)
   (c7 (qR (qN (bL wR (pv 3) aD (bU _))) (c7 (dO (i:=5) sc_law_bad.nd rfl (by walk_at "lc") (aJ (aN bd hr rfl (aB (pv 0) aK))))
   (c7 (dO (i:=4) sc_law_bad.nd rfl (by walk_at "lc") (cM (aC (bG (aC (aJ bW) (aC (aJ (pv 5)) (aC (aJ (pv 2)) (aC (aJ (pv 2)) aP))))) (aC (bG (aC (aJ bW) (aC (aJ (pv 1)) (aC (aJ (pv 5)) (aC (aJ (pv 2)) aP))))) (aC (bG (aC (aJ bW) (aC (aJ (pv 1)) (aC (aJ (pv 2)) (aC (aJ (pv 5)) aP))))) (aC (bG (aC (aJ bW) (aC (aJ (pv 5)) (aC (aJ aD) aP)))) aP))))))
   (j4 (jB (lU bB (gH fX (aJ (pv 4)) (cM (aC (bG (aC (aJ bW) (aC (aJ (pv 5)) (aC (aJ aD) (aC (aJ (pv 2)) aP))))) (aC (bG (aC (aJ bW) (aC (aJ (pv 1)) (aC (aJ aD) (aC (aJ (pv 5)) aP))))) aP)))) (aN a8 hr rfl (aB (pv 0) (aB aD aK))) (fun _ _=>rfl)))))) lH)
   (c7 (dO (i:=6) sc_law_bad.nd rfl (by walk_at "lc") (lU bB (cM (aC (aJ (a7I a1A aD)) (aC (aJ aD) (aC (aJ (lG (v:=100000000000000000000000000000000000000000000000000000000000) (by decide) ⟨by decide,by decide,by decide⟩)) (aC (aJ nJ) (aC (aJ nJ) (aC (aJ iB) (aC (aJ bW) (aC (bG (aC (aJ aD) (aC (aJ aD) aP))) (aC (cM (aC (aJ aD) aP)) (aC (aJ aD) aP))))))))))) (aN a8 hr rfl (aB (pv 0) (aB aD aK))) (fun _ _=>rfl)))
   (j4 (jB (lU bB (cM (aC (bG (aC (aJ bW) (aC (aJ (pv 1)) (aC (aJ (pv 6)) aP)))) (aC (bG (aC (aJ bW) (aC (aJ (pv 1)) (aC (aJ (pv 6)) (aC (aJ (pv 2)) aP))))) aP))) (aN a8 hr rfl (aB (pv 0) (aB aD aK))) (fun _ _=>rfl))))))))))),
  ((aY (bO (aZ (bD (aA aG (aA aG aO)))))
   (aY (bO (aZ (aL (bH (aV aG bA)))))
   (aY (eX (bT (iD aF aG)) (aY (bO (aZ (aL (cI (aA jJ (aA aG (aA bV (aA (aL (cI aO)) (aA (bD aO) (aA nH (aA a6A (aA (bD (aA bV aO)) (aA (aL (cI (aA bV (aA aF (aA aF (aA aF aO)))))) aO)))))))))))))
   (cX (aZ (bR (aL (fV aF (aL (cI (aA (bD (aA (bD (aA bV (aA aF (aA aF (aA aF aO))))) aO)) aO))))) (aL (bH (aV aG bA))))))) fC)
   (aY (eX (bT (iD aF aG)) (aY (bO (aZ (aL (cI (aA (bD (aA bV (aA aF (aA aF (aA aF aO))))) (aA (bD (aA bV (aA aF (aA aG aO)))) (aA (bD (aA jJ (aA aF (aA aG aO)))) (aA (bD (aA aG (aA aF (aA aG (aA aF aO))))) (aA (bD (aA bV (aA aF (aA aG aO)))) aO)))))))))
   (aY (bO (aZ (aL (fV aF (aL (cI (aA (bD (aA bV (aA aF (aA aF aO)))) (aA (bD (aA bV (aA aF (aA aF (aA aF (aA aF aO)))))) (aA (bD (aA bV (aA aF aO))) (aA (bD (aA bV (aA aF (aA aG aO)))) aO))))))))))
   (aY (bO (aZ (aL (fV aF (aL (cI (aA (bD (aA bV (aA aF (aA aG (aA aF aO))))) (aA (bD (aA bV (aA aF (aA aG (aA aF (aA aG aO)))))) (aA (bD (aA (bD (aA bV aO)) (aA aF (aA aG aO)))) (aA (bD (aA (aL (cI (aA bV aO))) (aA aF (aA aG aO)))) aO))))))))))
   (cX (aZ (bR aF (aL (bH (aV aG bA))))))))) fC)
   (aY (eX (bT (zW aF aG)) (aY (bO (aZ (aL (bH bA))))
   (aY (bO (aZ (aL (cI (aA (bD (aA bV (aA aF (aA aF (aA aF aO))))) (aA (bD (aA bV (aA aF (aA aF (aA aF aO))))) (aA (bD (aA bV (aA aF (aA aF (aA aF aO))))) (aA (bD (aA bV (aA aF (aA aG aO)))) aO))))))))
   (cX (aZ (bR (aL (fV aF (aL (cI (aA (bD (aA bV (aA aF (aA aG (aA aF aO))))) (aA (bD (aA bV (aA aF (aA aG (aA aF aO))))) aO)))))) (aL (bH (aV aG bA)))))))) fC)
   (aY (bO (aZ (bR (aL (cI (aA (a0R aG) (aA aG (aA aG (aA nH (aA nH (aA jJ (aA bV (aA (bD (aA aG (aA aG aO))) (aA (aL (cI (aA aG aO))) (aA aG aO)))))))))))) (aL (bH (aV aG bA))))))
   (cX (aZ (bR (aL (cI (aA (bD (aA bV (aA aF (aA aF aO)))) (aA (bD (aA bV (aA aF (aA aF (aA aF aO))))) aO)))) (aL (bH (aV aG bA)))))))))))):VS P0 _ u6)⟩
abbrev eN:Stmt:=top 41
theorem sc_law_spoilt:FnScope ["_law_pen_here", "_law_log_here", "_law_way", "_law_at", "_law_time", "_law_ahead", "_law_early", "_law_some", "_law_k", "_law_found"] ["_law_pen_here", "_law_log_here"] (aQ eN):=scM
theorem v8  (F:Fun K "_law_spoilt" "_law_spoilt" eN f fd)(B:Bl K mg)(Kt:Kit K)
  (a8:cH P0 P w K mg base)
  (bf:pN P0 P w K mg base)
  (bg:nA P0 P w K mg base)
  (aj:dB P0 P w K mg base) :
  FnOk P w K mg base CX0 4 f fd ["_law_pen_here", "_law_log_here"] (spL P0 penF 2 iQ):=
 F.okL sc_law_spoilt rfl rfl fun cdv A outer s H E hr=>
 have hu:=hr.units
 ⟨_,(a5L (c7 (dO (i:=2) sc_law_spoilt.nd rfl (by walk_at "lc") (aJ (aN a8 hr rfl (aB (pv 0) (aB aD aK)))))
   (c7 (dO (i:=3) sc_law_spoilt.nd rfl (by walk_at "lc") (aJ (aN a8 hr rfl (aB (pv 0) (aB (bJ cC rfl B.len_ boot_len (aB (pv 1) aK)) aK)))))
   (c7 (dO (i:=4) sc_law_spoilt.nd rfl (by walk_at "lc") (lU bB (lU bB (aJ (pv 1)) (pv 3) (fun _ _=>rfl)) aD (fun _ _=>rfl)))
   (c7 (qR (qN (bL (dR hu) (pv 2) aD (bU _))) (j4 (jB (cM (aC (lU bB (cM (aC (aJ iB) (aC (aJ aD) (aC (aJ bW) (aC (aJ (oY a6G rfl B.tuple_ boot_tuple (aB (pv 1) aK))) (aC (aJ a5X) (aC (aJ nJ) (aC (bG (aC (aJ bW) (aC (aJ (pv 4)) (aC (aJ (pv 4)) (aC (aJ (pv 4)) aP))))) aP)))))))) (aN a8 hr rfl (aB (pv 0) (aB aD aK))) (fun _ _=>rfl)) (aC (aJ aD) aP))))) lH)
   (c7 (qR (qN (PW.pt (a3Q (bL (dR hu) (pv 2) aD (bU _)) (a02 (bL a2M (pv 3) aD (bU _)))))) (c7 (dO (i:=5) sc_law_spoilt.nd rfl (by walk_at "lc") (lU bB (lU bB (aJ (pv 1)) (bN qW (pv 3) aD) (fun _ _=>rfl)) aD (fun _ _=>rfl)))
   (c7 (dO (i:=6) sc_law_spoilt.nd rfl (by walk_at "lc") (aJ (aN aj hr rfl (aB (bN qW (bN qW (bN oV (bQ bB (pv 5) aD (fun _ _=>rfl)) (bQ bB (pv 5) aD (fun _ _=>rfl))) aD) (aN a8 hr rfl (aB (pv 0) (aB aD aK)))) (aB aD aK)))))
   (j4 (jB (cM (aC (gH fX (gH fX (aJ (gP kO (pv 1) jM (jP (pv 3)))) (cM (aC (bG (aC (aJ bW) (aC (aJ (pv 6)) (aC (aJ (pv 6)) (aC (aJ (pv 6)) aP))))) aP))) (aJ (gP kO (pv 1) (jP (bN eZ (pv 3) aD)) jM))) (aC (aJ (pv 3)) aP))))))) lH)
   (c7 (qR (qN (bL (dR hu) (pv 2) aD (bU _))) (j4 (jB (cM (aC (gH fX (gH fX (aJ (gP kO (pv 1) jM (jP (pv 3)))) (cM (aC (bG (aC (aJ bW) (aC (aJ (pv 4)) (aC (aJ (aN bg hr rfl (aB (pv 1) (aB (pv 3) aK)))) aP)))) aP))) (aJ (gP kO (pv 1) (jP (pv 3)) jM))) (aC (aJ (pv 3)) aP))))) lH)
   (c7 (qR (qN (bL (dR hu) (pv 2) aD (bU _))) (c7 (aDU (a4F (N:=["_law_k"]) (nt:=1) (fv:=[]) (i:=7) sc_law_spoilt.nd rfl rfl rfl (a07 (osc:=aQ eN) (ON:=["_law_pen_here", "_law_log_here", "_law_way", "_law_at", "_law_time", "_law_ahead", "_law_early", "_law_some", "_law_k", "_law_found"]) (by decide +kernel)) (oX rfl B.range_ (aB aD aK)) (fun _ _ _ _=>(jA (i:=0) (show(["_law_k"]:List Str).Nodup by decide +kernel) rfl (by walk_at "lc"))) (fun _ _ _ _=>a4H) (fun _ _ _ _=>(cO (aB bW (aB (cO (aB aD (aB aD aK))) (aB (cO (aB (pv 0) (aB aD aK))) (aB (cO (aB aD (aB aD aK))) aK))))))))
   (j4 (jB (cM (aC (gH fX (aJ (pv 7)) (gH a4A (cM (aC (aJ iB) aP)) (aJ (aN a8 hr rfl (aB (pv 0) (aB aD aK)))))) (aC (aJ aD) aP)))))) lH)
   (c7 (qR (qN (bL (dR hu) (pv 2) aD (bU _))) (c7 (dO (i:=7) sc_law_spoilt.nd rfl (by walk_at "lc") (gH fX (cM (aC (bG (aC (aJ bW) (aC (bG (aC (aJ aD) (aC (aJ aD) aP))) (aC (bG (aC (aJ aD) (aC (aJ aD) aP))) (aC (bG (aC (aJ aD) (aC (aJ aD) aP))) aP))))) aP)) (aJ (a05 (N:=["_law_k"]) (nt:=1) (fv:=[]) rfl (a07 (osc:=aQ eN) (ON:=["_law_pen_here", "_law_log_here", "_law_way", "_law_at", "_law_time", "_law_ahead", "_law_early", "_law_some", "_law_k", "_law_found"]) (by decide +kernel)) (oX rfl B.range_ (aB aD aK)) (fun _ _ _ _=>(jA (i:=0) (show(["_law_k"]:List Str).Nodup by decide +kernel) rfl (by walk_at "lc"))) (fun _ _ _ _=>(a5Y (bL a2M (bN kE (pv 0) aD) aD (bU _)))) (fun _ _ _ _=>(cO (aB bW (aB (cO (aB aD (aB aD aK))) (aB aD (aB (cO (aB (pv 0) (aB aD aK))) aK))))))))))
   (c7 (dO (i:=7) sc_law_spoilt.nd rfl (by walk_at "lc") (aJ (gP kO (bN fX (pv 7) (bN a4A (iU (aB (cO (aB bW (aB (cO (aB aD (aB aD aK))) (aB aD (aB (cO (aB aD (aB aD aK))) aK))))) aK)) aD)) jM (jP aD))))
   (j4 (jB (cM (aC (gH fX (aJ (pv 7)) (cM (aC (lU bB (cM (aC (bG (aC (aJ bW) (aC (bG (aC (aJ aD) (aC (aJ aD) aP))) (aC (aJ aD) aP)))) (aC (aJ iB) (aC (bG (aC (aJ bW) (aC (bG (aC (aJ aD) (aC (aJ aD) aP))) (aC (aJ aD) (aC (bG (aC (aJ aD) (aC (aJ aD) aP))) aP))))) aP)))) (aN a8 hr rfl (aB (pv 0) (aB aD aK))) (fun _ _=>rfl)) aP))) (aC (aJ aD) aP))))))) lH)
   (c7 (dO (i:=9) sc_law_spoilt.nd rfl (by walk_at "lc") (gH fX (gH fX (aJ (gP kO (pv 1) jM (jP (pv 3)))) (cM (aC (aJ (aN bf hr rfl (aB (pv 0) (aB (pv 4) aK)))) aP))) (aJ (gP kO (pv 1) (jP (bN eZ (pv 3) aD)) jM))))
   (j4 (jB (cM (aC (gH fX (aJ (pv 9)) (gH a4A (cM (aC (aJ iB) aP)) (aJ (aN a8 hr rfl (aB (pv 0) (aB aD aK)))))) (aC (aJ (pv 3)) aP))))))))))))))),
  ((aY (bO (aZ (aL (bH (aV aG bA)))))
   (aY (bO (aZ (aL (bH (aV (tM aF) bA)))))
   (aY (bO (aZ (bR (bR aF aF) aG)))
   (aY (eX (bT (iD aF aG)) (cX (cI (aA (bR (aL (cI (aA jJ (aA aG (aA bV (aA (aA0 aF) (aA a6A (aA nH (aA (bD (aA bV (aA aF (aA aF (aA aF aO))))) aO))))))))) (aL (bH (aV aG bA)))) (aA aG aO)))) fC)
   (aY (eX (zQ (bT (iD aF aG)) (bT (a87 aF aG))) (aY (bO (aZ (bR (bR aF (sV aF aG)) aG)))
   (aY (bO (aZ (aL (cB (aV (sV (sV (sY (bR aF aG) (bR aF aG)) aG) (aL (bH (aV aG bA)))) (aV aG bA))))))
   (cX (cI (aA (aL (fV (aL (fV (aL (qU aF vN (vL aF))) (aL (cI (aA (bD (aA bV (aA aF (aA aF (aA aF aO))))) aO))))) (aL (qU aF (vL (mQ aF aG)) vN)))) (aA aF aO)))))) fC)
   (aY (eX (bT (iD aF aG)) (cX (cI (aA (aL (fV (aL (fV (aL (qU aF vN (vL aF))) (aL (cI (aA (bD (aA bV (aA aF (aA (aL (cB (aV aF (aV aF bA)))) aO)))) aO))))) (aL (qU aF (vL aF) vN)))) (aA aF aO)))) fC)
   (aY (eX (bT (iD aF aG)) (aY (bO (aZ (aL (vJ (vR (aA aG aO)) j7 a0J (bD (aA bV (aA (bD (aA aG (aA aG aO))) (aA (bD (aA aF (aA aG aO))) (aA (bD (aA aG (aA aG aO))) aO)))))))))
   (cX (cI (aA (aL (fV aF (aL (a5S (aL (cI (aA jJ aO))) (aL (bH (aV aG bA))))))) (aA aG aO))))) fC)
   (aY (eX (bT (iD aF aG)) (aY (bO (aZ (aL (fV (aL (cI (aA (bD (aA bV (aA (bD (aA aG (aA aG aO))) (aA (bD (aA aG (aA aG aO))) (aA (bD (aA aG (aA aG aO))) aO))))) aO))) (aL (vJ (vR (aA aG aO)) j7 (bT (a87 (a6E aF aG) aG)) (bD (aA bV (aA (bD (aA aG (aA aG aO))) (aA aG (aA (bD (aA aF (aA aG aO))) aO)))))))))))
   (aY (bO (aZ (aL (qU (aL (fV aF (aL (a5S (aL (cI (aA (bD (aA bV (aA (bD (aA aG (aA aG aO))) (aA aG (aA (bD (aA aG (aA aG aO))) aO))))) aO))) aG)))) vN (vL aG)))))
   (cX (cI (aA (aL (fV aF (aL (cI (aA (bR (aL (cI (aA (bD (aA bV (aA (bD (aA aG (aA aG aO))) (aA aG aO)))) (aA jJ (aA (bD (aA bV (aA (bD (aA aG (aA aG aO))) (aA aG (aA (bD (aA aG (aA aG aO))) aO))))) aO))))) (aL (bH (aV aG bA)))) aO))))) (aA aG aO)))))) fC)
   (aY (bO (aZ (aL (fV (aL (fV (aL (qU aF vN (vL aF))) (aL (cI (aA (aL (bH (aV aF bA))) aO))))) (aL (qU aF (vL (mQ aF aG)) vN))))))
   (cX (cI (aA (aL (fV aF (aL (a5S (aL (cI (aA jJ aO))) (aL (bH (aV aG bA))))))) (aA aF aO))))))))))))):VS P0 _ kZ)⟩
abbrev jO:Stmt:=top 42
theorem sc_law_refused:FnScope ["_law_thing", "_law_caught", "e"] ["_law_thing"] (aQ jO):=scM
theorem t8  {xa:XA}{c:Addr}{D0 c0 c1 c2 c3 c4:Addr}(F:Fun K "_law_refused" "_law_refused" jO f fd)(B:Bl K mg)(Kt:Kit K)(x:Xcs K mg xa D0 c0 c1 c2 c3 c4)(i_NoLog:Ini P w K mg base 1 xa.nl "at")
  (cx_log_of:CalX P w K mg base 6 "log_of" ["thing"] (spX P0 1 (dU xa c))) :
  FnOk P w K mg base CX0 7 f fd ["_law_thing"] (spM P0 1 (lJ xa c)):=
 F.okV sc_law_refused rfl rfl fun cdv A outer s H E hr=>
 have hu:=hr.units
 ⟨_,(aM (cL (i:=1) sc_law_refused.nd rfl (by walk_at "lc") iB)
   (aM (aA2 (i:=2) (j:=1) (a7V cx_log_of hr rfl (aB (pv 0) aK)) rfl rfl rfl x.hD x.zD sc_law_refused.nd rfl rfl (Or.inl rfl) (Or.inl rfl) rfl (Or.inl rfl) (.inl rfl) (.inl rfl))
   (aM (fG (PW.pt (pJ (jC (gM (bJ vH rfl B.isinstance_ boot_isinstance (aB (pv 1) (aB (iZ (v:=.ref xa.nl) rfl x.h_NoLog rfl) aK))))) (p8 (jC (gM (bJ vH rfl B.isinstance_ boot_isinstance (aB (pv 1) (aB (lQ (v:=.ty "ValueError") rfl x.hV PyProof.Rows.Boot.«ValueError» rfl) aK)))))))) (aU (bY iB)) cP)
   (aM (fG (PW.pt (pJ (gM (bJ vH rfl B.isinstance_ boot_isinstance (aB (pv 1) (aB (cO (aB (iZ (v:=.ref c0) rfl x.h_NoKey rfl) (aB (iZ (v:=.ref c1) rfl x.h_NoNumber rfl) (aB (iZ (v:=.ref c2) rfl x.h_NoRow rfl) (aB (iZ (v:=.ref c3) rfl x.h_NoText rfl) (aB (iZ (v:=.ref c4) rfl x.h_NoTime rfl) aK)))))) aK)))) (p8 (gM (bJ jR rfl B.isinstance_ boot_isinstance (aB (a3S (pv 1) rfl) (aB (lQ (v:=.ty "bool") rfl B.bool_ boot_bool rfl) aK))))))) (aU (bY iB)) cP)
   (aU (bY (a3S (pv 1) rfl))))))),
  ((aY (bO (aZ jJ))
   (aY (aBC (aBW (cs:=[xa.nl]) (aV aF bA) (pC ⟨x.z_NoLog,x.s_NoLog⟩ uQ)))
   (aY (eX (jE (fK (mG (a5D (c:=.ref xa.nl) (u:=.ref xa.nl) (fun _ h=>h) (pC ⟨x.z_NoLog,x.k_NoLog_NoLog⟩ uQ)))) (fK (mG (a5D (c:=.ty "ValueError") (u:=.type "ValueError") (fun _ h=>h) (pC ⟨x.z_NoLog,x.k_NoLog_ValueError⟩ uQ))))) (cY (aZ jJ)) fC)
   (aY (eX (jE (mG (aB1 (as:=[c0,c1,c2,c3,c4]) (by simp) (pC ⟨x.z_NoLog,x.t_NoLog_KNRTT⟩ uQ))) (mG (tZ Kt (by decide) (a78 (pC ⟨x.z_NoLog,x.n_NoLog,x.d_NoLog⟩ uQ))))) (cY (aZ jJ)) fC)
   (cY (aZ (a78 (pC ⟨x.z_NoLog,x.n_NoLog,x.d_NoLog⟩ uQ)))))))):VS P0 _ (gW xa c))⟩
abbrev aBY:Stmt:=top 43
theorem sc_law:FnScope ["_law_script", "_law_k", "_law_pen_here", "_law_many", "_law_log_here", "_law_thing", "_law_at", "_law_kept"] ["_law_script"] (aQ aBY):=scM
theorem aEK  {c:Addr}(F:Fun K "law" "law" aBY f fd)(B:Bl K mg)(Kt:Kit K)
  (bh:Cal P w K mg base 1 "_law_pen" ["_law_script", "_law_k"] (a08 K))
  (b5:a99 NoP P w K mg base)
  (bi:uB NoP P w K mg base)
  (bj:oU NoP P w K mg base)
  (bn:uV NoP P w K mg base)
  (a8:cH NoP P w K mg base)
  (hL:∀ a ns,sO K c (.pub (a8Q K a ns)::List.replicate 7 .no) pF) :
  FnOk P w K mg base CX0 8 f fd ["_law_script"] (a86 K):=by
 refine F.ok sc_law (fun vs H Q E h=>?_) (fun cdv A outer s H vs Q E hr h=>?_)
 ·obtain⟨a,ns,rfl,hS,h63,q⟩:=h;rfl
 have hu:=hr.units;obtain⟨a,ns,rfl,hS,h63,q⟩:=h;exact law_bodyS (k:=7) ⟨_,(aM (a5M PassesOwn.never rfl (oX rfl B.range_ (aB aD aK)) (jA (i:=1) sc_law.nd rfl (by walk_at "lc")) (aM (cL (i:=2) sc_law.nd rfl (by walk_at "lc") (aN bh hr rfl (aB (pv 0) (aB (pv 1) aK))))
   (aM (cL (i:=3) sc_law.nd rfl (by walk_at "lc") (bN eZ aD (aN a8 hr rfl (aB (pv 2) (aB aD aK)))))
   (aM (fG (bL (dR hu) (aN a8 hr rfl (aB (pv 2) (aB aD aK))) aD (bU _)) (aU (cL (i:=3) sc_law.nd rfl (by walk_at "lc") aD)) cP)
   (aM (cL (i:=4) sc_law.nd rfl (by walk_at "lc") (aN bn hr rfl (aB (pv 2) (aB (pv 3) aK))))
   (aM (a4R (aN bj hr rfl (aB (pv 2) (aB (pv 4) aK))) (aA3 rfl (rP (jA (i:=5) sc_law.nd rfl (by walk_at "lc")) (rP (jA (i:=6) sc_law.nd rfl (by walk_at "lc")) a4X))))
   (aM (cL (i:=7) sc_law.nd rfl (by walk_at "lc") (bJ (wC hr) rfl B.repr_ uI (aB (pv 5) aK)))
   (aM (fG (PW.pt (pJ (bL (wD hu) (aN b5 hr rfl (aB (oY lR rfl B.list_ boot_list (aB (pv 4) aK)) aK)) (pv 4) (bU _)) (pJ (bL (wD hu) (aN bi hr rfl (aB (pv 5) aK)) (pv 6) (bU _)) (p8 (bL aET (bJ (wC hr) rfl B.repr_ uI (aB (pv 5) aK)) (pv 7) (bU _)))))) (aU (bY nJ)) cP)
   (aU (fG (bL (wD hu) (aN b5 hr rfl (aB (oY lR rfl B.list_ boot_list (aB (pv 4) aK)) aK)) (pv 4) (bU _)) (aU (bY nJ)) cP))))))))))
   (aU (bY nJ))),
  ((aY (a9K (vR (aA aG aO)) j7 (aY (bO aA9)
   (aY (bO (aZ (mQ aG (aL (bH (aV aG bA))))))
   (aY (eX (bT (iD (aL (bH (aV aG bA))) aG)) (bO (aZ aG)) fC)
   (aY (bO (aZ (aL (bH (aV aF bA)))))
   (aY (aD8 (aL (bH (aV aF bA))) (aBF (rO j7 (rO j7 a5O))))
   (aY (bO (aZ (a4J aF)))
   (aY (eX (jE (bT (a5Z (aL (cB (aV (aL (sH aF)) bA))) aF)) (jE (bT (a5Z (aL (cB (aV aF bA))) aF)) (bT (aD3 (a4J aF) aF)))) (cY (aZ nH)) fC)
   (eX (bT (a5Z (aL (cB (aV (aL (sH aF)) bA))) aF)) (cY (aZ nH)) fC)))))))))
   (cY (aZ nH))):VS NoP _ (sO K c))⟩ rfl hS hL q
end
section
variable {Q:Rv→Prop}
theorem a7A {i:Int}(q:Q (.val (.bool true))):dD [.val (.int i)] Q:=by
 refine wA ?_;unfold lZ;walk_at "!;,NL&{|L&%";exact q
theorem aDK {a b:Int}(q:Q (.val (.int (Int.gcd a b:Nat)))):cV [.val (.int a),.val (.int b)] Q:=by
 refine wA ?_;unfold eO fY fW;walk_at "!*1,a&*1,a&*%";refine yF (fun n Γ=>∃ d r x,Γ=[.val (.int a),.val (.int b),.val (.int d),.val (.int r),x]∧0≤d∧0≤r∧Int.gcd d r=Int.gcd a b∧n=r.toNat) _ ⟨_,_,.no,rfl,a5E a,a5E b,a5F a b,rfl⟩ ?_;rintro m Γ ⟨d,r,x,rfl,hd,hr,hg,rfl⟩;walk_at "!0]&#D%";refine a8F (fun c=>?_) (fun c=>?_)
 ·have hp:0<r:=by omega
  walk_at "!*1,B&&%";refine⟨hp,?_⟩;walk_at "!*1,&1,&%";have h1:=emod_nonneg d (b:=r) (by omega);have h2:=emod_lt_of_pos d hp;exact⟨_,by omega,_,_,_,rfl,hr,h1,(a0E hd hp).trans hg,rfl⟩
 ·subst c;have e:=a4T hd;rw[hg] at e;walk_at "!;,&%";rw[e] at q;exact q
theorem nQ {t b:Int}(h0:b≠0)(hb:Bt 9000 b)(q:Q (.val (cD (Rat.divInt t b)))):fM [.val (.int t),.val (.int b)] Q:=by
 have g0:=a9U (t:=t) h0;have g1:=a9Q (t:=t) hb h0;refine wA ?_;unfold nM mW mV;walk_at "!*4FE0':+&.7%";refine a7A ?_;walk_at "!RFE0':+&.7%";refine a7A ?_;walk_at "!R0<&#D%";refine aDV h0 ?_;walk_at "!=*1,':+&+&.7%";refine aDK ?_;walk_at "!*408&#%";refine dN (fun c=>?_) (fun c=>?_)
 ·have n:=a95 (t:=t) c;walk_at "!1,b&;,/$B&&%";refine⟨⟨by omega,g1.neg⟩,?_⟩;walk_at "!$B&&%";refine⟨⟨by omega,g1.neg⟩,?_⟩;walk_at "!()";rw[n.1,n.2];exact q
 ·have n:=lW (t:=t) (b:=b) (by omega);walk_at "!=;,/$B&&%";refine⟨⟨g0,g1⟩,?_⟩;walk_at "!$B&&%";refine⟨⟨g0,g1⟩,?_⟩;walk_at "!()";rw[n.1,n.2];exact q
theorem a8L {a b:Rat}(ha:Sz 4000 a)(hb:Sz 4000 b)(q:Q (.val (cD (a+b)))):rM [.val (cD a),.val (cD b)] Q:=by
 obtain⟨a0,a1⟩:=id ha;obtain⟨b0,b1⟩:=id hb;refine wA ?_;unfold vA;walk_at "!;:+8B-&#O-&#IMB-&#O-&#IM+B-&#I-&#IM.7%";refine nQ (mul_ne_zero (jK a) (jK b)) ((a1.mul b1).mono (by decide)) ?_;rw[a3T];exact q
theorem tD {a b:Rat}(ha:Sz 4000 a)(hb:Sz 4000 b)(q:Q (.val (cD (a-b)))):eQ [.val (cD a),.val (cD b)] Q:=by
 obtain⟨a0,a1⟩:=id ha;obtain⟨b0,b1⟩:=id hb;refine wA ?_;unfold gR;walk_at "!;:+8B-&#O-&#IMB-&#O-&#IM+B-&#I-&#IM.7%";refine nQ (mul_ne_zero (jK a) (jK b)) ((a1.mul b1).mono (by decide)) ?_;rw[aDN];exact q
theorem qD {a b:Rat}(ha:Sz 4000 a)(hb:Sz 4000 b)(q:Q (.val (cD (a*b)))):g8 [.val (cD a),.val (cD b)] Q:=by
 obtain⟨a0,a1⟩:=id ha;obtain⟨b0,b1⟩:=id hb;refine wA ?_;unfold lA;walk_at "!;:+B-&#O-&#OM+B-&#I-&#IM.7%";refine nQ (mul_ne_zero (jK a) (jK b)) ((a1.mul b1).mono (by decide)) ?_;rw[a9B];exact q
theorem yK {a b:Rat}(ha:Sz 9000 a)(hb:Sz 9000 b)(q:Q (.val (.bool (decide (a<b))))):oA [.val (cD a),.val (cD b)] Q:=by
 obtain⟨a0,a1⟩:=id ha;obtain⟨b0,b1⟩:=id hb;refine wA ?_;unfold tW;walk_at "!;,8B-&#O-&#IMB-&#O-&#IM%";rw[aHE];exact q
theorem a2Y {l:Rat×Rat}{t:Rat}(h1:Sz 900 l.1)(h2:Sz 900 l.2)(h3:Sz 2900 t)(q:Q (.val (cD (l.1+l.2*t)))):lX [.val (jV l),.val (cD t)] Q:=by
 refine wA ?_;unfold pX;walk_at "!;:+-&#}+':+-&#~+&.7%";refine qD (h2.mono (by decide)) (h3.mono (by decide)) ?_;walk_at "!.7%";exact a8L (h1.mono (by decide)) ((h2.mul h3).mono (by decide)) q
end
theorem o5 (i:Int):PyData.tuple [.int i,.int 1]=cD (i:Rat):=by
 unfold cD;rw[Rat.num_intCast,Rat.den_intCast];rfl
theorem aAQ {k:Nat}{i:Int}(h1 : -2147483648<i)(h2:i<2147483648)(hk:31≤k:=by decide):Bt k i:=by
 refine Bt.mono (k:=31) ?_ hk;show i.natAbs<2^31;have:(2:Nat)^31=2147483648:=by decide
 omega
def LinesOk (k:Nat)(ls:List (Rat×Rat)):Prop:=∀ l∈ls,Sz k l.1∧Sz k l.2
theorem LinesOk.get {k:Nat}{ls:List (Rat×Rat)}(h:LinesOk k ls){i:Nat}{l:Rat×Rat}(e:ls[i]?=some l):Sz k l.1∧Sz k l.2:=h l (mem_of_getElem? e)
theorem wI {ds:List D}{i:Nat}{d:D}(h:ds[i]?=some d):ixD (.list ds) (.int (i:Int))=some d:=n8 h
section
variable {Q:Rv→Prop}
end
section
variable {p:Addr}{n:Nat}{Q:Rv→Nat→Prop}
theorem tX {Q:Rv→Prop}{t b:Int}(h0:0<b)(hb:Bt 9000 b)(q:Q (.val (cD (Rat.divInt t b)))):eG [.val (.int t),.val (.int b)] Q:=by
 have g0:=a9U (t:=t) (b:=b) (by omega);have g1:=a9Q (t:=t) hb (by omega);refine wA ?_;unfold lO lL lM;walk_at "!*1,a&*1,&*%";refine yF (fun n Γ=>∃ d r,Γ=[.val (.int t),.val (.int b),.val (.int d),.val (.int r)]∧0≤d∧0≤r∧Int.gcd d r=Int.gcd t b∧n=r.toNat) _ ⟨_,_,rfl,a5E t,by omega,by
  have:=a5F t b;rwa[if_neg (c:=b<0) (by omega)] at this,rfl⟩ ?_
 rintro m Γ ⟨d,r,rfl,hd,hr,hg,rfl⟩;walk_at "!08&#%";refine dN (fun c=>?_) (fun c=>?_)
 ·walk_at "!Ā$&$B&&%";refine⟨c,?_⟩;walk_at "!(%";have h1:=emod_nonneg d (b:=r) (by omega);have h2:=emod_lt_of_pos d c;exact⟨_,by omega,_,_,rfl,hr,h1,(a0E hd c).trans hg,rfl⟩
 ·have c':r=0:=by omega
  subst c';have e:=a4T hd;rw[hg] at e;subst e;have n:=lW (t:=t) (b:=b) h0;walk_at "!;,/$B&&%";refine⟨⟨g0,g1⟩,?_⟩;walk_at "!$B&&%";refine⟨⟨g0,g1⟩,?_⟩;walk_at "!()";rw[n.1,n.2];exact q
end
def nO (xs:List Nat):List D:=xs.map fun i:Nat=>PyData.int (i:Int)
theorem eV (xs:List Nat):(nO xs).length=xs.length:=by simp[nO]
theorem a5I (xs:List Nat):Good (.list (nO xs)):=(a72 (n:=0) fun d h=>by
 obtain⟨t,_,rfl⟩:=mem_map.mp h;exact yJ _).good
section
variable {Q:Rv→Prop}
end
inductive Deed where
 | join (t p m:Rat)
 | leave (t:Rat) (r:Nat)
 | turn (t:Rat) (r:Nat) (m:Rat)
def Deed.t:Deed→Rat
 | .join t _ _=>t
 | .leave t _=>t
 | .turn t _ _=>t
def bM:Deed→D
 | .join t p m=>.tuple [.str "join", cD t,cD p,cD m]
 | .leave t r=>.tuple [.str "leave", cD t,.int (r:Int)]
 | .turn t r m=>.tuple [.str "turn", cD t,.int (r:Int),cD m]
structure Rn where
 ls:List Ln
 rs:List Nat
def Rn.at (s:Rn)(r:Nat):Ln:=s.ls.getD r (0,0)
def stp (s:Rn):Deed→Rn
 | .join t p m=>⟨s.ls++[(p-m*t,m)],s.rs++[s.ls.length]⟩
 | .leave _ r=>⟨s.ls,s.rs.filter fun x=>decide (x≠r)⟩
 | .turn t r m=>⟨s.ls.set r (pl (s.at r) t-m*t,m),s.rs⟩
def Deed.ok (s:Rn):Deed→Prop
 | .join _ _ _=>True
 | .leave _ r=>r∈s.rs
 | .turn _ r _=>r∈s.rs
def run (ds:List Deed):Rn:=ds.foldl stp ⟨[],[]⟩
theorem rN (ds:List Deed)(d:Deed):run (ds++[d])=stp (run ds) d:=by unfold run; rw[List.foldl_append]; rfl
def LogP (P:Rn→Deed→Prop)(ds:List Deed):Prop:=∀(n:Nat) d,ds[n]?=some d→P (run (ds.take n)) d
def LogOk (ds:List Deed):Prop:=LogP (fun s d=>d.ok s) ds
theorem LogP.snoc {P:Rn→Deed→Prop}{ds:List Deed}{d:Deed}(h:LogP P ds)(hd:P (run ds) d):LogP P (ds++[d]):=fun n e he=>by
 by_cases hn:n<ds.length
 ·rw[getElem?_append_left hn] at he;rw[List.take_append_of_le_length (le_of_lt hn)];exact h n e he
 ·have hn2:n=ds.length:=by
   have:=(List.getElem?_eq_some_iff.mp he).1;rw[length_append,length_singleton] at this;omega
  subst hn2;rw[getElem?_append_right (le_refl _),sub_self] at he
  cases he
  rw[List.take_append_of_le_length (le_refl _),take_length];exact hd
theorem LogP.take {P:Rn→Deed→Prop}{ds:List Deed}(h:LogP P ds)(k:Nat):LogP P (ds.take k):=fun n e he=>by
 rw[List.getElem?_take] at he
 split at he
 ·rename_i hn
  rw[List.take_take,Nat.min_eq_left (le_of_lt hn)];exact h n e he
 ·cases he
theorem LogOk.snoc {ds:List Deed}{d:Deed}(h:LogOk ds)(hd:d.ok (run ds)):LogOk (ds++[d]):=LogP.snoc h hd
theorem LogOk.take {ds:List Deed}(h:LogOk ds)(k:Nat):LogOk (ds.take k):=LogP.take h k
def Deed.few (s:Rn):Deed→Prop
 | .join _ _ _=>s.rs.length<8
 | _=>True
def Few (ds:List Deed):Prop:=LogP (fun s d=>d.few s) ds
structure RnOk (s:Rn):Prop where
 up:s.rs.Pairwise (·<·)
 lt:∀ r∈s.rs,r<s.ls.length
theorem a5Q {s:Rn}(h:RnOk s)(d:Deed):RnOk (stp s d):=by
 cases d with
 | join t p m=>
  refine⟨List.pairwise_append.mpr ⟨h.up,List.pairwise_singleton _ _,fun a ha b hb=>?_⟩,fun r hr=>?_⟩
  ·rw[mem_singleton.mp hb]; exact h.lt a ha
  ·show r<(s.ls++[_]).length;rw[length_append,length_singleton];rcases mem_append.mp hr with z|z
   ·have:=h.lt r z; omega
   ·rw[mem_singleton.mp z]; omega
 | leave t r=>exact⟨h.up.sublist List.filter_sublist,fun x hx=>h.lt x (mem_filter.mp hx).1⟩
 | turn t r m=>
  refine⟨h.up,fun x hx=>?_⟩;show x<(s.ls.set r _).length;rw[length_set];exact h.lt x hx
theorem a0I:∀(ds:List Deed) {s:Rn},RnOk s→RnOk (ds.foldl stp s)
 | [],_,h=>h
 | d::ds,_,h=>a0I ds (a5Q h d)
theorem oE (ds:List Deed):RnOk (run ds):=a0I ds ⟨List.Pairwise.nil,fun _ h=>nomatch h⟩
theorem RnOk.nd {s:Rn}(h:RnOk s):s.rs.Nodup:=h.up.imp fun h=>ne_of_lt h
theorem a1N (s:Rn)(d:Deed):(stp s d).rs.length≤s.rs.length+1:=by
 cases d with
 | join t p m=>show(s.rs++[_]).length≤_; rw[length_append,length_singleton]; exact le_refl _
 | leave t r=>exact Nat.le_succ_of_le (List.length_filter_le _ _)
 | turn t r m=>exact le_succ _
theorem qH:∀(ds:List Deed) (s:Rn),(ds.foldl stp s).rs.length≤s.rs.length+ds.length
 | [],s=>le_refl _
 | d::ds,s=>by
  have h1:=qH ds (stp s d);have h2:=a1N s d
  show(ds.foldl stp (stp s d)).rs.length≤_
  rw[length_cons]; omega
theorem pL (ds:List Deed):(run ds).rs.length≤ds.length:=by
 have h:(run ds).rs.length≤([]:List Nat).length+ds.length:=qH ds ⟨[],[]⟩;rw[length_nil] at h;omega
theorem a6T (s:Rn)(d:Deed):(stp s d).ls.length≤s.ls.length+1:=by
 cases d with
 | join t p m=>show(s.ls++[_]).length≤_; rw[length_append,length_singleton]; exact le_refl _
 | leave t r=>exact le_succ _
 | turn t r m=>show(s.ls.set r _).length≤_; rw[length_set]; exact le_succ _
def yO (ls:List Ln)(rs:List Nat):List (Int×D):=rs.map fun r:Nat=>((r:Int),jV (ls.getD r (0,0)))
def gB (s:Rn):List (Int×D):=yO s.ls s.rs
theorem kds_len (s:Rn):(gB s).length=s.rs.length:=length_map _
theorem aBH (ls:List Ln):∀(rs:List Nat) (r:Nat),qJ (yO ls rs) (r:Int)=if r∈rs then some (jV (ls.getD r (0,0))) else none
 | [],r=>by rw[if_neg (by exact fun h=>nomatch h)]; rfl
 | x::rs,r=>by
  show(if (x:Int)=(r:Int) then _ else qJ (yO ls rs) (r:Int))=_
  by_cases e:x=r
  ·subst e;rw[if_pos rfl,if_pos mem_cons_self]
  ·rw[if_neg (by omega),aBH ls rs r]
   by_cases h:r∈rs
   ·rw[if_pos h,if_pos (mem_cons_of_mem _ h)]
   ·rw[if_neg h,if_neg (fun z=>(mem_cons.mp z).elim (fun y=>e y.symm) h)]
theorem a6N {s:Rn}{r:Nat}(h:r∈s.rs):qJ (gB s) (r:Int)=some (jV (s.at r)):=by
 unfold gB;rw[aBH,if_pos h];rfl
theorem a73 (ls:List Ln):∀(rs:List Nat) (n:Int) (d:D),qJ (yO ls rs) n=some d→∃ r:Nat,n=(r:Int)∧r∈rs∧d=jV (ls.getD r (0,0))
 | [],n,d,h=>nomatch h
 | x::rs,n,d,h=>by
  have h:(if (x:Int)=n then some (jV (ls.getD x (0,0))) else qJ (yO ls rs) n)=some d:=h
  split at h
  ·rename_i e
   cases h
   exact⟨x,e.symm,mem_cons_self,rfl⟩
  ·obtain⟨r,a,b,c⟩:=a73 ls rs n d h;exact⟨r,a,mem_cons_of_mem _ b,c⟩
theorem a7T {s:Rn}(h:RnOk s)(t p m:Rat):rG (gB s) (s.ls.length:Int) (jV (p-m*t,m))=gB (stp s (.join t p m)):=by
 have hn:qJ (gB s) (s.ls.length:Int)=none:=by
  unfold gB;rw[aBH,if_neg (fun z=>lt_irrefl _ (h.lt _ z))]
 unfold rG;rw[hn,if_neg (by decide)];show yO s.ls s.rs++_=yO (s.ls++[(p-m*t,m)]) (s.rs++[s.ls.length]);unfold yO;rw[map_append]
 congr 1
 ·refine List.map_congr_left fun r hr=>?_;have:=h.lt r hr;rw[getD_eq_getElem?_getD,getD_eq_getElem?_getD,getElem?_append_left this]
 ·rw[List.map_singleton,getD_eq_getElem?_getD,getElem?_append_right (le_refl _),sub_self];rfl
theorem a3P (s:Rn)(t:Rat)(r:Nat):kI (gB s) (r:Int)=gB (stp s (.leave t r)):=by
 show kI (yO s.ls s.rs) _=yO s.ls (s.rs.filter _)
 induction s.rs with
 | nil=>rfl
 | cons x rs ih=>
  show(if (x:Int)=(r:Int) then kI (yO s.ls rs) (r:Int) else((x:Int),jV (s.ls.getD x (0,0)))::kI (yO s.ls rs) (r:Int))=_
  by_cases e:x=r
  ·rw[if_pos (by omega),ih,List.filter_cons_of_neg (by simpa using e)]
  ·rw[if_neg (by omega),ih,List.filter_cons_of_pos (by simpa using e)];rfl
theorem a8U {s:Rn}(h:RnOk s){t m:Rat}{r:Nat}(hr:r∈s.rs):rG (gB s) (r:Int) (jV (pl (s.at r) t-m*t,m))=gB (stp s (.turn t r m)):=by
 have hl:=h.lt r hr;unfold rG;rw[a6N hr,if_pos (show(some (jV (s.at r))).isSome=true from rfl)];show uR (yO s.ls s.rs) _ _=yO (s.ls.set r _) s.rs;generalize (pl (s.at r) t-m*t,m)=l;clear hr
 induction s.rs with
 | nil=>rfl
 | cons x rs ih=>
  show(if (x:Int)=(r:Int) then((x:Int),jV l) else((x:Int),jV (s.ls.getD x (0,0))))::uR (yO s.ls rs) (r:Int) (jV l)=((x:Int),jV ((s.ls.set r l).getD x (0,0)))::yO (s.ls.set r l) rs
  rw[ih]
  congr 1
  by_cases e:x=r
  ·subst e;rw[if_pos rfl,getD_eq_getElem?_getD,getElem?_set_self hl];rfl
  ·rw[if_neg (by omega),getD_eq_getElem?_getD,getD_eq_getElem?_getD,getElem?_set_ne (Ne.symm e)]
theorem a9I {s:Rn}(h:RnOk s){r:Nat}(hr:r∈s.rs):s.ls[r]?=some (s.at r):=by
 have:=h.lt r hr;unfold Rn.at;rw[getD_eq_getElem?_getD,getElem?_eq_getElem this];rfl
def Rising (ds:List Deed):Prop:=ds.Pairwise fun a b=>a.t≤b.t
theorem Rising.snoc {ds:List Deed}{d:Deed}(h:Rising ds)(hd:∀ e∈ds,e.t≤d.t):Rising (ds++[d]):=
 List.pairwise_append.mpr ⟨h,List.pairwise_singleton _ _,fun a ha b hb=>by rw[mem_singleton.mp hb]; exact hd a ha⟩
def G1 (B:Nat)(q:Rat):Prop:=∃ z:Int,q*27720=(z:Rat)∧z.natAbs≤B
def G2 (B:Nat)(q:Rat):Prop:=∃ z:Int,q*768398400=(z:Rat)∧z.natAbs≤B
theorem G1.mul {A B:Nat}{a b:Rat}(h:G1 A a)(g:G1 B b):G2 (A*B) (a*b):=by
 obtain⟨x,hx,bx⟩:=h;obtain⟨y,hy,dy⟩:=g;refine⟨x*y,?_,by rw[natAbs_mul]; exact mul_le_mul bx dy⟩;rw[intCast_mul,←hx,←hy];grind
theorem G1.up {A:Nat}{a:Rat}(h:G1 A a):G2 (A*27720) a:=by
 obtain⟨x,hx,bx⟩:=h;refine⟨x*27720,?_,by rw[natAbs_mul]; exact mul_le_mul bx (le_refl _)⟩;rw[intCast_mul,←hx];show a*768398400=a*27720*((27720:Int):Rat);rw[show((27720:Int):Rat)=27720 from rfl];grind
theorem G2.mono {A B:Nat}{a:Rat}(h:G2 A a)(l:A≤B):G2 B a:=let ⟨x,hx,bx⟩:=h; ⟨x,hx,le_trans bx l⟩
theorem G2.add {A B:Nat}{a b:Rat}(h:G2 A a)(g:G2 B b):G2 (A+B) (a+b):=by
 obtain⟨x,hx,bx⟩:=h;obtain⟨y,hy,dy⟩:=g;refine⟨x+y,?_,le_trans (Int.natAbs_add_le _ _) (Nat.add_le_add bx dy)⟩;rw[Rat.intCast_add,←hx,←hy];grind
theorem G2.sub {A B:Nat}{a b:Rat}(h:G2 A a)(g:G2 B b):G2 (A+B) (a-b):=by
 obtain⟨x,hx,bx⟩:=h;obtain⟨y,hy,dy⟩:=g;refine⟨x-y,?_,?_⟩
 ·rw[Rat.intCast_sub,←hx,←hy];grind
 ·omega
theorem G2.sz {B k:Nat}{q:Rat}(h:G2 B q)(hB:B<2^k)(hk:30≤k):Sz k q:=by
 obtain⟨z,hz,bz⟩:=h;rw[← dI (t:=z) (b:=768398400) (q:=q) (by decide) hz.symm];refine Sz.divInt (lt_of_le_of_lt bz hB) (Bt.mono (k:=30) (by show Int.natAbs 768398400<2^30; decide) hk) (by decide)
theorem G1.sz {B k:Nat}{q:Rat}(h:G1 B q)(hB:B<2^k)(hk:30≤k):Sz k q:=by
 obtain⟨z,hz,bz⟩:=h;rw[← dI (t:=z) (b:=27720) (q:=q) (by decide) hz.symm];refine Sz.divInt (lt_of_le_of_lt bz hB) (Bt.mono (k:=30) (by show Int.natAbs 27720<2^30; decide) hk) (by decide)
theorem xN {a b:Int}{B:Nat}(ha:a.natAbs*27720≤B)(b0:1≤b)(b1:b≤12):G1 B (Rat.divInt a b):=by
 obtain⟨c,hc,c0,c1⟩:∃ c:Int,b*c=27720∧0≤c∧c≤27720:=by
  have:b=1∨b=2∨b=3∨b=4∨b=5∨b=6∨b=7∨b=8∨b=9∨b=10∨b=11∨b=12:=by omega
  rcases this with rfl|rfl|rfl|rfl|rfl|rfl|rfl|rfl|rfl|rfl|rfl|rfl
  ·exact⟨27720,by decide⟩
  ·exact⟨13860,by decide⟩
  ·exact⟨9240,by decide⟩
  ·exact⟨6930,by decide⟩
  ·exact⟨5544,by decide⟩
  ·exact⟨4620,by decide⟩
  ·exact⟨3960,by decide⟩
  ·exact⟨3465,by decide⟩
  ·exact⟨3080,by decide⟩
  ·exact⟨2772,by decide⟩
  ·exact⟨2520,by decide⟩
  ·exact⟨2310,by decide⟩
 refine⟨a*c,?_,le_trans ?_ ha⟩
 ·have hb:(b:Rat)≠0:=fun z=>by
   have:b=0:=by exact_mod_cast z
   omega
  have hc':(b:Rat)*(c:Rat)=27720:=by
   rw[← intCast_mul,hc]; rfl
  rw[divInt_eq_div,intCast_mul,←hc'];grind
 ·rw[natAbs_mul];exact mul_le_mul (le_refl _) (by omega)
def DeedZ:Deed→Prop
 | .join t p m=>G1 (2^45) t∧G1 (2^45) p∧G1 (2^45) m
 | .leave t _=>G1 (2^45) t
 | .turn t _ m=>G1 (2^45) t∧G1 (2^45) m
theorem DeedZ.tz {d:Deed}(h:DeedZ d):Sz 60 d.t:=by
 cases d with
 | join t p m=>exact G1.sz (q:=t) h.1 (by decide) (by decide)
 | leave t r=>exact G1.sz (q:=t) h (by decide) (by decide)
 | turn t r m=>exact G1.sz (q:=t) h.1 (by decide) (by decide)
def RnZ (n:Nat)(s:Rn):Prop:=∀ l∈s.ls,G2 ((n+1)*2^91) l.1∧G1 (2^45) l.2
theorem aIG {n:Nat}{s:Rn}{d:Deed}(h:RnZ n s)(hs:RnOk s)(hd:d.ok s)(hz:DeedZ d):RnZ (n+1) (stp s d):=by
 have old:∀ l∈s.ls,G2 ((n+1+1)*2^91) l.1∧G1 (2^45) l.2:=fun l hl=>⟨(h l hl).1.mono (Nat.mul_le_mul_right _ (by omega)),(h l hl).2⟩
 cases d with
 | join t p m=>
  obtain⟨h1,h2,h3⟩:=hz;intro l hl;rcases mem_append.mp hl with z|z
  ·exact old l z
  ·rw[mem_singleton.mp z];refine⟨(h2.up.sub (h3.mul h1)).mono ?_,h3⟩;refine le_trans (m:=1*2^91) (by decide) (Nat.mul_le_mul_right _ (by omega))
 | leave t r=>exact old
 | turn t r m=>
  obtain⟨h1,h3⟩:=hz;intro l hl;rcases List.mem_or_eq_of_mem_set hl with z|z
  ·exact old l z
  ·rw[z];have hm:s.at r∈s.ls:=mem_of_getElem? (a9I hs hd);obtain⟨a,b⟩:=h _ hm;refine⟨((a.add (b.mul h1)).sub (h3.mul h1)).mono ?_,h3⟩;have e:2^45*2^45+2^45*2^45=2^91:=by decide
   have:(n+1+1)*2^91=(n+1)*2^91+2^91:=succ_mul _ _;omega
theorem aHC {ds:List Deed}(hl:LogOk ds)(hz:∀ d∈ds,DeedZ d):RnZ ds.length (run ds):=by
 have aux:∀ n,n≤ds.length→RnZ n (run (ds.take n)):=by
  intro n
  induction n with
  | zero=>intro _ l hl; exact nomatch hl
  | succ n ih=>
   intro hn;have hn':n<ds.length:=by omega
   have e:ds[n]?=some ds[n]:=getElem?_eq_getElem hn';rw[take_succ,e];show RnZ (n+1) (run (ds.take n++[ds[n]]));rw[rN];exact aIG (ih (by omega)) (oE _) (hl n _ e) (hz _ (getElem_mem hn'))
 have:=aux ds.length (le_refl _);rw[take_length] at this;exact this
theorem aFP {ds:List Deed}(hl:LogOk ds)(hz:∀ d∈ds,DeedZ d)(h40:ds.length≤40):LinesOk 200 (run ds).ls:=fun l h=>by
 obtain⟨a,b⟩:=aHC hl hz l h;refine⟨a.sz ?_ (by decide),b.sz (by decide) (by decide)⟩;exact lt_of_le_of_lt (Nat.mul_le_mul_right _ (show ds.length+1≤41 by omega)) (by decide)
def zU (q:Rat):Prop:=q.num.natAbs≤999999999∧q.den≤12
theorem a6F {a b:Int}(ha:a.natAbs≤999999999)(b0:1≤b)(b1:b≤12):zU (Rat.divInt a b):=by
 obtain⟨h1,h2⟩:=lW (t:=a) (b:=b) (by omega);rw[fd] at h1 h2;refine⟨?_,?_⟩
 ·rw[← h1];exact le_trans (Int.natAbs_ediv_le_natAbs _ _) ha
 ·have h3:((Rat.divInt a b).den:Int).natAbs≤b.natAbs:=by
   rw[← h2];exact Int.natAbs_ediv_le_natAbs _ _
  omega
def uC:Deed→Prop
 | .join t p m=>zU t∧zU p∧zU m
 | .leave t _=>zU t
 | .turn t _ m=>zU t∧zU m
structure LogB (ds:List Deed):Prop where
 ok:LogOk ds
 up:Rising ds
 z:∀ d∈ds,DeedZ d
 nm:∀ d∈ds,uC d
 few:Few ds
section
variable {p:Addr}{n:Nat}{Q:Rv→Nat→Prop}
theorem aFJ (hn:n<1000000)(q:∀(r:Int) n',r.natAbs≤999999999→n'≤n+4→Q (.val (.int r)) n'):oW p n [] Q:=by
 refine uA ?_;unfold sX;walk_at "!*1,88B'%2+#.3";refine cG (by decide) (by decide) (by omega) fun a a0 a1=>?_;walk_at "!#%";refine⟨aDS (k:=31) (aAQ (by omega) (by omega)) (m:=31) (aAQ (by decide) (by decide)),?_⟩;walk_at "!B'%2+#.3";refine cG (by decide) (by decide) (by omega) fun b b0 b1=>?_;walk_at "!#%";refine⟨aDS (k:=31) (aAQ (by omega) (by omega)) (m:=31) (aAQ (by decide) (by decide)),?_⟩;walk_at "!'%2+#.3";refine cG (by decide) (by decide) (by omega) fun c c0 c1=>?_;walk_at "!%A,-'5$&$8#&()%'%2+#.3";refine cG (by decide) (by decide) (by omega) fun d d0 d1=>?_;walk_at "!%";have hd:d=0∨d=1:=by omega
 rcases hd with rfl|rfl
 ·refine dF (d:=.int (a*1000000+b*1000+c)) rfl ?_;walk_at "!?%@";exact q _ _ (by omega) (by omega)
 ·refine dF (d:=.int (0-(a*1000000+b*1000+c))) rfl ?_;walk_at "!?%@";exact q _ _ (by omega) (by omega)
theorem a5C (xs:List Nat):PyData.eqv (.list (nO xs)) (.list [])=decide (xs=[]):=by
 cases xs with
 | nil=>rfl
 | cons x xs=>rw[decide_eq_false (fun h=>nomatch h)]; rfl
theorem a4D:Good (.list []):=(a72 (n:=0) (ds:=[]) fun _ h=>nomatch h).good
theorem qL:∀{rs:List Nat} {k:Nat} {r:Nat},rs.Nodup→rs[k]?=some r→rs.eraseIdx k=rs.filter fun x=>decide (x≠r)
 | [],k,r,_,h=>by cases k<;>cases h
 | x::rs,0,r,hn,h=>by
  cases h
  obtain⟨a,b⟩:=nodup_cons.mp hn;rw[List.filter_cons_of_neg (by simp),List.eraseIdx_cons_zero];exact(List.filter_eq_self.mpr fun y hy=>by simpa using fun(e:y=x)=>a (e▸hy)).symm
 | x::rs,k+1,r,hn,h=>by
  obtain⟨a,b⟩:=nodup_cons.mp hn;have h:rs[k]?=some r:=h;have hx:x≠r:=fun e=>a (e▸mem_of_getElem? h);rw[List.filter_cons_of_pos (by simpa using hx),List.eraseIdx_cons_succ,qL b h]
theorem xQ {α β:Type}(f:α→β):∀(xs:List α) (k:Nat),(xs.eraseIdx k).map f=(xs.map f).eraseIdx k
 | [],k=>by cases k<;>rfl
 | x::xs,0=>rfl
 | x::xs,k+1=>by
  show f x::(xs.eraseIdx k).map f=f x::(xs.map f).eraseIdx k;rw[xQ f xs k]
theorem a4W {xs:List Nat}{k r:Nat}(h:xs[k]?=some r):(nO xs)[k]?=some (.int (r:Int)):=by
 unfold nO;rw[getElem?_map,h];rfl
theorem a3N {a b c:Int}(hc:0<c)(h:a≤b):Rat.divInt a c≤Rat.divInt b c:=by
 rw[divInt_eq_div,divInt_eq_div];have hc':(0:Rat)<(c:Rat):=by exact_mod_cast hc
 have h':(a:Rat)≤(b:Rat):=by exact_mod_cast h
 rw[Rat.div_def,Rat.div_def];exact Rat.mul_le_mul_of_nonneg_right h' (Rat.le_of_lt (Rat.inv_pos.mpr hc'))
theorem aH8 {m p B:Int}(hp:1≤p)(hB:0≤B)(h:m≤B):Rat.divInt m p≤(B:Rat):=by
 apply Classical.byContradiction;intro c;have h1:Rat.divInt m p*(p:Rat)=(m:Rat):=by
  rw[divInt_eq_div,Rat.div_mul_cancel];intro z;have:p=0:=by exact_mod_cast z
  omega
 have p1:(1:Rat)≤(p:Rat):=by exact_mod_cast hp
 have b0:(0:Rat)≤(B:Rat):=by exact_mod_cast hB
 have h':(m:Rat)≤(B:Rat):=by exact_mod_cast h
 have a1:=Rat.mul_nonneg (show 0≤Rat.divInt m p-(B:Rat) by grind) (show 0≤(p:Rat)-1 by grind);have a2:=Rat.mul_nonneg b0 (show 0≤(p:Rat)-1 by grind);grind
end
section
variable {p:Addr}{n:Nat}{Q:Rv→Nat→Prop}
theorem p6 (hn:n<900000)(q:∀(r:Rat) n',G1 (2^45) r∧zU r→n'≤n+6→Q (.val (cD r)) n'):fH p n [] Q:=by
 refine uA ?_;unfold nG;walk_at "!>*408'%2+#.3";refine cG (by decide) (by decide) (by omega) fun z z0 z1=>?_;walk_at "!>#%";refine dN (fun c=>?_) (fun c=>?_)
 ·walk_at "!A,/$8'%2+#.3";refine cG (by decide) (by decide) (by omega) fun a a0 a1=>?_;walk_at "!>#$#()?%@";rw[o5];refine q _ _ ?_ (by omega);have:=And.intro (xN (a:=a-3) (b:=1) (B:=2^45) (by omega) (by decide) (by decide)) (a6F (a:=a-3) (b:=1) (by omega) (by decide) (by decide));rwa[dI (t:=a-3) (b:=1) (q:=((a-3:Int):Rat)) (by decide) (by rw[show((1:Int):Rat)=1 from rfl]; grind)] at this
 ·unfold mH;walk_at "!=%A:+'%2.3";refine aFJ (by omega) fun a n1 ha hn1=>?_;walk_at "!>+8#'%2+#.3";refine cG (by decide) (by decide) (by omega) fun b b0 b1=>?_;walk_at "!>.7";refine tX (by omega) (aAQ (by omega) (by omega)) ?_;walk_at "!?%@";exact q _ _ ⟨xN (by omega) (by omega) (by omega),a6F (by omega) (by omega) (by omega)⟩ (by omega)
theorem aCL {many:Nat}(hm:many≤40)(hn:n<100000)(q:∀(ds:List Deed) n',ds.length=many→LogB ds→(∀ d∈ds,d.t≤((220:Int):Rat))→n'≤n+1000→Q (.own (ds.map bM)) n'):lK p n [.val (.int (many:Int))] Q:=by
 refine uA ?_;unfold sE;walk_at "!>*1,-'5$#$#$8#'%2+#.3";refine cG (by decide) (by decide) (by omega) fun b b0 b1=>?_;walk_at "!>()'%2+#.3";refine cG (by decide) (by decide) (by omega) fun c c0 c1=>?_;walk_at "!>";obtain⟨pa,hpa,p1,p12⟩:∃ pa:Int,ixD (.list [.int 1,.int 1,.int (1+b)]) (.int c)=some (.int pa)∧1≤pa∧pa≤12:=by
  have:c=0∨c=1∨c=2:=by omega
  rcases this with rfl|rfl|rfl
  ·exact⟨1,rfl,by decide,by decide⟩
  ·exact⟨1,rfl,by decide,by decide⟩
  ·exact⟨1+b,rfl,by omega,by omega⟩
 refine dF hpa ?_;walk_at "!*1,8'%2+#.3";refine cG (by decide) (by decide) (by omega) fun e e0 e1=>?_;walk_at "!>#*15()*15()*1,#*ic$&(%";refine⟨by omega,by omega,?_⟩;refine wX (fun j Γ=>∃(ds:List Deed) (tn:Int) (n':Nat) (x y z:Sl),Γ=[.box (penF.box p n'),.val (.int (many:Int)),.val (.int pa),.val (.int tn),.own (ds.map bM),.own (nO (run ds).rs),.val (.int ((run ds).ls.length:Int)),x,y,z] ∧
  ds.length=j∧LogB ds∧(∀ d∈ds,d.t≤Rat.divInt tn pa)∧tn.natAbs≤20+5*j∧n'≤n+5+20*j) ⟨[],_,_,_,_,_,rfl,rfl,⟨fun n d h=>(by cases n<;>cases h),List.Pairwise.nil,fun d h=>absurd h not_mem_nil,fun d h=>absurd h not_mem_nil,fun n d h=>(by cases n<;>cases h)⟩,fun d h=>absurd h not_mem_nil,by omega,by omega⟩ ?_ ?_
 ·rintro j Γ K hj ⟨ds,tn,n',x,y,z,rfl,hl,lb,ts,ht,hn'⟩ hK;have hj:j<40:=by omega
  unfold qO;walk_at "!H*1,8&-'5$#$#$#$#$#$#()%'%2+#.3";refine cG (by decide) (by decide) (by omega) fun f f0 f1=>?_;walk_at "!>";obtain⟨st,hst,s0,s5⟩:∃ st:Int,ixD (.list [.int 0,.int 1,.int 2,.int 1,.int 0,.int 5]) (.int f)=some (.int st)∧0≤st∧st≤5:=by
   have:f=0∨f=1∨f=2∨f=3∨f=4∨f=5:=by omega
   rcases this with rfl|rfl|rfl|rfl|rfl|rfl
   ·exact⟨0,rfl,by decide,by decide⟩
   ·exact⟨1,rfl,by decide,by decide⟩
   ·exact⟨2,rfl,by decide,by decide⟩
   ·exact⟨1,rfl,by decide,by decide⟩
   ·exact⟨0,rfl,by decide,by decide⟩
   ·exact⟨5,rfl,by decide,by decide⟩
  refine dF hst ?_;walk_at "!>*1,':+&+&.7%";refine tX (by omega) (aAQ (by omega) (by omega)) ?_;have zT:G1 (2^45) (Rat.divInt (tn+st) pa):=xN (by omega) p1 p12;have nT:zU (Rat.divInt (tn+st) pa):=a6F (by omega) p1 p12;have tT:∀ d∈ds,d.t≤Rat.divInt (tn+st) pa:=fun d hd=>Rat.le_trans (ts d hd) (a3N (by omega) (by omega));generalize hT:Rat.divInt (tn+st) pa=T at *;walk_at "!>*1,'%2+#.3";refine cG (by decide) (by decide) (by omega) fun w w0 w1=>?_;walk_at "!>4āF0<&'5()%";have ro:=oE ds;have rl:=pL ds;have e5:∀ d,(ds++[d]).map bM=ds.map bM++[bM d]:=fun d=>by rw[map_append]; rfl
  have done:∀(d:Deed) (n2:Nat) (x y z:Sl),d.ok (run ds)→d.few (run ds)→DeedZ d→uC d→d.t=T→n2≤n'+20→K (.nx [.box (penF.box p n2),.val (.int (many:Int)),.val (.int pa),.val (.int (tn+st)),.own (ds.map bM++[bM d]),.own (nO (stp (run ds) d).rs),.val (.int ((stp (run ds) d).ls.length:Int)),x,y,z]):=fun d n2 x y z h1 h5 h2 h6 h3 h4=>by
   rw[← rN,←e5];have mem:∀{P:Deed→Prop},(∀ e∈ds,P e)→P d→∀ e∈ds++[d],P e:=fun ha hb e he=>by
    rcases mem_append.mp he with u|u
    ·exact ha e u
    ·rw[mem_singleton.mp u]; exact hb
   exact hK.nx _ ⟨ds++[d],tn+st,n2,x,y,z,rfl,by rw[length_append,length_singleton,hl],⟨lb.ok.snoc h1,lb.up.snoc (fun e he=>by rw[h3]; exact tT e he),mem lb.z h2,mem lb.nm h6,LogP.snoc lb.few h5⟩,mem (fun e he=>by rw[hT]; exact tT e he) (by rw[h3,hT]; exact Rat.le_refl),by omega,by omega⟩
  have ll:(ds.map bM).length=ds.length:=length_map _;have e2:∀ t p m,nO (stp (run ds) (.join t p m)).rs=nO (run ds).rs++[.int ((run ds).ls.length:Int)]:=fun t p m=>by
   show nO ((run ds).rs++[_])=_;unfold nO;rw[map_append];rfl
  have e4:∀ t p m,(((stp (run ds) (.join t p m)).ls.length:Nat):Int)=((run ds).ls.length:Int)+1:=fun t p m=>by
   show((((run ds).ls++[_]).length:Nat):Int)=_
   rw[length_append,length_singleton];rfl
  refine⟨a5I _,a4D,?_⟩;rw[a5C];refine dN (fun c=>?j1) (fun c=>?rest)
  case' rest=>
   walk_at "!V08&#%";refine dN (fun c2=>?w) (fun c2=>?no1)
  case' w=>
   walk_at "!08%Ă#7";refine dN (fun c3=>?j2) (fun c3=>?no2)
  case j1=>
   have hfew:(run ds).rs.length<8:=by rw[c]; decide
   walk_at "!7J*W/$#$&$'%2.3";refine p6 (by omega) fun pp n1 g1 hn1=>?_;walk_at "!>$'%2.3";refine p6 (by omega) fun mm n2 g2 hn2=>?_;walk_at "!>()";refine⟨by omega,?_⟩;walk_at "!>*W&";refine⟨by rw[eV]; omega,?_⟩;walk_at "!>1,8&#%";have dn:=done (.join T pp mm) n2 (.val (.int (0+(j:Int)))) (.val (cD T)) (.val (.int w)) trivial hfew ⟨zT,g1.1,g2.1⟩ ⟨nT,g1.2,g2.2⟩ rfl (by omega);rw[e2,e4] at dn;exact dn
  case j2=>
   have hfew:(run ds).rs.length<8:=by rw[eV] at c3; omega
   walk_at "!*W/$#$&$'%2.3";refine p6 (by omega) fun pp n1 g1 hn1=>?_;walk_at "!>$'%2.3";refine p6 (by omega) fun mm n2 g2 hn2=>?_;walk_at "!>()";refine⟨by omega,?_⟩;walk_at "!>*W&";refine⟨by rw[eV]; omega,?_⟩;walk_at "!>1,8&#%";have dn:=done (.join T pp mm) n2 (.val (.int (0+(j:Int)))) (.val (cD T)) (.val (.int w)) trivial hfew ⟨zT,g1.1,g2.1⟩ ⟨nT,g1.2,g2.2⟩ rfl (by omega);rw[e2,e4] at dn;exact dn
  all_goals
   have hpos:0<(run ds).rs.length:=List.length_pos_iff.mpr c;walk_at "fS";refine dN (fun c9=>?lv) (fun c9=>?tu)
   case lv=>
    walk_at "!W/$#$&$ă'%2+r.3";refine cG (by rw[eV]; omega) (by rw[eV]; omega) (by omega) fun u u0 u1=>?_;rw[eV] at u1;obtain⟨k,rfl⟩:∃ k:Nat,u=(k:Int):=⟨u.toNat,by omega⟩;have hk:k<(run ds).rs.length:=by omega
    have hr:(run ds).rs[k]?=some (run ds).rs[k]:=getElem?_eq_getElem hk;refine aHQ (by with_unfolding_all rfl) (by omega) (a4W hr) ?_;walk_at "!>()";refine⟨by omega,?_⟩;walk_at "!>";have dn:=done (.leave T (run ds).rs[k]) (n'+1+1+1) (.val (.int (0+(j:Int)))) (.val (cD T)) (.val (.int w)) (mem_of_getElem? hr) trivial zT nT rfl (by omega);have e6:nO (stp (run ds) (.leave T (run ds).rs[k])).rs=(nO (run ds).rs).eraseIdx k:=by
     show nO (List.filter _ _)=_;rw[← qL ro.nd hr];exact xQ _ _ _
    rw[e6] at dn;exact dn
   case tu=>
    walk_at "!W/$#$&$Ą'%2+r.3";refine cG (by rw[eV]; omega) (by rw[eV]; omega) (by omega) fun u u0 u1=>?_;rw[eV] at u1;obtain⟨k,rfl⟩:∃ k:Nat,u=(k:Int):=⟨u.toNat,by omega⟩;have hk:k<(run ds).rs.length:=by omega
    have hr:(run ds).rs[k]?=some (run ds).rs[k]:=getElem?_eq_getElem hk;walk_at "!>ą";refine dF (wI (a4W hr)) ?_;walk_at "!$'%2.3";refine p6 (by omega) fun mm n2 g2 hn2=>?_;walk_at "!>()";refine⟨by omega,?_⟩;walk_at "!>";have dn:=done (.turn T (run ds).rs[k] mm) n2 (.val (.int (0+(j:Int)))) (.val (cD T)) (.val (.int w)) (mem_of_getElem? hr) trivial ⟨zT,g2.1⟩ ⟨nT,g2.2⟩ rfl (by omega);have e7:(((stp (run ds) (.turn T (run ds).rs[k] mm)).ls.length:Nat):Int)=((run ds).ls.length:Int):=by
     show(((List.set _ _ _).length:Nat):Int)=_
     rw[length_set]
    rw[e7] at dn;exact dn
 ·rintro Γ ⟨ds,tn,n',x,y,z,rfl,hl,lb,ts,ht,hn'⟩;rw[Int.toNat_natCast] at hl hn';unfold qM;walk_at "!>AĆ?%@";exact q _ _ hl lb (fun d hd=>Rat.le_trans (ts d hd) (aH8 p1 (by decide) (by omega))) (by omega)
theorem aHY {many:Nat}(hm:many≤40)(hn:n<100000)(q:∀(ds:List Deed) n',ds.length=many→LogB ds→n'≤n+1000→Q (.own (ds.map bM)) n'):lK p n [.val (.int (many:Int))] Q:=aCL hm hn fun ds n' h1 h2 _ h3=>q ds n' h1 h2 h3
end
theorem a9T {A B:Prop}{d:D}(g:Good d)(a:A):Good d∧Good d∧(if PyData.eqv d d=true then A else B):=⟨g,g,by rw[a0F g]; exact a1C a⟩
theorem a3G {A B:Prop}{d e:D}(g:Good d)(f:Good e)(h:PyData.eqv d e=false)(b:B):Good d∧Good e∧(if PyData.eqv d e=true then A else B):=⟨g,f,by rw[h]; exact zL b⟩
theorem aIO {A B:Prop}{d:D}(g:Good d)(b:B):Good d∧Good d∧(if (!PyData.eqv d d)=true then A else B):=⟨g,g,by rw[a0F g]; exact zL b⟩
theorem gJ:Good (.str "join"):=good_str _
theorem gL:Good (.str "leave"):=good_str _
theorem gT':Good (.str "turn"):=good_str _
theorem aAU (d:Deed):Gd 2 (bM d):=by
 cases d with
 | join t p m=>
  refine a0B (n:=1) fun x hx=>?_;simp only[mem_cons,not_mem_nil,or_false] at hx;rcases hx with rfl|rfl|rfl|rfl
  ·exact(a0O _).mono
  ·exact uW _
  ·exact uW _
  ·exact uW _
 | leave t r=>
  refine a0B (n:=1) fun x hx=>?_;simp only[mem_cons,not_mem_nil,or_false] at hx;rcases hx with rfl|rfl|rfl
  ·exact(a0O _).mono
  ·exact uW _
  ·exact(yJ _).mono
 | turn t r m=>
  refine a0B (n:=1) fun x hx=>?_;simp only[mem_cons,not_mem_nil,or_false] at hx;rcases hx with rfl|rfl|rfl|rfl
  ·exact(a0O _).mono
  ·exact uW _
  ·exact(yJ _).mono
  ·exact uW _
theorem a1V (ds:List Deed):Good (.list (ds.map bM)):=(a72 (n:=2) fun d h=>by
 obtain⟨e,_,rfl⟩:=mem_map.mp h;exact aAU e).good
section
variable {Q:Rv→Prop}{s:Rn}{t T:Rat}
theorem a7O (d:Deed):ixD (bM d) (.int 1)=some (cD d.t):=by cases d<;>rfl
end
section
theorem mR {Q:Rv→Prop}{t p m:Rat}(h1:Sz 900 t)(h2:Sz 4000 p)(h3:Sz 900 m)(q:Q (.val (jV (p-m*t,m)))):dZ [.val (cD t),.val (cD p),.val (cD m)] Q:=by
 refine wA ?_;unfold iV;walk_at "!;,/$':+&+':+&+&.7%";refine qD (h3.mono (by decide)) (h1.mono (by decide)) ?_;walk_at "!.7%";refine tD h2 ((h3.mul h1).mono (by decide)) ?_;walk_at "!$&()%";exact q
end
def fdS (a b:Addr)(s:Rn)(la:D):FS:=⟨a,b,gB s,(s.ls.length:Int),la⟩
section
variable {c w a b:Addr}{s:Rn}{la:D}{Q:Rv→FS→Prop}
theorem aAG {l:D}(hs:s.rs.length<1000)(q:Q (.val (.int (s.ls.length:Int))) ⟨a,b,rG (gB s) (s.ls.length:Int) l,(s.ls.length:Int)+1,la⟩):fU c w (fdS a b s la) [.val l] Q:=by
 refine uA ?_;unfold iW;walk_at "!*1,%ć*s&t&";refine aE3 (by with_unfolding_all rfl) (by show(gB s).length<1000; rw[kds_len]; exact hs) ?_;walk_at "!*Ĉ%A,&?%@";exact q
def aGT (s:Rn):Deed→D
 | .join _ _ _=>.int (s.ls.length:Int)
 | _=>.none
theorem aEA {d:Deed}(hs:RnOk s)(hd:d.ok s)(hz:DeedZ d)(lz:LinesOk 200 s.ls)(hl:s.rs.length<1000)(q:Q (.val (aGT s d)) (fdS a b (stp s d) (cD d.t))):a04 c w (fdS a b s la) [.val (bM d)] Q:=by
 refine uA ?_;unfold a65;walk_at "!*ĉ-&#";refine dF (a7O d) ?_;walk_at "!Ċ*40<-&#%"
 cases d with
 | join t p m=>
  obtain⟨z1,z2,z3⟩:=hz;have z1:=G1.sz (k:=60) z1 (by decide) (by decide);have z2:=G1.sz (k:=60) z2 (by decide) (by decide);have z3:=G1.sz (k:=60) z3 (by decide) (by decide);refine dF (d:=.str "join") rfl ?_;walk_at "!#";refine a9T gJ ?_;walk_at "!A2+':+-&#%";refine dF (d:=cD t) rfl ?_;walk_at "!+-&#";refine dF (d:=cD p) rfl ?_;walk_at "!+-&#";refine dF (d:=cD m) rfl ?_;walk_at "!.7";refine mR (z1.mono (by decide)) (z2.mono (by decide)) (z3.mono (by decide)) ?_;walk_at "!.%3";refine aAG (s:=s) (la:=cD t) hl ?_;walk_at "!?%@";have e:(⟨a,b,rG (gB s) (s.ls.length:Int) (jV (p-m*t,m)),(s.ls.length:Int)+1,cD t⟩:FS)=fdS a b (stp s (.join t p m)) (cD t):=by
   rw[a7T hs];unfold fdS
   congr 1
   show _=(((s.ls++[_]).length:Nat):Int);rw[length_append,length_singleton];rfl
  have z:Q (.val (.int (s.ls.length:Int))) (fdS a b (stp s (.join t p m)) (cD t)):=q;rw[← e] at z;exact z
 | leave t r=>
  have e1:=a6N hd;refine dF (d:=.str "leave") rfl ?_;walk_at "!#";refine a3G gL gJ rfl ?_;unfold tU;walk_at "!=*40<-&#%";refine dF (d:=.str "leave") rfl ?_;walk_at "!#";refine a9T gL ?_;walk_at "!u%ċ-&#";refine dF (d:=.int (r:Int)) rfl ?_;refine aHD (by with_unfolding_all rfl) e1 ?_;unfold tH;walk_at "!%A,#?%@";have e:(⟨a,b,kI (gB s) (r:Int),(s.ls.length:Int),cD t⟩:FS)=fdS a b (stp s (.leave t r)) (cD t):=by
   rw[a3P s t r];rfl
  exact e▸q
 | turn t r m=>
  obtain⟨z1,z3⟩:=hz;have z1:=G1.sz (k:=60) z1 (by decide) (by decide);have z3:=G1.sz (k:=60) z3 (by decide) (by decide);have e1:=a6N hd;obtain⟨z4,z5⟩:=lz.get (a9I hs hd);refine dF (d:=.str "turn") rfl ?_;walk_at "!#";refine a3G gT' gJ rfl ?_;unfold tU;walk_at "!=*40<-&#%";refine dF (d:=.str "turn") rfl ?_;walk_at "!#";refine a3G gT' gL rfl ?_;walk_at "!*1,':+%Č-&#";refine dF (d:=.int (r:Int)) rfl ?_;refine aI1 (by with_unfolding_all rfl) e1 ?_;walk_at "!+-&#";refine dF (d:=cD t) rfl ?_;walk_at "!.7";refine a2Y (z4.mono (by decide)) (z5.mono (by decide)) (z1.mono (by decide)) ?_;walk_at "!%s':+-&#%";refine dF (d:=cD t) rfl ?_;walk_at "!+&+-&#";refine dF (d:=cD m) rfl ?_;walk_at "!.7";refine mR (z1.mono (by decide)) ((z4.add (z5.mul z1)).mono (by decide)) (z3.mono (by decide)) ?_;walk_at "!%t-&#";refine dF (d:=.int (r:Int)) rfl ?_;refine aE3 (by with_unfolding_all rfl) (by show(gB s).length<1000; rw[kds_len]; exact hl) ?_;unfold tH;walk_at "!%A,#?%@";have e:(⟨a,b,rG (gB s) (r:Int) (jV (pl (s.at r) t-m*t,m)),(s.ls.length:Int),cD t⟩:FS)=fdS a b (stp s (.turn t r m)) (cD t):=by
   rw[a8U hs hd];unfold fdS
   congr 1
   show _=(((s.ls.set r _).length:Nat):Int);rw[length_set]
  exact e▸q
end
section
variable {c:Addr}{ds:List Deed}{T:Rat}{Q:Rv→Prop}
structure LogG (ds:List Deed):Prop where
 ok:LogOk ds
 up:Rising ds
 z:∀ d∈ds,DeedZ d
 n:ds.length≤40
theorem LogG.take {ds:List Deed}(h:LogG ds)(k:Nat):LogG (ds.take k):=⟨h.ok.take k,h.up.sublist (take_sublist k ds),fun d hd=>h.z d (mem_of_mem_take hd),by rw[length_take]; have:=h.n; omega⟩
theorem LogG.sz {ds:List Deed}(h:LogG ds):LinesOk 200 (run ds).ls:=aFP h.ok h.z h.n
theorem LogG.rs {ds:List Deed}(h:LogG ds):(run ds).rs.length≤40:=le_trans (pL ds) h.n
end
section
variable {Q:Rv→Prop}
end
section
variable {c w a b:Addr}{s:Rn}{la:D}{Q:Rv→FS→Prop}
def aIV (la:D)(T:Rat):Prop:=la=.none∨∃ q:Rat,la=cD q∧q≤T∧Sz 60 q
theorem a2J {d:Deed}(hs:RnOk s)(hd:d.ok s)(hf:d.few s)(hz:Sz 60 d.t)(hl:aIV la d.t)(q:Q (.val (.bool true)) (fdS a b s la)):gQ c w (fdS a b s la) [.val (bM d)] Q:=by
 have r2:dW c (.box ((bF c).box w (fdS a b s la))::([.val (bM d)]++List.replicate 0 .no)) fun fl=>
   match fl with
   | .rt rv=>∃ rv0 s',rv=.box (bKp (bF c) rv0 w s')∧Q rv0 s'
   | .nx Γ=>∃ s',Γ[0]?=some (.box ((bF c).box w s'))∧Q (.val .none) s'
   | _=>False:=by
  unfold dW
  cases d with
  | join t p m=>
   walk_at "!*40<-&#%";refine dF (d:=.str "join") rfl ?_;walk_at "!#";refine a9T gJ ?_;walk_at "!A,8v#%?%@";rw[decide_eq_true (show(((fdS a b s la).kds.length:Nat):Int)<8 by show(((gB s).length:Nat):Int)<8; rw[kds_len]; have hf:s.rs.length<8:=hf; omega)];exact q
  | leave t r=>
   walk_at "!*40<-&#%";refine dF (d:=.str "leave") rfl ?_;walk_at "!#";refine a3G gL gJ rfl ?_;unfold f9;walk_at "!=%A,j-&#";refine dF (d:=.int (r:Int)) rfl ?_;walk_at "!k?%@";rw[show(fdS a b s la).kds=gB s from rfl,a6N hd];exact q
  | turn t r m=>
   walk_at "!*40<-&#%";refine dF (d:=.str "turn") rfl ?_;walk_at "!#";refine a3G gT' gJ rfl ?_;unfold f9;walk_at "!=%A,j-&#";refine dF (d:=.int (r:Int)) rfl ?_;walk_at "!k?%@";rw[show(fdS a b s la).kds=gB s from rfl,a6N hd];exact q
 refine uA ?_;unfold mF;rcases hl with rfl|⟨t0,rfl,ht,zt⟩
 ·walk_at "!*4V0d%X";exact r2
 ·walk_at "!*4V0d%X";refine dF (a7O d) ?_;walk_at "!+%X.7";refine yK (hz.mono (by decide)) (zt.mono (by decide)) ?_;rw[decide_eq_false (show ¬d.t<t0 by grind)];walk_at "!S=%";exact r2
end
section
variable {c:Addr}{ds:List Deed}{Q:Rv→Prop}
end
theorem a7N {b:Bool}{A B:Prop}[d:Decidable ((!b)=true)](h:b=true)(hB:B):@ite Prop ((!b)=true) d A B:=by
 subst h;rw[if_neg (by simp)];exact hB
def wh:D→Bool
 | .int _=>true
 | _=>false
def yN:D→Bool
 | .tuple [.int a,.int b]=>decide (1≤b)&&decide (Int.gcd a b=1)
 | _=>false
theorem aFQ (d:D):(∃ i,d=.int i)∨wh d=false:=by
 cases d<;>first|exact .inl ⟨_,rfl⟩|exact .inr rfl
theorem aF0 (x:D):yN (.tuple [x])=false:=by cases x<;>rfl
theorem aED (x y z:D)(l:List D):yN (.tuple (x::y::z::l))=false:=by cases x<;>cases y<;>rfl
theorem aEJ {x:D}(y:D)(h:wh x=false):yN (.tuple [x,y])=false:=by cases x<;>first|rfl|cases h
theorem aFF {x y:D}(h:wh y=false):yN (.tuple [x,y])=false:=by cases x<;>cases y<;>first|rfl|cases h
theorem a8D (r:Rat):yN (cD r)=true:=by
 have e:Int.gcd r.num r.den=1:=r.reduced;have h:=r.den_pos
 show(decide (1≤(r.den:Int))&&decide (Int.gcd r.num r.den=1))=true
 rw[decide_eq_true e,decide_eq_true (by omega)];rfl
section
variable {Q:Rv→Prop}
theorem a8G {d:D}(q:Q (.val (.bool (wh d)))):dD [.val d] Q:=by
 refine wA ?_;unfold lZ
 cases d<;>(walk_at "ws"; exact q)
theorem aCX {a b:Int}(c:1≤b):decide (((Int.gcd a b:Nat):Int)=1)=yN (.tuple [.int a,.int b]):=by
 show _=(decide (1≤b)&&decide (Int.gcd a b=1));rw[decide_eq_true c,Bool.true_and,decide_eq_decide];omega
theorem aC5 {a b:Int}(c:¬1≤b):yN (.tuple [.int a,.int b])=false:=by
 show(decide (1≤b)&&decide (Int.gcd a b=1))=false
 rw[decide_eq_false c,Bool.false_and]
theorem aDO {d:D}(q:Q (.val (.bool (yN d)))):jT [.val d] Q:=by
 refine wA ?_;unfold nP
 cases d with
 | tuple ds=>
  walk_at "!*4FE0L&e0]U&%";refine dF (d:=.int (ds.length:Int)) rfl ?_;walk_at "!#D"
  match ds,q with
  | [],q=>
   refine a8F (fun c=>?_) (fun c=>absurd c (by decide));walk_at "!;,#%";exact q
  | [x],q=>
   refine a8F (fun c=>?_) (fun c=>absurd c (by simp));walk_at "!;,#%";rw[aF0] at q;exact q
  | x::y::z::l,q=>
   refine a8F (fun c=>?_) (fun c=>absurd c (by rw[length_cons,length_cons,length_cons]; omega));walk_at "!;,#%";rw[aED] at q;exact q
  | [x,y],q=>
   refine a7N (decide_eq_true rfl) ?_;walk_at "!=%";unfold mO;walk_at "!*4FE0':+-&#%";refine dF (d:=x) rfl ?_;walk_at "!.7";refine a8G ?_;rcases aFQ x with⟨a,rfl⟩|hx
   ·refine a7N rfl ?_;walk_at "!E0':+-&#%";refine dF (d:=y) rfl ?_;walk_at "!.7";refine a8G ?_;rcases aFQ y with⟨b,rfl⟩|hy
    ·refine a7N rfl ?_;walk_at "!=%";unfold mK;walk_at "!;,N8-&#%";refine dF (d:=.int b) rfl ?_;walk_at "!#%";refine dN (fun c=>?_) (fun c=>?_)
     ·walk_at "!<':+-&#%";refine dF (d:=.int a) rfl ?_;walk_at "!+-&#";refine dF (d:=.int b) rfl ?_;walk_at "!.7";refine aDK ?_;walk_at "!#D";rw[aCX c];exact q
     ·rw[aC5 c] at q;exact q
    ·rw[hy];walk_at "!Y;,#%";rw[aFF hy] at q;exact q
   ·rw[hx];walk_at "!YJ;,#%";rw[aEJ y hx] at q;exact q
 | _=>walk_at "!*4FE0L&lJ;,#%"; exact q
def dnD:D→Bool
 | .tuple [.int a,.int b]=>yN (.tuple [.int a,.int b])&&(decide (a.natAbs≤999999999)&&decide (b≤12))
 | _=>false
theorem aAF {d:D}(h:yN d=true):∃ a b:Int,d=.tuple [.int a,.int b]:=by
 unfold yN at h
 split at h
 ·exact⟨_,_,rfl⟩
 ·cases h
theorem aDD {d:D}(h:yN d=false):dnD d=false:=by
 unfold dnD
 split
 ·rw[h]; rfl
 ·rfl
theorem v9 {d:D}(q:Q (.val (.bool (dnD d)))):cJ [.val d] Q:=by
 refine wA ?_;unfold gA;walk_at "!*4E0':+&.7%";refine aDO ?_
 cases e:yN d with
 | false=>
  rw[aDD e] at q;walk_at "!Y;,#%";exact q
 | true=>
  obtain⟨a,b,rfl⟩:=aAF e;have e2:dnD (.tuple [.int a,.int b])=(decide (a.natAbs≤999999999)&&decide (b≤12)):=by
   show(yN (.tuple [.int a,.int b])&&_)=_
   rw[e]; rfl
  rw[e2] at q;walk_at "!R=%";unfold gU;walk_at "!;,N8a-&#%";refine dF (d:=.int a) rfl ?_;walk_at "!#%";refine dN (fun c=>?_) (fun c=>?_)
  ·walk_at "!8-&#";refine dF (d:=.int b) rfl ?_;walk_at "!#%";rw[decide_eq_true (show a.natAbs≤999999999 by split at c<;>omega),Bool.true_and] at q;exact q
  ·rw[decide_eq_false (show ¬a.natAbs≤999999999 by split at c<;>omega),Bool.false_and] at q;skip;exact q
def aBV:List D→Bool
 | [t,p,m]=>dnD t&&(dnD p&&dnD m)
 | _=>false
def a3U:List D→Bool
 | [t,r]=>dnD t&&wh r
 | _=>false
def aAO:List D→Bool
 | [t,r,m]=>wh r&&(dnD t&&dnD m)
 | _=>false
def pG (w:PySem.Str)(xs:List D):Bool:=if w = "join" then aBV xs else if w = "leave" then a3U xs else if w = "turn" then aAO xs else false
def jG:D→Bool
 | .tuple (.str w::xs)=>pG w xs
 | _=>false
theorem xO (xs:List D):pG "join" xs=aBV xs:=if_pos rfl
theorem a0V (xs:List D):pG "leave" xs=a3U xs:=by unfold pG; rw[if_neg (by decide),if_pos rfl]
theorem wF (xs:List D):pG "turn" xs=aAO xs:=by unfold pG; rw[if_neg (by decide),if_neg (by decide),if_pos rfl]
theorem a9F {w:PySem.Str}(xs:List D)(h1:w ≠ "join")(h2:w ≠ "leave")(h3:w ≠ "turn"):pG w xs=false:=by unfold pG; rw[if_neg h1,if_neg h2,if_neg h3]
theorem aD2 {w:PySem.Str}{xs:List D}(h:xs.length<2):pG w xs=false:=by
 unfold pG
 match xs,h with
 | [],_=>split<;>first|rfl|(split<;>first|rfl|(split<;>rfl))
 | [x],_=>split<;>first|rfl|(split<;>first|rfl|(split<;>rfl))
theorem yS {a b:PySem.Str}(h:a≠b):PyData.eqv (.str a) (.str b)=false:=by
 unfold PyData.eqv;simpa using h
theorem a1P {ds:List D}(h:ds.length<3):jG (.tuple ds)=false:=by
 match ds,h with
 | [],_=>rfl
 | x::xs,h=>cases x<;>first|rfl|exact aD2 (by rw[length_cons] at h; omega)
theorem a9L {d:D}(hg:∀ w xs,d=.tuple (.str w::xs)→Good (.str w))(q:Q (.val (.bool (jG d)))):kW [.val d] Q:=by
 refine wA ?_;unfold sJ
 cases d with
 | tuple ds=>
  walk_at "!*4FE0L&eF08U&%";refine dF (d:=.int (ds.length:Int)) rfl ?_;walk_at "!#%";refine dN (fun c=>?_) (fun c=>?_)
  ·rw[a1P (by omega)] at q;walk_at "!J;,#%";exact q
  match ds,c,q,hg with
  | [],c,_,_=>exact absurd c (by decide)
  | x::xs,c,q,hg=>
   walk_at "!E0L-&#%";have ix0:ixD (.tuple (x::xs)) (.int 0)=some x:=n8 (xs:=x::xs) (j:=0) (v:=x) rfl;refine dF ix0 ?_;skip
   cases x with
   | str w=>
    have g:=hg w xs rfl;walk_at "!e=%";unfold q9;walk_at "!*40<-&#%";refine dF ix0 ?_;walk_at "!#";have lx:((.str w::xs:List D).length:Int)=(xs.length:Int)+1:=by rw[length_cons]; omega
    by_cases hj:w = "join"
    ·subst hj;refine a9T g ?_;walk_at "!;,N<U&%";refine dF (d:=.int ((.str "join" :: xs:List D).length:Int)) rfl ?_;walk_at "!#D"
     match xs,c,q with
     | [t,p,m],c,q=>
      refine dN (fun _=>?_) (fun c=>absurd (show(((3+1:Nat):Int)=4) by decide) c);walk_at "!č'%fĎ%ď&P#Q%";refine And.intro (fun z=>absurd z.1 (show ¬HT.sIx 4 0 (some 1)=0 by decide)) (And.intro (show(3:Nat)≤1000 by decide) ?_);show pP _ _ _ _ ([t,p,m].map fun x=>x) [] _;refine pQ (α:=D) (fun _=>true) (fun x=>.bool (dnD x)) (fun x=>x) [t,p,m] [] _ (fun x hx _ k k0 g1 g0=>?_) ?_
      ·walk_at "!H";unfold a5N;walk_at "!J':+&.7%";refine v9 ?_;walk_at "!%";exact g1 rfl
      ·rw[show jG (.tuple [.str "join", t,p,m])=(dnD t&&(dnD p&&dnD m)) from xO [t,p,m]] at q;show Q (.val (.bool _))
       cases e1:dnD t<;>cases e2:dnD p<;>cases e3:dnD m<;>(simp only[e1,e2,e3] at q ⊢; exact q)
     | [],c,q=>exact absurd (show((1:Nat):Int)<3 by decide) c
     | [_],c,q=>exact absurd (show((2:Nat):Int)<3 by decide) c
     | [a,b],c,q=>
      refine dN (fun c=>absurd c (show ¬(((2+1:Nat):Int)=4) by decide)) (fun _=>?_);rw[show jG (.tuple [.str "join", a,b])=false from xO [a,b]] at q;skip;exact q
     | a::b::d::e::l,c,q=>
      refine dN (fun c=>absurd c (by simp only[length_cons]; omega)) (fun _=>?_);rw[show jG (.tuple (.str "join" :: a::b::d::e::l))=false from xO _] at q;skip;exact q
    refine a3G g gJ (yS hj) ?_;unfold qX;walk_at "!=*40<-&#%";refine dF ix0 ?_;walk_at "!#"
    by_cases hl:w = "leave"
    ·subst hl;refine a9T g ?_;walk_at "!;,N<U&%";refine dF (d:=.int ((.str "leave" :: xs:List D).length:Int)) rfl ?_;walk_at "!#D"
     match xs,c,q with
     | [t,r],c,q=>
      refine dN (fun _=>?_) (fun c=>absurd (show(((2+1:Nat):Int)=3) by decide) c);rw[show jG (.tuple [.str "leave", t,r])=(dnD t&&wh r) from a0V [t,r]] at q;walk_at "!N':+-&#%";refine dF (d:=t) rfl ?_;walk_at "!.7";refine v9 ?_
      cases e1:dnD t with
      | false=>
       rw[e1] at q;walk_at "!S";exact q
      | true=>
       rw[e1] at q;walk_at "!J':+-&#%";refine dF (d:=r) rfl ?_;walk_at "!.7";refine a8G ?_;walk_at "!%";exact q
     | [],c,q=>exact absurd (show((1:Nat):Int)<3 by decide) c
     | [_],c,q=>exact absurd (show((2:Nat):Int)<3 by decide) c
     | a::b::d::l,c,q=>
      refine dN (fun c=>absurd c (by simp only[length_cons]; omega)) (fun _=>?_);rw[show jG (.tuple (.str "leave" :: a::b::d::l))=false from a0V _] at q;skip;exact q
    refine a3G g gL (yS hl) ?_;unfold qQ;walk_at "!=*40<-&#%";refine dF ix0 ?_;walk_at "!#"
    by_cases ht:w = "turn"
    ·subst ht;refine a9T g ?_;walk_at "!;,N<U&%";refine dF (d:=.int ((.str "turn" :: xs:List D).length:Int)) rfl ?_;walk_at "!#D"
     match xs,c,q with
     | [t,r,m],c,q=>
      refine dN (fun _=>?_) (fun c=>absurd (show(((3+1:Nat):Int)=4) by decide) c);rw[show jG (.tuple [.str "turn", t,r,m])=(wh r&&(dnD t&&dnD m)) from wF [t,r,m]] at q;walk_at "!N':+-&#%";refine dF (d:=r) rfl ?_;walk_at "!.7";refine a8G ?_
      cases e0:wh r with
      | false=>
       rw[e0] at q;walk_at "!S";exact q
      | true=>
       rw[e0] at q;walk_at "!JN':+-&#%";refine dF (d:=t) rfl ?_;walk_at "!.7";refine v9 ?_
       cases e1:dnD t with
       | false=>
        rw[e1] at q;walk_at "!S";exact q
       | true=>
        rw[e1] at q;walk_at "!J':+-&#%";refine dF (d:=m) rfl ?_;walk_at "!.7";refine v9 ?_;walk_at "!%";exact q
     | [],c,q=>exact absurd (show((1:Nat):Int)<3 by decide) c
     | [_],c,q=>exact absurd (show((2:Nat):Int)<3 by decide) c
     | [a,b],c,q=>
      refine dN (fun c=>absurd c (show ¬(((2+1:Nat):Int)=4) by decide)) (fun _=>?_);rw[show jG (.tuple [.str "turn", a,b])=false from wF [a,b]] at q;skip;exact q
     | a::b::d::e::l,c,q=>
      refine dN (fun c=>absurd c (by simp only[length_cons]; omega)) (fun _=>?_);rw[show jG (.tuple (.str "turn" :: a::b::d::e::l))=false from wF _] at q;skip;exact q
    refine a3G g gT' (yS ht) ?_;rw[show jG (.tuple (.str w::xs))=false from a9F xs hj hl ht] at q;unfold qP;walk_at "!=;,#%";exact q
   | _=>walk_at "!l;,#%"; exact q
 | _=>walk_at "!*4FE0L&lJ;,#%"; exact q
end
theorem q8 {q:Rat}(h:zU q):dnD (cD q)=true:=by
 have e:=a8D q;obtain⟨h1,h2⟩:=h
 show(yN (.tuple [.int q.num,.int q.den])&&(decide (q.num.natAbs≤999999999)&&decide ((q.den:Int)≤12)))=true
 rw[show yN (.tuple [.int q.num,.int q.den])=true from e,decide_eq_true h1,decide_eq_true (by omega:(q.den:Int)≤12)];rfl
theorem wM (d:Deed):∀ w xs,bM d=.tuple (.str w::xs)→Good (.str w):=fun w xs h=>by
 cases d<;>(cases h; first|exact gJ|exact gL|exact gT')
theorem a7L {d:Deed}(h:uC d):jG (bM d)=true:=by
 cases d with
 | join t p m=>
  show pG "join" [cD t,cD p,cD m]=true;rw[xO]
  show(dnD (cD t)&&(dnD (cD p)&&dnD (cD m)))=true
  rw[q8 h.1,q8 h.2.1,q8 h.2.2];rfl
 | leave t r=>
  show pG "leave" [cD t,.int (r:Int)]=true;rw[a0V]
  show(dnD (cD t)&&true)=true
  rw[q8 h];rfl
 | turn t r m=>
  show pG "turn" [cD t,.int (r:Int),cD m]=true;rw[wF]
  show(true&&(dnD (cD t)&&dnD (cD m)))=true
  rw[q8 h.1,q8 h.2];rfl
theorem a69 {Q:Rv→Prop}{d:Deed}(h:uC d)(q:Q (.val (.bool true))):kW [.val (bM d)] Q:=a9L (wM d) (by rw[a7L h]; exact q)
theorem aFH {s:Rn}{z:Int}(h:∀ r∈s.rs,(r:Int)≠z):qJ (gB s) z=none:=by
 cases e:qJ (gB s) z with
 | none=>rfl
 | some d=>
  obtain⟨r,a,b,_⟩:=a73 s.ls s.rs z d e;exact absurd a.symm (h r b)
def laO (ds:List Deed):D:=match ds.getLast? with|none=>.none|some e=>cD e.t
theorem a7X (ds:List Deed)(d:Deed):laO (ds++[d])=cD d.t:=by unfold laO; rw[List.getLast?_concat]
def Ref (ds:List Deed)(x:D):Prop:=
 (∃ t p m,x=bM (.join t p m)∧Sz 60 t∧((∃ e,ds.getLast?=some e∧t<e.t)∨¬(run ds).rs.length<8)) ∨
 (∃(t:Rat) (z:Int) (w:PySem.Str) (r:List D),x=.tuple (.str w::cD t::.int z::r)∧(w = "leave" ∨ w = "turn")∧Sz 60 t∧∀ q∈(run ds).rs,(q:Int)≠z)
section
variable {c w a b:Addr}{s:Rn}{la:D}{Q:Rv→FS→Prop}
theorem aEW {x:D}{z:Int}(hx:ixD x (.int 2)=some (.int z))(h:∀ q∈s.rs,(q:Int)≠z)(q:Q (.val (.bool false)) (fdS a b s la)):f9 c (.box ((bF c).box w (fdS a b s la))::([.val x]++List.replicate 0 .no)) fun fl=>
   match fl with
   | .rt rv=>∃ rv0 s',rv=.box (bKp (bF c) rv0 w s')∧Q rv0 s'
   | .nx Γ=>∃ s',Γ[0]?=some (.box ((bF c).box w s'))∧Q (.val .none) s'
   | _=>False:=by
 unfold f9;walk_at "!A,j-&#";refine dF hx ?_;walk_at "!k?%@";rw[show(fdS a b s la).kds=gB s from rfl,aFH h];exact q
theorem a1Q {ds:List Deed}{x:D}(hz:∀ e∈ds,Sz 60 e.t)(h:Ref ds x)(q:Q (.val (.bool false)) (fdS a b (run ds) (laO ds))):gQ c w (fdS a b (run ds) (laO ds)) [.val x] Q:=by
 have main:∀ t:Rat,Sz 60 t→ixD x (.int 1)=some (cD t)→((∃ e,ds.getLast?=some e∧t<e.t)∨dW c (.box ((bF c).box w (fdS a b (run ds) (laO ds)))::([.val x]++List.replicate 0 .no)) fun fl=>
   match fl with
   | .rt rv=>∃ rv0 s',rv=.box (bKp (bF c) rv0 w s')∧Q rv0 s'
   | .nx Γ=>∃ s',Γ[0]?=some (.box ((bF c).box w s'))∧Q (.val .none) s'
   | _=>False)→gQ c w (fdS a b (run ds) (laO ds)) [.val x] Q:=fun t zt ix hh=>by
  refine uA ?_;unfold mF;unfold laO at q hh ⊢
  cases e:ds.getLast? with
  | none=>
   rw[e] at q hh;walk_at "!*4V0d%X";rcases hh with⟨e',z,_⟩|hh
   ·cases z
   ·exact hh
  | some d=>
   rw[e] at q hh;walk_at "!*4V0d%X";refine dF ix ?_;walk_at "!+%X.7";refine yK (zt.mono (by decide)) ((hz d (List.mem_of_getLast? e)).mono (by decide)) ?_
   by_cases lt:t<d.t
   ·rw[decide_eq_true lt];walk_at "!JA,#?%@";exact q
   ·rw[decide_eq_false lt];walk_at "!S=%";rcases hh with⟨e',z,y⟩|hh
    ·cases z
     exact absurd y lt
    ·exact hh
 rcases h with⟨t,p,m,rfl,zt,h⟩|⟨t,z,w',r,rfl,hw,zt,h⟩
 ·refine main t zt rfl ?_;rcases h with h|h
  ·exact .inl h
  ·refine .inr ?_;unfold dW;walk_at "!*40<-&#%";refine dF (d:=.str "join") rfl ?_;walk_at "!#";refine a9T gJ ?_;walk_at "!A,8v#%?%@";rw[decide_eq_false (show ¬(((fdS a b (run ds) (laO ds)).kds.length:Nat):Int)<8 by show ¬(((gB (run ds)).length:Nat):Int)<8; rw[kds_len]; omega)];exact q
 ·have i1:ixD (.tuple (.str w'::cD t::.int z::r)) (.int 1)=some (cD t):=n8 (xs:=(.str w'::cD t::.int z::r:List D)) (j:=1) rfl;have i2:ixD (.tuple (.str w'::cD t::.int z::r)) (.int 2)=some (.int z):=n8 (xs:=(.str w'::cD t::.int z::r:List D)) (j:=2) rfl;have i0:ixD (.tuple (.str w'::cD t::.int z::r)) (.int 0)=some (.str w'):=n8 (xs:=(.str w'::cD t::.int z::r:List D)) (j:=0) rfl;refine main t zt i1 (.inr ?_);unfold dW;rcases hw with rfl|rfl
  ·walk_at "!*40<-&#%";refine dF i0 ?_;walk_at "!#";refine a3G gL gJ rfl ?_;exact aEW (z:=z) i2 h q
  ·walk_at "!*40<-&#%";refine dF i0 ?_;walk_at "!#";refine a3G gT' gJ rfl ?_;exact aEW (z:=z) i2 h q
end
section
variable {xa:XA}{c:Addr}{Q:Rv→Prop}
abbrev aG0 (xa:XA)(n:Nat):Rv:=.box (a2V xa.nl (some ("at", .int (n:Int))))
def Bad (ds:List Deed)(x:D):Prop:=(jG x=false∨Ref ds x)∧∀ w xs,x=.tuple (.str w::xs)→Good (.str w)
theorem aI4 {xs:List D}{n:Nat}{d:D}(hd:(rF xs)[n]?=some d):∃ e,xs[n]?=some e∧d=.tuple [.int (n:Int),e]:=by
 have hl:(rF xs).length=xs.length:=by unfold rF; rw[length_map,length_range]
 have hn:n<xs.length:=by have:=(List.getElem?_eq_some_iff.mp hd).1; omega
 unfold rF at hd;rw[getElem?_map,getElem?_range hn] at hd
 cases hd
 refine⟨xs[n],getElem?_eq_getElem hn,?_⟩;show PyData.tuple [.int (n:Int),xs.getD n .none]=_;rw[getD_eq_getElem?_getD,getElem?_eq_getElem hn];rfl
theorem wH {ds:List Deed}{r:List D}(h:LogB ds)(hl:ds.length≤40)
  (q:match r with|[]=>Q (.own (ds.map bM))|x::_=>(ds.length=40∨Bad ds x)∧Q (aG0 xa ds.length)):dU xa c [.val (.list (ds.map bM++r))] Q:=by
 refine wA ?_;unfold mD;walk_at "!*4E0L&e=%";unfold o9;walk_at "!*1%";refine aA1 fun w a b=>?_;walk_at "!*i%Đ&%";refine a5K (fun n Γ=>n≤ds.length∧∃ x y,Γ=[.val (.list (ds.map bM++r)),.box ((bF c).box w (fdS a b (run (ds.take n)) (laO (ds.take n)))),x,y]) ⟨zero_le _,_,_,rfl⟩ ?_ ?_
 ·rintro n d Γ K hd ⟨hn,u,v,rfl⟩ hK;obtain⟨e,he,rfl⟩:=aI4 hd;have g:LogG ds:=⟨h.ok,h.up,h.z,hl⟩;have gn:=g.take n;have zs:∀ e∈ds.take n,Sz 60 e.t:=fun e he=>(h.z e (mem_of_mem_take he)).tz
  by_cases hn2:n<ds.length
  ·have he':bM ds[n]=e:=by
    rw[getElem?_append_left (by rw[length_map]; exact hn2),getElem?_map,getElem?_eq_getElem hn2] at he;exact Option.some.inj he
   subst he';have hd:ds[n]?=some ds[n]:=getElem?_eq_getElem hn2;have hem:ds[n]∈ds:=getElem_mem hn2;have hk3:=hK.nx;have tk:ds.take (n+1)=ds.take n++[ds[n]]:=by rw[take_succ,hd]; rfl
   rw[tk,rN,a7X] at hk3;have lo:aIV (laO (ds.take n)) ds[n].t:=by
    unfold laO
    cases e:(ds.take n).getLast? with
    | none=>exact .inl rfl
    | some e'=>
     have hm:=List.mem_of_getLast? e;refine .inr ⟨e'.t,rfl,?_,zs e' hm⟩;obtain⟨i,hi⟩:=getElem?_of_mem hm;rw[List.getElem?_take] at hi
     split at hi
     ·rename_i lt
      have h1:=List.getElem?_eq_some_iff.mp hi;have:=List.pairwise_iff_getElem.mp h.up i n h1.1 hn2 lt;rw[h1.2] at this;exact this
     ·cases hi
   unfold jQ;walk_at "!wZHZHm*4F0<&#D%";refine dN (fun cc=>absurd cc (by omega)) (fun _=>?_);walk_at "!FE0':+&.7%";refine a69 (h.nm _ hem) ?_;walk_at "!RE0'%2+&.3";refine a2J (oE _) (h.ok n _ hd) (h.few n _ hd) (h.z _ hem).tz lo ?_;walk_at "!R=%";unfold oM;walk_at "!u'%2+&.3";refine aEA (oE _) (h.ok n _ hd) (h.z _ hem) gn.sz (lt_of_le_of_lt gn.rs (by decide)) ?_;walk_at "!%";exact hk3 _ ⟨hn2,_,_,rfl⟩
  ·have hn3:n=ds.length:=by omega
   subst hn3;rw[getElem?_append_right (by rw[length_map]; exact le_refl _),length_map,sub_self] at he
   match r,q,he with
   | x::r',q,he=>
    obtain rfl:x=e:=Option.some.inj he;rw[take_length];have hr:K (.rt (aG0 xa ds.length)):=hK.rt _ q.2;unfold jQ;walk_at "!wZHZHm*4F0<&#D%";refine dN (fun cc=>?_) (fun cc=>?_)
    ·walk_at "!Jg$&(%";exact⟨(ds.length:Int),rfl,by omega,hr⟩
    ·walk_at "!FE0':+&.7%";rcases q.1 with hq|⟨hq,hg⟩
     ·exact absurd (show(ds.length:Int)=40 by omega) cc
     refine a9L hg ?_
     cases e:jG x with
     | false=>
      walk_at "!YJg$&(%";exact⟨(ds.length:Int),rfl,by omega,hr⟩
     | true=>
      walk_at "!RE0'%2+&.3";rcases hq with hq|hq
      ·rw[hq] at e
       cases e
      refine a1Q (fun e he=>(h.z e he).tz) hq ?_;walk_at "!Yg$&(%";exact⟨(ds.length:Int),rfl,by omega,hr⟩
 ·rintro Γ ⟨hn,x,y,rfl⟩;have e:r=[]:=by
   have e2:(rF (ds.map bM++r)).length=(ds.map bM++r).length:=by unfold rF; rw[length_map,length_range]
   rw[e2,length_append,length_map] at hn;exact List.length_eq_zero_iff.mp (by omega)
  subst e;rw[append_nil] at *;unfold oZ;walk_at "!;n&%";exact q
theorem a7C {d:D}(hd:a00 (iY d) "list" = false)(q:Q (aG0 xa 0)):dU xa c [.val d] Q:=by
 refine wA ?_;unfold mD;walk_at "!*4E0L&%";rw[hd];walk_at "!Yg$#(%";exact⟨0,rfl,by decide,q⟩
theorem a0D {ds:List Deed}(h:LogB ds)(hl:ds.length≤40)(q:Q (.own (ds.map bM))):oG [.val (.list (ds.map bM))] Q:=by
 intro xa c;have:=wH (xa:=xa) (c:=c) (r:=[]) (Q:=fun rv=>aG3 rv∧Q rv) h hl ⟨aBN,q⟩;rwa[append_nil] at this
def Rf (d:D)(n:Nat):Prop:=(a00 (iY d) "list" = false∧n=0)∨∃ ds x r,d=.list (ds.map bM++x::r)∧LogB ds∧ds.length=n∧n≤40∧(n=40∨Bad ds x)
theorem Rf.log {d:D}{n:Nat}(h:Rf d n)(q:Q (aG0 xa n)):dU xa c [.val d] Q:=by
 rcases h with⟨h,rfl⟩|⟨ds,x,r,rfl,lb,rfl,hl,hb⟩
 ·exact a7C h q
 ·exact wH lb hl ⟨hb,q⟩
theorem a4Q {d:D}{n:Nat}(h:Rf d n)(q:Q (.val (.int (n:Int)))):gO [.val d] Q:=by
 intro xa c;have lk:∀ b:Bool,List.lookup xa.nl [(xa.nl,b)]=some b:=fun b=>by simp[List.lookup]
 have mem:xa.nl∈[xa.nl]:=mem_singleton.mpr rfl;refine wA ?_;unfold gW;walk_at "!*1,#*%";unfold v7
 show(1:Nat)=1∧dU xa c [.val d] _
 refine⟨rfl,h.log ?_⟩;refine a9Y mem ?_;unfold enX;walk_at "!*4FE0";refine aC6 (C:=xa.nl) (o:=some ("at", .int (n:Int))) rfl (lk true) ?_;walk_at "!RE0";refine aC6 (C:=xa.nl) (o:=some ("at", .int (n:Int))) rfl (lk true) ?_;walk_at "!R=%";unfold iK;walk_at "!*4F0";refine aC6 (C:=xa.nl) (o:=some ("at", .int (n:Int))) rfl (lk false) ?_;walk_at "!S0L%";refine a9E (C:=xa.nl) (d:=.int (n:Int)) rfl mem ?_;walk_at "!đ=%";unfold iT;walk_at "!;,%";refine a9E (C:=xa.nl) (d:=.int (n:Int)) rfl mem ?_;skip;exact q
end
structure Sw (k b:Nat)(d:D):Prop where
 sh:d.showable=true
 lf:d.leavesShort 70=true
 dp:d.depth≤k
 bk:d.bulk≤b
structure Sws (k b:Nat)(xs:List D):Prop where
 sh:PyData.showableAll xs=true
 lf:PyData.leavesShortAll 70 xs=true
 dp:PyData.depthAll xs≤k
 bk:PyData.bulkAll xs≤b
theorem Sw.mono {k b k' b':Nat}{d:D}(h:Sw k b d)(hk:k≤k')(hb:b≤b'):Sw k' b' d:=⟨h.sh,h.lf,le_trans h.dp hk,le_trans h.bk hb⟩
theorem Sws.mono {k b k' b':Nat}{d:List D}(h:Sws k b d)(hk:k≤k')(hb:b≤b'):Sws k' b' d:=⟨h.sh,h.lf,le_trans h.dp hk,le_trans h.bk hb⟩
theorem Sws.nil {k:Nat}:Sws k 0 []:=⟨by simp only[PyData.showableAll],by simp only[PyData.leavesShortAll],by simp only[PyData.depthAll]; omega,by simp only[PyData.bulkAll]; omega⟩
theorem Sws.cons {k b c:Nat}{x:D}{xs:List D}(h:Sw k b x)(g:Sws k c xs):Sws k (b+1+c) (x::xs):=by
 refine⟨?_,?_,?_,?_⟩
 ·simp only[PyData.showableAll,h.sh,g.sh,Bool.and_self]
 ·simp only[PyData.leavesShortAll,h.lf,g.lf,Bool.and_self]
 ·have:=h.dp; have:=g.dp; simp only[PyData.depthAll]; omega
 ·have:=h.bk; have:=g.bk; simp only[PyData.bulkAll]; omega
theorem Sws.tup {k b:Nat}{xs:List D}(h:Sws k b xs):Sw (k+1) b (.tuple xs):=by
 refine⟨?_,?_,?_,?_⟩
 ·simp only[PyData.showable,h.sh]
 ·simp only[PyData.leavesShort,h.lf]
 ·have:=h.dp; simp only[PyData.depth]; omega
 ·have:=h.bk; simp only[PyData.bulk]; omega
theorem Sws.lst {k b:Nat}{xs:List D}(h:Sws k b xs):Sw (k+1) b (.list xs):=by
 refine⟨?_,?_,?_,?_⟩
 ·simp only[PyData.showable,h.sh]
 ·simp only[PyData.leavesShort,h.lf]
 ·have:=h.dp; simp only[PyData.depth]; omega
 ·have:=h.bk; simp only[PyData.bulk]; omega
theorem Sws.all {k b:Nat}:∀{xs:List D},(∀ x∈xs,Sw k b x)→Sws k (xs.length*(b+1)) xs
 | [],_=>Sws.nil.mono (le_refl _) (zero_le _)
 | x::xs,h=>(Sws.cons (h x mem_cons_self) (Sws.all fun y hy=>h y (mem_cons_of_mem _ hy))).mono (le_refl _) (by rw[length_cons,succ_mul]; omega)
theorem tL {k:Nat}:Sw k 0 .none:=⟨by simp only[PyData.showable],by simp only[PyData.leavesShort],by simp only[PyData.depth]; omega,by simp only[PyData.bulk]; omega⟩
theorem yX {k:Nat}(b:Bool):Sw k 0 (.bool b):=⟨by simp only[PyData.showable],by simp only[PyData.leavesShort],by simp only[PyData.depth]; omega,by simp only[PyData.bulk]; omega⟩
theorem a3J {k:Nat}:Sw (k+1) 0 (.dict []):=⟨by simp only[PyData.showable,PyData.showableKv],by simp only[PyData.leavesShort,PyData.leavesShortKv],by simp only[PyData.depth,PyData.depthKv]; omega,by simp only[PyData.bulk,PyData.bulkKv]; omega⟩
theorem gK {k:Nat}{i:Int}(h:i.natAbs<10^69):Sw k 0 (.int i):=by
 refine⟨?_,?_,?_,?_⟩
 ·simp only[PyData.showable,decide_eq_true_eq]
  by_cases e:i.natAbs=0
  ·rw[e]; decide
  ·exact(log2_lt e).mpr (lt_trans h (by decide +kernel))
 ·simp only[PyData.leavesShort,decide_eq_true_eq];have:=int_text_length_le10 (a:=i) (k:=69) (by decide) h;rw[PyData.shown_int]
  show(Str.ofString (toString i)).length≤70
  rw[PySem.ofString_length];exact this
 ·simp only[PyData.depth]; omega
 ·simp only[PyData.bulk]; omega
theorem mJ {k:Nat}(x:PySem.Str)(h:(x.cps.toList.all fun c=>decide (c<16^8))=true)(hs:x.cps.size≤8):Sw k 8 (.str x):=⟨by simp only[PyData.showable],by simp only[PyData.leavesShort]; exact h,by simp only[PyData.depth]; omega,by simp only[PyData.bulk]; omega⟩
theorem n69 {n m:Nat}(h:n≤m)(hm:m<10^69:=by decide):n<10^69:=lt_of_le_of_lt h hm
theorem qT {k:Nat}{q:Rat}(h:zU q):Sw (k+1) 2 (cD q):=by
 obtain⟨h1,h2⟩:=h;exact(Sws.cons (gK (n69 h1)) (Sws.cons (gK (i:=(q.den:Int)) (n69 (m:=12) (by omega))) Sws.nil)).tup
theorem a9H {k n:Nat}(h:n≤1000):Sw k 0 (.int (n:Int)):=gK (n69 (m:=1000) (by omega))
theorem j6 {k b c:Nat}{d:D}(h:Sw k b d)(hb:b≤c):Sw k c d:=h.mono (le_refl _) hb
theorem aAH {d:D}(h:Sw 10 13000 d):d.showable=true∧d.depth≤50∧d.shown.length≤1000000:=by
 refine⟨h.sh,le_trans h.dp (by decide),?_⟩;have h1:=PyData.shown_le_bulk 70 (by decide) d h.lf;have h2:=h.bk;omega
theorem o7 {P:D→Prop}:∀ x∈([]:List D),P x:=fun _ h=>absurd h not_mem_nil
theorem dC {P:D→Prop}{a:D}{l:List D}(h:P a)(g:∀ x∈l,P x):∀ x∈a::l,P x:=fun x hx=>by
 rcases mem_cons.mp hx with rfl|z
 ·exact h
 ·exact g x z
theorem qG {P:D→Prop}{xs:List D}{z:Int}(h0:0≤z)(h1:z<xs.length)(h:∀ x∈xs,P x):∃ x,ixD (.list xs) (.int z)=some x∧P x:=by
 obtain⟨n,rfl⟩:∃ n:Nat,z=(n:Int):=⟨z.toNat,by omega⟩;have hn:n<xs.length:=by omega
 exact⟨xs[n],wI (getElem?_eq_getElem hn),h _ (getElem_mem hn)⟩
set_option hygiene false in
local macro_rules|`(tactic| walk_at "sw")=>`(tactic| repeat' first|exact tL|exact yX _|exact a3J|exact st _|exact sd _|exact gK (by decide)|exact mJ _ (by decide) (by decide)|apply Sws.tup|apply Sws.lst|exact Sws.nil|apply Sws.cons)
def NB (d:D):Prop:=dnD d=false∧∀ k,Sw (k+2) 12 d
section
variable {p:Addr}{n:Nat}{Q:Rv→Nat→Prop}
theorem z9 (hn:n<900000)(q:∀ d n',NB d→n'≤n+1→Q (.val d) n'):fB p n [] Q:=by
 refine uA ?_;unfold iH;walk_at "!*1,'5$/$#$#()$/$b#$#()$/$#$#()$/$#$#()$/$#$#()$/$#$#()$/$#$b#()$/$#$#()$/$#$#()$/$#()$#()%*1,'G&'5$#$/$#$#$#()$'5$#$#()%$#$/$#$#()$/()$/$#$#()())A,-&'%2+U&";refine dF (d:=.int 18) rfl ?_;walk_at "!.3";refine cG (by decide) (by decide) (by omega) fun z z0 z1=>?_;walk_at "!%";obtain⟨x,hx,hP⟩:=qG (P:=NB) (z:=z) (xs:=[.tuple [.int 1000000000,.int 1],.tuple [.int (-1000000000),.int 1],.tuple [.int 1,.int 13],.tuple [.int 2,.int 4],.tuple [.int 0,.int 2],.tuple [.int 1,.int 0],.tuple [.int 1,.int (-1)],.tuple [.bool true,.int 1],.tuple [.int 1,.bool true],.tuple [.int 1],.int 3,.none,.tuple [.int 1,.int 2,.int 3],.list [.int 1,.int 1],.str "1", .tuple [.int 100000000000000000000000000000000000000000000000000000000000,.int 7],.tuple [],.tuple [.int 1,.none]]) z0 (by exact z1) (by
  repeat' first|exact o7|refine dC ⟨rfl,fun k=>j6 (by walk_at "sw") (by decide)⟩ ?_
  done)
 refine dF hx ?_;walk_at "!?%@";exact q _ _ hP (by omega)
end
set_option hygiene false in
local macro_rules|`(tactic| walk_at "sw")=>`(tactic| repeat' first|exact tL|exact yX _|exact a3J|exact st _|exact sd _|exact gK (by decide)|exact mJ _ (by decide) (by decide)|apply Sws.tup|apply Sws.lst|exact Sws.nil|apply Sws.cons)
theorem ne_str (a b:PySem.Str)(h:decide (a=b)=false:=by decide +kernel):a≠b:=of_decide_eq_false h
theorem aIB (w:PySem.Str)(xs:List D)(h1:decide (w = "join")=false:=by decide +kernel)(h2:decide (w = "leave")=false:=by decide +kernel)(h3:decide (w = "turn")=false:=by decide +kernel):jG (.tuple (.str w::xs))=false:=a9F xs (ne_str _ _ h1) (ne_str _ _ h2) (ne_str _ _ h3)
theorem a2I (xs:List D)(h:aBV xs=false):jG (.tuple (.str "join" :: xs))=false:=(xO xs).trans h
theorem aBA (xs:List D)(h:a3U xs=false):jG (.tuple (.str "leave" :: xs))=false:=(a0V xs).trans h
theorem a3C (xs:List D)(h:aAO xs=false):jG (.tuple (.str "turn" :: xs))=false:=(wF xs).trans h
structure BD (t:Rat)(x:D):Prop where
 no:jG x=false∨∃(z:Int) (w:PySem.Str) (r:List D),x=.tuple (.str w::cD t::.int z::r)∧(w = "leave" ∨ w = "turn")∧(z<0∨40≤z)
 wd:∀ w xs,x=.tuple (.str w::xs)→Good (.str w)
 sw:Sw 5 100 x
theorem vO {a b:Bool}(h:b=false):(a&&b)=false:=by rw[h,Bool.and_false]
theorem a3D {a b:Bool}(h:a=false):(a&&b)=false:=by rw[h,Bool.false_and]
section
variable {p:Addr}{n:Nat}{Q:Rv→Nat→Prop}{t:Rat}
theorem aGP (hn:n<800000)(ht:zU t)(q:∀ d n',BD t d→n'≤n+4→Q (.val d) n'):nW p n [.val (cD t)] Q:=by
 have st:∀ k,Sw (k+1) 2 (cD t):=fun k=>qT ht;refine uA ?_;unfold u6;walk_at "!*1,/$#$#()*1,'%2+#.3";refine cG (by decide) (by decide) (by omega) fun w w0 w1=>?_;walk_at "!*40<&#D%";refine dN (fun c=>?_) (fun c=>?_)
 ·walk_at "!*1,'5$#$#$#$'5()%$/()$#$x$/$#()$'5$#$&$&$&()%()A,-'G&'5$/$/$#$&$&$&()()()%)'%2+#.3";refine cG (by decide) (by decide) (by omega) fun z z0 z1=>?_;walk_at "!%";obtain⟨x,hx,hP⟩:=qG (P:=BD t) (z:=z) (xs:=[.none,.int 7,.str "join", .list [],.tuple [],.bool true,.dict [],.tuple [.str "join"],.list [.str "join", cD t,.tuple [.int 1,.int 1],.tuple [.int 1,.int 1]],.tuple [.tuple [.str "join", cD t,.tuple [.int 1,.int 1],.tuple [.int 1,.int 1]]]]) z0 (by exact z1) (by
   repeat' first|exact o7|refine dC ⟨.inl (by first|rfl|exact a2I _ rfl),fun w xs e=>(by first|(cases e; done)|(cases e; exact good_str _)),j6 (by walk_at "sw") (by decide)⟩ ?_
   done)
  refine dF hx ?_;walk_at "!?%@";exact q _ _ hP (by omega)
 unfold qK;walk_at "!=*40<&#D%";refine dN (fun c=>?_) (fun c=>?_)
 ·walk_at "!*1,'5$/$#$&$&$&()$/$#$&$#()$/$#$&$#()$/$#$&$#$&()$/$#$&$#()()%*1,'G&'5$/$#$&$&()$/$#$&$&$&$&()$/$#$&()$/$#$&$#()()%)*1,'G&'5$/$#$&$#$&()$/$#$&$#$&$#()$/$/$#()$&$#()$/$'5$#()%$&$#()())A,-&'%2+#.3";refine cG (by decide) (by decide) (by omega) fun z z0 z1=>?_;walk_at "!%";obtain⟨x,hx,hP⟩:=qG (P:=BD t) (z:=z) (xs:=[.tuple [.str "joins", cD t,.tuple [.int 1,.int 1],.tuple [.int 1,.int 1]],.tuple [.str "Leave", cD t,.int 0],.tuple [.none,cD t,.int 0],.tuple [.int 0,cD t,.int 0,.tuple [.int 1,.int 1]],.tuple [.str "", cD t,.int 0],.tuple [.str "join", cD t,.tuple [.int 1,.int 1]],.tuple [.str "join", cD t,.tuple [.int 1,.int 1],.tuple [.int 1,.int 1],.tuple [.int 1,.int 1]],.tuple [.str "leave", cD t],.tuple [.str "turn", cD t,.int 0],.tuple [.str "leave", cD t,.int 0,.tuple [.int 1,.int 1]],.tuple [.str "turn", cD t,.int 0,.tuple [.int 1,.int 1],.int 0],.tuple [.tuple [.str "join"],cD t,.int 0],.tuple [.list [.str "join"],cD t,.int 0]]) z0 (by exact z1) (by
   repeat' first|exact o7|refine dC ⟨.inl (by first|exact a2I _ rfl|exact aBA _ rfl|exact a3C _ rfl|exact aIB _ _|rfl),fun w xs e=>(by first|(cases e; done)|(cases e; exact good_str _)),j6 (by walk_at "sw") (by decide)⟩ ?_
   done)
  refine dF hx ?_;walk_at "!?%@";exact q _ _ hP (by omega)
 unfold qI;walk_at "!=*408&#%";refine dN (fun c=>?_) (fun c=>?_)
 ·walk_at "!*1,'%2.3";refine z9 (by omega) fun d n1 hd hn1=>?_;obtain⟨hd,sd⟩:=hd;walk_at "!*1,'5$/$#$&$&$&()$/$#$&$&$&()$/$#$&$&$&()$/$#$&$#()()%A,-'G&'5$/$#$&$#$&()$/$#$&$#$&()()%)'%2+#.3";refine cG (by decide) (by decide) (by omega) fun z z0 z1=>?_;walk_at "!%";obtain⟨x,hx,hP⟩:=qG (P:=BD t) (z:=z) (xs:=[.tuple [.str "join", d,.tuple [.int 1,.int 1],.tuple [.int 1,.int 1]],.tuple [.str "join", cD t,d,.tuple [.int 1,.int 1]],.tuple [.str "join", cD t,.tuple [.int 1,.int 1],d],.tuple [.str "leave", d,.int 0],.tuple [.str "turn", d,.int 0,.tuple [.int 1,.int 1]],.tuple [.str "turn", cD t,.int 0,d]]) z0 (by exact z1) (by
   repeat' first|exact o7|refine dC ⟨.inl (by first|exact a2I _ (a3D hd)|exact a2I _ (vO (a3D hd))|exact a2I _ (vO (vO hd))|exact aBA _ (a3D hd)|exact a3C _ (vO (a3D hd))|exact a3C _ (a3D hd)|exact a3C _ (vO hd)|exact a2I _ (vO hd)|exact a3C _ (vO (vO hd))),fun w xs e=>(by cases e; exact good_str _),j6 (by walk_at "sw") (by decide)⟩ ?_
   done)
  refine dF hx ?_;walk_at "!?%@";exact q _ _ hP (by omega)
 unfold qC;walk_at "!=*1,-'5$b#$#$#$#$#$#$#$/$#$#()$'5$#()%$#()'%2+#.3";refine cG (by decide) (by decide) (by omega) fun z z0 z1=>?_;walk_at "!%";obtain⟨r,hr,⟨hP,sd⟩⟩:=qG (P:=fun r=>(wh r=false∨∃ i:Int,r=.int i∧(i<0∨40≤i))∧∀ k,Sw (k+2) 12 r) (z:=z) (xs:=[.int (-1),.int 41,.int 100000000000000000000000000000000000000000000000000000000000,.bool true,.bool false,.none,.str "0", .tuple [.int 0,.int 1],.list [.int 0],.int 99]) z0 (by exact z1) (by
  repeat' first|exact o7|refine dC ⟨(by first|exact .inl rfl|exact .inr ⟨_,rfl,by decide⟩),fun k=>j6 (by walk_at "sw") (by decide)⟩ ?_
  done)
 refine dF hr ?_;walk_at "!A,-'5$/$#$&$&()$/$#$&$&$&()()%'%2+#.3";refine cG (by decide) (by decide) (by omega) fun y y0 y1=>?_;walk_at "!%";obtain⟨x,hx,hB⟩:=qG (P:=BD t) (z:=y) (xs:=[.tuple [.str "leave", cD t,r],.tuple [.str "turn", cD t,r,.tuple [.int 1,.int 1]]]) y0 (by exact y1) (by
  refine dC ⟨?_,fun w xs e=>(by cases e; exact good_str _),j6 (by walk_at "sw") (by decide)⟩ (dC ⟨?_,fun w xs e=>(by cases e; exact good_str _),j6 (by walk_at "sw") (by decide)⟩ o7)
  ·rcases hP with hP|⟨i,rfl,hi⟩
   ·exact .inl (aBA _ (vO hP))
   ·exact .inr ⟨i,_,_,rfl,.inl rfl,hi⟩
  ·rcases hP with hP|⟨i,rfl,hi⟩
   ·exact .inl (a3C _ (a3D hP))
   ·exact .inr ⟨i,_,_,rfl,.inr rfl,hi⟩
  done)
 refine dF hx ?_;walk_at "!?%@";exact q _ _ hB (by omega)
end
theorem LogB.cut {ds:List Deed}(h:LogB ds)(k:Nat):LogB (ds.take k):=⟨h.ok.take k,h.up.sublist (take_sublist _ _),fun d hd=>h.z d (mem_of_mem_take hd),fun d hd=>h.nm d (mem_of_mem_take hd),LogP.take h.few k⟩
theorem xX {ds:List D}{k:Nat}(h:k≤ds.length):L2.VS.cutD ds none (some (k:Int))=ds.take k:=by
 unfold L2.VS.cutD;rw[HT.sIx_none,HT.sIx_nat,Nat.min_eq_left h,List.drop_zero,Nat.sub_zero]
theorem yV {d:Deed}(h:uC d)(hr:∀ t r m,d=.leave t r∨d=.turn t r m→r≤1000):Sw 3 60 (bM d):=by
 cases d with
 | join t p m=>
  have s1:Sw 2 2 (cD t):=qT h.1;have s2:Sw 2 2 (cD p):=qT h.2.1;have s3:Sw 2 2 (cD m):=qT h.2.2;exact j6 (Sws.cons (mJ _ (by decide) (by decide)) (Sws.cons s1 (Sws.cons s2 (Sws.cons s3 Sws.nil)))).tup (by decide)
 | leave t r=>
  have s1:Sw 2 2 (cD t):=qT h;exact j6 (Sws.cons (mJ _ (by decide) (by decide)) (Sws.cons s1 (Sws.cons (a9H (hr t r 0 (.inl rfl))) Sws.nil))).tup (by decide)
 | turn t r m=>
  have s1:Sw 2 2 (cD t):=qT h.1;have s3:Sw 2 2 (cD m):=qT h.2;exact j6 (Sws.cons (mJ _ (by decide) (by decide)) (Sws.cons s1 (Sws.cons (a9H (hr t r m (.inr rfl))) (Sws.cons s3 Sws.nil)))).tup (by decide)
theorem sI:∀(ds:List Deed) (s:Rn),(ds.foldl stp s).ls.length≤s.ls.length+ds.length
 | [],s=>le_refl _
 | d::ds,s=>by
  have h1:=sI ds (stp s d);have h2:=a6T s d
  show(ds.foldl stp (stp s d)).ls.length≤_
  rw[length_cons]; omega
theorem oO (ds:List Deed):(run ds).ls.length≤ds.length:=by
 have h:(run ds).ls.length≤([]:List Ln).length+ds.length:=sI ds ⟨[],[]⟩;rw[length_nil] at h;omega
theorem LogB.sw {ds:List Deed}(h:LogB ds)(hl:ds.length≤40):∀ x∈ds.map bM,Sw 3 60 x:=fun x hx=>by
 obtain⟨d,hd,rfl⟩:=mem_map.mp hx;obtain⟨n,hn⟩:=getElem?_of_mem hd;refine yV (h.nm d hd) fun t r m e=>?_;have ok:=h.ok n d hn;have hm:r∈(run (ds.take n)).rs:=by
  rcases e with rfl|rfl
  ·exact ok
  ·exact ok
 have h1:=(oE (ds.take n)).lt r hm;have h2:=oO (ds.take n);have h3:(ds.take n).length≤ds.length:=by rw[length_take]; omega
 omega
theorem a0C {t:Rat}{r:Nat}:∀{ds:List Deed} {s:Rn},RnOk s→(r<s.ls.length∧r∉s.rs)→r∉(ds.foldl stp s).rs
 | [],_,_,h=>h.2
 | d::ds,s,ho,h=>by
  refine a0C (t:=t) (ds:=ds) (a5Q ho d) ?_
  cases d with
  | join t p m=>
   refine⟨?_,fun z=>?_⟩
   ·show r<(s.ls++[_]).length;rw[length_append];omega
   ·rcases mem_append.mp z with z|z
    ·exact h.2 z
    ·have:=mem_singleton.mp z;omega
  | leave t q=>exact⟨h.1,fun z=>h.2 (mem_filter.mp z).1⟩
  | turn t q m=>
   refine⟨?_,h.2⟩;show r<(s.ls.set q _).length;rw[length_set];exact h.1
theorem a8C {ds:List Deed}(h:LogOk ds){t:Rat}{r:Nat}(hm:.leave t r∈ds):r∉(run ds).rs:=by
 obtain⟨n,hn⟩:=getElem?_of_mem hm;have hl:=(List.getElem?_eq_some_iff.mp hn).1;have ok:r∈(run (ds.take n)).rs:=h n _ hn;have e:ds=ds.take (n+1)++ds.drop (n+1):=(List.take_append_drop _ _).symm;have e2:ds.take (n+1)=ds.take n++[.leave t r]:=by rw[take_succ,hn]; rfl
 have ro:=oE (ds.take n);rw[e,e2];show r∉(List.foldl stp _ _).rs;rw[List.foldl_append];rw[show List.foldl stp (⟨[],[]⟩:Rn) (ds.take n++[.leave t r])=stp (run (ds.take n)) (.leave t r) from rN _ _];refine a0C (t:=t) (a5Q ro _) ⟨ro.lt r ok,fun z=>?_⟩;have:=(mem_filter.mp z).2;simp at this
section
variable {Q:Rv→Prop}
theorem aCJ {ds:List Deed}{k:Nat}(h:LogB ds)(hk:k<ds.length)(hl:ds.length≤40)(q:∀ r:Nat,r∉(run (ds.take k)).rs→r≤40→Q (.val (.int (r:Int)))):lY [.val (.list (ds.map bM)),.val (.int (k:Int))] Q:=by
 refine wA ?_;unfold pK;walk_at "!*1,'%fĒ'T&QP&%";rw[xX (by rw[length_map]; omega),←map_take];skip;refine⟨by rw[length_map,length_take]; omega,?_⟩
 let lv:Deed→Bool:=fun d=>match d with|.leave _ _=>true|_=>false
 let rn:Deed→D:=fun d=>match d with|.leave _ r=>.int (r:Int)|_=>.none
 refine pQ (α:=Deed) lv rn bM (ds.take k) [] _ (fun x hx _ k k0 g1 g0=>?_) ?_
 ·cases x with
  | join t p m=>
   walk_at "!H0<-&#%";refine dF (d:=.str "join") rfl ?_;walk_at "!#";refine a3G gJ gL rfl ?_;exact g0 rfl
  | leave t r=>
   walk_at "!H0<-&#%";refine dF (d:=.str "leave") rfl ?_;walk_at "!#";refine a9T gL ?_;walk_at "!-&#";refine dF (d:=.int (r:Int)) rfl ?_;exact g1 rfl
  | turn t r m=>
   walk_at "!H0<-&#%";refine dF (d:=.str "turn") rfl ?_;walk_at "!#";refine a3G gT' gL rfl ?_;exact g0 rfl
 ·rw[nil_append];walk_at "!;,-'G&'5$#()%";have r40:∀ r:Nat,r∈(run (ds.take k)).rs→r<40:=fun r hr=>by
   have h1:=(oE (ds.take k)).lt r hr;have h2:=oO (ds.take k);rw[length_take] at h2;omega
  refine⟨?_,?_⟩
  ·have:=List.length_filter_le lv (ds.take k);rw[length_map];rw[length_take] at this
   show(List.filter lv (ds.take k)).length+1≤1000
   omega
  cases e:(ds.take k).filter lv with
  | nil=>
   walk_at "!#";refine dF (d:=.int ((40:Nat):Int)) rfl ?_;skip;exact q 40 (fun z=>absurd (r40 40 z) (by decide)) (by decide)
  | cons d l=>
   have hd:d∈(ds.take k).filter lv:=by rw[e]; exact mem_cons_self
   obtain⟨h1,h2⟩:=mem_filter.mp hd
   cases d with
   | join t p m=>cases h2
   | turn t r m=>cases h2
   | leave t r=>
    walk_at "!#";refine dF (wI (i:=0) (d:=.int (r:Int)) rfl) ?_;skip;obtain⟨n,hn⟩:=getElem?_of_mem h1;have o1:r∈(run ((ds.take k).take n)).rs:=(h.cut k).ok n _ hn;have o2:=(oE ((ds.take k).take n)).lt r o1;have o3:=oO ((ds.take k).take n);rw[length_take,length_take] at o3;exact q r (a8C (h.cut k).ok h1) (by omega)
end
theorem yR {xs:List D}{lo hi:Option Int}:∀ x∈L2.VS.cutD xs lo hi,x∈xs:=fun x hx=>List.mem_of_mem_drop (mem_of_mem_take hx)
theorem zK {xs:List D}{lo hi:Option Int}:(L2.VS.cutD xs lo hi).length≤xs.length:=by
 unfold L2.VS.cutD;rw[length_take,length_drop];omega
theorem a1S {T:Rat}{ds:List Deed}(h:∀ d∈ds,∃ p m,d=.join T p m)(hz:∀ d∈ds,DeedZ d∧uC d)(hl:ds.length≤8):LogB ds:=by
 have tt:∀ d∈ds,d.t=T:=fun d hd=>by
  obtain⟨p,m,rfl⟩:=h d hd;rfl
 refine⟨fun n d hd=>?_,?_,fun d hd=>(hz d hd).1,fun d hd=>(hz d hd).2,fun n d hd=>?_⟩
 ·obtain⟨p,m,rfl⟩:=h d (mem_of_getElem? hd);exact trivial
 ·exact List.pairwise_of_forall_mem_list fun a ha b hb=>by rw[tt a ha,tt b hb]; exact Rat.le_refl
 ·obtain⟨p,m,rfl⟩:=h d (mem_of_getElem? hd);have h1:=pL (ds.take n);have h2:=(List.getElem?_eq_some_iff.mp hd).1;rw[length_take] at h1
  show(run (ds.take n)).rs.length<8
  omega
theorem a0N {T:Rat}:∀{ds:List Deed} {s:Rn},(∀ d∈ds,∃ r m,d=.turn T r m)→(ds.foldl stp s).rs=s.rs
 | [],_,_=>rfl
 | d::ds,s,h=>by
  obtain⟨r,m,rfl⟩:=h d mem_cons_self
  show(ds.foldl stp (stp s (.turn T r m))).rs=_
  rw[a0N fun e he=>h e (mem_cons_of_mem _ he)];rfl
theorem a1M {T p m:Rat}{ds:List Deed}(h:∀ d∈ds,∃ m,d=.turn T 0 m)(hz:∀ d∈.join T p m::ds,DeedZ d∧uC d):LogB (.join T p m::ds):=by
 have tt:∀ d∈.join T p m::ds,d.t=T:=fun d hd=>by
  rcases mem_cons.mp hd with rfl|hd
  ·rfl
  ·obtain⟨m,rfl⟩:=h d hd;rfl
 refine⟨fun n d hd=>?_,?_,fun d hd=>(hz d hd).1,fun d hd=>(hz d hd).2,fun n d hd=>?_⟩
 ·cases n with
  | zero=>
   cases hd
   exact trivial
  | succ n=>
   have hm:d∈ds:=mem_of_getElem? (by simpa using hd);obtain⟨m',rfl⟩:=h d hm;show 0∈(List.foldl stp (stp ⟨[],[]⟩ (.join T p m)) (ds.take n)).rs;rw[a0N (T:=T) fun e he=>?_]
   ·exact mem_singleton.mpr rfl
   ·obtain⟨m,rfl⟩:=h e (mem_of_mem_take he);exact⟨_,_,rfl⟩
 ·exact List.pairwise_of_forall_mem_list fun a ha b hb=>by rw[tt a ha,tt b hb]; exact Rat.le_refl
 ·cases n with
  | zero=>
   cases hd
   show(run []).rs.length<8
   decide
  | succ n=>
   have hm:d∈ds:=mem_of_getElem? (by simpa using hd);obtain⟨m',rfl⟩:=h d hm;exact trivial
def j9 (k:Nat):Deed:=.join ((5:Int):Rat) ((0+(k:Int):Int):Rat) ((0:Int):Rat)
def t9 (k:Nat):Deed:=.turn ((5:Int):Rat) 0 (Rat.divInt (0+(k:Int)) 7)
def u9:Deed:=.turn ((5:Int):Rat) 0 ((1:Int):Rat)
theorem aIQ (k:Nat):PyData.tuple [.str "join", .tuple [.int 5,.int 1],.tuple [.int (0+(k:Int)),.int 1],.tuple [.int 0,.int 1]]=bM (j9 k):=by
 unfold j9 bM;simp only[← o5]
theorem aK4:PyData.tuple [.str "turn", .tuple [.int 5,.int 1],.int 0,.tuple [.int 1,.int 1]]=bM u9:=by
 unfold u9 bM;simp only[← o5];rfl
theorem aJN:∀ k:Fin 39,(k.val:Int)%7>0→(Rat.divInt (0+(k.val:Int)) 7).num=(k.val:Int)∧(Rat.divInt (0+(k.val:Int)) 7).den=7:=by decide +kernel
theorem aK2 {k:Nat}(hk:k<39)(h:(0+(k:Int))%7>0):PyData.tuple [.str "turn", .tuple [.int 5,.int 1],.int 0,.tuple [.int (0+(k:Int)),.int 7]]=bM (t9 k):=by
 have:=aJN ⟨k,hk⟩ (by simpa using h);show _=PyData.tuple [.str "turn", cD ((5:Int):Rat),.int ((0:Nat):Int),cD (Rat.divInt (0+(k:Int)) 7)];rw[← o5];unfold cD;rw[this.1,this.2];simp
theorem xG {i:Int}(h:i.natAbs≤100):G1 (2^45) (i:Rat)∧zU (i:Rat):=by
 have:=And.intro (xN (a:=i) (b:=1) (B:=2^45) (by omega) (by decide) (by decide)) (a6F (a:=i) (b:=1) (by omega) (by decide) (by decide));rwa[dI (t:=i) (b:=1) (q:=(i:Rat)) (by decide) (by rw[show((1:Int):Rat)=1 from rfl]; grind)] at this
theorem aG5 {k:Nat}(hk:k<50):DeedZ (j9 k)∧uC (j9 k):=by
 have h1:=xG (i:=5) (by decide);have h2:=xG (i:=0+(k:Int)) (by omega);have h3:=xG (i:=0) (by decide);exact⟨⟨h1.1,h2.1,h3.1⟩,h1.2,h2.2,h3.2⟩
theorem aJT {k:Nat}(hk:k<39):DeedZ (t9 k)∧uC (t9 k):=by
 have h1:=xG (i:=5) (by decide);exact⟨⟨h1.1,xN (by omega) (by decide) (by decide)⟩,h1.2,a6F (by omega) (by decide) (by decide)⟩
theorem aK9:DeedZ u9∧uC u9:=by
 have h1:=xG (i:=5) (by decide);have h2:=xG (i:=1) (by decide);exact⟨⟨h1.1,h2.1⟩,h1.2,h2.2⟩
def k7:List Nat:=(List.range 39).filter fun k=>decide ((0+(k:Int))%7>0)
def L42:List Deed:=j9 0::(k7.map t9++List.replicate 8 u9)
theorem L42_log:LogB L42:=by
 refine a1M (fun d hd=>?_) fun d hd=>?_
 ·rcases mem_append.mp hd with z|z
  ·obtain⟨k,_,rfl⟩:=mem_map.mp z;exact⟨_,rfl⟩
  ·rw[(List.mem_replicate.mp z).2];exact⟨_,rfl⟩
 ·rcases mem_cons.mp hd with rfl|z
  ·exact aG5 (k:=0) (by decide)
  rcases mem_append.mp z with z|z
  ·obtain⟨k,hk,rfl⟩:=mem_map.mp z;exact aJT (mem_range.mp (mem_filter.mp hk).1)
  ·rw[(List.mem_replicate.mp z).2];exact aK9
theorem a4B:L42.length=42:=by
 unfold L42;rw[length_cons,length_append,length_map,length_replicate,show k7.length=33 by decide +kernel]
def L8:List Deed:=(List.range 8).map j9
theorem L8_log:LogB L8:=a1S (T:=((5:Int):Rat)) (fun d hd=>by
  obtain⟨k,_,rfl⟩:=mem_map.mp hd;exact⟨_,_,rfl⟩) (fun d hd=>by
  obtain⟨k,hk,rfl⟩:=mem_map.mp hd;exact aG5 (by have:=mem_range.mp hk; omega)) (by unfold L8; rw[length_map,length_range]; decide)
theorem aHU:(run L8).rs.length=8:=rfl
theorem aKD:Ref L8 (bM (j9 8)):=.inl ⟨_,_,_,rfl,(aG5 (k:=0) (by decide)).1.tz,.inr (by rw[aHU]; decide)⟩
theorem aB0 {xs:List D}(hx:∀ x∈xs,Sw 5 100 x)(hl:xs.length≤50):Sw 10 13000 (.tuple xs):=(Sws.all hx).tup.mono (by decide) (by omega)
theorem early {q:Rat}{z:Int}(h0:0≤z):Rat.divInt (q.num.fdiv q.den-1-z) 1<q:=by
 rw[dI (t:=q.num.fdiv q.den-1-z) (b:=1) (q:=((q.num.fdiv q.den-1-z:Int):Rat)) (by decide) (by rw[show((1:Int):Rat)=1 from rfl]; grind)];have hd:(0:Int)<q.den:=by have:=q.den_pos; omega
 have h1:q.num.fdiv q.den*q.den≤q.num:=by
  rw[Int.fdiv_eq_ediv_of_nonneg _ (by omega)];exact Int.ediv_mul_le _ (by omega)
 have e:q*(q.den:Rat)=(q.num:Rat):=(aK1 q).symm;have dp:(0:Rat)<(q.den:Rat):=by exact_mod_cast q.den_pos
 have h2:((q.num.fdiv q.den:Int):Rat)*(q.den:Rat)≤q*(q.den:Rat):=by
  rw[e];exact_mod_cast h1
 have h3:((q.num.fdiv q.den:Int):Rat)≤q:=Rat.le_of_mul_le_mul_right h2 dp;have h4:((q.num.fdiv q.den-1-z:Int):Rat)<((q.num.fdiv q.den:Int):Rat):=by exact_mod_cast (by omega)
 grind
section
variable {p:Addr}{n:Nat}{Q:Rv→Nat→Prop}
theorem rep2 {z:Int}(h0:0≤z)(h1:z<2):(∀ x∈(List.replicate z.toNat [PyData.none]).flatten,Sw 5 100 x)∧(List.replicate z.toNat [PyData.none]).flatten.length≤1:=by
 have:z=0∨z=1:=by omega
 rcases this with rfl|rfl
 ·exact⟨fun x hx=>absurd hx not_mem_nil,by decide⟩
 ·exact⟨fun x hx=>by rw[mem_singleton.mp hx]; exact j6 tL (by decide),by decide⟩
theorem Bad.deed {ds:List Deed}{x:Deed}(h:Ref ds (bM x)):Bad ds (bM x):=⟨.inr h,wM x⟩
theorem xW {xs ys:List D}(h:∀ x∈xs,Sw 5 100 x)(g:∀ x∈ys,Sw 5 100 x):∀ x∈xs++ys,Sw 5 100 x:=fun x hx=>(mem_append.mp hx).elim (h x) (g x)
theorem a9G {x:D}(h:Sw 5 100 x):∀ y∈[x],Sw 5 100 y:=dC h o7
theorem aJY {xs:List D}{i:Int}{k:Nat}{d:D}(e:i=(k:Int))(h:xs[k]?=some d):ixD (.list xs) (.int i)=some d:=by rw[e]; exact wI h
theorem a80 {ds:List Deed}(h:LogB ds)(h0:0<ds.length)(hl:ds.length≤40)(hn:n<700000)(q:∀ d k n',Rf d k→Sw 10 13000 d→n'≤n+20→Q (.own [d,.int (k:Int)]) n'):iQ p n [.val (.list (ds.map bM))] Q:=by
 have sd:∀ x∈ds.map bM,Sw 5 100 x:=fun x hx=>(h.sw hl x hx).mono (by decide) (by decide);have ld:(ds.map bM).length=ds.length:=length_map _;refine uA ?_;unfold kZ;walk_at "!C*1,'%2+#.3";refine cG (by decide) (by decide) (by omega) fun w w0 w1=>?_;walk_at "!C*1,'%2+U&";refine dF (d:=.int (ds.length:Int)) (by show some (PyData.int ((ds.map bM).length:Int))=_; rw[ld]) ?_;walk_at "!.3";refine cG (by omega) (by omega) (by omega) fun k k0 k1=>?_;obtain⟨k,rfl⟩:∃ j:Nat,k=(j:Int):=⟨k.toNat,by omega⟩;have hk:k<ds.length:=by omega
 have gk:ds[k]?=some ds[k]:=getElem?_eq_getElem hk;have mk:ds[k]∈ds:=getElem_mem hk;have nt:zU ds[k].t:=by
  have:=h.nm _ mk
  cases e:ds[k]<;>(rw[e] at this; first|exact this.1|exact this)
 have zt:Sz 60 ds[k].t:=(h.z _ mk).tz;have st:∀ j,Sw (j+1) 2 (cD ds[k].t):=fun j=>qT nt;have lc:=h.cut k;have lt:(ds.take k).length=k:=by rw[length_take]; omega
 have tk:(ds.map bM).take k=(ds.take k).map bM:=(map_take ..).symm;have stk:∀ x∈(ds.take k).map bM,Sw 5 100 x:=fun x hx=>sd x (by rw[← tk] at hx; exact mem_of_mem_take hx);have put:∀(x:D) (r:List D),Bad (ds.take k) x→Sw 5 100 x→(∀ y∈r,Sw 5 100 y)→r.length≤5+ds.length→Rf (.list ((ds.take k).map bM++x::r)) k∧Sw 10 13000 (.list ((ds.take k).map bM++x::r)):=fun x r hb hx hr hlr=>
  ⟨.inr ⟨_,x,r,rfl,lc,lt,by omega,.inr hb⟩,(Sws.all (xW stk (dC hx hr))).lst.mono (by decide) (by
   rw[length_append,length_map,lt,length_cons];omega)⟩
 walk_at "!C*1,--&&%";refine dF (wI (d:=bM ds[k]) (by rw[getElem?_map,gk]; rfl)) ?_;walk_at "!#";refine dF (a7O _) ?_;walk_at "!C*40<&#D%";refine dN (fun c=>?_) (fun c=>?_)
 ·walk_at "!A5$-'5$#$#$#$%";refine⟨_,rfl,?_⟩;walk_at "!$x$#$/$#$&$&$&()()'%2+#.3";refine cG (by decide) (by decide) (by omega) fun z z0 z1=>?_;walk_at "!%";obtain⟨x,hx,⟨hR,hS⟩⟩:=qG (P:=fun d=>Rf d 0∧Sw 10 13000 d) (z:=z) (xs:=[.none,.int 3,.str "log", .tuple (ds.map bM),.dict [],.bool true,.tuple [.str "join", cD ds[k].t,cD ds[k].t,cD ds[k].t]]) z0 (by exact z1) (by
   refine dC ⟨.inl ⟨rfl,rfl⟩,j6 tL (by decide)⟩ ?_;refine dC ⟨.inl ⟨rfl,rfl⟩,j6 (gK (by decide)) (by decide)⟩ ?_;refine dC ⟨.inl ⟨rfl,rfl⟩,j6 (mJ _ (by decide) (by decide)) (by decide)⟩ ?_;refine dC ⟨.inl ⟨rfl,rfl⟩,aB0 sd (by omega)⟩ ?_;refine dC ⟨.inl ⟨rfl,rfl⟩,j6 a3J (by decide)⟩ ?_;refine dC ⟨.inl ⟨rfl,rfl⟩,j6 (yX _) (by decide)⟩ ?_;refine dC ⟨.inl ⟨rfl,rfl⟩,j6 (Sws.cons (mJ _ (by decide) (by decide)) (Sws.cons (st _) (Sws.cons (st _) (Sws.cons (st _) Sws.nil)))).tup (by decide)⟩ o7)
  refine dF hx ?_;walk_at "!$#()?%@";exact q _ _ _ hR hS (by omega)
 have r1:∀ x5 x6 x7 x8 x9:Sl,∀ n1,n1≤n+5→gZ [.box (penF.box p n1),.val (.list (ds.map bM)),.val (.int w),.val (.int (k:Int)),.val (cD ds[k].t),x5,x6,x7,x8,x9] fun fl=>
   match fl with
   | .rt rv=>∃ rv0 s',rv=.box (bKp penF rv0 p s')∧Q rv0 s'
   | .nx Γ=>∃ s',Γ[0]?=some (.box (penF.box p s'))∧Q (.val .none) s'
   | _=>False:=by
  intro x5 x6 x7 x8 x9 n1 hn1;unfold gZ;walk_at "!*1,'G'G'T&QP&%'5$'%2+&.3";refine aGP (by omega) nt fun d n2 hd hn2=>?_;walk_at "!C()";rw[xX (by rw[ld]; omega),tk];have cl:=zK (xs:=ds.map bM) (lo:=some ((k:Int)+1)) (hi:=none);refine⟨by rw[length_map,lt,length_singleton]; omega,?_⟩;walk_at "!'T&P8&#Q%";refine⟨by rw[length_append,length_map,lt,length_singleton]; omega,?_⟩;walk_at "!CA5$'G&'%o'5$#()%'%2+#.3";refine cG (by decide) (by decide) (by omega) fun z z0 z1=>?_;walk_at "!C";obtain⟨e1,e2⟩:=rep2 z0 z1;refine⟨⟨by omega,by omega⟩,by show 1*z.toNat≤1000; omega,?_⟩;skip;refine⟨by rw[length_append,length_append,length_map,lt,length_singleton]; omega,?_⟩;walk_at "!$&()?%@";have hb:jG d=false∨Ref (ds.take k) d:=by
   rcases hd.no with z|⟨z,w,r,rfl,hw,hz⟩
   ·exact .inl z
   ·refine .inr (.inr ⟨_,z,w,r,rfl,hw,zt,fun y hy=>?_⟩);have h1:=(oE (ds.take k)).lt y hy;have h2:=oO (ds.take k);omega
  obtain⟨a,b⟩:=put d (VS.cutD (ds.map bM) (some ((k:Int)+1)) none++(List.replicate z.toNat [PyData.none]).flatten) ⟨hb,hd.wd⟩ hd.sw (xW (fun x hx=>sd x (yR x hx)) e1) (by rw[length_append]; omega);rw[append_assoc,append_assoc];exact q _ _ _ a b (by omega)
 have r4:∀ n1,n1≤n+5→gY [.box (penF.box p n1),.val (.list (ds.map bM)),.val (.int w),.val (.int (k:Int)),.val (cD ds[k].t),.no,.no,.no,.no,.no] fun fl=>
   match fl with
   | .rt rv=>∃ rv0 s',rv=.box (bKp penF rv0 p s')∧Q rv0 s'
   | .nx Γ=>∃ s',Γ[0]?=some (.box (penF.box p s'))∧Q (.val .none) s'
   | _=>False:=by
  intro n1 hn1;unfold gY;walk_at "!*40<&#D%";refine dN (fun c=>?_) (fun c=>?_)
  ·walk_at "!A5$'G'G'T&QP&%'5$/$#$&$':+&+&.7%";refine aCJ h hk hl fun r hr r4=>?_;walk_at "!C()()";rw[xX (by rw[ld]; omega),tk];have cl:=zK (xs:=ds.map bM) (lo:=some (k:Int)) (hi:=none);refine⟨by rw[length_map,lt,length_singleton]; omega,?_⟩;walk_at "!'T&P&Q%";refine⟨by rw[length_append,length_map,lt,length_singleton]; omega,?_⟩;walk_at "!$&()?%@";obtain⟨a,b⟩:=put (bM (.leave ds[k].t r)) (VS.cutD (ds.map bM) (some (k:Int)) none) (Bad.deed (.inr ⟨_,_,_,[],rfl,.inl rfl,zt,fun y hy e=>hr (by rw[show r=y by omega]; exact hy)⟩)) ((yV (d:=.leave ds[k].t r) nt (fun t r' m e=>by rcases e with e|e<;>cases e; omega)).mono (by decide) (by decide)) (fun x hx=>sd x (yR x hx)) (by omega);rw[append_assoc];exact q _ _ _ a b (by omega)
  unfold lV;walk_at "!=*40<&#D%";refine dN (fun c=>?_) (fun c=>?_)
  ·walk_at "!*1,'%fc$#(%";refine⟨by decide,by decide,by decide,?_⟩;show pP _ _ _ _ ((List.range 9).map fun k:Nat=>PyData.int (0+(k:Int))) [] _;refine pQ (α:=Nat) (fun _=>true) (fun k=>bM (j9 k)) (fun k:Nat=>PyData.int (0+(k:Int))) (List.range 9) [] _ (fun x hx _ k k0 g1 g0=>?_) ?_
   ·walk_at "!H";unfold a5N;walk_at "!CJ/$#$/$#$#()$/$&$#()$/$#$#()()";rw[aIQ];exact g1 rfl
   ·rw[nil_append,List.filter_eq_self.mpr fun _ _=>rfl];walk_at "!CA5$'G&'%o'5$#()%'%2+#.3";refine cG (by decide) (by decide) (by omega) fun z z0 z1=>?_;walk_at "!C";obtain⟨e1,e2⟩:=rep2 z0 z1;refine⟨⟨by omega,by omega⟩,by show 1*z.toNat≤1000; omega,?_⟩;skip;refine⟨by rw[length_map,length_range]; omega,?_⟩;walk_at "!$#()?%@";have e9:(List.range 9).map (fun k=>bM (j9 k))=L8.map bM++[bM (j9 8)]:=by
     unfold L8;rw[show List.range 9=List.range 8++[8] from List.range_succ,map_append,map_map];rfl
    rw[e9,append_assoc];have s8:=L8_log.sw (by unfold L8; rw[length_map,length_range]; decide);exact q _ 8 _ (.inr ⟨L8,_,_,rfl,L8_log,by unfold L8; rw[length_map,length_range],by decide,.inr (Bad.deed aKD)⟩) ((Sws.all (xW (fun x hx=>(s8 x hx).mono (by decide) (by decide)) (xW (a9G ((yV (aG5 (k:=8) (by decide)).2 (fun t r m e=>by rcases e with e|e<;>cases e)).mono (by decide) (by decide))) e1))).lst.mono (by decide) (by
     unfold L8;rw[length_append,length_append,length_map,length_map,length_range,length_singleton];omega)) (by omega)
  unfold kJ;walk_at "!=*40<&#D%";refine dN (fun c=>?_) (fun c=>?_)
  ·walk_at "!*1,'G'5$/$#$/$#$#()$/$#$#()$/$#$#()()()%'%fc$#(%";refine⟨by decide,by decide,by decide,?_⟩;show pP _ _ _ _ ((List.range 39).map fun k:Nat=>PyData.int (0+(k:Int))) [] _;refine pQ (α:=Nat) (fun k=>decide ((0+(k:Int))%7>0)) (fun k=>bM (t9 k)) (fun k:Nat=>PyData.int (0+(k:Int))) (List.range 39) [] _ (fun x hx _ k k0 g1 g0=>?_) ?_
   ·have hx:=mem_range.mp hx;walk_at "!H08B&#%";refine⟨by decide,?_⟩;walk_at "!#%";refine dN (fun cc=>?_) (fun cc=>?_)
    ·walk_at "!/$#$/$#$#()$#$/$&$#()()";rw[aK2 hx cc];exact g1 (decide_eq_true cc)
    ·exact g0 (decide_eq_false cc)
   ·rw[nil_append];have l7:((List.range 39).filter fun k:Nat=>decide ((0+(k:Int))%7>0)).length=33:=by decide +kernel
    refine⟨by rw[length_map,l7]; decide,?_⟩;walk_at "!C*1,'T'G&'%o'5$/$#$/$#$#()$#$/$#$#()()()%#%";refine⟨by decide,by decide,?_⟩;walk_at "!)QP#%A5$'G&'5$-'5$/$#$/$#$#()$#()$#$/$#$/$#$#()$#$/$#$#()()()%'%2+#.3";rw[aK4,show PyData.tuple [.str "join", .tuple [.int 5,.int 1],.tuple [.int 0,.int 1],.tuple [.int 0,.int 1]]=bM (j9 0) from aIQ 0];have e42:[bM (j9 0)]++((List.range 39).filter fun k:Nat=>decide ((0+(k:Int))%7>0)).map (fun k=>bM (t9 k))++(List.replicate (Int.toNat 8) [bM u9]).flatten=L42.map bM:=by
     unfold L42 k7;rw[map_cons,map_append,map_map];rfl
    refine⟨by decide,?_⟩;walk_at "!C";rw[e42];rw[show VS.cutD (L42.map bM) none (some 40)=(L42.take 40).map bM by rw[show(40:Int)=((40:Nat):Int) from rfl,xX (by rw[length_map,a4B]; decide),map_take]];skip;refine⟨by decide,by omega,fun z z0 z1=>?_⟩;skip;obtain⟨x,hx,hS⟩:=qG (P:=fun d=>Sw 5 100 d) (z:=z) (xs:=[.tuple [.str "leave", .tuple [.int 5,.int 1],.int 0],.none,.tuple [.str "turn", .tuple [.int 6,.int 1],.int 0,.tuple [.int 1,.int 1]]]) z0 (by exact z1) (by
     refine dC (j6 (Sws.cons (mJ _ (by decide) (by decide)) (Sws.cons (Sws.cons (gK (by decide)) (Sws.cons (gK (by decide)) Sws.nil)).tup (Sws.cons (gK (by decide)) Sws.nil))).tup (by decide)) ?_;refine dC (j6 tL (by decide)) ?_;refine dC (j6 (Sws.cons (mJ _ (by decide) (by decide)) (Sws.cons (Sws.cons (gK (by decide)) (Sws.cons (gK (by decide)) Sws.nil)).tup (Sws.cons (gK (by decide)) (Sws.cons (Sws.cons (gK (by decide)) (Sws.cons (gK (by decide)) Sws.nil)).tup Sws.nil)))).tup (by decide)) o7)
    refine dF hx ?_;walk_at "!())$#()?%@";have l40:(L42.take 40).length=40:=by rw[length_take,a4B]; decide
    have s40:=(L42_log.cut 40).sw (by omega);exact q _ 40 _ (.inr ⟨L42.take 40,x,[],rfl,L42_log.cut 40,l40,by decide,.inl rfl⟩) ((Sws.all (xW (fun x hx=>(s40 x hx).mono (by decide) (by decide)) (a9G hS))).lst.mono (by decide) (by
     rw[length_append,length_map,l40,length_singleton];decide)) (by omega)
  ·exact r1 _ _ _ _ _ _ hn1
 show iC [.box (penF.box p (n+1+1)),.val (.list (ds.map bM)),.val (.int w),.val (.int (k:Int)),.val (cD ds[k].t),.no,.no,.no,.no,.no] _;unfold iC;walk_at "!*4V0<&#D%";refine dN (fun c=>?_) (fun c=>?_)
 ·walk_at "!08&#%";refine dN (fun c=>?_) (fun c=>?_)
  ·walk_at "!*1,--&8&#%";obtain⟨j,rfl⟩:∃ j,k=j+1:=⟨k-1,by omega⟩;have hj:j<ds.length:=by omega
   refine dF (aJY (d:=bM ds[j]) (k:=j) (by omega) (by rw[getElem?_map,getElem?_eq_getElem hj]; rfl)) ?_;walk_at "!#";refine dF (a7O _) ?_;walk_at "!C*1,':+88B-&#O-&#I%";have mj:ds[j]∈ds:=getElem_mem hj;have zj:Sz 60 ds[j].t:=(h.z _ mj).tz;have nj:zU ds[j].t:=by
    have:=h.nm _ mj
    cases e:ds[j]<;>(rw[e] at this; first|exact this.1|exact this)
   have dj:=ds[j].t.den_pos;refine⟨⟨by omega,zj.2.mono (by decide)⟩,?_⟩;walk_at "!#'%2+#.3";refine cG (by decide) (by decide) (by omega) fun z z0 z1=>?_;walk_at "!C+#.7";refine tX (by decide) (aAQ (by decide) (by decide)) ?_;have ea:=early (q:=ds[j].t) z0;obtain⟨n1,n2⟩:=nj;have eb:(ds[j].t.num.fdiv ds[j].t.den).natAbs≤ds[j].t.num.natAbs:=by
    rw[Int.fdiv_eq_ediv_of_nonneg _ (by omega)];exact Int.natAbs_ediv_le_natAbs _ _
   generalize hA:ds[j].t.num.fdiv ds[j].t.den-1-z=A at *;have eA:A.natAbs≤1000000010:=by omega
   rw[dI (t:=A) (b:=1) (q:=(A:Rat)) (by decide) (by rw[show((1:Int):Rat)=1 from rfl]; grind)] at ea ⊢;have sA:∀ k,Sw (k+1) 2 (cD (A:Rat)):=fun k=>by
    rw[← o5];exact(Sws.cons (gK (n69 eA)) (Sws.cons (gK (by decide)) Sws.nil)).tup
   dsimp only[set_cons_zero,set_cons_succ];have zA:Sz 60 (A:Rat):=⟨by rw[Rat.num_intCast]; show A.natAbs<2^60; omega,by rw[Rat.den_intCast]; show(1:Nat)<2^60; decide⟩;walk_at "!A5$'G'G'T&QP&%'5$/$#$&$&$&()()%";rw[xX (by rw[ld]; omega),tk];have cl:=zK (xs:=ds.map bM) (lo:=some (((j+1:Nat):Int)+1)) (hi:=none);refine⟨by rw[length_map,lt,length_singleton]; omega,?_⟩;walk_at "!'T&P8&#Q%";refine⟨by rw[length_append,length_map,lt,length_singleton]; omega,?_⟩;walk_at "!$&()?%@";obtain⟨a,b⟩:=put (bM (.join (A:Rat) (A:Rat) (A:Rat))) (VS.cutD (ds.map bM) (some (((j+1:Nat):Int)+1)) none) (Bad.deed (.inl ⟨_,_,_,rfl,zA,.inl ⟨ds[j],by rw[take_succ,getElem?_eq_getElem hj]; exact List.getLast?_concat,ea⟩⟩)) (j6 (Sws.cons (mJ _ (by decide) (by decide)) (Sws.cons (sA _) (Sws.cons (sA _) (Sws.cons (sA _) Sws.nil)))).tup (by decide)) (fun x hx=>sd x (yR x hx)) (by omega);rw[append_assoc];exact q _ _ _ a b (by omega)
  ·walk_at "!=%";exact r4 _ (by omega)
 ·walk_at "!S=%";exact r4 _ (by omega)
end
theorem law_true (KK:Fg)(c a:Addr)(ns:List Int):sO KK c (.pub (a8Q KK a ns)::List.replicate 7 .no) pF:=by
 unfold sO;walk_at "!C*ic$#(%";refine⟨by decide,by decide,?_⟩;refine wX (fun j Γ=>∃(x1 x2 x3 x4 x5 x6 x7:Sl),Γ=[.pub (a8Q KK a ns),x1,x2,x3,x4,x5,x6,x7]) ⟨_,_,_,_,_,_,_,rfl⟩ ?_ ?_
 ·rintro j Γ K hj ⟨x1,x2,x3,x4,x5,x6,x7,rfl⟩ hK;have hj:j<6:=hj;have r3:∀(pen:Addr) (n many:Nat) (y1 y4 y5 y6 y7:Sl),0<many→many≤40→n<100→pA KK c [.pub (a8Q KK a ns),y1,.box (penF.box pen n),.val (.int (many:Int)),y4,y5,y6,y7] K:=by
   intro pen n many y1 y4 y5 y6 y7 m0 m1 hn;unfold pA;walk_at "!*1,'%2+&.3";refine aHY m1 (by omega) fun ds n1 hl lb hn1=>?_;have gl:=a1V ds;walk_at "!C*ē'%2+&.3";refine a80 lb (by omega) (by omega) (by omega) fun d k n2 rf sw hn2=>?_;obtain⟨w1,w2,w3⟩:=aAH sw;walk_at "!%";refine aGL rfl ?_;walk_at "!ZHZHm*1,%y&";refine⟨w1,w2,w3,?_⟩;walk_at "!*4F0]':+'n&%.7";refine a0D lb (by omega) ?_;walk_at "!&%";refine aIO gl ?_;walk_at "!F0]':+&.7%";refine a4Q rf ?_;walk_at "!&D";refine a7N (decide_eq_true rfl) ?_;walk_at "!0Ĕy&";refine⟨w1,w2,w3,?_⟩;walk_at "!ĕ&ĖS=%";unfold uH;walk_at "!40]':+'n&%.7";refine a0D lb (by omega) ?_;walk_at "!&%";refine aIO gl ?_;walk_at "!=";exact hK.nx _ ⟨_,_,_,_,_,_,_,rfl⟩
  unfold uN;walk_at "!H*1%";refine aD1 (by with_unfolding_all rfl) (by with_unfolding_all rfl) (by omega) (by omega) fun pen=>?_;walk_at "!C*1,8#'%2+#.3";refine cG (by decide) (by decide) (by omega) fun e e0 e1=>?_;walk_at "!C*40<'%2+#.3";refine cG (by decide) (by decide) (by omega) fun f f0 f1=>?_;walk_at "!C#D";obtain⟨many,hm⟩:∃ k:Nat,1+e=(k:Int):=⟨(1+e).toNat,by omega⟩;rw[hm];refine dN (fun cc=>?_) (fun cc=>?_)
  ·walk_at "!1,#%";exact r3 _ _ 40 _ _ _ _ _ (by decide) (by decide) (by omega)
  ·walk_at "!=%";exact r3 _ _ many _ _ _ _ _ (by omega) (by omega) (by omega)
 ·rintro Γ ⟨x1,x2,x3,x4,x5,x6,x7,rfl⟩;unfold uE;walk_at "!C;,#";rfl
theorem ln1 {α:Type}{us:List α}(h:us.length=1):∃ x0,us=[x0]:=by
 match us,h with
 | [_],_=>exact⟨_,rfl⟩
theorem ln2 {α:Type}{us:List α}(h:us.length=2):∃ x0 x1,us=[x0,x1]:=by
 match us,h with
 | [_,_],_=>exact⟨_,_,rfl⟩
theorem ln3 {α:Type}{us:List α}(h:us.length=3):∃ x0 x1 x2,us=[x0,x1,x2]:=by
 match us,h with
 | [_,_,_],_=>exact⟨_,_,_,rfl⟩
theorem aH1 {K:Fg}{h:Heap}{mg:Mg}(X:K.In h)(G:h.Ns mainGlobals mg)
  (z_len:nsIn K mainGlobals "len" = some none)
  (z_abs:nsIn K mainGlobals "abs" = some none)
  (z_range:nsIn K mainGlobals "range" = some none)
  (z_isinstance:nsIn K mainGlobals "isinstance" = some none)
  (xG:nsIn K mainGlobals "int" = some none)
  (z_bool:nsIn K mainGlobals "bool" = some none)
  (z_tuple:nsIn K mainGlobals "tuple" = some none)
  (z_max:nsIn K mainGlobals "max" = some none)
  (z_min:nsIn K mainGlobals "min" = some none)
  (z_list:nsIn K mainGlobals "list" = some none)
  (z_all:nsIn K mainGlobals "all" = some none)
  (z_any:nsIn K mainGlobals "any" = some none)
  (z_sorted:nsIn K mainGlobals "sorted" = some none)
  (z_zip:nsIn K mainGlobals "zip" = some none)
  (z_set:nsIn K mainGlobals "set" = some none)
  (z_sum:nsIn K mainGlobals "sum" = some none)
  (z_str:nsIn K mainGlobals "str" = some none)
  (z_enumerate:nsIn K mainGlobals "enumerate" = some none)
  (z_repr:nsIn K mainGlobals "repr" = some none)
  (kt_int_bool:kitOne K (.type "int") (.type "bool")=some false)    (kt_bool_int:kitOne K (.type "bool") (.type "int")=some true):Bl K mg:=⟨mg_none_of X G z_len,mg_none_of X G z_abs,mg_none_of X G z_range,mg_none_of X G z_isinstance,mg_none_of X G xG,mg_none_of X G z_bool,mg_none_of X G z_tuple,mg_none_of X G z_max,mg_none_of X G z_min,mg_none_of X G z_list,mg_none_of X G z_all,mg_none_of X G z_any,mg_none_of X G z_sorted,mg_none_of X G z_zip,mg_none_of X G z_set,mg_none_of X G z_sum,mg_none_of X G z_str,mg_none_of X G z_enumerate,mg_none_of X G z_repr,kt_int_bool,kt_bool_int⟩
theorem aD9 {K:Fg}
  (kt_NoneType_bool:kitOne K (.type "NoneType") (.type "bool")=some false)
  (kt_NoneType_int:kitOne K (.type "NoneType") (.type "int")=some false)
  (kt_NoneType_str:kitOne K (.type "NoneType") (.type "str")=some false)
  (kt_NoneType_list:kitOne K (.type "NoneType") (.type "list")=some false)
  (kt_NoneType_tuple:kitOne K (.type "NoneType") (.type "tuple")=some false)
  (kt_NoneType_dict:kitOne K (.type "NoneType") (.type "dict")=some false)
  (kt_bool_NoneType:kitOne K (.type "bool") (.type "NoneType")=some false)
  (kt_bool_int:kitOne K (.type "bool") (.type "int")=some true)
  (kt_bool_str:kitOne K (.type "bool") (.type "str")=some false)
  (kt_bool_list:kitOne K (.type "bool") (.type "list")=some false)
  (kt_bool_tuple:kitOne K (.type "bool") (.type "tuple")=some false)
  (kt_bool_dict:kitOne K (.type "bool") (.type "dict")=some false)
  (kt_int_NoneType:kitOne K (.type "int") (.type "NoneType")=some false)
  (kt_int_bool:kitOne K (.type "int") (.type "bool")=some false)
  (kt_int_str:kitOne K (.type "int") (.type "str")=some false)
  (kt_int_list:kitOne K (.type "int") (.type "list")=some false)
  (kt_int_tuple:kitOne K (.type "int") (.type "tuple")=some false)
  (kt_int_dict:kitOne K (.type "int") (.type "dict")=some false)
  (kt_str_NoneType:kitOne K (.type "str") (.type "NoneType")=some false)
  (kt_str_bool:kitOne K (.type "str") (.type "bool")=some false)
  (kt_str_int:kitOne K (.type "str") (.type "int")=some false)
  (kt_str_list:kitOne K (.type "str") (.type "list")=some false)
  (kt_str_tuple:kitOne K (.type "str") (.type "tuple")=some false)
  (kt_str_dict:kitOne K (.type "str") (.type "dict")=some false)
  (kt_list_NoneType:kitOne K (.type "list") (.type "NoneType")=some false)
  (kt_list_bool:kitOne K (.type "list") (.type "bool")=some false)
  (kt_list_int:kitOne K (.type "list") (.type "int")=some false)
  (kt_list_str:kitOne K (.type "list") (.type "str")=some false)
  (kt_list_tuple:kitOne K (.type "list") (.type "tuple")=some false)
  (kt_list_dict:kitOne K (.type "list") (.type "dict")=some false)
  (kt_tuple_NoneType:kitOne K (.type "tuple") (.type "NoneType")=some false)
  (kt_tuple_bool:kitOne K (.type "tuple") (.type "bool")=some false)
  (kt_tuple_int:kitOne K (.type "tuple") (.type "int")=some false)
  (kt_tuple_str:kitOne K (.type "tuple") (.type "str")=some false)
  (kt_tuple_list:kitOne K (.type "tuple") (.type "list")=some false)
  (kt_tuple_dict:kitOne K (.type "tuple") (.type "dict")=some false)
  (kt_dict_NoneType:kitOne K (.type "dict") (.type "NoneType")=some false)
  (kt_dict_bool:kitOne K (.type "dict") (.type "bool")=some false)
  (kt_dict_int:kitOne K (.type "dict") (.type "int")=some false)
  (kt_dict_str:kitOne K (.type "dict") (.type "str")=some false)
  (kt_dict_list:kitOne K (.type "dict") (.type "list")=some false)
  (kt_dict_tuple:kitOne K (.type "dict") (.type "tuple")=some false)
  : Kit K:=Kit.mk' (by
  intro a ha b hb;simp only[tyL,mem_cons,not_mem_nil,or_false] at ha hb;rcases ha with rfl|rfl|rfl|rfl|rfl|rfl|rfl<;>rcases hb with rfl|rfl|rfl|rfl|rfl|rfl|rfl<;>intro e<;>first|assumption|exact absurd e (by decide))
def DfP (K:Fg)(mg:Mg)(x:Str)(st:Stmt):Prop:=∃(f:Addr) (fd:FuncData),Fun K x x st f fd∧mg x=some (.ref f)
theorem gC {K:Fg}{h:Heap}{mg:Mg}(X:K.In h)(G:h.Ns mainGlobals mg){x:Str}{st:Stmt}{f:Addr}{od an:Option Addr}{sl:Array (Option Value)}{oc kV dc pm cd ct:Value}
  (a:nsIn K mainGlobals x=some (some (.ref f))) (l:K.lookup f=some ⟨oc,od,.func (fnOf x x (lF st) (fL st) (aQ st) .none kV dc pm an cd ct),sl⟩) (c:codeIn K cd x=true) (k:keepIn K (.ref f)=true):DfP K mg x st:=
 ⟨f,_,a09 l c k,mg_of X G a⟩
def MeP (K:Fg)(C:Addr)(m q:Str)(st:Stmt):Prop:=∃(f:Addr) (fd:FuncData),Fun K m q st f fd∧Meth K C m f
theorem aAW {K:Fg}{C:Addr}{m q:Str}{st:Stmt}{f:Addr}{od an:Option Addr}{sl:Array (Option Value)}{oc kV dc pm cd ct:Value}
  (a:findIn K (.ref C) m=some (some (.ref f))) (n:isFn K (.ref f)=true) (l:K.lookup f=some ⟨oc,od,.func (fnOf m q (lF st) (fL st) (aQ st) .none kV dc pm an cd ct),sl⟩) (c:codeIn K cd q=true) (k:keepIn K (.ref f)=true):MeP K C m q st:=⟨f,_,a09 l c k,a,n,k⟩
def InP (K:Fg)(C:Addr)(q:Str)(st:Stmt):Prop:=∃(f:Addr) (fd:FuncData),Fun K "__init__" q st f fd∧Mk K C f
theorem aGC {K:Fg}{C:Addr}{q:Str}{st:Stmt}{f:Addr}{od an:Option Addr}{sl:Array (Option Value)}{oc kV dc pm cd ct:Value}
  (y:makesIn K C=true) (a:findIn K (.ref C) "__init__" = some (some (.ref f))) (n:isFn K (.ref f)=true) (z:keepIn K (.ref C)=true) (l:K.lookup f=some ⟨oc,od,.func (fnOf "__init__" q (lF st) (fL st) (aQ st) .none kV dc pm an cd ct),sl⟩) (c:codeIn K cd q=true) (k:keepIn K (.ref f)=true):InP K C q st:=⟨f,_,a09 l c k,y,a,n,z⟩
theorem aBX {K:Fg}{C:Addr}{f:Str}(h:findIn K (.ref C) f=some none):NoAttr K C f:=h
def InX (K:Fg)(C:Addr)(q:Str)(st:Stmt):Prop:=∃(f:Addr) (fd:FuncData),Fun K "__init__" q st f fd∧findIn K (.ref C) "__init__" = some (some (.ref f))∧typeIn K (.ref f)=some (.type "function")
theorem aDR {K:Fg}{C:Addr}{q:Str}{st:Stmt}{f:Addr}{od an:Option Addr}{sl:Array (Option Value)}{oc kV dc pm cd ct:Value}
  (a:findIn K (.ref C) "__init__" = some (some (.ref f))) (n:typeIn K (.ref f)=some (.type "function")) (l:K.lookup f=some ⟨oc,od,.func (fnOf "__init__" q (lF st) (fL st) (aQ st) .none kV dc pm an cd ct),sl⟩) (c:codeIn K cd q=true) (k:keepIn K (.ref f)=true):InX K C q st:=⟨f,_,a09 l c k,a,n⟩
theorem a6O {P:Program}{w:World}{K:Fg}{mg:Mg}{base:Heap}{V:XA}{D0 c0 c1 c2 c3 c4:Addr}(x:Xcs K mg V D0 c0 c1 c2 c3 c4)(d:InX K V.nl "NoLog.__init__" o4):Ini P w K mg base 1 V.nl "at" := by
 obtain⟨f,fd,F,h1,h2⟩:=d;exact⟨f,fd,_,a2S F x,h1,h2,F.binds fun _ _ _ _ _ _ us hl=>by
  obtain⟨_,_,rfl⟩:=ln2 hl;rfl⟩
theorem aFT {K:Fg}{h:Heap}{mg:Mg}(X:K.In h)(G:h.Ns mainGlobals mg){nl D0 c0 c1 c2 c3 c4:Addr}
  {dd_D:Option Addr} {nm_D qn_D:Str} {bs_D sub_D:List Value} {sn_D:List Str} {ab_D:Bool} {col_D:Option Bool} {k0_D k1_D k2_D k3_D k5_D:Option Value} {ns_D:Addr}
  {dd_NoLog:Option Addr} {nm_NoLog qn_NoLog:Str} {bs_NoLog sub_NoLog:List Value} {sn_NoLog:List Str} {ab_NoLog:Bool} {col_NoLog:Option Bool} {k0_NoLog k1_NoLog k2_NoLog k3_NoLog k5_NoLog:Option Value} {ns_NoLog:Addr}
  (gh_NoLog:nsIn K mainGlobals "NoLog" = some (some (.ref nl)))
  (ghD:nsIn K mainGlobals "LeadError" = some (some (.ref D0)))
  (ghV:nsIn K mainGlobals "ValueError" = some none)
  (gh_NoKey:nsIn K mainGlobals "NoKey" = some (some (.ref c0)))
  (gh_NoNumber:nsIn K mainGlobals "NoNumber" = some (some (.ref c1)))
  (gh_NoRow:nsIn K mainGlobals "NoRow" = some (some (.ref c2)))
  (gh_NoText:nsIn K mainGlobals "NoText" = some (some (.ref c3)))
  (gh_NoTime:nsIn K mainGlobals "NoTime" = some (some (.ref c4)))
  (xl_D:K.lookup D0=some ⟨.type "type", dd_D,.cls ⟨nm_D,bs_D,[.ref D0,.type "ValueError", .type "Exception", .type "BaseException", .type "object"],ns_D,qn_D,true,sn_D,sub_D,ab_D,col_D,false⟩,#[k0_D,k1_D,k2_D,k3_D,some (.builtin "ValueError.__new__"),k5_D]⟩)
  (x1_D:findIn K (.ref D0) "__class__" = some (some (.builtin "object.__class__")))
  (x2_D:findIn K (.ref D0) "__getattribute__" = some (some (.builtin "BaseException.__getattribute__")))
  (x3_D:findIn K (.ref D0) "__getattr__" = some none)
  (xeD:excIn K D0 [.type "ValueError", .type "Exception", .type "BaseException", .type "object"] "ValueError.__new__" = true)
  (xl_NoLog:K.lookup nl=some ⟨.type "type", dd_NoLog,.cls ⟨nm_NoLog,bs_NoLog,[.ref nl,.ref D0,.type "ValueError", .type "Exception", .type "BaseException", .type "object"],ns_NoLog,qn_NoLog,true,sn_NoLog,sub_NoLog,ab_NoLog,col_NoLog,false⟩,#[k0_NoLog,k1_NoLog,k2_NoLog,k3_NoLog,some (.builtin "ValueError.__new__"),k5_NoLog]⟩)
  (x1_NoLog:findIn K (.ref nl) "__class__" = some (some (.builtin "object.__class__")))
  (x2_NoLog:findIn K (.ref nl) "__getattribute__" = some (some (.builtin "BaseException.__getattribute__")))
  (x3_NoLog:findIn K (.ref nl) "__getattr__" = some none)
  (gs_NoLog:mroIn K nl (.ref D0)=some true)
  (ga_NoLog:findIn K (.ref nl) "__setattr__" = some (some (.builtin "object.__setattr__")))
  (gn_NoLog:findIn K (.ref nl) "at" = some none)
  (gd_NoLog:hasDictIn K nl=true)
  (gpD:specialIn K (.ref D0) "__getattribute__" = some (some (.builtin "type.__getattribute__")))
  (grD:readsIn K D0 (.type "type")=true)
  (gfD:findCls K (.ref D0) (.type "type") "__init__" = some (.val (.builtin "ValueError.__init__")))
  (gt_NoLog_KNRTT:kitAny K (.ref nl) [.ref c0,.ref c1,.ref c2,.ref c3,.ref c4]=some false)
  (gk_NoLog_NoLog:kitOne K (.ref nl) (.ref nl)=some true)
  (gk_NoLog_ValueError:kitOne K (.ref nl) (.type "ValueError")=some true):Xcs K mg ⟨0,nl,0,0⟩ D0 c0 c1 c2 c3 c4:=
 ⟨mg_of X G gh_NoLog,⟨aFW xl_NoLog xeD,x1_NoLog,x2_NoLog,x3_NoLog⟩,gs_NoLog,ga_NoLog,gn_NoLog,gd_NoLog,mg_of X G ghD,⟨aEP xl_D,x1_D,x2_D,x3_D⟩,gpD,grD,gfD,mg_none_of X G ghV,mg_of X G gh_NoKey,mg_of X G gh_NoNumber,mg_of X G gh_NoRow,mg_of X G gh_NoText,mg_of X G gh_NoTime,gt_NoLog_KNRTT,gk_NoLog_NoLog,gk_NoLog_ValueError⟩
section
variable {P:Program}{w:World}{K:Fg}{mg:Mg}{base:Heap}
theorem dY {n:Nat}{x:Str}{st:Stmt}{ps:List Str}{sp:Sp}(d:DfP K mg x st)(h:∀{f fd},Fun K x x st f fd→FnOk P w K mg base CX0 n f fd ps sp)(b:∀{f fd},Fun K x x st f fd→Binds K fd ps []):Cal P w K mg base n x ps sp:=
 let ⟨f,fd,F,hm⟩:=d; ⟨f,fd,h F,hm,F.kp,b F⟩
theorem zM  (B:Bl K mg)(Kt:Kit K)(d:DfP K mg "is_whole" m9) :
  fJ NoP P w K mg base:=
 dY d (fun F=>z8 F B Kt) fun F=>F.binds fun _ _ _ _ _ _ us hl=>by obtain⟨_,rfl⟩:=ln1 hl; rfl
theorem mY  (B:Bl K mg)(Kt:Kit K)(d:DfP K mg "greatest_divisor" dJ) :
  cU NoP P w K mg base:=
 dY d (fun F=>nD F B Kt) fun F=>F.binds fun _ _ _ _ _ _ us hl=>by obtain⟨_,_,rfl⟩:=ln2 hl; rfl
theorem wQ  (B:Bl K mg)(Kt:Kit K)(d:DfP K mg "number_of" jL)(ag:cU NoP P w K mg base)(ac:fJ NoP P w K mg base) :
  eE NoP P w K mg base:=
 dY d (fun F=>wW F B Kt ag ac) fun F=>F.binds fun _ _ _ _ _ _ us hl=>by obtain⟨_,_,rfl⟩:=ln2 hl; rfl
theorem a5U  (B:Bl K mg)(Kt:Kit K)(d:DfP K mg "sum_of" rW)(ad:eE NoP P w K mg base) :
  vI NoP P w K mg base:=
 dY d (fun F=>a3R F B Kt ad) fun F=>F.binds fun _ _ _ _ _ _ us hl=>by obtain⟨_,_,rfl⟩:=ln2 hl; rfl
theorem rJ  (B:Bl K mg)(Kt:Kit K)(d:DfP K mg "difference_of" eY)(ad:eE NoP P w K mg base) :
  iI NoP P w K mg base:=
 dY d (fun F=>rE F B Kt ad) fun F=>F.binds fun _ _ _ _ _ _ us hl=>by obtain⟨_,_,rfl⟩:=ln2 hl; rfl
theorem vP  (B:Bl K mg)(Kt:Kit K)(d:DfP K mg "product_of" iM)(ad:eE NoP P w K mg base) :
  fZ NoP P w K mg base:=
 dY d (fun F=>vZ F B Kt ad) fun F=>F.binds fun _ _ _ _ _ _ us hl=>by obtain⟨_,_,rfl⟩:=ln2 hl; rfl
theorem a1X  (B:Bl K mg)(Kt:Kit K)(d:DfP K mg "is_less" nY) :
  xP NoP P w K mg base:=
 dY d (fun F=>a1R F B Kt) fun F=>F.binds fun _ _ _ _ _ _ us hl=>by obtain⟨_,_,rfl⟩:=ln2 hl; rfl
theorem zV  (B:Bl K mg)(Kt:Kit K)(d:DfP K mg "place_at" m7)(aq:vI NoP P w K mg base)(ah:fZ NoP P w K mg base) :
  uG NoP P w K mg base:=
 dY d (fun F=>zY F B Kt aq ah) fun F=>F.binds fun _ _ _ _ _ _ us hl=>by obtain⟨_,_,rfl⟩:=ln2 hl; rfl
theorem u5  (B:Bl K mg)(Kt:Kit K)(d:DfP K mg "line_through" fQ)(ar:iI NoP P w K mg base)(ah:fZ NoP P w K mg base) :
  mX NoP P w K mg base:=
 dY d (fun F=>sS F B Kt ar ah) fun F=>F.binds fun _ _ _ _ _ _ us hl=>by obtain⟨_,_,_,rfl⟩:=ln3 hl; rfl
theorem xR  (B:Bl K mg)(Kt:Kit K)(d:DfP K mg "is_number" jX)(ag:cU NoP P w K mg base)(ac:fJ NoP P w K mg base) :
  tY NoP P w K mg base:=
 dY d (fun F=>wJ F B Kt ag ac) fun F=>F.binds fun _ _ _ _ _ _ us hl=>by obtain⟨_,rfl⟩:=ln1 hl; rfl
theorem a1G  (B:Bl K mg)(Kt:Kit K)(d:DfP K mg "_law_pen" oK) :
  Cal P w K mg base 1 "_law_pen" ["_law_script", "_law_k"] (a08 K):=
 dY d (fun F=>a2R F B) fun F=>F.binds fun _ _ _ _ _ _ us hl=>by obtain⟨_,_,rfl⟩:=ln2 hl; rfl
theorem yU  (B:Bl K mg)(Kt:Kit K)(d:DfP K mg "_law_take" jF) :
  cH NoP P w K mg base:=
 dY d (fun F=>wG F B) fun F=>F.binds fun _ _ _ _ _ _ us hl=>by obtain⟨_,_,rfl⟩:=ln2 hl; rfl
theorem uZ  (B:Bl K mg)(Kt:Kit K)(d:DfP K mg "_law_lowest" iR) :
  dB NoP P w K mg base:=
 dY d (fun F=>vQ F B Kt) fun F=>F.binds fun _ _ _ _ _ _ us hl=>by obtain⟨_,_,rfl⟩:=ln2 hl; rfl
theorem a1L  (B:Bl K mg)(Kt:Kit K)(d:DfP K mg "_law_far" oF)(a9:cH NoP P w K mg base) :
  pU NoP P w K mg base:=
 dY d (fun F=>a2Z F B Kt a9) fun F=>F.binds fun _ _ _ _ _ _ us hl=>by obtain⟨_,rfl⟩:=ln1 hl; rfl
theorem xZ  (B:Bl K mg)(Kt:Kit K)(d:DfP K mg "_law_small" jN)(ae:dB NoP P w K mg base)(a9:cH NoP P w K mg base)(au:pU NoP P w K mg base) :
  lB NoP P w K mg base:=
 dY d (fun F=>xV F B Kt ae a9 au) fun F=>F.binds fun _ _ _ _ _ _ us hl=>by obtain⟨_,rfl⟩:=ln1 hl; rfl
theorem a1I  (B:Bl K mg)(Kt:Kit K)(d:DfP K mg "_law_log" oJ)(aw:lB NoP P w K mg base)(a9:cH NoP P w K mg base)(ae:dB NoP P w K mg base) :
  uV NoP P w K mg base:=
 dY d (fun F=>a1U F B Kt aw a9 ae) fun F=>F.binds fun _ _ _ _ _ _ us hl=>by obtain⟨_,_,rfl⟩:=ln2 hl; rfl
theorem a2B  (B:Bl K mg)(Kt:Kit K)(d:DfP K mg "is_deed" lE)(ax:jY NoP P w K mg base)(ac:fJ NoP P w K mg base) :
  yI NoP P w K mg base:=
 dY d (fun F=>a1F F B Kt ax ac) fun F=>F.binds fun _ _ _ _ _ _ us hl=>by obtain⟨_,rfl⟩:=ln1 hl; rfl
theorem qZ  (B:Bl K mg)(Kt:Kit K)(d:DfP K mg "_law_no_number" eU)(a9:cH NoP P w K mg base) :
  gD NoP P w K mg base:=
 dY d (fun F=>rH F B Kt a9) fun F=>F.binds fun _ _ _ _ _ _ us hl=>by obtain⟨_,rfl⟩:=ln1 hl; rfl
theorem zE  (B:Bl K mg)(Kt:Kit K)(d:DfP K mg "_law_left" jH) :
  nA NoP P w K mg base:=
 dY d (fun F=>yZ F B Kt) fun F=>F.binds fun _ _ _ _ _ _ us hl=>by obtain⟨_,_,rfl⟩:=ln2 hl; rfl
theorem a2U  (B:Bl K mg)(Kt:Kit K)(d:DfP K mg "_law_bad" oH)(a9:cH NoP P w K mg base)(ay:gD NoP P w K mg base) :
  pN NoP P w K mg base:=
 dY d (fun F=>a1W F B Kt a9 ay) fun F=>F.binds fun _ _ _ _ _ _ us hl=>by obtain⟨_,_,rfl⟩:=ln2 hl; rfl
theorem vM  (B:Bl K mg)(Kt:Kit K)(d:DfP K mg "_law_spoilt" eN)(a9:cH NoP P w K mg base)(az:pN NoP P w K mg base)(b3:nA NoP P w K mg base)(ae:dB NoP P w K mg base) :
  oU NoP P w K mg base:=
 dY d (fun F=>v8 F B Kt a9 az b3 ae) fun F=>F.binds fun _ _ _ _ _ _ us hl=>by obtain⟨_,_,rfl⟩:=ln2 hl; rfl
end
theorem aDY {l:PySem.W.OpenLaw}{w:World}{K:Fg}{mg:Mg}{fa:Addr}(hfa:mg "law" = some (.ref fa))(B:Bl K mg)(Kt:Kit K)
  (d0:DfP K mg "is_whole" m9)
  (d1:DfP K mg "greatest_divisor" dJ)
  (d2:DfP K mg "number_of" jL)
  (d3:DfP K mg "sum_of" rW)
  (d4:DfP K mg "difference_of" eY)
  (d5:DfP K mg "product_of" iM)
  (d6:DfP K mg "is_less" nY)
  (d7:DfP K mg "place_at" m7)
  (d8:DfP K mg "line_through" fQ)
  (d9:DfP K mg "is_number" jX)
  (d10:DfP K mg "_law_pen" oK)
  (d11:DfP K mg "_law_take" jF)
  (d12:DfP K mg "_law_lowest" iR)
  (d13:DfP K mg "_law_far" oF)
  (d14:DfP K mg "_law_small" jN)
  (d15:DfP K mg "_law_log" oJ)
  (d16:DfP K mg "is_deed_number" gG)
  (d17:DfP K mg "is_deed" lE)
  (d18:DfP K mg "log_of" vV)
  (d19:DfP K mg "_law_no_number" eU)
  (d20:DfP K mg "_law_left" jH)
  (d21:DfP K mg "_law_bad" oH)
  (d22:DfP K mg "_law_spoilt" eN)
  (d23:DfP K mg "_law_refused" jO)
  (d24:DfP K mg "law" aBY)
  {c:Addr} (hmF:mg "Field" = some (.ref c)) (cl:Cls K c) (n_running:NoAttr K c "running") (n_joined:NoAttr K c "joined") (n_last:NoAttr K c "last") (mI:InP K c "Field.__init__" vW) (me_add_runner:MeP K c "add_runner" "Field.add_runner" j8) (me_do:MeP K c "do" "Field.do" a3O) (me_allows:MeP K c "allows" "Field.allows" pW) {tk_MOST_RUNNERS:Tok} (hg_MOST_RUNNERS:mg "MOST_RUNNERS" = some (.int 8 tk_MOST_RUNNERS)) {tk_MOST_DEEDS:Tok} (hg_MOST_DEEDS:mg "MOST_DEEDS" = some (.int 40 tk_MOST_DEEDS)) {tk_GREATEST_TOP:Tok} (hg_GREATEST_TOP:mg "GREATEST_TOP" = some (.int 999999999 tk_GREATEST_TOP)) {tk_GREATEST_BOTTOM:Tok} (hg_GREATEST_BOTTOM:mg "GREATEST_BOTTOM" = some (.int 12 tk_GREATEST_BOTTOM))
  {nl D0 c0 c1 c2 c3 c4:Addr} (xc:Xcs K mg ⟨0,nl,0,0⟩ D0 c0 c1 c2 c3 c4) (ix_NoLog:InX K nl "NoLog.__init__" o4)
  (hL:∀ KK c a ns,(sO KK c) (.pub (a8Q KK a ns)::List.replicate 7 .no) pF) :
  ∃ fd:FuncData,(∀(s:Shared) (v:Value),BindsTo s fd ⟨[v],[]⟩ [("_law_script", v)])∧∀ base:Heap,K.In base→base.Ns mainGlobals mg→FnOk l.prog w K mg base CX0 8 fa fd ["_law_script"] (a86 K):=by
 obtain⟨f,fd,F,hm⟩:=d24
 cases hfa.symm.trans hm
 refine⟨fd,?_,fun base _ _=>?_⟩
 ·obtain⟨oc,od,kV,doc,pm,an,cdv,ct,osl,rfl,lk,hcd⟩:=F.ex;exact fun s v=>.of_eq rfl
 obtain⟨fi,fdi,FI,M⟩:=mI;obtain⟨f_add_runner,fd_add_runner,F_add_runner,M_add_runner⟩:=me_add_runner;obtain⟨f_do,fd_do,F_do,M_do⟩:=me_do;obtain⟨f_allows,fd_allows,F_allows,M_allows⟩:=me_allows;have i_NoLog:=a6O (P:=l.prog) (w:=w) (base:=base) xc ix_NoLog;have ac:=zM (P:=l.prog) (w:=w) (base:=base) B Kt d0;have ag:=mY (P:=l.prog) (w:=w) (base:=base) B Kt d1;have ad:=wQ B Kt d2 ag ac;have aq:=a5U B Kt d3 ad;have ar:=rJ B Kt d4 ad;have ah:=vP B Kt d5 ad;have bo:=a1X (P:=l.prog) (w:=w) (base:=base) B Kt d6;have bp:=zV B Kt d7 aq ah;have bq:=u5 B Kt d8 ar ah;have br:=xR B Kt d9 ag ac;have bt:=a1G (P:=l.prog) (w:=w) (base:=base) B Kt d10;have a9:=yU (P:=l.prog) (w:=w) (base:=base) B Kt d11;have ae:=uZ (P:=l.prog) (w:=w) (base:=base) B Kt d12;have au:=a1L B Kt d13 a9;have aw:=xZ B Kt d14 ae a9 au;have bu:=a1I B Kt d15 aw a9 ae;obtain⟨f2_is_deed_number,fd2_is_deed_number,F2_is_deed_number,hm2_is_deed_number⟩:=d16;have ax:Cal l.prog w K mg base 3 "is_deed_number" ["thing"] (spM NoP 1 cJ):=⟨f2_is_deed_number,fd2_is_deed_number,pY hg_GREATEST_TOP hg_GREATEST_BOTTOM F2_is_deed_number B Kt br,hm2_is_deed_number,F2_is_deed_number.kp,(F2_is_deed_number.binds (ps:=["thing"]) fun _ _ _ _ _ _ us hl=>by
  obtain⟨_,rfl⟩:=ln1 hl;rfl)⟩
 have bv:=a2B B Kt d17 ax ac;have O_add_runner:=sW (P0:=NoP) (P:=l.prog) (w:=w) (mg:=mg) (base:=base) cl n_running n_joined n_last F_add_runner B Kt;have B_add_runner:Binds K fd_add_runner ["self", "line"] []:=(F_add_runner.binds (ps:=["self", "line"]) fun _ _ _ _ _ _ us hl=>by
  obtain⟨_,_,rfl⟩:=ln2 hl;rfl)
 have O_do:=aB4 (P0:=NoP) (P:=l.prog) (w:=w) (mg:=mg) (base:=base) cl n_running n_joined n_last M_add_runner O_add_runner B_add_runner F_do B Kt bq bp;have B_do:Binds K fd_do ["self", "deed"] []:=(F_do.binds (ps:=["self", "deed"]) fun _ _ _ _ _ _ us hl=>by
  obtain⟨_,_,rfl⟩:=ln2 hl;rfl)
 have O_allows:=zO (P0:=NoP) (P:=l.prog) (w:=w) (mg:=mg) (base:=base) cl n_running n_joined n_last hg_MOST_RUNNERS F_allows B Kt bo;have B_allows:Binds K fd_allows ["self", "deed"] []:=(F_allows.binds (ps:=["self", "deed"]) fun _ _ _ _ _ _ us hl=>by
  obtain⟨_,_,rfl⟩:=ln2 hl;rfl)
 obtain⟨f2_log_of,fd2_log_of,F2_log_of,hm2_log_of⟩:=d18;have CX_log_of:CalX l.prog w K mg base 6 "log_of" ["thing"] (spX NoP 1 (dU (XA.mk 0 nl 0 0) c)):=⟨f2_log_of,fd2_log_of,a2Q (xa:=(XA.mk 0 nl 0 0)) (c:=c) cl n_running n_joined n_last hmF M (a2W (P:=l.prog) (w:=w) (mg:=mg) (base:=base) cl n_running n_joined n_last FI B) (FI.binds (ps:=["self"]) fun _ _ _ _ _ _ us hl=>by
  obtain⟨_,rfl⟩:=ln1 hl;rfl) M_allows O_allows B_allows M_do O_do B_do hg_MOST_DEEDS F2_log_of B Kt xc i_NoLog bv,hm2_log_of,F2_log_of.kp,(F2_log_of.binds (ps:=["thing"]) fun _ _ _ _ _ _ us hl=>by
  obtain⟨_,rfl⟩:=ln1 hl;rfl)⟩
 have bw:Cal l.prog w K mg base 6 "log_of" ["thing"] (spM NoP 1 oG):=(let ⟨f,fd,F,r⟩:=CX_log_of.ex; ⟨f,fd,F.noX2 fun _ _ z=>z _ _,r⟩);have ay:=qZ B Kt d19 a9;have b3:=zE (P:=l.prog) (w:=w) (base:=base) B Kt d20;have az:=a2U B Kt d21 a9 ay;have c5:=vM B Kt d22 a9 az b3 ae;obtain⟨f2_law_refused,fd2_law_refused,F2_law_refused,hm2_law_refused⟩:=d23;have c6:Cal l.prog w K mg base 7 "_law_refused" ["_law_thing"] (spM NoP 1 gO):=⟨f2_law_refused,fd2_law_refused,(t8 (xa:=(XA.mk 0 nl 0 0)) (c:=c) F2_law_refused B Kt xc i_NoLog CX_log_of).imp (fun vs H Q E ⟨F,as,Qm,h1,h2,h3,h4,h5,h6⟩=>⟨F,as,Qm,h1,h2,h3,h4,h5 _ _,h6⟩),hm2_law_refused,F2_law_refused.kp,(F2_law_refused.binds (ps:=["_law_thing"]) fun _ _ _ _ _ _ us hl=>by
  obtain⟨_,rfl⟩:=ln1 hl;rfl)⟩
 exact aEK F B Kt  bt bw c6 c5 bu a9 (hL _ c)
theorem walk {l:PySem.W.OpenLaw}{q:Program}{loose:List Str}{XP:Mg→Heap→Prop}{YP:World→Heap→Prop}{d:DefRec}{K:Params→Fg}(hn:l.most=some 63)(hdf:d.params.defaults=[])(him:PyProof.Rows.importsNone q=true)
  (hY:∀(w:World) (h:Heap),YP w h→(K w.params).In h)
  (F:∀(w:World) (mg:Mg) (fa:Addr) (h:Heap),(K w.params).In h→h.Ns mainGlobals mg→mg d.name=some (.ref fa) →
   ∃ fd:FuncData,(∀(s:Shared) (u:Value),BindsTo s fd ⟨[u],[]⟩ [("_law_script", u)])∧∀ base:Heap,(K w.params).In base→base.Ns mainGlobals mg→FnOk l.prog w (K w.params) mg base CX0 8 fa fd ["_law_script"] (a86 (K w.params))) :
  PySem.W.WalkO q loose XP YP l.row.toRowW d [] (fun f vs=>PySem.call f vs):=
 L2.aAM (n:=63) (k:=8) (x := "_law_script") (CX:=fun _=>CX0) (sp:=fun w=>a86 (K w.params)) hn (by decide) hdf him ⟨rfl,by decide,by decide,rfl⟩ hY F (fun _ _ a ns hl _ hS=>⟨a,ns,rfl,hS,hl,fun _=>rfl⟩) fun _ _ _ _ _ z=>z
end My
def PySem.W.Fast.tw10394929138321192959:Unit:=()
def PySem.W.Fast.tw10647721910584422014:Unit:=()
def PySem.W.Fast.tw10952562320570257660:Unit:=()
def PySem.W.Fast.tw12787957637656309763:Unit:=()
def PySem.W.Fast.tw2081284051599856826:Unit:=()
def PySem.W.Fast.tw4519571234230156199:Unit:=()
def PySem.W.Fast.tw5419336202967715679:Unit:=()
def PySem.W.Fast.tw6604469984928650273:Unit:=()
def PySem.W.Fast.tw7358837714662245878:Unit:=()
def PySem.W.Fast.tw8427863945377779743:Unit:=()
def PySem.W.Fast.tw8874255893505276645:Unit:=()
def PySem.W.Fast.tw9671305421675291507:Unit:=()
def PySem.W.Fast.tw14717687890182278732:Unit:=()
def PySem.W.Fast.tw6609754767623956503:Unit:=()
def PySem.W.Fast.tw13467627128936930821:Unit:=()
def PySem.W.Fast.tw13054399331207993854:Unit:=()
def PySem.W.Fast.tw14831135034429984070:Unit:=()
def PySem.W.Fast.tw13458608505976968588:Unit:=()
def PySem.W.Fast.tw7253695976787464538:Unit:=()
open PySem PySem.W PyProof.Rows
set_option maxRecDepth 100000 in
set_option maxHeartbeats 0 in
theorem PySem.Challenge.cw_leadtimes_k30_no_logs_holds : PySem.Challenge.rw_leadtimes_k30_no_logs.Holds := by
 w_on; o_law; k_head; (case hw => w_witness2)
 k_fill
 refine My.walk (l := PySem.Challenge.rw_leadtimes_k30_no_logs) rfl rfl (by decide +kernel) (fun w h Y => kIn_of Y) ?F
 case F =>
  intro w mg fa h KX G hmg
  refine' My.aDY hmg (My.aH1 KX G ?x0 ?x1 ?x2 ?x3 ?x4 ?x5 ?x6 ?x7 ?x8 ?x9 ?xa ?xb ?xc ?xd ?xe ?xf ?xg ?xh ?xi ?xj ?xk) (My.aD9 ?xl ?xm ?xn ?xo ?xp ?xq ?xr ?xk ?xs ?xt ?xu ?xv ?xw ?xj ?xx ?xy ?xz ?x10 ?x11 ?x12 ?x13 ?x14 ?x15 ?x16 ?x17 ?x18 ?x19 ?x1a ?x1b ?x1c ?x1d ?x1e ?x1f ?x1g ?x1h ?x1i ?x1j ?x1k ?x1l ?x1m ?x1n ?x1o) (My.gC KX G ?x1p ?x1q ?x1r ?x1s) (My.gC KX G ?x1t ?x1u ?x1v ?x1w) (My.gC KX G ?x1x ?x1y ?x1z ?x20) (My.gC KX G ?x21 ?x22 ?x23 ?x24) (My.gC KX G ?x25 ?x26 ?x27 ?x28) (My.gC KX G ?x29 ?x2a ?x2b ?x2c) (My.gC KX G ?x2d ?x2e ?x2f ?x2g) (My.gC KX G ?x2h ?x2i ?x2j ?x2k) (My.gC KX G ?x2l ?x2m ?x2n ?x2o) (My.gC KX G ?x2p ?x2q ?x2r ?x2s) (My.gC KX G ?x2t ?x2u ?x2v ?x2w) (My.gC KX G ?x2x ?x2y ?x2z ?x30) (My.gC KX G ?x31 ?x32 ?x33 ?x34) (My.gC KX G ?x35 ?x36 ?x37 ?x38) (My.gC KX G ?x39 ?x3a ?x3b ?x3c) (My.gC KX G ?x3d ?x3e ?x3f ?x3g) (My.gC KX G ?x3h ?x3i ?x3j ?x3k) (My.gC KX G ?x3l ?x3m ?x3n ?x3o) (My.gC KX G ?x3p ?x3q ?x3r ?x3s) (My.gC KX G ?x3t ?x3u ?x3v ?x3w) (My.gC KX G ?x3x ?x3y ?x3z ?x40) (My.gC KX G ?x41 ?x42 ?x43 ?x44) (My.gC KX G ?x45 ?x46 ?x47 ?x48) (My.gC KX G ?x49 ?x4a ?x4b ?x4c) (My.gC KX G ?x4d ?x4e ?x4f ?x4g) (mg_of KX G ?x4h) ⟨?x4i, ?x4j, ?x4k, ?x4l⟩ (My.aBX ?x4m) (My.aBX ?x4n) (My.aBX ?x4o) (My.aGC ?x4p ?x4q ?x4r ?x4s ?x4t ?x4u ?x4v) (My.aAW ?x4w ?x4x ?x4y ?x4z ?x50) (My.aAW ?x51 ?x52 ?x53 ?x54 ?x55) (My.aAW ?x56 ?x57 ?x58 ?x59 ?x5a) (mg_of KX G ?x5b) (mg_of KX G ?x5c) (mg_of KX G ?x5d) (mg_of KX G ?x5e) (My.aFT KX G ?x5f ?x5g ?x5h ?x5i ?x5j ?x5k ?x5l ?x5m ?x5n ?x5o ?x5p ?x5q ?x5r ?x5s ?x5t ?x5u ?x5v ?x5w ?x5x ?x5y ?x5z ?x60 ?x61 ?x62 ?x63 ?x64 ?x65) (My.aDR ?x66 ?x67 ?x68 ?x69 ?x6a) My.law_true
  (case x4h|x4i|x4j|x4k|x4l|x4m|x4n|x4o|x4p|x4q|x4r|x4s|x4t|x4u|x4v|x4w|x4x|x4y|x4z|x50|x51|x52|x53|x54|x55|x56|x57|x58|x59|x5a|x5b|x5c|x5d|x5e|x5f|x5g|x5h|x5i|x5j|x5k|x5l|x5m|x5n|x5o|x5p|x5q|x5s|x5t|x5u|x5v|x5w|x5x|x5y|x5z|x60|x61|x62|x66|x67|x68|x69|x6a => k_is)
  (case x5r => k_exc)
  (case x63|x64|x65 => kit_is)
  (case x1p|x1q|x1r|x1s|x1t|x1u|x1v|x1w|x1x|x1y|x1z|x20|x21|x22|x23|x24|x25|x26|x27|x28|x29|x2a|x2b|x2c|x2d|x2e|x2f|x2g|x2h|x2i|x2j|x2k|x2l|x2m|x2n|x2o|x2p|x2q|x2r|x2s|x2t|x2u|x2v|x2w|x2x|x2y|x2z|x30|x31|x32|x33|x34|x35|x36|x37|x38|x39|x3a|x3b|x3c|x3d|x3e|x3f|x3g|x3h|x3i|x3j|x3k|x3l|x3m|x3n|x3o|x3p|x3q|x3r|x3s|x3t|x3u|x3v|x3w|x3x|x3y|x3z|x40|x41|x42|x43|x44|x45|x46|x47|x48|x49|x4a|x4b|x4c|x4d|x4e|x4f|x4g|x0|x1|x2|x3|x4|x5|x6|x7|x8|x9|xa|xb|xc|xd|xe|xf|xg|xh|xi => k_is)
  (case xl|xm|xn|xo|xp|xq|xr|xk|xs|xt|xu|xv|xw|xj|xx|xy|xz|x10|x11|x12|x13|x14|x15|x16|x17|x18|x19|x1a|x1b|x1c|x1d|x1e|x1f|x1g|x1h|x1i|x1j|x1k|x1l|x1m|x1n|x1o => kit_is)
#print axioms PySem.Challenge.cw_leadtimes_k30_no_logs_holds
