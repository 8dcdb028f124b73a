import PyProof.Rows.All
import Wide.All
import OpenK.AllK
import Wide.FinOn
import Lean
import PyProof.EqAt
import PyProof.EqKinds
import PyProof.TupleCall
import PyProof.P3Eq
import PyProof.P3In
import PyProof.NeData
import PyProof.FitsBits
import PySem.Challenge.RW_leadtimes_k23_shapes_of_waiting
open And renaming intro→Af
open Array renaming getElem?_eq_getElem→CF,getElem?_toList→Bi,getElem_toList→Db,length_toList→Aj,perm_iff_toList_perm→EM,toList_append→BG,toList_eraseIdxIfInBounds→E1,toList_extract→By,toList_modify→E2,toList_push→C3,toList_reverse→C4,toList_setIfInBounds→ET,toList→D4
open Bool renaming and_eq_true→Co,false_ne_true→Dh,not_eq_false'→Da,not_eq_true'→CT
open False renaming elim→BR
open Int renaming emod_lt_of_pos→CQ,emod_nonneg→CS,fdiv_eq_ediv_of_nonneg→Ec,gcd→Bb,le_refl→CH,toNat_natCast→EU
open List renaming Pairwise→B1,Perm→BN,append_assoc→BI,append_nil→Cd,drop_drop→DL,drop_eq_getElem_cons→Dp,drop_sublist→DM,eraseIdxIfInBounds_toArray→Ej,extract_eq_take_drop→Bq,filterMap_cons→B4,filter_cons→B5,filter_eq_nil_iff→E6,filter_eq_self→E7,filter_sublist→EW,getD_eq_getElem?_getD→Ce,getElem?_append_left→CI,getElem?_append_right→Cf,getElem?_eq_getElem→Av,getElem?_eq_none_iff→DK,getElem?_eq_none→Ev,getElem?_eq_some_iff→A4,getElem?_map→BD,getElem?_range→Ep,getElem?_replicate→Ct,getElem?_set_ne→BS,getElem?_set_self→BJ,getElem?_take_of_lt→D8,getElem_drop→DN,getElem_inj→DO,getElem_mem→Br,getElem_of_mem→Cu,length_append→A6,length_cons→Aw,length_drop→Bs,length_filter_le→E5,length_map→A3,length_nil→Cg,length_range→DP,length_replicate→D9,length_reverse→Ez,length_set→Bu,length_singleton→Ei,length_take→BU,lookup→CZ,map_append→DQ,map_cons→B6,mem_append_left→BO,mem_append_right→BE,mem_append→A7,mem_cons_of_mem→BK,mem_cons_self→Bf,mem_cons→Aq,mem_filterMap→DR,mem_filter→CJ,mem_iff_getElem→ER,mem_map→Ci,mem_of_getElem?→Cv,mem_of_mem_take→Ex,mem_range→B7,mem_reverse→Bv,mem_singleton→Ac,nodup_cons→CK,not_mem_nil→CL,of_mem_zip→DS,pairwise_append→Cj,pairwise_cons→Cw,pairwise_iff_getElem→EQ,pairwise_map→DT,pairwise_reverse→ES,perm_append_comm→Ck,perm_ext_iff_of_nodup→EY,range→BY,replicate→At,reverse_append→Ey,reverse_perm→CM,set_cons_succ→BV,set_cons_zero→BW,size_toArray→Ap,take_append_drop→Bk,take_of_length_le→Es
open List.Pairwise renaming nil→EG,sublist→Dw
open List.Perm renaming append_left→EO,append_right→DJ
open Nat renaming div_div_eq_div_mul→CO,div_le_self→C0,le_of_ble_eq_true→Eo,le_of_lt→CP,le_refl→AT,le_succ→C1,le_trans→BF,lt_irrefl→B8,lt_of_le_of_lt→EI,lt_of_lt_of_le→Az,lt_of_succ_lt_succ→Cm,max_eq_right→EN,mul_assoc→DZ,mul_comm→Cn,mul_le_mul_right→EX,ne_of_lt→BB,pow_le_pow_right→El,pow_succ→Bg,succ_le_succ→EF,zero_add→B9,zero_le→Ah
open Option renaming isSome_iff_exists→Ed,some→A1
open Or renaming inl→B2
open Prod.mk renaming injEq→EV
open PyProof.Rows renaming AllBare→B0,IntsAre→BM,Keyed→AE,SortKind→BC,SortSt→AJ,arrOf→AD,boot_isinstance→Bd,boot_tuple→Be,callWith_type1→Eb,envOfC→Ba,failedOf→Cs,get?_update_seq→Dq,getElem?_mirror_all→Ew,importsNone→Ek,listUpdate_at→Ds,mirror_perm→B3,mirror→Ao,pendingOf→Ae,seqEpoch_at→Du,seqObj→AY,setPending→Dx,slot_tuple_getitem→EC,subscriptTail_builtinR→Ef,wpS_bind→AG,wpS_forRange→A8,wpS_get→Bc,wpS_lift→CG,wpS_modify→Bp,wpS_mono→A2,wpS_pure→AI
open PySem renaming Addr→AA,Around.under_plainId→E3,Around.under→Di,Around→AR,BindsTo→Cr,Builtin.Int.intBits→Em,Builtin.List.listFitsIndex→Er,Builtin.Slice.sliceAdjust→EA,Builtin.Slice.sliceApplied→Ee,Builtin.Slice.slicePlaces→Dk,Builtin.Tuple.tupleExact→Dl,Builtin→Al,Calls.Name_function_global→EZ,Calls.call_function_entry→Et,Calls.evalArgs_plain→Eh,Code.isFrame→D7,Expr→AN,FuncData→Ag,Heap.SameBut.update→Dr,Heap.SameBut→CV,Heap.get?_update_ne→Eu,Heap.get?_update_other→Eg,Heap→AH,IntMulOk→DI,IsPart→CD,Obj.mapSeq→Am,Paired→AX,PassesOwn.never→BH,PassesOwn→BA,Program→AQ,PyData.bool→EL,PyData.canLayAll0→EJ,PyData.depthAll→EK,PyData.eqv→Au,PyData.int→Bo,PyData→AM,Scope→BZ,SeqAt.EqAt→C5,Shared→AC,Spec→AU,Stmt→AS,Value.bool→C6,Value.float→D3,Value.int→Dc,Value.none→A9,Value.ref→A0,Value.str→Dd,Value.type→CU,Value→AB,Within→Df,World→AL,attributeBase→D6,backToKw→DD,backTo→BL,behindInMarks→C8,binaryOp→Bn,bootBuiltins→Cp,boot_len→AZ,cLine→A5,call_meets→Do,callerA→Cc,codeAny_mono→DF,codeAny→Cq,compareOp→BQ,eval→Aa,getItem→DH,getMethod→DC,holding→CW,keywordEach→DE,letOwnedTupleGo→D5,mainGlobals→Ad,mem_of_lookup→DG,model→AF,seqIndex?→Dm,seqIndex_of→EE,sizeLine_eq→Bj,standAt→DA,starEach→Ak,sysModules→De,wpAny_Call_Name_kw→Dj,wpAny_bind→AO,wpAny_call_entry→ED,wpAny_execs_nil→Dg,wpAny_field→EB,wpAny_holding→CB,wpAny_isTrue_Compare1→Ea,wpAny_mono→C7,wpAny_newList→Dv,wpAny_newObj_type→DB,wpAny_passesOwn→CY,wpAny_pure→Ab,wpAny_rule→CC,wpAny_truthy_bool→C9,wpAny→AK
open PySem.AutoSeq1 renaming wpAny_loadPart'→Cb
open PySem.F renaming excBase_ValueError→E4,plainAttrs_list→Dz
open PySem.Heap renaming get?_push_of_some→An,get?_push_size→Bh,lt_size→Ai,size_push→C2
open PySem.MeetsSeq renaming plain_remove_loop→Dy
open PySem.W renaming Frag→AW,OpenLaw→EH,callWith_K0→D1,cellsFrom_some→D2,codeIn→CN,emptyDict→Bm,findIn→Ax,hasDictIn→DU,hideAll_get→Cy,instObj→Bw,keepIn→BX,kia_one→BP,kitOne→AV,kitx_dict→DV,methodCall_KW→DW,methodObj→DX,mg_none_of→Ay,nsIn→Ar,plainGet_of→DY,plainGet→Cz
open Sum renaming inl→Bz,inr→CA
open True renaming intro→Ca
open List (map_map map_nil)
open PySem.W (callWith_K excIn fnOf handedIn hideAll isFn kIn_of kitx_list lookIn makesIn mg_of mroIn of_hideAll plainOver takerIn typeIn)
open Nat (sub_self)
open Array (toList_inj toList_map)
noncomputable section
set_option compiler.extract_closed false
set_option Elab.async false
set_option linter.all false
set_option maxRecDepth 100000
namespace L2
open PySem PySem.Spec PyProof.Rows
abbrev Key:=Sum Int Str
noncomputable def a5Q:Key→AB→Bool
 | .inl k,v=>AB.isInt k v
 | .inr x,v=>AB.isStrOf x v
noncomputable def aCW (w:AL):Key→Int
 | .inl k=>hashInt k
 | .inr x=>hashStr w x
theorem dG:∀{k:Key} {v:AB},a5Q k v=true→(∃ i t,k=Bz i∧v=Dc i t)∨(∃ x t,k=CA x∧v=Dd x t)
 | .inl i,v,h=>by
  obtain⟨t,e⟩:=AB.isInt_shape (k:=i) (v:=v) h;exact .inl ⟨i,t,rfl,e⟩
 | .inr x,v,h=>by
  obtain⟨t,e⟩:=AB.isStrOf_shape (x:=x) (v:=v) h;exact .inr ⟨x,t,rfl,e⟩
theorem a8A (a b:Int):decide ((Bz a:Key)=Bz b)=(a==b):=by
 by_cases e:a=b
 ·subst e; simp
 ·have h:¬(Bz a:Key)=Bz b:=fun q=>e (Bz.inj q);rw[decide_eq_false h];exact(beq_eq_false_iff_ne.mpr e).symm
theorem a7M (a b:Str):decide ((CA a:Key)=CA b)=decide (a=b):=by
 by_cases e:a=b
 ·subst e; simp
 ·have h:¬(CA a:Key)=CA b:=fun q=>e (CA.inj q);rw[decide_eq_false h,decide_eq_false e]
theorem a8C (a:Int)(b:Str):decide ((Bz a:Key)=CA b)=false:=decide_eq_false (fun q=>nomatch q)
theorem a8L (a:Str)(b:Int):decide ((CA a:Key)=Bz b)=false:=decide_eq_false (fun q=>nomatch q)
noncomputable def tH (prog:AQ)(w:AL):PySem.KeyKind prog w Key where
 is:=a5Q
 hash:=aCW w
 inj:=fun v a b ha hb=>by
  rcases dG ha with⟨i,t,rfl,rfl⟩|⟨x,t,rfl,rfl⟩
  ·rcases dG hb with⟨j,u,rfl,e⟩|⟨y,u,rfl,e⟩
   ·injection e with e1 _; rw[e1]
   ·exact nomatch e
  ·rcases dG hb with⟨j,u,rfl,e⟩|⟨y,u,rfl,e⟩
   ·exact nomatch e
   ·injection e with e1 _; rw[e1]
 byValue:=fun k v h=>by
  rcases dG h with⟨i,t,rfl,rfl⟩|⟨x,t,rfl,rfl⟩<;>rfl
 pyHash:=fun hv h=>by
  rcases dG hv with⟨i,t,rfl,rfl⟩|⟨x,t,rfl,rfl⟩
  ·exact wpAny_pyHash_int h
  ·exact wpAny_pyHash_str h
 eqBool:=fun hu hv h=>by
  rcases dG hu with⟨i,t,rfl,rfl⟩|⟨x,t,rfl,rfl⟩
  ·rcases dG hv with⟨j,u,rfl,rfl⟩|⟨y,u,rfl,rfl⟩
   ·rw[a8A] at h; exact wpAny_eqBool_int h
   ·rw[a8C] at h; exact C5.int_str i t y u _ _ _ _ h
  ·rcases dG hv with⟨j,u,rfl,rfl⟩|⟨y,u,rfl,rfl⟩
   ·rw[a8L] at h; exact C5.str_int x t j u _ _ _ _ h
   ·rw[a7M] at h; exact wpAny_eqBool_str h
 «strs»:=fun k x t v h=>by
  rcases dG h with⟨i,u,rfl,e⟩|⟨y,u,rfl,e⟩
  ·exact nomatch e
  ·injection e with e1 _;subst e1
   cases v<;>rfl
theorem xZ (prog:AQ)(w:AL)(k:Key)(v:AB):(tH prog w).is k v=a5Q k v:=rfl
end L2
namespace L2
open PySem PySem.Spec PyProof.Rows
inductive V where
 | non|bl (b:Bool)|int (i:Int)|str (x:Str)|byt (b:Array UInt8)|flt (b:UInt64)|ref (a:AA)|ty (n:String)
 deriving DecidableEq
noncomputable def RelV:V→AB→Prop
 | .non,u=>u=A9
 | .bl b,u=>u=C6 b
 | .int i,u=>∃ t,u=Dc i t
 | .str x,u=>∃ t,u=Dd x t
 | .byt b,u=>∃ t,u=AB.bytes b t
 | .flt b,u=>∃ t,u=D3 b t
 | .ref a,u=>u=A0 a
 | .ty n,u=>u=CU n
abbrev Vals:List V→List AB→Prop:=AX RelV
theorem Vals.length {xs:List V}{us:List AB}(r:Vals xs us):xs.length=us.length:=AX.length r
theorem Vals.get:∀{xs:List V} {us:List AB} {i:Nat} {x:V},Vals xs us→xs[i]?=some x→∃ u,us[i]?=some u∧RelV x u
 | _,_,_,_,.nil,e=>by simp at e
 | _,_,0,_,.cons r _,e=>by simp at e; subst e; exact⟨_,rfl,r⟩
 | _,_,i+1,x,.cons _ t,e=>by
  obtain⟨u,h1,h2⟩:=Vals.get (i:=i) (x:=x) t (by simpa using e);exact⟨u,by simpa using h1,h2⟩
theorem Vals.set {x:V}{u:AB}(r:RelV x u):∀{xs:List V} {us:List AB} (i:Nat),Vals xs us→Vals (xs.set i x) (us.set i u)
 | _,_,_,.nil=>.nil
 | _,_,0,.cons _ t=>.cons r t
 | _,_,i+1,.cons q t=>.cons q (Vals.set r i t)
theorem Vals.append:∀{xs ys:List V} {us ws:List AB},Vals xs us→Vals ys ws→Vals (xs++ys) (us++ws):=by
 intro xs ys us ws h q
 induction h with
 | nil=>exact q
 | cons r t ih=>exact .cons r ih
theorem Vals.take:∀{xs:List V} {us:List AB} (n:Nat),Vals xs us→Vals (xs.take n) (us.take n)
 | _,_,0,_=>.nil
 | _,_,_+1,.nil=>.nil
 | _,_,n+1,.cons r t=>.cons r (Vals.take n t)
theorem Vals.drop:∀{xs:List V} {us:List AB} (n:Nat),Vals xs us→Vals (xs.drop n) (us.drop n)
 | _,_,0,r=>r
 | _,_,_+1,.nil=>.nil
 | _,_,n+1,.cons _ t=>Vals.drop n t
noncomputable def RelO:Option V→Option AB→Prop
 | some v,some u=>RelV v u
 | none,none=>True
 | _,_=>False
noncomputable def KV {κ:Type}:List (κ×V)→List (κ×AB)→Prop:=AX fun(p:κ×V) (q:κ×AB)=>p.1=q.1∧RelV p.2 q.2
noncomputable def kV:Key→V
 | .inl i=>.int i
 | .inr x=>.str x
inductive HO where
 | lst (xs:List V)
 | tup (xs:List V)
 | dK (kvs:List (Key×V))|dT (kvs:List (List Key×V))
 | set (S:Int→Bool) (n:Nat)
 | ins (C dx:AA) (fs:List (Str×V))
 | own (x:AA)
 | xd (fs:List (Str×V))
 | met (f x:AA)
 | rng (lo hi:Int)
 | frz (o:Obj) (u:HO)
 | tbl (ps:Array AB)
 | ext (φ:AH→Prop)
abbrev Hp:=AA→Option HO
noncomputable def upd (H:Hp)(a:AA)(o:HO):Hp:=fun b=>if b=a then some o else H b
theorem bQ {H:Hp}{a:AA}{o:HO}:upd H a o a=some o:=by unfold upd; rw[if_pos rfl]
theorem bR {H:Hp}{a b:AA}{o:HO}(h:b≠a):upd H a o b=H b:=by unfold upd; rw[if_neg h]
theorem a79 {H:Hp}{a b:AA}{o u:HO}(h:H a=some o)(h':H b=some u)(d:o≠u):a≠b:=by
 intro e; subst e; rw[h] at h'; exact d (A1.inj h')
theorem cG {H:Hp}{a b:AA}{o:HO}(h:H a=some o)(h':H b=none):a≠b:=by
 intro e; subst e; rw[h] at h'; cases h'
section
variable (P:AQ)(w:AL)
noncomputable def ObjOk (H:Hp)(h:AH)(a:AA):HO→Prop
 | .lst xs=>xs.length≤sizeLine∧∃(its:List AB) (n:Nat),Vals xs its∧h.get? a=some { cls:=.type "list", data:=.seq its.toArray n }
 | .tup xs=>xs.length≤sizeLine∧∃ its:List AB,Vals xs its∧IsTup h a its.toArray
 | .dK kvs=>kvs.length≤sizeLine∧(a==De)=false∧∃ vs,KV kvs vs∧h.DictOf (tH P w) a vs
 | .dT kvs=>kvs.length≤sizeLine∧(a==De)=false∧∃ xs:List (List Key×AA×AB),
   AX (fun(p:List Key×V) (q:List Key×AA×AB)=>p.1=q.1∧H q.2.1=some (.tup (p.1.map kV))∧RelV p.2 q.2.2) kvs xs ∧
   ∃ o es ep,h.get? a=some o∧o.ExactDict∧o.data=.dict es ep∧es.toList=xs.map (entryOfKey (tupleKind (tH P w)))∧(xs.map (·.1)).Nodup
 | .set S n=>h.SetOf (intKind P w) a S n
 | .ins C dx fs=>H dx=some (.own a)∧fs.length≤1000∧dx≠a∧h.get? a=some (Bw C dx) ∧
   ∃ mA,h.Ns1 dx mA∧(∀ f,RelO (fs.lookup f) (mA f))∧Df mA (fs.map (·.1))
 | .own _=>∃ o,h.get? a=some o
 | .xd fs=>∃ mA,h.Ns1 a mA∧∀ f,RelO (fs.lookup f) (mA f)
 | .rng lo hi=>∃ t u v,h.get? a=some { cls:=.type "range", data:=.fields #[.int lo t,.int hi u,.int 1 v] }
 | .frz o u=>h.get? a=some o∧ObjOk H h a u
 | .tbl ps=>h.get? a=some { cls:=.none,data:=.fields ps }
 | .met f x=>h.get? a=some (DX (.ref f) (.ref x))
 | .ext φ=>φ h∧(∃ o,h.get? a=some o)∧∀ h1 h2:AH,φ h1→(∀ o,h1.get? a=some o→h2.get? a=some o)→φ h2
noncomputable def HOk (H:Hp)(h:AH):Prop:=∀ a o,H a=some o→ObjOk P w H h a o
end
section
variable {P:AQ}{w:AL}{H H':Hp}{h h':AH}{a:AA}{o:HO}
theorem ObjOk.lt (x:ObjOk P w H h a o):a<h.objs.size:=by
 cases o with
 | lst xs=>obtain⟨_,_,_,_,e⟩:=x; exact Ai e
 | tup xs=>obtain⟨_,_,_,p⟩:=x; exact p.lt
 | dK kvs=>obtain⟨_,_,_,_,o,_,_,e,_⟩:=x; exact Ai e
 | dT kvs=>obtain⟨_,_,_,_,o,_,_,e,_⟩:=x; exact Ai e
 | set S n=>obtain⟨o,_,_,_,e,_⟩:=x; exact Ai e
 | ins C dx fs=>obtain⟨_,_,_,e,_⟩:=x; exact Ai e
 | own y=>obtain⟨_,e⟩:=x; exact Ai e
 | xd fs=>obtain⟨_,⟨_,_,_,e,_⟩,_⟩:=x; exact Ai e
 | rng lo hi=>obtain⟨_,_,_,e⟩:=x; exact Ai e
 | frz ob u=>obtain⟨e,_⟩:=x; exact Ai e
 | tbl ps=>exact Ai (show h.get? a=some _ from x)
 | met f y=>exact Ai (show h.get? a=some _ from x)
 | ext φ=>obtain⟨_,⟨_,e⟩,_⟩:=x; exact Ai e
theorem AX.mapP {α β:Type}{F G:α→β→Prop}:∀{l₁:List α} {l₂:List β},AX F l₁ l₂→(∀ a b,F a b→G a b)→AX G l₁ l₂:=by
 intro l₁ l₂ h f
 induction h with
 | nil=>exact .nil
 | cons r t ih=>exact .cons (f _ _ r) ih
theorem AX.imp' {α β:Type}{F G:α→β→Prop}(f:∀ a b,F a b→G a b){l₁:List α}{l₂:List β}(r:AX F l₁ l₂):AX G l₁ l₂:=AX.mapP r f
theorem ObjOk.stay (x:ObjOk P w H h a o)(k:∀ b u,(b=a∨H b=some (.own a))→h.get? b=some u→h'.get? b=some u)
  (ho:∀ b,H b=some (.own a)→H' b=some (.own a)) (ht:∀ b xs,H b=some (.tup xs)→H' b=some (.tup xs)):ObjOk P w H' h' a o:=by
 induction o with
 | lst xs=>obtain⟨z,its,n,r,e⟩:=x; exact⟨z,its,n,r,k _ _ (.inl rfl) e⟩
 | tup xs=>obtain⟨z,its,r,ob,e,c⟩:=x; exact⟨z,its,r,ob,k _ _ (.inl rfl) e,c⟩
 | dK kvs=>obtain⟨z,y,vs,r,ob,es,ep,e,c⟩:=x; exact⟨z,y,vs,r,ob,es,ep,k _ _ (.inl rfl) e,c⟩
 | dT kvs=>
  obtain⟨z,y,xs,r,ob,es,ep,e,c⟩:=x;exact⟨z,y,xs,AX.mapP r fun p q z=>⟨z.1,ht _ _ z.2.1,z.2.2⟩,ob,es,ep,k _ _ (.inl rfl) e,c⟩
 | set S n=>obtain⟨ob,es,ep,t,e,c⟩:=x; exact⟨ob,es,ep,t,k _ _ (.inl rfl) e,c⟩
 | ins C dx fs=>
  obtain⟨d,z,ne,e,mA,⟨od,es,ep,e2,c⟩,r⟩:=x;exact⟨ho _ d,z,ne,k _ _ (.inl rfl) e,mA,⟨od,es,ep,k _ _ (.inr d) e2,c⟩,r⟩
 | own y=>obtain⟨ob,e⟩:=x; exact⟨ob,k _ _ (.inl rfl) e⟩
 | xd fs=>obtain⟨mA,⟨od,es,ep,e,c⟩,r⟩:=x; exact⟨mA,⟨od,es,ep,k _ _ (.inl rfl) e,c⟩,r⟩
 | rng lo hi=>obtain⟨t,u,v,e⟩:=x; exact⟨t,u,v,k _ _ (.inl rfl) e⟩
 | frz ob u ih=>obtain⟨e,q⟩:=x; exact⟨k _ _ (.inl rfl) e,ih q⟩
 | tbl ps=>
  have e:h.get? a=some { cls:=.none,data:=.fields ps }:=x;show h'.get? a=some { cls:=.none,data:=.fields ps };exact k a _ (.inl rfl) e
 | met f y=>
  have e:h.get? a=some (DX (.ref f) (.ref y)):=x;show h'.get? a=some (DX (.ref f) (.ref y));exact k a _ (.inl rfl) e
 | ext φ=>obtain⟨p,⟨o,e⟩,st⟩:=x; exact⟨st _ _ p fun o q=>k _ _ (.inl rfl) q,⟨o,k _ _ (.inl rfl) e⟩,st⟩
theorem HOk.lt (x:HOk P w H h)(e:H a=some o):a<h.objs.size:=(x a o e).lt
theorem HOk.fresh (x:HOk P w H h)(e:h.objs.size≤a):H a=none:=by
 cases q:H a with
 | none=>rfl
 | some u=>exact absurd (Az (x.lt q) e) (B8 _)
theorem HOk.kept (x:HOk P w H h)(k:∀ b u,h.get? b=some u→h'.get? b=some u):HOk P w H h':=fun a o e=>
 (x a o e).stay (fun b u _ q=>k b u q) (fun _ q=>q) fun _ _ q=>q
theorem HOk.laid (x:HOk P w H h)(k:∀ b u,h.get? b=some u→h'.get? b=some u)(hp:h.objs.size≤a)(new:ObjOk P w (upd H a o) h' a o):HOk P w (upd H a o) h':=fun b u e=>by
 have hn:=x.fresh hp
 by_cases hb:b=a
 ·subst hb; rw[bQ] at e; cases e; exact new
 ·rw[bR hb] at e;exact(x b u e).stay (fun c v _ q=>k c v q) (fun c q=>by rw[bR (cG q hn)]; exact q) fun c xs q=>by rw[bR (cG q hn)]; exact q
end
noncomputable def Rd (H:Hp)(a:AA)(u:HO):Prop:=H a=some u∨∃ o,H a=some (.frz o u)
theorem Rd.ok {P:AQ}{w:AL}{H:Hp}{h:AH}{a:AA}{u:HO}(r:Rd H a u)(x:HOk P w H h):ObjOk P w H h a u:=by
 rcases r with r|⟨o,r⟩
 ·exact x a u r
 ·obtain⟨_,q⟩:=x a _ r;exact q
noncomputable def Mut:Option HO→Prop
 | some (.lst _)=>True
 | some (.dK _)=>True
 | some (.dT _)=>True
 | some (.set _ _)=>True
 | some (.ins _ _ _)=>True
 | some (.ext _)=>True
 | _=>False
section
variable {P:AQ}{w:AL}{H:Hp}{h h':AH}{x e:AA}{o':HO}
theorem HOk.write (ok:HOk P w H h)(mu:Mut (H x))(he:e=x∨H e=some (.own x))(k:∀ b u,b≠e→h.get? b=some u→h'.get? b=some u)(heo:∃ u,h'.get? e=some u)
  (new:ObjOk P w (upd H x o') h' x o'):HOk P w (upd H x o') h':=fun b u q=>by
 have nown:∀ c y,H c=some (.own y)→c≠x:=fun c y r z=>by subst z; rw[r] at mu; exact mu
 have ntup:∀ c xs,H c=some (.tup xs)→c≠x:=fun c xs r z=>by subst z; rw[r] at mu; exact mu
 by_cases hb:b=x
 ·subst hb; rw[bQ] at q; cases q; exact new
 ·rw[bR hb] at q
  by_cases hbe:b=e
  ·have q':H b=some (.own x):=by
    rcases he with z|z
    ·exact absurd (hbe.trans z) hb
    ·rw[hbe]; exact z
   rw[q] at q'; cases q';obtain⟨v,hv⟩:=heo;exact⟨v,by rw[hbe]; exact hv⟩
  ·refine(ok b u q).stay (fun c v hc r=>k c v ?_ r) (fun c r=>by rw[bR (nown c b r)]; exact r) fun c xs r=>by rw[bR (ntup c xs r)]; exact r
   rcases hc with rfl|hc
   ·exact hbe
   ·rintro rfl;rcases he with z|z
    ·exact nown c b hc z
    ·rw[hc] at z; cases z; exact hb rfl
end
structure Un (fs ex:List AA)(H H':Hp)(h h':AH):Prop where
 keep:∀ b o,h.get? b=some o→H b=none→b∉fs→b∉ex→h'.get? b=some o
 slot:∀ b o,h.get? b=some o→H b=none→b∈fs→b∉ex→∃ sl,h'.get? b=some { o with slots:=sl }
 free:∀ b o,h.get? b=some o→H b=none→b∉ex→H' b=none
 there:∀ b o,h.get? b=some o→b∉ex→∃ o',h'.get? b=some o'
 tups:∀ b xs,H b=some (.tup xs)→H' b=some (.tup xs)
 frzs:∀ b o u,H b=some (.frz o u)→H' b=some (.frz o u)
 tbls:∀ b ps,H b=some (.tbl ps)→∃ more,H' b=some (.tbl (ps++more))
section
variable {fs fs' ex ex':List AA}{H H1 H2:Hp}{h h1 h2 h':AH}{a x e:AA}{o:HO}
theorem Un.any (u:Un fs ex H H1 h h1){b:AA}{ob:Obj}(q:h.get? b=some ob)(n:H b=none)(hx:b∉ex):∃ sl,h1.get? b=some { ob with slots:=sl }:=by
 by_cases hb:b∈fs
 ·exact u.slot b ob q n hb hx
 ·exact⟨ob.slots,u.keep b ob q n hb hx⟩
theorem Un.kept (k:∀ b u,h.get? b=some u→h'.get? b=some u):Un fs ex H H h h':=
 ⟨fun b ob q _ _ _=>k b ob q,fun b ob q _ _ _=>⟨ob.slots,k b ob q⟩,fun _ _ _ n _=>n,fun b ob q _=>⟨ob,k b ob q⟩,fun _ _ q=>q,fun _ _ _ q=>q,fun _ ps q=>⟨#[],by rw[q]; simp⟩⟩
theorem Un.refl:Un fs ex H H h h:=Un.kept fun _ _ q=>q
theorem Un.laid (k:∀ b u,h.get? b=some u→h'.get? b=some u)(hp:h.objs.size≤a)(hn:H a=none):Un fs ex H (upd H a o) h h' where
 keep:=fun b u q _ _ _=>k b u q
 slot:=fun b u q _ _ _=>⟨u.slots,k b u q⟩
 free:=fun b u q n _=>by rw[bR (BB (Az (Ai q) hp))]; exact n
 there:=fun b u q _=>⟨u,k b u q⟩
 tups:=fun b xs q=>by rw[bR (cG q hn)]; exact q
 frzs:=fun b u xs q=>by rw[bR (cG q hn)]; exact q
 tbls:=fun b ps q=>⟨#[],by rw[bR (cG q hn),q]; simp⟩
theorem Un.write (mu:Mut (H x))(he:e=x∨H e=some (.own x))(k:∀ b u,b≠e→h.get? b=some u→h'.get? b=some u)(heo:∃ u,h'.get? e=some u):Un fs ex H (upd H x o) h h':=by
 have hx:∀ b,H b=none→b≠x:=fun b n z=>by subst z; rw[n] at mu; exact mu
 have hb:∀ b,H b=none→b≠e:=fun b n z=>by
  subst z;rcases he with r|r
  ·exact hx b n r
  ·rw[n] at r; cases r
 have hm:∀ b u,H b=some u→¬Mut (some u)→b≠x:=fun b u q nm z=>by subst z; rw[q] at mu; exact nm mu
 refine⟨fun b u q n _ _=>k b u (hb b n) q,fun b u q n _ _=>⟨u.slots,k b u (hb b n) q⟩,fun b u q n _=>by rw[bR (hx b n)]; exact n,fun b u q _=>?_,
  fun b xs q=>by rw[bR (hm b _ q fun z=>z)]; exact q,fun b u xs q=>by rw[bR (hm b _ q fun z=>z)]; exact q,fun b ps q=>⟨#[],by rw[bR (hm b _ q fun z=>z),q]; simp⟩⟩
 by_cases hbe:b=e
 ·subst hbe; exact heo
 ·exact⟨u,k b u hbe q⟩
end
noncomputable def trk (h:AH)(H:Hp):List AA:=(BY h.objs.size).filter fun a=>(H a).isSome
noncomputable def a2U (h:AH)(H:Hp):AH:=hideAll h (trk h H)
theorem a2G (h:AH)(H:Hp):(a2U h H).objs.size=h.objs.size:=PySem.W.hideAll_size _ _
theorem a4U {h:AH}{H:Hp}{b:AA}{o:Obj}(e:h.get? b=some o)(n:H b=none):(a2U h H).get? b=some o:=
 Cy _ e fun hm=>by
  have q:(H b).isSome=true:=(CJ.mp hm).2;rw[n] at q; simp at q
theorem a6N {h:AH}{H:Hp}{b:AA}{o:Obj}(e:(a2U h H).get? b=some o):h.get? b=some o∧H b=none:=by
 have e':h.get? b=some o:=of_hideAll (trk h H) e;refine⟨e',?_⟩
 cases q:H b with
 | none=>rfl
 | some x=>
  have hm:b∈trk h H:=CJ.mpr ⟨B7.mpr (Ai e'),by simp[q]⟩;have z:(a2U h H).get? b=none:=PySem.W.hideAll_none (trk h H) hm;rw[z] at e; cases e
end L2
namespace L2
open PySem PySem.Spec PyProof.Rows
structure Mod (K:AW)(mg:Str→Option AB)(base:AH):Prop where
 kin:K.In base
 glob:base.Ns Ad mg
 blt:∃ mb,base.Ns builtinsNs mb∧∀ x:Str,x ≠ "__name__" → mb x=Cp x
 nolimit:base.NoLimit
 sm:∃ mm,base.Ns De mm
structure Cx where
 prog:AQ
 w:AL
 K:AW
 mg:Str→Option AB
 base:AH
 A:AR
 N:List Str
 s₀:AC
 H₀:Hp
 env:Env
 outer:List Env
 stack:List Env
 ex:List AA
 fn:Str→Bool
 calm:Bool
 pn:List (AA×Obj)
 xe:AB→AC→Prop
noncomputable def frs (l:List Env):List AA:=l.filterMap (·.frame)
abbrev Cx.fs (X:Cx):List AA:=frs X.outer
noncomputable def Vis (sc:BZ)(x:Str):Prop:=sc.names.lookup x=some .local∨sc.names.lookup x=some .cell∨sc.names.lookup x=some .free
noncomputable def Loc (sc:BZ)(x:Str):Prop:=sc.names.lookup x=some .local∨sc.names.lookup x=some .cell
noncomputable def Look (env:Env)(h:AH)(m:Str→Option AB)(x:Str)(u:AB):Prop:=
 (env.kindOf x=some .local∧m x=some u)∨((env.kindOf x=some .cell∨env.kindOf x=some .free)∧∃ c,env.cells.lookup x=some c∧h.IsCell c (some u))
structure Cx.Ok (X:Cx):Prop where
 mod:Mod X.K X.mg X.base
 kind:X.env.scope.kind=.function
 glob:X.env.globals=Ad
 blt:X.env.builtins=builtinsNs
 above:X.s₀.heap.objs.size≤X.env.locals
 inj:∀ x y c,X.env.cells.lookup x=some c→X.env.cells.lookup y=some c→x=y
 has:∀ x,(X.env.kindOf x=some .cell∨X.env.kindOf x=some .free)→∃ c,X.env.cells.lookup x=some c
 cab:∀ x c,X.fn x=true→X.env.cells.lookup x=some c→X.s₀.heap.objs.size≤c
 hd:X.calm=true→X.A.handled=none
 frames:X.A.frames=some X.stack
 stk:X.stack=X.outer∨(X.stack=X.env::X.outer∧X.env.frame=some X.env.locals)
 exf:∀ b∈X.ex,b≠X.env.locals∧∀ x c,X.env.cells.lookup x=some c→c≠b
 bs:∀ b o,X.base.get? b=some o→X.s₀.heap.get? b=some o∧X.H₀ b=none
 bsz:X.base.objs.size≤X.s₀.heap.objs.size
 noex:∀ b o,X.base.get? b=some o→b∉X.ex
 exfs:∀ b∈X.ex,b∉X.fs
 funs:X.s₀.heap.FunFrames X.base X.outer
 frf:∀ b∈X.fs,X.H₀ b=none
structure Inv (X:Cx)(pins:List (AA×Obj))(σ:List (Option V))(H:Hp)(s:AC):Prop where
 ok:X.Ok
 os:s.os=X.s₀.os
 bare:B0 s.gens
 base:Un X.fs X.ex X.H₀ H X.s₀.heap s.heap
 loc:∃ m,s.heap.Ns X.env.locals m∧∀(i:Nat) (x:Str) (v:V),X.N[i]?=some x→σ[i]?=some (some v)→Vis X.env.scope x→∃ u,RelV v u∧Look X.env s.heap m x u
 cell:∀ x c,X.env.cells.lookup x=some c→∃ v,s.heap.IsCell c v
 free:H X.env.locals=none
 freeC:∀ x c,X.env.cells.lookup x=some c→H c=none
 pin:∀ p∈X.pn++pins,s.heap.get? p.1=some p.2∧H p.1=none∧p.1≠X.env.locals∧p.1∉X.fs∧∀ v,p.2.data≠.cell v
 hok:HOk X.prog X.w H s.heap
 len:σ.length=X.N.length
section
variable {X:Cx}{pins:List (AA×Obj)}{σ:List (Option V)}{H H':Hp}{s:AC}{h':AH}
theorem Cx.Ok.nofr (ok:X.Ok){b:AA}{o:Obj}(e:X.base.get? b=some o):b∉X.fs:=fun hb=>by
 have:=(ok.funs.mem hb).1;rw[e] at this; cases this
theorem Inv.bs (I:Inv X pins σ H s):∀ b o,X.base.get? b=some o→s.heap.get? b=some o∧H b=none:=fun b o e=>
 ⟨I.base.keep b o (I.ok.bs b o e).1 (I.ok.bs b o e).2 (I.ok.nofr e) (I.ok.noex b o e),I.base.free b o (I.ok.bs b o e).1 (I.ok.bs b o e).2 (I.ok.noex b o e)⟩
theorem Inv.bk (I:Inv X pins σ H s):∀ b o,X.base.get? b=some o→s.heap.get? b=some o:=fun b o e=>(I.bs b o e).1
theorem Inv.mod (I:Inv X pins σ H s):Mod X.K X.mg X.base:=I.ok.mod
theorem Inv.kIn (I:Inv X pins σ H s):X.K.In s.heap:=I.ok.mod.kin.keeps I.bk
theorem Inv.lt (I:Inv X pins σ H s):X.env.locals<s.heap.objs.size:=let ⟨_,hn,_⟩:=I.loc; hn.lt
theorem Inv.sz (I:Inv X pins σ H s):X.s₀.heap.objs.size≤s.heap.objs.size:=BF I.ok.above (CP I.lt)
theorem Inv.nofs (I:Inv X pins σ H s){a:AA}(h:s.heap.objs.size≤a):a∉X.fs:=fun hb=>by
 obtain⟨_,o,ho,_⟩:=I.ok.funs.mem hb;exact absurd (Az (Ai ho) (BF I.sz h)) (B8 _)
theorem Inv.cne (I:Inv X pins σ H s):∀ x c,X.env.cells.lookup x=some c→c≠X.env.locals:=fun x c e z=>by
 obtain⟨v,o,ho,hd⟩:=I.cell x c e;obtain⟨m,⟨o',es,ep,ho',hd',_⟩,_⟩:=I.loc;rw[z,ho'] at ho; cases ho; rw[hd'] at hd; cases hd
theorem Inv.funs (I:Inv X pins σ H s):s.heap.FunFrames X.base X.outer:=by
 have all:∀(l:List Env),(∀ b∈frs l,b∈X.fs)→X.s₀.heap.FunFrames X.base l→s.heap.FunFrames X.base l:=by
  intro l
  induction l with
  | nil=>intro _ _; trivial
  | cons env r ih=>
   intro hs hl;obtain⟨hk,⟨L,o,hf,hn,ho,hd⟩,hr⟩:=hl;have hL:L∈X.fs:=hs L (by unfold frs; rw[B4,hf]; exact Bf);obtain⟨sl,e⟩:=I.base.slot L o ho (I.ok.frf L hL) hL fun z=>I.ok.exfs L z hL;exact⟨hk,⟨L,_,hf,hn,e,hd⟩,ih (fun b hb=>hs b (by unfold frs; rw[B4,hf]; exact BK _ hb)) hr⟩
 exact all X.outer (fun _ hb=>hb) I.ok.funs
theorem Inv.stack (I:Inv X pins σ H s):s.heap.FunFrames X.base X.stack:=by
 rcases I.ok.stk with e|⟨e,hf⟩
 ·rw[e]; exact I.funs
 ·rw[e];obtain⟨m,hn,_⟩:=I.loc;refine .cons (by rw[I.ok.kind]; decide) hf hn ?_ I.funs;exact AH.get?_none_of_le (BF I.ok.bsz I.ok.above)
theorem Inv.stkSub (I:Inv X pins σ H s):∀ b∈frs X.stack,b∈X.env.locals::X.fs:=fun b hb=>by
 rcases I.ok.stk with e|⟨e,hf⟩
 ·rw[e] at hb; exact BK _ hb
 ·rw[e] at hb;unfold frs at hb;rw[B4,hf] at hb;exact hb
theorem Inv.stkFree (I:Inv X pins σ H s):∀ b∈frs X.stack,H b=none:=fun b hb=>by
 rcases Aq.mp (I.stkSub b hb) with e|hb
 ·rw[e]; exact I.free
 ·obtain⟨_,o,ho,_⟩:=I.ok.funs.mem hb;exact I.base.free b o ho (I.ok.frf b hb) fun z=>I.ok.exfs b z hb
theorem Inv.step {g':Array GenState}{t':Nat}{d':Drawn}{ch:List AA}(I:Inv X pins σ H s)
  (hch:∀ b∈ch,(b∈X.ex∨X.s₀.heap.objs.size≤b)∧b≠X.env.locals∧(∀ x c,X.env.cells.lookup x=some c→c≠b)∧∀ p∈X.pn++pins,p.1≠b)
  (keep:∀ b o,b≠X.env.locals→b∉X.fs→b∉ch→s.heap.get? b=some o→H b=none→h'.get? b=some o)
  (slot:∀ b o,b≠X.env.locals→b∈X.fs→b∉ch→s.heap.get? b=some o→H b=none→∃ sl,h'.get? b=some { o with slots:=sl }) (free:∀ b o,b∉ch→s.heap.get? b=some o→H b=none→H' b=none)
  (there:∀ b o,b∉ch→s.heap.get? b=some o→∃ o',h'.get? b=some o')
  (tups:∀ b xs,H b=some (.tup xs)→H' b=some (.tup xs)) (frzs:∀ b o u,H b=some (.frz o u)→H' b=some (.frz o u)) (tbls:∀ b ps,H b=some (.tbl ps)→∃ more,H' b=some (.tbl (ps++more)))
  (ns:∀ m,s.heap.Ns X.env.locals m→h'.Ns X.env.locals m) (hok:HOk X.prog X.w H' h') (hg:B0 g') :
  Inv X pins σ H' { s with heap:=h',gens:=g',drawn:=d',toks:=t' }:=by
 have neL:∀ b o,X.s₀.heap.get? b=some o→b≠X.env.locals:=fun b o e=>BB (Az (Ai e) I.ok.above);have neC:∀ b o,X.s₀.heap.get? b=some o→b∉X.ex→b∉ch:=fun b o e hx hb=>by
  rcases(hch b hb).1 with z|z
  ·exact hx z
  ·exact absurd (Az (Ai e) z) (B8 _)
 have cellK:∀ x c,X.env.cells.lookup x=some c→∀ v,s.heap.IsCell c v→h'.IsCell c v:=fun x c e v ⟨o,ho,hd⟩=>by
  have nch:c∉ch:=fun z=>(hch c z).2.2.1 x c e rfl
  by_cases hc:c∈X.fs
  ·obtain⟨sl,q⟩:=slot c o (I.cne x c e) hc nch ho (I.freeC x c e);exact⟨_,q,hd⟩
  ·exact⟨o,keep c o (I.cne x c e) hc nch ho (I.freeC x c e),hd⟩
 refine⟨I.ok,I.os,hg,⟨fun b o e n hb hx=>?_,fun b o e n hb hx=>?_,fun b o e n hx=>?_,fun b o e hx=>?_,fun b xs e=>tups b xs (I.base.tups b xs e),fun b o xs e=>frzs b o xs (I.base.frzs b o xs e),fun b ps e=>?_⟩,?_,fun x c e=>?_,?_,fun x c e=>?_,fun p hp=>?_,hok,I.len⟩
 ·exact keep b o (neL b o e) hb (neC b o e hx) (I.base.keep b o e n hb hx) (I.base.free b o e n hx)
 ·obtain⟨sl,e1⟩:=I.base.slot b o e n hb hx;obtain⟨sl',e2⟩:=slot b _ (neL b o e) hb (neC b o e hx) e1 (I.base.free b o e n hx);exact⟨sl',e2⟩
 ·obtain⟨o',e1⟩:=I.base.there b o e hx;exact free b o' (neC b o e hx) e1 (I.base.free b o e n hx)
 ·obtain⟨o',e1⟩:=I.base.there b o e hx;exact there b o' (neC b o e hx) e1
 ·obtain⟨m1,e1⟩:=I.base.tbls b ps e;obtain⟨m2,e2⟩:=tbls b _ e1;exact⟨m1++m2,by rw[e2,Array.append_assoc]⟩
 ·obtain⟨m,hn,hl⟩:=I.loc;refine⟨m,ns m hn,fun i x v e1 e2 e3=>?_⟩;obtain⟨u,r,l⟩:=hl i x v e1 e2 e3;refine⟨u,r,?_⟩;rcases l with l|⟨k,c,e,z⟩
  ·exact .inl l
  ·exact .inr ⟨k,c,e,cellK x c e _ z⟩
 ·obtain⟨v,z⟩:=I.cell x c e;exact⟨v,cellK x c e v z⟩
 ·obtain⟨m,⟨o,_,_,ho,_⟩,_⟩:=I.loc;exact free _ o (fun z=>(hch _ z).2.1 rfl) ho I.free
 ·obtain⟨v,o,ho,hd⟩:=I.cell x c e;exact free c o (fun z=>(hch c z).2.2.1 x c e rfl) ho (I.freeC x c e)
 ·obtain⟨e,n,ne,nf,d⟩:=I.pin p hp;have nch:p.1∉ch:=fun z=>(hch p.1 z).2.2.2 p hp rfl;exact⟨keep p.1 p.2 ne nf nch e n,free p.1 p.2 nch e n,ne,nf,d⟩
theorem Inv.un {t':Nat}(I:Inv X pins σ H s)(u:Un X.fs [] H H' s.heap h')(hok:HOk X.prog X.w H' h'):Inv X pins σ H' { s with heap:=h',toks:=t' }:=by
 obtain⟨m,⟨o,es,ep,ho,r⟩,_⟩:=id I.loc;obtain⟨sl,hL⟩:=u.any ho I.free (by simp);exact I.step (g':=s.gens) (d':=s.drawn) (ch:=[]) (fun _ z=>nomatch z) (fun b o _ hb _ e n=>u.keep b o e n hb (by simp)) (fun b o _ hb _ e n=>u.slot b o e n hb (by simp)) (fun b o _ e n=>u.free b o e n (by simp)) (fun b o _ e=>u.there b o e (by simp)) u.tups u.frzs u.tbls (fun m' hm=>by
  obtain⟨o',es',ep',ho',r'⟩:=hm;rw[ho] at ho'; cases ho';exact⟨_,es',ep',hL,r'⟩) hok I.bare
theorem Inv.call {g':Array GenState}{t':Nat}{d':Drawn}{ch:List AA}(I:Inv X pins σ H s)(u:Un (frs X.stack) ch H H' s.heap h')(hok:HOk X.prog X.w H' h')(hg:B0 g')
  (hch:∀ b∈ch,(b∈X.ex∨X.s₀.heap.objs.size≤b)∧b≠X.env.locals∧(∀ x c,X.env.cells.lookup x=some c→c≠b)∧∀ p∈X.pn++pins,p.1≠b) :
  Inv X pins σ H' { s with heap:=h',gens:=g',drawn:=d',toks:=t' }:=by
 obtain⟨m,⟨o,es,ep,ho,r⟩,_⟩:=id I.loc;obtain⟨sl,hL⟩:=u.any ho I.free fun z=>(hch _ z).2.1 rfl;exact I.step (ch:=ch) hch (fun b o hL hb hc e n=>u.keep b o e n (fun z=>(Aq.mp (I.stkSub b z)).elim hL hb) hc) (fun b o _ _ hc e n=>u.any e n hc) (fun b o hc e n=>u.free b o e n hc) (fun b o hc e=>u.there b o e hc) u.tups u.frzs u.tbls (fun m' hm=>by
  obtain⟨o',es',ep',ho',r'⟩:=hm;rw[ho] at ho'; cases ho';exact⟨_,es',ep',hL,r'⟩) hok hg
theorem Inv.turned {t':Nat}{it:AA}(I:Inv X pins σ H s)(k:∀ b o,b≠it→s.heap.get? b=some o→h'.get? b=some o)(hn:H it=none)(hL:it≠X.env.locals)
  (h1:it∈X.ex∨X.s₀.heap.objs.size≤it) (h2:∀ x c,X.env.cells.lookup x=some c→c≠it) (h3:∀ p∈X.pn++pins,p.1≠it):Inv X pins σ H { s with heap:=h',toks:=t' }:=by
 have nit:∀ b u,H b=some u→b≠it:=fun b u e z=>by rw[z,hn] at e; cases e
 refine I.step (g':=s.gens) (d':=s.drawn) (ch:=[it]) (fun b hb=>?_) (fun b o _ _ hc e _=>k b o (fun z=>hc (by simp[z])) e) (fun b o _ _ hc e _=>⟨o.slots,k b o (fun z=>hc (by simp[z])) e⟩) (fun _ _ _ _ n=>n)
  (fun b o hc e=>⟨o,k b o (fun z=>hc (by simp[z])) e⟩) (fun _ _ e=>e) (fun _ _ _ e=>e) (fun b ps e=>⟨#[],by rw[e]; simp⟩) (fun m hm=>?_) (fun b u e=>?_) I.bare
 ·have e:b=it:=by simpa using hb
  subst e;exact⟨h1,hL,h2,h3⟩
 ·obtain⟨o,es,ep,ho,r⟩:=hm;exact⟨o,es,ep,k _ o (Ne.symm hL) ho,r⟩
 ·refine(I.hok b u e).stay (fun c v hc q=>k c v ?_ q) (fun _ q=>q) fun _ _ q=>q;rcases hc with z|z
  ·rw[z]; exact nit b u e
  ·exact nit c _ z
theorem Inv.tok (I:Inv X pins σ H s)(t:Nat):Inv X pins σ H { s with toks:=t }:=I.un (h':=s.heap) (t':=t) Un.refl I.hok
theorem Inv.kept {t':Nat}(I:Inv X pins σ H s)(k:∀ b u,s.heap.get? b=some u→h'.get? b=some u):Inv X pins σ H { s with heap:=h',toks:=t' }:=I.un (Un.kept k) (I.hok.kept k)
theorem Inv.laid {a:AA}{o:HO}{t':Nat}(I:Inv X pins σ H s)(k:∀ b u,s.heap.get? b=some u→h'.get? b=some u)(hp:s.heap.objs.size≤a)(new:ObjOk X.prog X.w (upd H a o) h' a o) :
  Inv X pins σ (upd H a o) { s with heap:=h',toks:=t' }:=I.un (Un.laid k hp (I.hok.fresh hp)) (I.hok.laid k hp new)
theorem Inv.write {x e:AA}{o:HO}{t':Nat}(I:Inv X pins σ H s)(mu:Mut (H x))(he:e=x∨H e=some (.own x))(k:∀ b u,b≠e→s.heap.get? b=some u→h'.get? b=some u)(heo:∃ u,h'.get? e=some u)
  (new:ObjOk X.prog X.w (upd H x o) h' x o):Inv X pins σ (upd H x o) { s with heap:=h',toks:=t' }:=I.un (Un.write mu he k heo) (I.hok.write mu he k heo new)
theorem Inv.pins_of {pins':List (AA×Obj)}(I:Inv X pins σ H s)(h:∀ p∈pins',s.heap.get? p.1=some p.2∧H p.1=none∧p.1≠X.env.locals∧p.1∉X.fs∧∀ v,p.2.data≠.cell v):Inv X pins' σ H s:=
 ⟨I.ok,I.os,I.bare,I.base,I.loc,I.cell,I.free,I.freeC,fun p hp=>(A7.mp hp).elim (fun z=>I.pin p (BO _ z)) (h p),I.hok,I.len⟩
theorem wA {N:List Str}(hN:N.Nodup){i j:Nat}{x:Str}(a:N[i]?=some x)(b:N[j]?=some x):i=j:=by
 obtain⟨h1,e1⟩:=A4.mp a;obtain⟨h2,e2⟩:=A4.mp b;exact(DO hN).mp (e1.trans e2.symm)
theorem zL {M:Model}{A:AR}{E:AB→AC→Prop}{i:Nat}{x:Str}{v:V}{u:AB}{Q:Unit→AC→Prop}(I:Inv X pins σ H s)(hN:X.N.Nodup)(hi:X.N[i]?=some x)(hx:Loc X.env.scope x)(r:RelV v u)
  (h:∀ s',Inv X pins (σ.set i (some v)) H s'→(∃ a,CV a s.heap s'.heap∧(a=X.env.locals∨X.env.cells.lookup x=some a))→Q () s') (hf:X.fn x=true∨X.env.scope.names.lookup x=some .local:=by first|exact .inl rfl|exact .inr rfl|assumption):AK M A (storeName X.env x u) Q E s:=by
 obtain⟨m,hn,hl⟩:=id I.loc;have hcls:(X.env.scope.kind==.class||(X.env.scope.kind==.module&&X.env.locals != X.env.globals))=false:=by rw[I.ok.kind]; rfl
 have hiσ:i<σ.length:=by rw[I.len]; exact(A4.mp hi).1
 have cne:=I.cne;have tracked:∀{a:AA} {h':AH},(∃ o,s.heap.get? a=some o∧H a=none)→CV a s.heap h'→HOk X.prog X.w H h':=fun{a h'} ha hs b ob e=>by
  obtain⟨_,_,hfree⟩:=ha;refine(I.hok b ob e).stay (fun c w' hc q=>(hs.2 c ?_).trans q) (fun _ q=>q) fun _ _ q=>q;rintro rfl;rcases hc with rfl|hc
  ·rw[hfree] at e; cases e
  ·rw[hfree] at hc; cases hc
 rcases hx with hk|hk
 ·refine wpAny_storeName_local hk hn (fun h' hn' hs=>?_) hcls;obtain⟨oL,_,_,hoL,_⟩:=id hn;refine h _ ⟨I.ok,I.os,I.bare,⟨fun b o e n hb hx=>?_,fun b o e n hb hx=>?_,I.base.free,fun b o e hx=>?_,I.base.tups,I.base.frzs,I.base.tbls⟩,⟨_,hn',fun j y v' e1 e2 e3=>?_⟩,fun y c e=>?_,I.free,I.freeC,fun p hp=>?_,tracked ⟨oL,hoL,I.free⟩ hs,by simpa using I.len⟩ ⟨_,hs,.inl rfl⟩
  ·exact(hs.2 b (BB (Az (Ai e) I.ok.above))).trans (I.base.keep b o e n hb hx)
  ·obtain⟨sl,e1⟩:=I.base.slot b o e n hb hx;exact⟨sl,(hs.2 b (BB (Az (Ai e) I.ok.above))).trans e1⟩
  ·obtain⟨o',e1⟩:=I.base.there b o e hx;exact⟨o',(hs.2 b (BB (Az (Ai e) I.ok.above))).trans e1⟩
  ·by_cases hj:j=i
   ·subst hj;rw[hi] at e1; cases e1;rw[BJ hiσ] at e2
    cases e2
    exact⟨u,r,.inl ⟨hk,by simp⟩⟩
   ·rw[BS (Ne.symm hj)] at e2;obtain⟨u',r',q⟩:=hl j y v' e1 e2 e3;refine⟨u',r',?_⟩;rcases q with⟨k,e⟩|⟨k,c,e,z⟩
    ·refine .inl ⟨k,?_⟩;have:y≠x:=fun e=>hj (wA hN e1 (e▸hi));simp[this,e]
    ·exact .inr ⟨k,c,e,z.sameBut hs (cne y c e)⟩
  ·obtain⟨w',z⟩:=I.cell y c e;exact⟨w',z.sameBut hs (cne y c e)⟩
  ·obtain⟨e,n,ne,nf,d⟩:=I.pin p hp;exact⟨(hs.2 p.1 ne).trans e,n,ne,nf,d⟩
 ·have hfn:X.fn x=true:=by
   rcases hf with z|z
   ·exact z
   ·rw[z] at hk; cases hk
  obtain⟨c,hc⟩:=I.ok.has x (.inl hk);obtain⟨w',z⟩:=I.cell x c hc;refine wpAny_storeName_cell I.ok.kind hk hc z (fun h' hc' hs=>?_);obtain⟨oc,hoc,hocd⟩:=id z;refine h { s with heap:=h' } ⟨I.ok,I.os,I.bare,⟨fun b o e n hb hx=>?_,fun b o e n hb hx=>?_,I.base.free,fun b o e hx=>?_,I.base.tups,I.base.frzs,I.base.tbls⟩,⟨m,hn.sameBut hs (Ne.symm (cne x c hc)),fun j y v' e1 e2 e3=>?_⟩,fun y c' e=>?_,I.free,I.freeC,fun p hp=>?_,tracked ⟨oc,hoc,I.freeC x c hc⟩ hs,by simpa using I.len⟩ ⟨c,hs,.inr hc⟩
  ·exact(hs.2 b (BB (Az (Ai e) (I.ok.cab x c hfn hc)))).trans (I.base.keep b o e n hb hx)
  ·obtain⟨sl,e1⟩:=I.base.slot b o e n hb hx;exact⟨sl,(hs.2 b (BB (Az (Ai e) (I.ok.cab x c hfn hc)))).trans e1⟩
  ·obtain⟨o',e1⟩:=I.base.there b o e hx;exact⟨o',(hs.2 b (BB (Az (Ai e) (I.ok.cab x c hfn hc)))).trans e1⟩
  ·by_cases hj:j=i
   ·subst hj;rw[hi] at e1; cases e1;rw[BJ hiσ] at e2
    cases e2
    exact⟨u,r,.inr ⟨.inl hk,c,hc,hc'⟩⟩
   ·rw[BS (Ne.symm hj)] at e2;obtain⟨u',r',q⟩:=hl j y v' e1 e2 e3;refine⟨u',r',?_⟩;rcases q with q|⟨k,c',e,z'⟩
    ·exact .inl q
    ·refine .inr ⟨k,c',e,z'.sameBut hs ?_⟩;rintro rfl;exact hj (wA hN e1 (I.ok.inj _ _ _ e hc▸hi))
  ·by_cases hcc:c'=c
   ·subst hcc; exact⟨_,hc'⟩
   ·obtain⟨w2,z2⟩:=I.cell y c' e;exact⟨w2,z2.sameBut hs hcc⟩
  ·obtain⟨e,n,ne,nf,d⟩:=I.pin p hp;refine⟨(hs.2 p.1 ?_).trans e,n,ne,nf,d⟩;intro q;rw[q,hoc] at e;have q':oc=p.2:=A1.inj e;exact d w' (by rw[← q']; exact hocd)
theorem oX {M:Model}{A:AR}{E:AB→AC→Prop}{i:Nat}{x:Str}{v:V}{u:AB}{Q:Unit→AC→Prop}(I:Inv X pins σ H s)(hN:X.N.Nodup)(hi:X.N[i]?=some x)(hx:Loc X.env.scope x)(r:RelV v u)
  (h:∀ s',Inv X pins (σ.set i (some v)) H s'→Q () s') (hf:X.fn x=true∨X.env.scope.names.lookup x=some .local:=by first|exact .inl rfl|exact .inr rfl|assumption):AK M A (storeName X.env x u) Q E s:=
 zL I hN hi hx r (fun s' I' _=>h s' I') hf
end
abbrev XK:=AB→Option AA→Hp→Prop
abbrev St:=List (Option V)
abbrev VK:=V→Hp→Prop
abbrev TE:=St→Hp→VK→Prop
abbrev TT:=St→Hp→(Bool→Hp→Prop)→Prop
abbrev TA:=St→Hp→(List V→Hp→Prop)→Prop
structure Ends where
 nx:St→Hp→Prop
 rt:VK
 bk:St→Hp→Prop:=fun _ _=>False
 ct:St→Hp→Prop:=fun _ _=>False
abbrev TS:=Ends→St→Hp→Prop
noncomputable def EP (X:Cx)(pins:List (AA×Obj))(σ:St)(Q:VK)(u:AB)(s':AC):Prop:=∃ v H',Inv X pins σ H' s'∧RelV v u∧Q v H'
noncomputable def TP (X:Cx)(pins:List (AA×Obj))(σ:St)(Q:Bool→Hp→Prop)(b:Bool)(s':AC):Prop:=∃ H',Inv X pins σ H' s'∧Q b H'
noncomputable def AP (X:Cx)(pins:List (AA×Obj))(σ:St)(Q:List V→Hp→Prop)(us:List AB)(s':AC):Prop:=∃ vs H',Inv X pins σ H' s'∧Vals vs us∧Q vs H'
noncomputable def SP (X:Cx)(pins:List (AA×Obj))(D:Ends)(f:Flow)(s':AC):Prop:=
 match f with
 | .next=>∃ σ' H',Inv X pins σ' H' s'∧D.nx σ' H'
 | .brk=>∃ σ' H',Inv X pins σ' H' s'∧D.bk σ' H'
 | .cont=>∃ σ' H',Inv X pins σ' H' s'∧D.ct σ' H'
 | .ret u=>∃ v σ' H',Inv X pins σ' H' s'∧RelV v u∧D.rt v H'
noncomputable def PE (X:Cx)(e:AN)(t:TE):Prop:=
 ∀(pins:List (AA×Obj)) (s:AC) (σ:St) (H:Hp) (Q:VK),Inv X pins σ H s→t σ H Q→AK (AF X.prog X.w) X.A (Aa e X.env) (EP X pins σ Q) X.xe s
noncomputable def PT (X:Cx)(e:AN)(t:TT):Prop:=
 ∀(pins:List (AA×Obj)) (s:AC) (σ:St) (H:Hp) (Q:Bool→Hp→Prop),Inv X pins σ H s→t σ H Q→AK (AF X.prog X.w) X.A (isTrue e X.env (Aa e X.env)) (TP X pins σ Q) X.xe s
noncomputable def PW (X:Cx)(e:AN)(t:TT):Prop:=
 ∀(whole:Sem AB) (pins:List (AA×Obj)) (s:AC) (σ:St) (H:Hp) (Q:Bool→Hp→Prop),Inv X pins σ H s→t σ H Q→AK (AF X.prog X.w) X.A (isTrue e X.env whole) (TP X pins σ Q) X.xe s
theorem PW.pt {X:Cx}{e:AN}{t:TT}(h:PW X e t):PT X e t:=h _
noncomputable def PA (X:Cx)(es:List AN)(t:TA):Prop:=
 ∀(pos:Pos) (pins:List (AA×Obj)) (s:AC) (σ:St) (H:Hp) (Q:List V→Hp→Prop),Inv X pins σ H s→t σ H Q→AK (AF X.prog X.w) X.A (spliced (BL pos (Ak es X.env))) (AP X pins σ Q) X.xe s
noncomputable def PS (X:Cx)(st:AS)(t:TS):Prop:=
 ∀(pins:List (AA×Obj)) (s:AC) (σ:St) (H:Hp) (D:Ends),Inv X pins σ H s→t D σ H→AK (AF X.prog X.w) X.A (exec st X.env) (SP X pins D) X.xe s
noncomputable def PSs (X:Cx)(st:List AS)(t:TS):Prop:=
 ∀(pins:List (AA×Obj)) (s:AC) (σ:St) (H:Hp) (D:Ends),Inv X pins σ H s→t D σ H→AK (AF X.prog X.w) X.A (execs st X.env) (SP X pins D) X.xe s
theorem thn {α:Type}{t:Sem α}{Q Q':α→AC→Prop}{M:Model}{A:AR}{E:AB→AC→Prop}{s:AC}(h:AK M A t Q E s)(hQ:∀ a s,Q a s→Q' a s):AK M A t Q' E s:=C7 h hQ fun _ _ x=>x
end L2
namespace L2
open PySem PySem.Spec PyProof.Rows
section
variable {X:Cx}
theorem bin {a b:AN}{ta tb:TE}(ha:PE X a ta)(hb:PE X b tb){pins:List (AA×Obj)}{s:AC}{σ:St}{H:Hp}{R:V→V→Hp→Prop}(I:Inv X pins σ H s)(h:ta σ H fun x H1=>tb σ H1 fun y H2=>R x y H2)
  {α:Type} {Q:α→AC→Prop} {f:AB→AB→Sem α}
  (hf:∀ v u s2 x y H2,Inv X pins σ H2 s2→RelV x v→RelV y u→R x y H2→AK (AF X.prog X.w) X.A (f v u) Q X.xe s2) :
  AK (AF X.prog X.w) X.A (Aa a X.env) (fun v s₁=>AK (AF X.prog X.w) X.A (Aa b X.env) (fun u s₂=>AK (AF X.prog X.w) X.A (f v u) Q X.xe s₂) X.xe s₁) X.xe s:=by
 refine thn (ha pins s σ H _ I h) fun v s1 ⟨x,H1,I1,r1,q1⟩=>?_;refine thn (hb pins s1 σ H1 _ I1 q1) fun u s2 ⟨y,H2,I2,r2,q2⟩=>?_;exact hf v u s2 x y H2 I2 r1 r2 q2
noncomputable def yC (i:Nat):TE:=fun σ H Q=>∃ v,σ[i]?=some (some v)∧Q v H
noncomputable def tC (v:V):TE:=fun _ H Q=>Q v H
theorem a9B {i:Nat}{x:Str}{pos:Pos}(hN:X.N[i]?=some x)(hv:Vis X.env.scope x)(hd:(x==("__debug__" : Str))=false:=by decide)(hcd:(x==("__classdict__" : Str))=false:=by decide):PE X (.Name x pos) (yC i):=by
 intro pins s σ H Q I h;obtain⟨v,e,h⟩:=h;obtain⟨m,hn,hl⟩:=I.loc;obtain⟨u,r,l⟩:=hl i x v hN e hv;have fin:EP X pins σ Q u s:=⟨v,H,I,r,h⟩;rcases l with⟨hk,hm⟩|⟨hk,c,hc,hcell⟩
 ·exact wpAny_Name (wpAny_loadName_local I.ok.kind hk hn hm fin) hd
 ·rcases hk with hk|hk
  ·exact wpAny_Name (wpAny_loadName_cell I.ok.kind hk hc hcell fin) hd
  ·exact wpAny_Name (wpAny_loadName_free I.ok.kind hk hc hcell fin hcd) hd
theorem aC {i j pos}:PE X (.Constant (.int i) j pos) (tC (.int i)):=fun _ _ _ H _ I h=>wpAny_Constant_int ⟨.int i,H,I.tok _,⟨_,rfl⟩,h⟩
theorem xW {b j pos}:PE X (.Constant (.bool b) j pos) (tC (.bl b)):=fun _ _ _ H _ I h=>Constant_bool ⟨.bl b,H,I,rfl,h⟩
theorem bF {j pos}:PE X (.Constant .none j pos) (tC .non):=fun _ _ _ H _ I h=>Constant_none ⟨.non,H,I,rfl,h⟩
theorem a5D {x j pos}:PE X (.Constant (.str x) j pos) (tC (.str x)):=fun _ _ _ H _ I h=>Calls.Constant_str ⟨.str x,H,I.tok _,⟨_,rfl⟩,h⟩
noncomputable def Gl (X:Cx)(x:Str):Prop:=X.env.kindOf x=some .globalImplicit
theorem vB {E:AB→AC→Prop}{pins:List (AA×Obj)}{s:AC}{σ:St}{H:Hp}{x:Str}{u:AB}{pos:Pos}{Q:AB→AC→Prop}(I:Inv X pins σ H s)(hg:Gl X x)(hm:X.mg x=some u)(h:Q u s)
  (hd:(x==("__debug__" : Str))=false:=by decide):AK (AF X.prog X.w) X.A (Aa (.Name x pos) X.env) Q E s:=
 EZ I.ok.kind hg (Calls.loadGlobal_global (by rw[I.ok.glob]; exact I.mod.glob.keeps I.bk) hm h) hd
theorem wI {E:AB→AC→Prop}{pins:List (AA×Obj)}{s:AC}{σ:St}{H:Hp}{x:Str}{u:AB}{pos:Pos}{Q:AB→AC→Prop}(I:Inv X pins σ H s)(hg:Gl X x)(hm:X.mg x=none)(hv:Cp x=some u)(h:Q u s)
  (hn:x ≠ "__name__" := by decide) (hd:(x==("__debug__" : Str))=false:=by decide):AK (AF X.prog X.w) X.A (Aa (.Name x pos) X.env) Q E s:=by
 obtain⟨mb,h1,h2⟩:=I.mod.blt;exact EZ I.ok.kind hg (Calls.loadGlobal_builtin (by rw[I.ok.glob]; exact I.mod.glob.keeps I.bk) hm (by rw[I.ok.blt]; exact h1.keeps I.bk) ((h2 x hn).trans hv) h) hd
theorem gD {x:Str}{v:V}{u:AB}{pos:Pos}(hg:Gl X x)(hm:X.mg x=none)(hv:Cp x=some u)(r:RelV v u)(hn:x ≠ "__name__" := by decide)(hd:(x==("__debug__" : Str))=false:=by decide):PE X (.Name x pos) (tC v):=
 fun _ _ _ H _ I h=>wI I hg hm hv ⟨v,H,I,r,h⟩ hn hd
variable {a b:AN}{ta tb:TE}{pos:Pos}
noncomputable def PC (X:Cx)(op:CmpOp)(a b:AN)(t:TE):Prop:=
 ∀(pins:List (AA×Obj)) (s:AC) (σ:St) (H:Hp) (Q:VK),Inv X pins σ H s→t σ H Q →
  AK (AF X.prog X.w) X.A (Aa a X.env) (fun v s₁=>AK (AF X.prog X.w) X.A (Aa b X.env) (fun u s₂=>AK (AF X.prog X.w) X.A (BQ op v u) (EP X pins σ Q) X.xe s₂) X.xe s₁) X.xe s
noncomputable def tB (t:TE):TT:=fun σ H Q=>t σ H fun x H1=>∃ c,x=.bl c∧Q c H1
theorem aCA {op:CmpOp}{t:TE}(h:PC X op a b t)(h1:C8 op b=false:=by first|exact nobehind _ (by decide) (by decide)|rfl):PT X (.Compare a [op] [b] pos) (tB t):=by
 intro pins s σ H Q I hw;refine Ea (thn (h pins s σ H _ I hw) fun v s1 h1=>thn h1 fun u s2 h2=>thn h2 fun c s3 ⟨x,H1,I1,r1,q1⟩=>?_) h1;obtain⟨d,rfl,q⟩:=q1
 cases r1
 exact C9 ⟨H1,I1,q⟩
theorem cJ {e:AN}{t:TE}(h:PE X e t)(he:∀ whole,isTrue e X.env whole=(do let v←whole; DA e.pos; CW [v] (truthy v)):=by intro _; rfl):PT X e (tB t):=by
 intro pins s σ H Q I hw;refine isTrue_plain (thn (h pins s σ H _ I hw) fun v s1 ⟨x,H1,I1,r1,q1⟩=>?_) (he _);obtain⟨d,rfl,q⟩:=q1
 cases r1
 exact C9 ⟨H1,I1,q⟩
variable {tA tB':TT}{rest:List AN}
noncomputable def aBS (t u:TT):TT:=fun σ H Q=>t σ H fun c H1=>if c=true then u σ H1 Q else Q false H1
noncomputable def tOr (t u:TT):TT:=fun σ H Q=>t σ H fun c H1=>if c=true then Q true H1 else u σ H1 Q
noncomputable def aBT (t:TT):TT:=fun σ H Q=>t σ H fun c H1=>Q (!c) H1
theorem fU (ha:PT X a tA):PW X (.BoolOp .And [a] pos) tA:=by
 intro wh pins s σ H Q I h;refine isTrue_and (thn (ha pins s σ H Q I h) fun c s1 e=>?_)
 cases c with
 | true=>exact isTrue_and_nil e
 | false=>exact e
theorem dY (ha:PT X a tA):PW X (.BoolOp .Or [a] pos) tA:=by
 intro wh pins s σ H Q I h;refine isTrue_or (thn (ha pins s σ H Q I h) fun c s1 e=>?_)
 cases c with
 | false=>exact isTrue_or_nil e
 | true=>exact e
theorem iJ (ha:PT X a tA)(hb:PW X (.BoolOp .And (b::rest) pos) tB'):PW X (.BoolOp .And (a::b::rest) pos) (aBS tA tB'):=by
 intro wh pins s σ H Q I h;refine isTrue_and (thn (ha pins s σ H _ I h) fun c s1 ⟨H1,I1,q1⟩=>?_)
 cases c with
 | true=>exact hb wh pins s1 σ H1 Q I1 q1
 | false=>exact⟨H1,I1,q1⟩
theorem eE (ha:PT X a tA)(hb:PW X (.BoolOp .Or (b::rest) pos) tB'):PW X (.BoolOp .Or (a::b::rest) pos) (tOr tA tB'):=by
 intro wh pins s σ H Q I h;refine isTrue_or (thn (ha pins s σ H _ I h) fun c s1 ⟨H1,I1,q1⟩=>?_)
 cases c with
 | true=>exact⟨H1,I1,q1⟩
 | false=>exact hb wh pins s1 σ H1 Q I1 q1
theorem dX (ha:PT X a tA):PT X (.UnaryOp .Not a pos) (aBT tA):=by
 intro pins s σ H Q I h;exact isTrue_not (ha pins s σ H (fun c H1=>Q (!c) H1) I h)
noncomputable def a8U (ta tb:TE):TE:=fun σ H Q=>ta σ H fun x H1=>∃ c,x=.bl c∧if c=true then tb σ H1 Q else Q (.bl false) H1
noncomputable def aC6 (ta tb:TE):TE:=fun σ H Q=>ta σ H fun x H1=>∃ c,x=.bl c∧if c=true then Q (.bl true) H1 else tb σ H1 Q
theorem wY {op}{t:TE}(h:PE X a t):PE X (.BoolOp op [a] pos) t:=fun pins s σ H Q I hw=>BoolOp_one (h pins s σ H Q I hw)
theorem a0F (ha:PE X a ta)(hb:PE X (.BoolOp .And (b::rest) pos) tb):PE X (.BoolOp .And (a::b::rest) pos) (a8U ta tb):=by
 intro pins s σ H Q I h;refine BoolOp_and (thn (ha pins s σ H _ I h) fun v s1 ⟨x,H1,I1,r1,q1⟩=>?_);obtain⟨c,rfl,q1⟩:=q1
 cases r1
 refine C9 ?_
 cases c with
 | true=>exact hb pins s1 σ H1 Q I1 q1
 | false=>exact⟨.bl false,H1,I1,rfl,q1⟩
theorem aBR (ha:PE X a ta)(hb:PE X (.BoolOp .Or (b::rest) pos) tb):PE X (.BoolOp .Or (a::b::rest) pos) (aC6 ta tb):=by
 intro pins s σ H Q I h;refine BoolOp_or (thn (ha pins s σ H _ I h) fun v s1 ⟨x,H1,I1,r1,q1⟩=>?_);obtain⟨c,rfl,q1⟩:=q1
 cases r1
 refine C9 ?_
 cases c with
 | false=>exact hb pins s1 σ H1 Q I1 q1
 | true=>exact⟨.bl true,H1,I1,rfl,q1⟩
noncomputable def tIf (t:TT)(ta tb:TE):TE:=fun σ H Q=>t σ H fun c H1=>if c=true then ta σ H1 Q else tb σ H1 Q
theorem a3D {c:AN}(hc:PT X c tA)(ha:PE X a ta)(hb:PE X b tb):PE X (.IfExp c a b pos) (tIf tA ta tb):=by
 intro pins s σ H Q I h;refine wpAny_IfExp (thn (hc pins s σ H _ I h) fun d s1 ⟨H1,I1,q1⟩=>?_)
 cases d with
 | true=>exact ha pins s1 σ H1 Q I1 q1
 | false=>exact hb pins s1 σ H1 Q I1 q1
end
end L2
namespace L2
open PySem PySem.Spec PyProof.Rows
noncomputable def SqL (K:AW)(H:Hp)(a:AA)(xs:List V):Prop:=
 Rd H a (.lst xs) ∨
  ∃(o:Obj) (its:Array AB) (n:Nat),K.lookup a=some o∧o.cls=.type "list" ∧ o.dict=none∧o.data=.seq its n∧its.size≤sizeLine∧Vals xs its.toList
noncomputable def SqT (K:AW)(H:Hp)(a:AA)(xs:List V):Prop:=
 Rd H a (.tup xs) ∨
  ∃(o:Obj) (its:Array AB) (n:Nat),K.lookup a=some o∧o.cls=.type "tuple" ∧ o.data=.seq its n∧its.size≤sizeLine∧Vals xs its.toList
noncomputable def aCM:AB→Option V
 | .none=>some .non
 | .bool b=>some (.bl b)
 | .int i _=>some (.int i)
 | .str x _=>some (.str x)
 | .bytes b _=>some (.byt b)
 | .float b _=>some (.flt b)
 | .ref a=>some (.ref a)
 | .type n=>some (.ty n)
 | _=>none
theorem RelV.abs {x:V}{u:AB}(r:RelV x u):aCM u=some x:=by
 cases x with
 | non=>cases r; rfl
 | bl _=>cases r; rfl
 | int _=>obtain⟨t,rfl⟩:=r; rfl
 | str _=>obtain⟨t,rfl⟩:=r; rfl
 | byt _=>obtain⟨t,rfl⟩:=r; rfl
 | flt _=>obtain⟨t,rfl⟩:=r; rfl
 | ref _=>cases r; rfl
 | ty _=>cases r; rfl
theorem RelV.inj {x y:V}{u:AB}(r:RelV x u)(q:RelV y u):x=y:=A1.inj (r.abs.symm.trans q.abs)
theorem Vals.inj:∀{xs ys:List V} {us:List AB},Vals xs us→Vals ys us→xs=ys:=by
 intro xs ys us h
 induction h generalizing ys with
 | nil=>intro q; cases q; rfl
 | cons r t ih=>intro q; cases q with|cons r' t'=>rw[r.inj r',ih t']
section
variable {X:Cx}{pins:List (AA×Obj)}{σ:St}{H:Hp}{s:AC}{a:AA}{xs ys:List V}
theorem SqL.of {K:AW}(h:H a=some (.lst xs)):SqL K H a xs:=.inl (.inl h)
theorem SqT.of {K:AW}(h:H a=some (.tup xs)):SqT K H a xs:=.inl (.inl h)
theorem Inv.list (I:Inv X pins σ H s)(h:SqL X.K H a xs):∃ its:List AB,Vals xs its∧PlainL s.heap a its.toArray∧xs.length≤sizeLine:=by
 rcases h with h|⟨o,its,n,hk,hc,hd,hs,hz,r⟩
 ·obtain⟨z,its,n,r,e⟩:=h.ok I.hok;exact⟨its,r,⟨_,n,e,rfl,rfl,rfl⟩,z⟩
 ·refine⟨its.toList,r,⟨o,n,I.kIn a o hk,hc,hd,by simpa using hs⟩,?_⟩;have e:=r.length;simp only[Aj] at e;omega
theorem Inv.tuple (I:Inv X pins σ H s)(h:SqT X.K H a xs):∃ its:List AB,Vals xs its∧IsTup s.heap a its.toArray∧xs.length≤sizeLine:=by
 rcases h with h|⟨o,its,n,hk,hc,hs,hz,r⟩
 ·obtain⟨z,its,r,p⟩:=h.ok I.hok;exact⟨its,r,p,z⟩
 ·refine⟨its.toList,r,⟨o,I.kIn a o hk,hc,n,by simpa using hs⟩,?_⟩;have e:=r.length;simp only[Aj] at e;omega
theorem Inv.list_inj (I:Inv X pins σ H s)(h:SqL X.K H a xs)(h':SqL X.K H a ys):xs=ys:=by
 obtain⟨its,r,⟨o,n,e,_,_,d⟩,_⟩:=I.list h;obtain⟨its',r',⟨o',n',e',_,_,d'⟩,_⟩:=I.list h';rw[e] at e'; cases e';rw[d] at d';injection d' with d1 _;have:its=its':=by simpa using congrArg D4 d1
 subst this;exact r.inj r'
theorem Inv.tuple_inj (I:Inv X pins σ H s)(h:SqT X.K H a xs)(h':SqT X.K H a ys):xs=ys:=by
 obtain⟨its,r,⟨o,e,_,n,d⟩,_⟩:=I.tuple h;obtain⟨its',r',⟨o',e',_,n',d'⟩,_⟩:=I.tuple h';rw[e] at e'; cases e';rw[d] at d';injection d' with d1 _;have:its=its':=by simpa using congrArg D4 d1
 subst this;exact r.inj r'
end
abbrev Cx.wish (X:Cx)(E:AB→AC→Prop):Cx:={ X with xe:=E }
abbrev Cx.nox (X:Cx):Cx:=X.wish fun _ _=>False
theorem Cx.Ok.wish {X:Cx}(ok:X.Ok)(E:AB→AC→Prop):(X.wish E).Ok:=
 ⟨ok.mod,ok.kind,ok.glob,ok.blt,ok.above,ok.inj,ok.has,ok.cab,ok.hd,ok.frames,ok.stk,ok.exf,ok.bs,ok.bsz,ok.noex,ok.exfs,ok.funs,ok.frf⟩
theorem Cx.Ok.unwish {X:Cx}{E:AB→AC→Prop}(ok:(X.wish E).Ok):X.Ok:=
 ⟨ok.mod,ok.kind,ok.glob,ok.blt,ok.above,ok.inj,ok.has,ok.cab,ok.hd,ok.frames,ok.stk,ok.exf,ok.bs,ok.bsz,ok.noex,ok.exfs,ok.funs,ok.frf⟩
section
variable {X:Cx}{pins:List (AA×Obj)}{σ:St}{H:Hp}{s:AC}{E:AB→AC→Prop}
theorem Inv.wish (I:Inv X pins σ H s)(E:AB→AC→Prop):Inv (X.wish E) pins σ H s:=⟨I.ok.wish E,I.os,I.bare,I.base,I.loc,I.cell,I.free,I.freeC,I.pin,I.hok,I.len⟩
theorem Inv.unwish (I:Inv (X.wish E) pins σ H s):Inv X pins σ H s:=⟨I.ok.unwish,I.os,I.bare,I.base,I.loc,I.cell,I.free,I.freeC,I.pin,I.hok,I.len⟩
theorem SP.unwish {D:Ends}{f:Flow}{s':AC}(h:SP (X.wish E) pins D f s'):SP X pins D f s':=by
 cases f with
 | next=>obtain⟨σ',H',I,q⟩:=h; exact⟨σ',H',I.unwish,q⟩
 | brk=>obtain⟨σ',H',I,q⟩:=h; exact⟨σ',H',I.unwish,q⟩
 | cont=>obtain⟨σ',H',I,q⟩:=h; exact⟨σ',H',I.unwish,q⟩
 | ret u=>obtain⟨v,σ',H',I,r,q⟩:=h; exact⟨v,σ',H',I.unwish,r,q⟩
theorem PSs.nox {st:List AS}{t:TS}(h:PSs X.nox st t):PSs X st t:=fun pins s σ H D I hw=>
 C7 (h pins s σ H D (I.wish _) hw) (fun _ _ q=>q.unwish) fun _ _ z=>BR z
end
section
variable {X:Cx}{st:AS}{rest:List AS}{t u:TS}{e:AN}{te:TE}{pos:Pos}
noncomputable def a8H:TS:=fun D σ H=>D.nx σ H
noncomputable def aC0 (t u:TS):TS:=fun D σ H=>t { D with nx:=u D } σ H
theorem aY:PSs X [] a8H:=fun _ _ σ H _ I h=>Dg ⟨σ,H,I,h⟩
theorem aF (h1:PS X st t)(h2:PSs X rest u):PSs X (st::rest) (aC0 t u):=by
 intro pins s σ H D I h;refine wpAny_execs_cons (thn (h1 pins s σ H { D with nx:=u D } I h) fun f s1 q=>?_)
 cases f with
 | next=>
  obtain⟨σ',H',I',q⟩:=q;exact h2 pins s1 σ' H' D I' q
 | ret v=>exact q
 | brk=>exact q
 | cont=>exact q
theorem aH (h1:PS X st t):PSs X [st] t:=by
 intro pins s σ H D I h;refine wpAny_execs_cons (thn (h1 pins s σ H D I h) fun f s1 q=>?_)
 cases f with
 | next=>exact Dg q
 | ret v=>exact q
 | brk=>exact q
 | cont=>exact q
theorem Inv.quiet {pins:List (AA×Obj)}{σ:St}{H:Hp}{s:AC}(I:Inv X pins σ H s):interactive X.env=false:=by simp[interactive,I.ok.kind]
noncomputable def a3C (te:TE):TS:=fun D σ H=>te σ H fun _ H1=>D.nx σ H1
theorem nY (he:PE X e te)(hs:swapsWith e none pos.line X.env=pure false:=by rfl):PS X (.Expr e pos) (a3C te):=by
 intro pins s σ H D I h;exact wpAny_Expr_any (thn (he pins s σ H _ I h) fun v s1 ⟨x,H1,I1,r1,q1⟩=>⟨σ,H1,I1,q1⟩) I.quiet hs
noncomputable def aAX (te:TE):TS:=fun D σ H=>te σ H D.rt
theorem aW (he:PE X e te):PS X (.Return (some e) pos) (aAX te):=by
 intro pins s σ H D I h;exact wpAny_Return_some (thn (he pins s σ H _ I h) fun v s1 ⟨x,H1,I1,r1,q1⟩=>⟨x,σ,H1,I1,r1,q1⟩)
noncomputable def aC8 (c:TT)(t u:TS):TS:=fun D σ H=>c σ H fun b H1=>if b=true then t D σ H1 else u D σ H1
theorem bU {c:AN}{a b:List AS}{tc:TT}(hc:PT X c tc)(ha:PSs X a t)(hb:PSs X b u):PS X (.If c a b pos) (aC8 tc t u):=by
 intro pins s σ H D I h;refine wpAny_If (thn (hc pins s σ H _ I h) fun d s1 ⟨H1,I1,q1⟩=>?_)
 cases d with
 | true=>exact ha pins s1 σ H1 D I1 q1
 | false=>exact hb pins s1 σ H1 D I1 q1
end
abbrev TG:=V→St→Hp→(St→Hp→Prop)→Prop
noncomputable def PG (X:Cx)(target:AN)(t:TG):Prop:=
 ∀(pins:List (AA×Obj)) (s:AC) (σ:St) (H:Hp) (v:V) (u:AB) (Q:St→Hp→Prop),Inv X pins σ H s→RelV v u→t v σ H Q →
  AK (AF X.prog X.w) X.A (assign target X.env u) (fun _ s'=>∃ σ' H',Inv X pins σ' H' s'∧Q σ' H') X.xe s
abbrev aBF:=V→V→V→Hp→(Hp→Prop)→Prop
noncomputable def aC3 (X:Cx)(t:aBF):Prop:=
 ∀(pins:List (AA×Obj)) (s:AC) (σ:St) (H:Hp) (o i v:V) (ov iv u:AB) (Q:Hp→Prop),Inv X pins σ H s→RelV o ov→RelV i iv→RelV v u→t o i v H Q →
  AK (AF X.prog X.w) X.A (setItem ov iv u) (fun _ s'=>∃ H',Inv X pins σ H' s'∧Q H') X.xe s
section
variable {X:Cx}{pos:Pos}
noncomputable def a07 (i:Nat):TG:=fun v σ H Q=>Q (σ.set i (some v)) H
theorem fW {i:Nat}{x:Str}(hN:X.N.Nodup)(hi:X.N[i]?=some x)(hx:Loc X.env.scope x)(hf:X.fn x=true∨X.env.scope.names.lookup x=some .local:=by first|exact .inl rfl|exact .inr rfl|assumption):PG X (.Name x pos) (a07 i):=by
 intro pins s σ H v u Q I r h;exact wpAny_assign_Name (oX I hN hi hx r (fun s' I'=>⟨_,H,I',h⟩) hf)
noncomputable def aCN (to ti:TE)(t:aBF):TG:=fun v σ H Q=>to σ H fun o H1=>ti σ H1 fun i H2=>t o i v H2 fun H3=>Q σ H3
theorem a5E {o i:AN}{to ti:TE}{t:aBF}(ho:PE X o to)(hi:PE X i ti)(hs:aC3 X t)
  (ha:∀ v,assign (.Subscript o i pos) X.env v=(do
   let ov←CW [v] (Aa o X.env)
   let iv←CW [v,ov] (Aa i X.env)
   DA pos
   CW [v,ov,iv] (setItem ov iv v)
   release [v,ov,iv] []):=by intro _; rfl):PG X (.Subscript o i pos) (aCN to ti t):=by
 intro pins s σ H v u Q I r h;rw[ha];refine AO (CB (thn (ho pins s σ H _ I h) fun ov s1 ⟨x,H1,I1,r1,q1⟩=>?_));refine AO (CB (thn (hi pins s1 σ H1 _ I1 q1) fun iv s2 ⟨y,H2,I2,r2,q2⟩=>?_));refine AO (wpAny_standAt (AO (CB (thn (hs pins s2 σ H2 x y v ov iv u _ I2 r1 r2 r q2) fun _ s3 ⟨H3,I3,q3⟩=>?_))));exact wpAny_release ⟨σ,H3,I3,q3⟩
noncomputable def a9R (te:TE)(g:TG):TS:=fun D σ H=>te σ H fun x H1=>g x σ H1 D.nx
theorem a5J {tg e:AN}{te:TE}{g:TG}(he:PE X e te)(hg:PG X tg g)(hs:swapsWithSole [tg] e pos.line X.env=pure false:=by rfl)(hw:swappedStores [tg] e X.env=pure none:=by rfl)
  (h1:(assignEach [tg] X.env).map (·.2)=[assign tg X.env]:=by rfl):PS X (.Assign [tg] e pos) (a9R te g):=by
 intro pins s σ H D I h;refine wpAny_Assign_stores (thn (he pins s σ H _ I h) fun v s1 ⟨x,H1,I1,r1,q1⟩=>?_) hs hw;rw[h1];exact thn (hg pins s1 σ H1 x v _ I1 r1 q1) fun _ s2 q=>q
theorem bN {i:Nat}{x:Str}{e:AN}{te:TE}{pos':Pos}(hN:X.N.Nodup)(hi:X.N[i]?=some x)(hx:Loc X.env.scope x)(he:PE X e te)(hs:swapsWith e (some (.Name x pos')) pos.line X.env=pure false:=by rfl)(hf:X.fn x=true∨X.env.scope.names.lookup x=some .local:=by first|exact .inl rfl|exact .inr rfl|assumption) :
  PS X (.Assign [.Name x pos'] e pos) (a9R te (a07 i)):=by
 intro pins s σ H D I h;refine wpAny_Assign_Name (thn (he pins s σ H _ I h) fun v s1 ⟨y,H1,I1,r1,q1⟩=>?_) hs;exact oX I1 hN hi hx r1 (fun s2 I2=>⟨_,H1,I2,q1⟩) hf
noncomputable def aCF (i j:Nat)(ta:TA):TS:=fun D σ H=>ta σ H fun vs H1=>∃ v w,vs=[v,w]∧D.nx ((σ.set i (some v)).set j (some w)) H1
theorem a9C {i j:Nat}{x y:Str}{a b:AN}{ta:TA}{px py pt:Pos}{kt k2 pt2}(hc:X.calm=true)(hN:X.N.Nodup)(hi:X.N[i]?=some x)(hj:X.N[j]?=some y)(hij:i≠j)
  (hx:X.env.scope.names.lookup x=some .local) (hy:X.env.scope.names.lookup y=some .local) (ha:PA X [a,b] ta)
  (hw:swappedStores [.Tuple [.Name x px,.Name y py] kt pt] (.Tuple [a,b] k2 pt2) X.env=pure (some [x,y]))
  (hs:swapsWithSole [.Tuple [.Name x px,.Name y py] kt pt] (.Tuple [a,b] k2 pt2) pos.line X.env=pure false:=by rfl) :
  PS X (.Assign [.Tuple [.Name x px,.Name y py] kt pt] (.Tuple [a,b] k2 pt2) pos) (aCF i j ta):=by
 intro pins s σ H D I h;rw[exec_Assign_arm];refine AO (wpAny_standAt ?_);rw[hs];refine AO (Ab ?_);rw[if_neg (by decide)];refine AO (Tuple_ (thn (ha _ pins s σ H _ I h) fun us s1 ⟨vs,H1,I1,r1,q1⟩=>?_));obtain⟨v,w,e1,q1⟩:=q1;subst e1;obtain⟨u1,u2,rfl,rv,rw'⟩:∃ u1 u2,us=[u1,u2]∧RelV v u1∧RelV w u2:=by
  cases r1 with
  | cons p q=>
   cases q with
   | cons p' q'=>
    cases q'
    exact⟨_,_,rfl,p,p'⟩
 refine DB ?_ (by show 2≤sizeLine; decide);have I2:Inv X pins σ H1 { s1 with heap:=s1.heap.push { cls:=.type "tuple", data:=.seq [u1,u2].toArray } }:=I1.kept (t':=s1.toks) fun b o e=>An _ e;rw[hw];refine AO (Ab ?_);show AK (AF X.prog X.w) X.A (do rule "assign.swapped-stores"; let items←unpackItems (.ref s1.heap.objs.size) 2 none; assignInOrder [fun v=>bindName X.env y v,fun v=>bindName X.env x v] items.reverse; pure Flow.next) _ _ _;refine AO (CC (AO (unpackItems_tuple (items:=#[u1,u2]) (I.ok.hd hc) (IsTup.new s1.heap _) fun h' hx'=>?_)));have I3:=I2.kept (h':=h') (t':=s1.toks) fun b o e=>hx' b o (BB (Ai e)) e;show AK _ _ (assignInOrder [fun v=>bindName X.env y v,fun v=>bindName X.env x v] [u2,u1] >>= fun _=>pure Flow.next) _ _ _;refine AO (assignInOrder_cons (wpAny_bindName (oX I3 hN hj (.inl hy) rw' (fun s2 I4=>?_) (.inr hy))));refine assignInOrder_cons (wpAny_bindName (oX I4 hN hi (.inl hx) rv (fun s3 I5=>assignInOrder_nil (Ab ?_)) (.inr hx)));rw[List.set_comm _ _ (Ne.symm hij)] at I5;exact⟨_,H1,I5,q1⟩
end
section
variable {X:Cx}{pos:Pos}
noncomputable def a5C (c:TT)(tb:TS):TS:=fun D σ H=>∃ W:Nat→St→Hp→Prop,(∃ m,W m σ H)∧∀ m σ H,W m σ H →
 c σ H fun b H1=>if b=true then ∃ N:St→Hp→Prop,(∀ σ' H',N σ' H'→∃ m',m'<m∧W m' σ' H')∧tb { D with nx:=N,ct:=N,bk:=D.nx } σ H1 else D.nx σ H1
theorem wV {c:AN}{body:List AS}{tc:TT}{tb:TS}(hp:BA (AF X.prog X.w) X.A X.env X.xe)(hc:PT X c tc)(hb:PSs X body tb):PS X (.While c body [] pos) (a5C tc tb):=by
 intro pins s σ H D I h;obtain⟨W,⟨m0,w0⟩,turn⟩:=h;refine wpAny_While (codeAny_whileLoop (fun n s'=>∃ σ' H',Inv X pins σ' H' s'∧W n σ' H') ?_ m0 ⟨σ,H,I,w0⟩);rintro n s1 ⟨σ1,H1,I1,w1⟩;refine CY hp (thn (hc pins s1 σ1 H1 _ I1 (turn n σ1 H1 w1)) fun b s2 ⟨H2,I2,q2⟩=>?_)
 cases b with
 | true=>
  obtain⟨N,hN,q2⟩:=q2;rw[if_pos rfl];refine CY hp (thn (hb pins s2 σ1 H2 _ I2 q2) fun f s3 q3=>?_)
  cases f with
  | next=>
   obtain⟨σ3,H3,I3,n3⟩:=q3;obtain⟨m',hm,w3⟩:=hN σ3 H3 n3;exact⟨m',hm,σ3,H3,I3,w3⟩
  | cont=>
   obtain⟨σ3,H3,I3,n3⟩:=q3;obtain⟨m',hm,w3⟩:=hN σ3 H3 n3;exact⟨m',hm,σ3,H3,I3,w3⟩
  | brk=>exact q3
  | ret v=>exact q3
 | false=>
  rw[if_neg Dh];exact Dg ⟨σ1,H2,I2,q2⟩
end
structure It where
 go:Nat→Hp→Prop
 yld:Nat→Hp→V→Hp→Prop
 stop:Nat→Hp→Prop
noncomputable def a7C (X:Cx)(pins:List (AA×Obj))(H:Hp)(b:AA):Prop:=
 H b=none∧b≠X.env.locals∧b∉X.fs∧(b∈X.ex∨X.s₀.heap.objs.size≤b)∧(∀ x c,X.env.cells.lookup x=some c→c≠b)∧∀ p∈X.pn++pins,p.1≠b
theorem Inv.fpOk {X:Cx}{pins:List (AA×Obj)}{σ:St}{H H':Hp}{s:AC}{b:AA}(I:Inv X pins σ H s)(hb:s.heap.objs.size≤b)(hn:H' b=none):a7C X pins H' b:=by
 refine⟨hn,Nat.ne_of_gt (Az I.lt hb),I.nofs hb,.inr (BF I.sz hb),fun x c e z=>?_,fun p hp z=>?_⟩
 ·obtain⟨v,q⟩:=I.cell x c e;exact absurd (Az q.lt (by rw[z]; exact hb)) (B8 _)
 ·exact absurd (Az (Ai (I.pin p hp).1) (by rw[z]; exact hb)) (B8 _)
structure Turn (P:AQ)(w:AL)(K:AW)(tg:AN)(J:It)(fp:List AA)(it:AA)(tn:Nat→AH→Prop):Prop where
 mem:it∈fp
 obj:∀ i h,tn i h→∀ b∈fp,∃ o,h.get? b=some o∧∀ v,o.data≠.cell v
 keep:∀ i h h',tn i h→(∀ b∈fp,∀ o,h.get? b=some o→h'.get? b=some o)→tn i h'
 item:∀(X:Cx),X.prog=P→X.w=w→X.K=K→X.calm=true→∀(i:Nat) (pins:List (AA×Obj)) (s:AC) (σ:St) (H:Hp) (E:AB→AC→Prop),Inv X pins σ H s→(∀ b∈fp,a7C X pins H b)→tn i s.heap→J.go i H →
  AK (AF P w) X.A (pyNext (.ref it)) (fun r s1=>∃ u,r=some u ∧
   AK (AF P w) X.A (D5 tg (.ref it) u) (fun _ s2=>∃ x H',Inv X pins σ H' s2∧RelV x u∧J.yld i H x H'∧tn (i+1) s2.heap∧∀ b∈fp,H' b=none) E s1) E s
 done:∀(X:Cx),X.prog=P→X.w=w→X.K=K→X.calm=true→∀(i:Nat) (pins:List (AA×Obj)) (s:AC) (σ:St) (H:Hp) (E:AB→AC→Prop),Inv X pins σ H s→(∀ b∈fp,a7C X pins H b)→tn i s.heap→J.stop i H →
  AK (AF P w) X.A (pyNext (.ref it)) (fun r s1=>r=none∧Inv X pins σ H s1) E s
 self:∀(A:AR) (i:Nat) (s:AC) (Q:AB→AC→Prop) (E:AB→AC→Prop),tn i s.heap→Q (.ref it) s→AK (AF P w) A (pyIter (.ref it)) Q E s
abbrev TI:=St→Hp→(It→Hp→Prop)→Prop
noncomputable def PIE (X:Cx)(pins:List (AA×Obj))(σ:St)(tg:AN)(R:It→Hp→Prop)(itv:AB)(s2:AC):Prop:=
 ∃(it:AA) (fp:List AA) (tn:Nat→AH→Prop) (J:It) (H':Hp),itv=.ref it∧Inv X pins σ H' s2∧Turn X.prog X.w X.K tg J fp it tn∧tn 0 s2.heap∧(∀ b∈fp,a7C X pins H' b)∧R J H'
noncomputable def PI (X:Cx)(tg iter:AN)(wi:TI):Prop:=
 ∀(pins:List (AA×Obj)) (s:AC) (σ:St) (H:Hp) (R:It→Hp→Prop),Inv X pins σ H s→wi σ H R →
  AK (AF X.prog X.w) X.A (Aa iter X.env) (fun v s1=>AK (AF X.prog X.w) X.A (pyIter v) (PIE X pins σ tg R) X.xe s1) X.xe s
theorem a6J {M:Model}{A:AR}{E:AB→AC→Prop}{s:AC}{tg:AN}{it:AA}{u:AB}{o:Obj}{n:String}{vs:Array AB}{Q:Unit→AC→Prop}(ho:s.heap.get? it=some o)(hc:o.cls=.type n)(hd:o.data=.fields vs)
    (hn:["enumerate", "zip", "dict_itemiterator", "dict_reverseitemiterator", "odict_iterator", "itertools.zip_longest", "itertools.pairwise"].contains n=false) (hQ:Q () s):AK M A (D5 tg (.ref it) u) Q E s:=by
  unfold D5
  cases tg<;>first
    | exact Ab hQ
    | (cases u<;>first
        | exact Ab hQ
        | (refine AO (wpAny_load ho ?_)
           rw[hc,hd];show AK M A (if (["enumerate", "zip", "dict_itemiterator", "dict_reverseitemiterator", "odict_iterator", "itertools.zip_longest", "itertools.pairwise"].contains n&&vs[0]?==some (rawInt _))=true then _ else _) Q E s;rw[if_neg (by intro h; rw[hn,Bool.false_and] at h; cases h)];exact Ab hQ))
noncomputable def Itl (K:AW)(a:AA):It:=
 ⟨fun i H=>∃ xs x,SqL K H a xs∧xs[i]?=some x,fun i H x H'=>H'=H∧∀ xs,SqL K H a xs→xs[i]?=some x,fun i H=>∃ xs,SqL K H a xs∧xs.length≤i⟩
noncomputable def Itt (K:AW)(a:AA):It:=
 ⟨fun i H=>∃ xs x,SqT K H a xs∧xs[i]?=some x,fun i H x H'=>H'=H∧∀ xs,SqT K H a xs→xs[i]?=some x,fun i H=>∃ xs,SqT K H a xs∧xs.length≤i⟩
noncomputable def Itr (lo:Int)(n:Nat):It:=⟨fun i _=>i<n,fun i H x H'=>H'=H∧x=.int (lo+i),fun i _=>n≤i⟩
theorem a02 {P:AQ}{w:AL}{K:AW}{tg:AN}(a it:AA):Turn P w K tg (Itl K a) [it] it (fun i h=>h.IsListIter it a i) where
 mem:=by simp
 obj:=fun i h st b hb=>by
  have e:b=it:=by simpa using hb
  subst e;obtain⟨o,e,c,d⟩:=st;exact⟨o,e,fun v z=>by rw[d] at z; cases z⟩
 keep:=fun i h h' st k=>st.at fun o e=>k it (by simp) o e
 item:=by
  intro X hP hw hK hc i pins s σ H E I hf st hg;subst hP hw hK;obtain⟨xs,x,hq,hx⟩:=hg;obtain⟨its,rv,p,hz⟩:=I.list hq;obtain⟨u,hu,ru⟩:=rv.get hx;obtain⟨f0,f1,f2,f3,f4,f5⟩:=hf it (by simp);refine wpAny_pyNext_list_item st p.isList (x:=u) (by simpa using hu) fun h' st' sb=>?_;have I1:Inv X pins σ H { s with heap:=h' }:=I.turned (t':=s.toks) (fun b o hb e=>(sb.2 b hb).trans e) f0 f1 f3 f4 f5;obtain⟨o,e,c,d⟩:=id st';exact⟨u,rfl,a6J (s:={ s with heap:=h' }) e c d (by decide) ⟨x,H,I1,ru,⟨rfl,fun ys hy=>by rw[I.list_inj hy hq]; exact hx⟩,st',fun b hb=>(hf b hb).1⟩⟩
 done:=by
  intro X hP hw hK hc i pins s σ H E I hf st hg;subst hP hw hK;obtain⟨xs,hq,hx⟩:=hg;obtain⟨its,rv,p,hz⟩:=I.list hq;obtain⟨f0,f1,f2,f3,f4,f5⟩:=hf it (by simp);have hl:=rv.length;exact wpAny_pyNext_list_end (I.ok.hd hc) st p.isList (by simp; omega) fun h' eb=>⟨rfl,I.turned (t':=s.toks) (fun b o hb e=>eb b o hb e) f0 f1 f3 f4 f5⟩
 self:=fun _ _ _ _ _ st h=>wpAny_pyIter_listiter st h
theorem yR {P:AQ}{w:AL}{K:AW}{tg:AN}(a it:AA):Turn P w K tg (Itt K a) [it] it (fun i h=>h.IsTupleIter it a i) where
 mem:=by simp
 obj:=fun i h st b hb=>by
  have e:b=it:=by simpa using hb
  subst e;obtain⟨o,e,c,d⟩:=st;exact⟨o,e,fun v z=>by rw[d] at z; cases z⟩
 keep:=fun i h h' st k=>st.at fun o e=>k it (by simp) o e
 item:=by
  intro X hP hw hK hc i pins s σ H E I hf st hg;subst hP hw hK;obtain⟨xs,x,hq,hx⟩:=hg;obtain⟨its,rv,p,hz⟩:=I.tuple hq;obtain⟨u,hu,ru⟩:=rv.get hx;obtain⟨f0,f1,f2,f3,f4,f5⟩:=hf it (by simp);refine wpAny_pyNext_tuple_item st (show s.heap.IsTuple a its.toArray from p) (x:=u) (by simpa using hu) fun h' st' sb=>?_;have I1:Inv X pins σ H { s with heap:=h' }:=I.turned (t':=s.toks) (fun b o hb e=>(sb.2 b hb).trans e) f0 f1 f3 f4 f5;obtain⟨o,e,c,d⟩:=id st';exact⟨u,rfl,a6J (s:={ s with heap:=h' }) e c d (by decide) ⟨x,H,I1,ru,⟨rfl,fun ys hy=>by rw[I.tuple_inj hy hq]; exact hx⟩,st',fun b hb=>(hf b hb).1⟩⟩
 done:=by
  intro X hP hw hK hc i pins s σ H E I hf st hg;subst hP hw hK;obtain⟨xs,hq,hx⟩:=hg;obtain⟨its,rv,p,hz⟩:=I.tuple hq;obtain⟨f0,f1,f2,f3,f4,f5⟩:=hf it (by simp);have hl:=rv.length;exact wpAny_pyNext_tuple_end (I.ok.hd hc) st (show s.heap.IsTuple a its.toArray from p) (by simp; omega) fun h' eb=>⟨rfl,I.turned (t':=s.toks) (fun b o hb e=>eb b o hb e) f0 f1 f3 f4 f5⟩
 self:=fun _ _ _ _ _ st h=>wpAny_pyIter_tupleiter st h
theorem yK {P:AQ}{w:AL}{K:AW}{tg:AN}(it:AA)(lo:Int)(n:Nat):Turn P w K tg (Itr lo n) [it] it (fun i h=>IsRangeIter h it (lo+(i:Nat)*1) ((n:Int)-(i:Nat)) 1) where
 mem:=by simp
 obj:=fun i h st b hb=>by
  have e:b=it:=by simpa using hb
  subst e;exact⟨_,st,fun v z=>by
   have z':Data.fields _=Data.cell v:=z
   cases z'⟩
 keep:=fun i h h' st k=>k it (by simp) _ st
 item:=by
  intro X hP hw hK hc i pins s σ H E I hf st hg;subst hP hw hK;obtain⟨f0,f1,f2,f3,f4,f5⟩:=hf it (by simp);have W:=Walks.range (prog:=X.prog) (w:=X.w) (I.ok.hd hc) it lo 1 n;refine W.item i s _ _ hg st fun v h' tk hv st' kk=>?_;obtain⟨t,rfl⟩:=hv;have I1:Inv X pins σ H { s with heap:=h',toks:=tk }:=I.turned (fun b o hb e=>kk b o (by simpa using hb) e) f0 f1 f3 f4 f5;refine⟨_,rfl,a6J (s:={ s with heap:=h',toks:=tk }) (n := "range_iterator") st' rfl rfl (by decide) ⟨.int (lo+i),H,I1,⟨t,?_⟩,⟨rfl,rfl⟩,st',fun b hb=>(hf b hb).1⟩⟩;rw[Int.mul_one]
 done:=by
  intro X hP hw hK hc i pins s σ H E I hf st hg;subst hP hw hK;obtain⟨f0,f1,f2,f3,f4,f5⟩:=hf it (by simp);exact wpAny_pyNext_range_end (I.ok.hd hc) st (by have:n≤i:=hg; omega) fun h' eb=>⟨rfl,I.turned (t':=s.toks) (fun b o hb e=>eb b o hb e) f0 f1 f3 f4 f5⟩
 self:=fun _ _ _ _ _ st h=>wpAny_pyIter_rangeiter st h
end L2
namespace L2
open PySem PySem.Spec PyProof.Rows
section
variable {X:Cx}{tg:AN}
noncomputable def a8R (K:AW)(tl:TE):TI:=fun σ H R=>tl σ H fun x H1=>∃ a,x=.ref a∧(∃ xs,SqL K H1 a xs)∧R (Itl K a) H1
noncomputable def aCE (K:AW)(tl:TE):TI:=fun σ H R=>tl σ H fun x H1=>∃ a,x=.ref a∧(∃ xs,SqT K H1 a xs)∧R (Itt K a) H1
theorem a68 {l:AN}{tl:TE}(hl:PE X l tl):PI X tg l (a8R X.K tl):=by
 intro pins s σ H R I h;refine thn (hl pins s σ H _ I h) fun v s1 ⟨x,H1,I1,r1,q1⟩=>?_;obtain⟨a,e,⟨xs,hq⟩,q⟩:=q1;subst e
 cases r1
 obtain⟨its,rv,p,hz⟩:=I1.list hq;refine wpAny_pyIter_list p.isList ?_;refine⟨s1.heap.objs.size,[s1.heap.objs.size],_,_,H1,rfl,I1.kept (t':=s1.toks) fun b o e=>An _ e,a02 a _,⟨_,Bh _ rfl,rfl,rfl⟩,fun b hb=>?_,q⟩;have e:b=s1.heap.objs.size:=by simpa using hb
 subst e;exact I1.fpOk (AT _) (I1.hok.fresh (AT _))
theorem jH {l:AN}{tl:TE}(hl:PE X l tl):PI X tg l (aCE X.K tl):=by
 intro pins s σ H R I h;refine thn (hl pins s σ H _ I h) fun v s1 ⟨x,H1,I1,r1,q1⟩=>?_;obtain⟨a,e,⟨xs,hq⟩,q⟩:=q1;subst e
 cases r1
 obtain⟨its,rv,p,hz⟩:=I1.tuple hq;refine wpAny_pyIter_tuple (show s1.heap.IsTuple a its.toArray from p) ?_;refine⟨s1.heap.objs.size,[s1.heap.objs.size],_,_,H1,rfl,I1.kept (t':=s1.toks) fun b o e=>An _ e,yR a _,⟨_,Bh _ rfl,rfl,rfl⟩,fun b hb=>?_,q⟩;have e:b=s1.heap.objs.size:=by simpa using hb
 subst e;exact I1.fpOk (AT _) (I1.hok.fresh (AT _))
theorem a2Q {pins:List (AA×Obj)}{σ:St}{H:Hp}{s:AC}{R:It→Hp→Prop}{E:AB→AC→Prop}{lo hi:Int}{t u v:Tok}{tk:Nat}(I:Inv X pins σ H s)(h1 : -(2^62)≤lo)(h2:lo<2^62)(h3 : -(2^62)≤hi)(h4:hi<2^62)
  (q:R (Itr lo (hi-lo).toNat) H):AK (AF X.prog X.w) X.A (pyIter (.ref s.heap.objs.size)) (PIE X pins σ tg R) E { s with heap:=s.heap.push { cls:=.type "range", data:=.fields #[.int lo t,.int hi u,.int 1 v] },toks:=tk }:=by
 refine wpAny_pyIter_range (IsRange.new ..) (small_one h1 h2 h3 h4) ?_;have I1:Inv X pins σ H { s with heap:=s.heap.push { cls:=.type "range", data:=.fields #[.int lo t,.int hi u,.int 1 v] },toks:=tk }:=I.kept fun b o e=>An _ e;refine⟨(s.heap.push { cls:=.type "range", data:=.fields #[.int lo t,.int hi u,.int 1 v] }).objs.size,[(s.heap.push { cls:=.type "range", data:=.fields #[.int lo t,.int hi u,.int 1 v] }).objs.size],_,_,H,rfl,
  I1.kept (t':=tk) fun b o e=>An _ e,yK _ lo (hi-lo).toNat,?_,fun b hb=>?_,q⟩
 ·have e1:lo+((0:Nat):Int)*1=lo:=by simp
  have e2:(((hi-lo).toNat:Nat):Int)-((0:Nat):Int)=Al.Range.rangeSize lo hi 1:=by rw[rangeSize_one]; split<;>omega
  show IsRangeIter _ _ (lo+((0:Nat):Int)*1) ((((hi-lo).toNat:Nat):Int)-((0:Nat):Int)) 1;rw[e1,e2];exact Bh _ rfl
 ·have e:b=(s.heap.push { cls:=.type "range", data:=.fields #[.int lo t,.int hi u,.int 1 v] }).objs.size:=by simpa using hb
  subst e;exact I1.fpOk (AT _) (I1.hok.fresh (AT _))
noncomputable def a7Y (ta:TA):TI:=fun σ H R=>ta σ H fun vs H1=>∃ j:Int,vs=[.int j] ∧ -(2^62)≤j∧j<2^62∧R (Itr 0 j.toNat) H1
theorem a2D {a:AN}{ta:TA}{p pos:Pos}(hg:Gl X "range")(hm:X.mg "range" = none)(ha:PA X [a] ta)(hs:Ak [a] X.env=[(false,Aa a X.env)]:=by rfl):PI X tg (.Call (.Name "range" p) [a] [] pos) (a7Y ta):=by
 intro pins s σ H R I h;refine Call_ (wI I hg hm boot_range (Eb (thn (ha pos pins s σ H _ I h) fun us s1 ⟨vs,H1,I1,r1,q1⟩=>?_) hs rfl));obtain⟨j,e,q1,q2,q⟩:=q1;subst e
 cases r1 with
 | cons r rr=>
  cases rr
  obtain⟨t,rfl⟩:=r;exact call_range_1 (a2Q I1 (by omega) (by omega) q1 q2 (by simpa using q))
noncomputable def aCH (wi:TI)(g:TG)(tb:TS):TS:=fun D σ H=>wi σ H fun J H1=>∃ W:Nat→Nat→St→Hp→Prop,(∃ m,W 0 m σ H1)∧∀ i m σ H,W i m σ H →
 (J.stop i H∧D.nx σ H)∨(J.go i H∧∃ N:St→Hp→Prop,(∀ σ' H',N σ' H'→∃ m',m'<m∧W (i+1) m' σ' H')∧∀ x H',J.yld i H x H'→g x σ H' fun σ2 H2=>tb { D with nx:=N,ct:=N,bk:=D.nx } σ2 H2)
noncomputable def xK (fp:List AA)(h:AH):List (AA×Obj):=fp.filterMap fun b=>(h.get? b).map fun o=>(b,o)
theorem qY {fp:List AA}{h:AH}{b:AA}{o:Obj}(hb:b∈fp)(e:h.get? b=some o):(b,o)∈xK fp h:=DR.mpr ⟨b,hb,by rw[e]; rfl⟩
theorem a1N {fp:List AA}{h:AH}{p:AA×Obj}(hp:p∈xK fp h):p.1∈fp∧h.get? p.1=some p.2:=by
 obtain⟨b,hb,e⟩:=DR.mp hp
 cases q:h.get? b with
 | none=>rw[q] at e; cases e
 | some o=>
  rw[q] at e;have e':(b,o)=p:=A1.inj e;subst e';exact⟨hb,q⟩
theorem Inv.pinned {pins:List (AA×Obj)}{σ:St}{H:Hp}{s:AC}{fp:List AA}(I:Inv X pins σ H s)(hf:∀ b∈fp,a7C X pins H b)(ho:∀ b∈fp,∃ o,s.heap.get? b=some o∧∀ v,o.data≠.cell v):Inv X (pins++xK fp s.heap) σ H s:=
 I.pins_of fun p hp=>(A7.mp hp).elim (fun z=>I.pin p (BE _ z)) fun z=>by
  obtain⟨hb,e⟩:=a1N z;obtain⟨f0,f1,f2,_⟩:=hf p.1 hb;obtain⟨o,e',d⟩:=ho p.1 hb;rw[e] at e'; cases e';exact⟨e,f0,f1,f2,d⟩
theorem Inv.unpinned {pins pl:List (AA×Obj)}{σ:St}{H:Hp}{s:AC}(I:Inv X (pins++pl) σ H s):Inv X pins σ H s:=I.pins_of fun p hp=>I.pin p (BE _ (BO _ hp))
theorem iH {iter:AN}{body:List AS}{wi:TI}{g:TG}{tb:TS}{pos:Pos}(hp:BA (AF X.prog X.w) X.A X.env X.xe)(hc:X.calm=true)(hi:PI X tg iter wi)(hg:PG X tg g)(hb:PSs X body tb)
  (hs:∀ x,foldedSetIterable iter X.env x=pure x:=by intro _; rfl):PS X (.For tg iter body [] pos) (aCH wi g tb):=by
 intro pins s σ H D I h;refine wpAny_For (thn (hi pins s σ H _ I h) fun v s1 h1=>thn h1 fun itv s2 h2=>?_) hs;obtain⟨it,fp,tn,J,H2,e,I2,T,st2,f2,W,⟨m0,w0⟩,turn⟩:=h2;subst e;have stat:∀{H':Hp},(∀ b∈fp,H' b=none)→∀ b∈fp,a7C X pins H' b:=fun hn b hb=>⟨hn b hb,(f2 b hb).2⟩;refine codeAny_forLoop_any (fun n s'=>∃ i σ' H',Inv X pins σ' H' s'∧tn i s'.heap∧(∀ b∈fp,H' b=none)∧W i n σ' H') ?_ m0 ⟨0,σ,H2,I2,st2,fun b hb=>(f2 b hb).1,w0⟩;rintro n s3 ⟨i,σ3,H3,I3,st3,fr3,w3⟩;rcases turn i n σ3 H3 w3 with⟨stop,qn⟩|⟨go,N,hN,step⟩
 ·refine CY hp (thn (T.done X rfl rfl rfl hc i pins s3 σ3 H3 X.xe I3 (stat fr3) st3 stop) fun r s4 ⟨hr,I4⟩=>?_);subst hr;exact Dg ⟨σ3,H3,I4,qn⟩
 ·refine CY hp (thn (T.item X rfl rfl rfl hc i pins s3 σ3 H3 X.xe I3 (stat fr3) st3 go) fun r s4 ⟨u,hr,h4⟩=>?_);subst hr;refine CY hp (thn h4 fun _ s5 ⟨x,H5,I5,r5,y5,st5,fr5⟩=>?_);have I5':=I5.pinned (stat fr5) (T.obj _ _ st5);refine CY hp (thn (hg _ s5 σ3 H5 x u _ I5' r5 (step x H5 y5)) fun _ s6 ⟨σ6,H6,I6,q6⟩=>?_);refine CY hp (thn (hb _ s6 σ6 H6 _ I6 q6) fun f s7 q7=>?_);have again:∀{σ7:St} {H7:Hp},Inv X (pins++xK fp s5.heap) σ7 H7 s7→N σ7 H7→∃ m,m<n∧∃ i σ' H',Inv X pins σ' H' s7∧tn i s7.heap∧(∀ b∈fp,H' b=none)∧W i m σ' H':=fun{σ7 H7} I7 n7=>by
   obtain⟨m',hm,w7⟩:=hN σ7 H7 n7;refine⟨m',hm,i+1,σ7,H7,I7.unpinned,T.keep _ _ _ st5 fun b hb o e=>(I7.pin (b,o) (BE _ (BE _ (qY hb e)))).1,fun b hb=>?_,w7⟩;obtain⟨o,e,d⟩:=T.obj _ _ st5 b hb;exact(I7.pin (b,o) (BE _ (BE _ (qY hb e)))).2.1
  cases f with
  | next=>obtain⟨σ7,H7,I7,n7⟩:=q7; exact again I7 n7
  | cont=>obtain⟨σ7,H7,I7,n7⟩:=q7; exact again I7 n7
  | brk=>obtain⟨σ7,H7,I7,q7⟩:=q7; exact⟨σ7,H7,I7.unpinned,q7⟩
  | ret v=>obtain⟨x7,σ7,H7,I7,r7,q7⟩:=q7; exact⟨x7,σ7,H7,I7.unpinned,r7,q7⟩
end
end L2
namespace L2
open PySem PySem.Spec PyProof.Rows
abbrev R2:=V→V→Hp→VK→Prop
noncomputable def OpR (X:Cx)(f:AB→AB→Sem AB)(r:R2):Prop:=
 ∀(pins:List (AA×Obj)) (s:AC) (σ:St) (H:Hp) (x y:V) (v u:AB) (Q:VK),Inv X pins σ H s→RelV x v→RelV y u→r x y H Q →
  AK (AF X.prog X.w) X.A (f v u) (EP X pins σ Q) X.xe s
noncomputable def UnR (X:Cx)(f:AB→Sem AB)(r:V→Hp→VK→Prop):Prop:=
 ∀(pins:List (AA×Obj)) (s:AC) (σ:St) (H:Hp) (x:V) (v:AB) (Q:VK),Inv X pins σ H s→RelV x v→r x H Q →
  AK (AF X.prog X.w) X.A (f v) (EP X pins σ Q) X.xe s
noncomputable def CallR (X:Cx)(f:AB)(r:List V→Hp→VK→Prop):Prop:=
 ∀(pins:List (AA×Obj)) (s:AC) (σ:St) (H:Hp) (xs:List V) (us:List AB) (Q:VK),Inv X pins σ H s→Vals xs us→r xs H Q →
  AK (AF X.prog X.w) X.A (call f us) (EP X pins σ Q) X.xe s
noncomputable def tOp (r:R2)(ta tb:TE):TE:=fun σ H Q=>ta σ H fun x H1=>tb σ H1 fun y H2=>r x y H2 Q
noncomputable def tUn (r:V→Hp→VK→Prop)(ta:TE):TE:=fun σ H Q=>ta σ H fun x H1=>r x H1 Q
noncomputable def rI (C:Int→Int→Prop)(g:Int→Int→V):R2:=fun x y H Q=>∃ i j,x=.int i∧y=.int j∧C i j∧Q (g i j) H
noncomputable def rI0 (g:Int→Int→V):R2:=fun x y H Q=>∃ i j,x=.int i∧y=.int j∧Q (g i j) H
noncomputable def rU (g:Int→V):V→Hp→VK→Prop:=fun x H Q=>∃ i,x=.int i∧Q (g i) H
section
variable {X:Cx}{a b c:AN}{ta tb tc:TE}{pos:Pos}
theorem aBD (ha:PE X a ta)(hb:PE X b tb){pins:List (AA×Obj)}{s:AC}{σ:St}{H:Hp}{R:V→V→Hp→Prop}(I:Inv X pins σ H s)
  (h:ta σ H fun x H1=>tb σ H1 fun y H2=>R x y H2) {Q:AB→AC→Prop} {f:AB→AB→Sem AB}
  (hf:∀ v u s2 x y H2,Inv X pins σ H2 s2→RelV x v→RelV y u→R x y H2→AK (AF X.prog X.w) X.A (f v u) Q X.xe s2) :
  AK (AF X.prog X.w) X.A (Aa a X.env) (fun v s₁=>AK (AF X.prog X.w) X.A (Aa b X.env) (fun u s₂=>AK (AF X.prog X.w) X.A (f v u) Q X.xe s₂) X.xe s₁) X.xe s:=by
 refine thn (ha pins s σ H _ I h) fun v s1 ⟨x,H1,I1,r1,q1⟩=>?_;refine thn (hb pins s1 σ H1 _ I1 q1) fun u s2 ⟨y,H2,I2,r2,q2⟩=>?_;exact hf v u s2 x y H2 I2 r1 r2 q2
theorem bA {op:Operator}{r:R2}(ho:OpR X (Bn op) r)(ha:PE X a ta)(hb:PE X b tb):PE X (.BinOp a op b pos) (tOp r ta tb):=by
 intro pins s σ H Q I h;exact wpAny_BinOp (aBD ha hb I h fun v u s2 x y H2 I2 rx ry q=>ho pins s2 σ H2 x y v u Q I2 rx ry q)
theorem aAD {op:UnaryOp}{r:V→Hp→VK→Prop}(ho:UnR X (unaryOp op) r)(ha:PE X a ta):PE X (.UnaryOp op a pos) (tUn r ta):=by
 intro pins s σ H Q I h;exact UnaryOp_ (thn (ha pins s σ H _ I h) fun v s1 ⟨x,H1,I1,r1,q1⟩=>ho pins s1 σ H1 x v Q I1 r1 q1)
theorem opI {f:AB→AB→Sem AB}{C:Int→Int→Prop}{g:Int→Int→Int}
  (rule:∀(i j:Int) (t u:Tok) (s:AC) (Q:AB→AC→Prop) (E:AB→AC→Prop),C i j→Q (.int (g i j) s.toks) { s with toks:=s.toks+1 }→AK (AF X.prog X.w) X.A (f (.int i t) (.int j u)) Q E s) :
  OpR X f (rI C fun i j=>.int (g i j)):=by
 intro pins s σ H x y v u Q I rx ry h;obtain⟨i,j,rfl,rfl,hc,q⟩:=h;obtain⟨t,rfl⟩:=rx;obtain⟨t',rfl⟩:=ry;exact rule i j t t' s _ _ hc ⟨.int (g i j),H,I.tok _,⟨_,rfl⟩,q⟩
theorem aC2 {f:AB→AB→Sem AB}{g:Int→Int→Int}
  (rule:∀(i j:Int) (t u:Tok) (s:AC) (Q:AB→AC→Prop) (E:AB→AC→Prop),Q (.int (g i j) s.toks) { s with toks:=s.toks+1 }→AK (AF X.prog X.w) X.A (f (.int i t) (.int j u)) Q E s) :
  OpR X f (rI0 fun i j=>.int (g i j)):=by
 intro pins s σ H x y v u Q I rx ry h;obtain⟨i,j,rfl,rfl,q⟩:=h;obtain⟨t,rfl⟩:=rx;obtain⟨t',rfl⟩:=ry;exact rule i j t t' s _ _ ⟨.int (g i j),H,I.tok _,⟨_,rfl⟩,q⟩
theorem aBK {f:AB→AB→Sem AB}{g:Int→Int→Bool}
  (rule:∀(i j:Int) (t u:Tok) (s:AC) (Q:AB→AC→Prop) (E:AB→AC→Prop),Q (.bool (g i j)) s→AK (AF X.prog X.w) X.A (f (.int i t) (.int j u)) Q E s) :
  OpR X f (rI0 fun i j=>.bl (g i j)):=by
 intro pins s σ H x y v u Q I rx ry h;obtain⟨i,j,rfl,rfl,q⟩:=h;obtain⟨t,rfl⟩:=rx;obtain⟨t',rfl⟩:=ry;exact rule i j t t' s _ _ ⟨.bl (g i j),H,I,rfl,q⟩
noncomputable def a9V (i j:Int):Prop:=0<j∧j<1073741824
noncomputable def a7Q (i j:Int):Prop:=0≤j∧j≤1000000∧i.natAbs<2^64
theorem bM:OpR X (Bn .Add) (rI0 fun i j=>.int (i+j)):=aC2 fun _ _ _ _ _ _ _ q=>add_int q
theorem uO:OpR X (Bn .Sub) (rI0 fun i j=>.int (i-j)):=aC2 fun _ _ _ _ _ _ _ q=>sub_int q
theorem v5:OpR X (Bn .FloorDiv) (rI a9V fun i j=>.int (i/j)):=opI fun i j _ _ _ _ _ hc q=>by
 have h1:(0:Int)<j:=hc.1;have h2:j<1073741824:=hc.2;exact floordiv_int (by omega) (by rw[Ec i (by omega)]; exact q) (.inl (PyProof.noPylong_small (by omega)))
theorem jU:OpR X (Bn .Mod) (rI (fun _ j=>0<j) fun i j=>.int (i%j)):=opI fun i j _ _ _ _ _ hc q=>by
 have h1:(0:Int)<j:=hc;exact mod_int' (by omega) (by rw[Int.fmod_eq_emod_of_nonneg i (by omega)]; exact q)
theorem a8Z:OpR X (Bn .Pow) (rI a7Q fun i j=>.int (i^j.toNat)):=opI fun _ _ _ _ _ _ _ hc q=>pow_int_small hc.1 hc.2.1 hc.2.2 q
theorem lU:OpR X (Bn .LShift) (rI a7Q fun i j=>.int (i*2^j.toNat)):=opI fun _ _ _ _ _ _ _ hc q=>lshift_int_small hc.1 hc.2.1 hc.2.2 q
theorem unI {f:AB→Sem AB}{g:Int→Int}
  (rule:∀(i:Int) (t:Tok) (s:AC) (Q:AB→AC→Prop) (E:AB→AC→Prop),Q (.int (g i) s.toks) { s with toks:=s.toks+1 }→AK (AF X.prog X.w) X.A (f (.int i t)) Q E s) :
  UnR X f (rU fun i=>.int (g i)):=by
 intro pins s σ H x v Q I rx h;obtain⟨i,rfl,q⟩:=h;obtain⟨t,rfl⟩:=rx;exact rule i t s _ _ ⟨.int (g i),H,I.tok _,⟨_,rfl⟩,q⟩
theorem a8E:UnR X (unaryOp .USub) (rU fun i=>.int (-i)):=unI fun _ _ _ _ _ q=>neg_int q
end
section
variable {X:Cx}{a b c:AN}{ta tb tc:TE}{pos:Pos}
theorem a5M {pins:List (AA×Obj)}{σ:St}{H:Hp}{s:AC}{Q:VK}{k k':Bool}(I:Inv X pins σ H s)(q:Q (.bl k) H)(e:k=k'):EP X pins σ Q (.bool k') s:=by
 subst e;exact⟨.bl k,H,I,rfl,q⟩
theorem vU:OpR X (BQ .Lt) (rI0 fun i j=>.bl (decide (i<j))):=aBK fun _ _ _ _ _ _ _ q=>lt_int q
theorem mG:OpR X (BQ .Gt) (rI0 fun i j=>.bl (decide (j<i))):=aBK fun _ _ _ _ _ _ _ q=>gt_int q
theorem qD:OpR X (BQ .GtE) (rI0 fun i j=>.bl (decide (j≤i))):=aBK fun _ _ _ _ _ _ _ q=>ge_int q
theorem dD:OpR X (BQ .Is) (fun x y H Q=>y=.non∧Q (.bl (decide (x=.non))) H):=by
 intro pins s σ H x y v u Q I rx ry h;obtain⟨rfl,q⟩:=h
 cases ry
 refine is_none_gen (a5M I q ?_)
 cases x<;>first
  | (cases rx; rfl)
  | (obtain⟨t,rfl⟩:=rx; rfl)
theorem gC:OpR X (BQ .IsNot) (fun x y H Q=>y=.non∧Q (.bl (!decide (x=.non))) H):=by
 intro pins s σ H x y v u Q I rx ry h;obtain⟨rfl,q⟩:=h
 cases ry
 refine isnot_none_gen (a5M I q ?_)
 cases x<;>first
  | (cases rx; rfl)
  | (obtain⟨t,rfl⟩:=rx; rfl)
theorem aZ (b:AN){op:CmpOp}(h:op≠.In:=by decide)(h2:op≠.NotIn:=by decide):C8 op b=false:=by
 have e1:(op==CmpOp.In)=false:=by cases op<;>first|rfl|exact absurd rfl h
 have e2:(op==CmpOp.NotIn)=false:=by cases op<;>first|rfl|exact absurd rfl h2
 cases b<;>simp[C8,e1,e2]
theorem iR {op:CmpOp}{r:R2}(ho:OpR X (BQ op) r)(ha:PE X a ta)(hb:PE X b tb)(hm:C8 op b=false):PE X (.Compare a [op] [b] pos) (tOp r ta tb):=by
 intro pins s σ H Q I h;exact wpAny_Compare1 (aBD ha hb I h fun v u s2 x y H2 I2 rx ry q=>ho pins s2 σ H2 x y v u Q I2 rx ry q) hm
noncomputable def a8T (t:TE):TT:=fun σ H Q=>t σ H fun x H'=>∃ k,x=.bl k∧Q k H'
theorem aP {op:CmpOp}{r:R2}(ho:OpR X (BQ op) r)(ha:PE X a ta)(hb:PE X b tb)(hm:C8 op b=false):PT X (.Compare a [op] [b] pos) (a8T (tOp r ta tb)):=by
 intro pins s σ H Q I h;refine Ea (thn (ha pins s σ H _ I h) fun v s1 ⟨x,H1,I1,r1,q1⟩=>thn (hb pins s1 σ H1 _ I1 q1) fun u s2 ⟨y,H2,I2,r2,q2⟩=>
  thn (ho pins s2 σ H2 x y v u _ I2 r1 r2 q2) fun c s3 ⟨z,H3,I3,r3,k,e,q3⟩=>?_) hm
 subst e
 cases r3
 exact C9 ⟨H3,I3,q3⟩
theorem uD:(sizeLine:Nat)<2^63:=by rw[Bj]; decide
theorem vals1 {x:V}{us:List AB}(r:Vals [x] us):∃ u,us=[u]∧RelV x u:=by
 cases r with
 | cons r1 r2=>cases r2; exact⟨_,rfl,r1⟩
theorem vals2 {x y:V}{us:List AB}(r:Vals [x,y] us):∃ u w',us=[u,w']∧RelV x u∧RelV y w':=by
 cases r with
 | cons r1 r2=>
  cases r2 with
  | cons r3 r4=>cases r4; exact⟨_,_,rfl,r1,r3⟩
theorem a2V:CallR X (.builtin "abs") (fun xs H Q=>∃ i,xs=[.int i]∧Q (.int (if i<0 then -i else i)) H):=by
 intro pins s σ H xs us Q I r h;obtain⟨i,rfl,q⟩:=h;obtain⟨u,rfl,t,rfl⟩:=vals1 r;exact call_abs_int fun u tk=>⟨.int (if i<0 then -i else i),H,I.tok _,⟨_,rfl⟩,q⟩
theorem a2I:CallR X (.type "int") (fun xs H Q=>(∃ i,xs=[.int i]∧Q (.int i) H)∨∃ k,xs=[.bl k]∧Q (.int (if k then 1 else 0)) H):=by
 intro pins s σ H xs us Q I r h;rcases h with⟨i,rfl,q⟩|⟨k,rfl,q⟩
 ·obtain⟨u,rfl,t,rfl⟩:=vals1 r;exact call_int_int ⟨.int i,H,I,⟨_,rfl⟩,q⟩
 ·obtain⟨u,rfl,r1⟩:=vals1 r
  cases r1
  exact call_int_bool ⟨.int (if k then 1 else 0),H,I.tok _,⟨_,rfl⟩,q⟩
end
end L2
namespace L2
open PySem PySem.Spec PyProof.Rows
structure ObjM (h:AH)(x dx C:AA)(mA:Str→Option AB):Prop where
 obj:h.get? x=some (Bw C dx)
 ns:h.Ns1 dx mA
 ne:dx≠x
theorem a1I {h:AH}{dx:AA}{mA:Str→Option AB}(n:h.Ns1 dx mA):∃ od,h.get? dx=some od∧∀ name,lookIn name od=some (mA name):=by
 obtain⟨o,es,ep,ho,hd,hk,_,hm⟩:=n;refine⟨o,ho,fun name=>?_⟩;have e:=hm name;unfold nsFind findBy at e;rw[← Array.find?_toList] at e;unfold lookIn;rw[hd];dsimp only
 split
 ·rename_i y q
  rw[q] at e;exact congrArg some e
 ·rename_i q
  rw[q] at e;have a:es.toList.any (·.refKey)=false:=by
   rw[List.any_eq_false];intro y hy;obtain⟨z,t,hkey⟩:=hk y (Array.mem_toList_iff.mp hy);simp[DictEntry.refKey,hkey]
  have a':¬es.toList.any (·.refKey)=true:=by rw[a]; exact Dh
  rw[if_neg a'];exact congrArg some e
theorem ObjM.look {h:AH}{x dx C:AA}{mA:Str→Option AB}(I:ObjM h x dx C mA):∃ od,PySem.W.InstAt h x (Bw C dx) C (some od)∧∀ name,lookIn name od=some (mA name):=
 let ⟨od,ho,hl⟩:=a1I I.ns
 ⟨od,⟨I.obj,rfl,rfl,ho⟩,hl⟩
section
variable {prog:AQ}{w:AL}{A:AR}{E:AB→AC→Prop}{s:AC}{K:AW}{x dx C f:AA}{mA:Str→Option AB}{name:Str}{v:AB}
theorem a6T {expr:Bool}{Q:AB→AC→Prop}(X:K.In s.heap)(I:ObjM s.heap x dx C mA)(hg:Cz K C name=true)(hh:DU K C=true)
  (ha:Ax K (.ref C) name=some none) (hv:mA name=some v) (hv':handedIn v=true) (h:Q v { s with toks:=s.toks+1 }) :
  AK (AF prog w) A (getAttr (.ref x) name expr) Q E s:=by
 obtain⟨od,J,hl⟩:=I.look;exact PySem.W.get_value X J (DY hg).1 (PySem.W.findObj_own hh ha rfl (by rw[hl,hv])) hv' h
theorem a4H {pl:Sem Bool}{Q:AB×List AB→AC→Prop}(X:K.In s.heap)(I:ObjM s.heap x dx C mA)(hg:Cz K C name=true)
  (hf:Ax K (.ref C) name=some (some (.ref f))) (ht:isFn K (.ref f)=true) (hv:mA name=none) (h:Q (.ref f,[.ref x]) s) :
  AK (AF prog w) A (DC (.ref x) name pl) Q E s:=by
 obtain⟨od,J,hl⟩:=I.look;exact PySem.W.method_fn X J (DY hg).1 (DY hg).2 hf (beq_iff_eq.mp ht) (by show(lookIn name od).map (·.isSome)=some false; rw[hl,hv]; rfl) h
theorem a6O {ns:List Str}{Q:Unit→AC→Prop}(X:K.In s.heap)(I:ObjM s.heap x dx C mA)
  (hs:Ax K (.ref C) "__setattr__" = some (some (.builtin "object.__setattr__"))) (hp:plainOver K C=true) (ht:takerIn K C name=some none) (hh:DU K C=true)
  (hw:Df mA ns) (hsz:ns.length≤sizeLine)
  (h:∀ h',ObjM h' x dx C (fun y=>if y=name then some v else mA y)→CV dx s.heap h'→Q () { s with heap:=h',toks:=s.toks+2 }) :
  AK (AF prog w) A (setAttr (.ref x) name v) Q E s:=by
 obtain⟨od,J,hl⟩:=I.look;refine PySem.W.set_plain X J hs (PySem.W.osa_open (s:={ s with toks:=s.toks+1 }) (r:=none) X J hp ht fun b=>?_);obtain⟨cd,hc,hd'⟩:=PySem.W.any_some hh;have hx:s.heap.get? x=some ⟨.ref C,some dx,.plain,#[]⟩:=I.obj;refine AO (Ab (AO (AO (wpAny_loadPart hx (AO (PySem.W.Looks.here (s:={ s with toks:=s.toks+1 }) (PySem.W.looks_clsIn X hc) ?_))))));rw[hd'];refine Ab (a:=some dx) (AO (Ab (AO ?_)));refine wpAny_nsSet1 (s:={ s with toks:=s.toks+1 }) I.ns fun h' hn2 hs2=>?_;obtain⟨oD,esD,epD,hoD,hdD,hcD⟩:=hn2.count (Df.cons name v hw);refine AO (wpAny_lookBehind hoD (by rw[hdD]; exact pastItsLine_dict (BF hcD (by rw[Aw]; omega))) ?_);exact Ab (h _ ⟨(hs2.2 _ (Ne.symm I.ne)).trans I.obj,hn2,I.ne⟩ hs2)
theorem a4S {R:Result→AC→Prop}{vs:List AB}{kw:List (Str×AB)}(X:K.In s.heap)(hm:makesIn K C=true)
  (hi:Ax K (.ref C) "__init__" = some (some (.ref f))) (hf:typeIn K (.ref f)=some (.type "function"))
  (h:Cq (AF prog w) (A.under (.builtin "type.__call__" ⟨.ref C::vs,kw⟩)) (.call (.ref f) ⟨.ref (s.heap.objs.size+1)::vs,kw⟩) (PySem.W.InitBack (s.heap.objs.size+1) R)
   { s with heap:=(s.heap.push Bm).push (Bw C s.heap.objs.size) }) :
  Cq (AF prog w) A (.call (.ref C) ⟨vs,kw⟩) R s:=by
 obtain⟨hh,g,d,t,os⟩:=s;exact PySem.W.make_core (PySem.W.makes_of X hm) (PySem.W.looks_findIn X hi) (fun self=>PySem.W.bind_fn X self hf) (.inl rfl) h
end
noncomputable def uR (f:Str)(v:V):List (Str×V)→List (Str×V)
 | []=>[(f,v)]
 | (g,x)::r=>if g=f then(g,v)::r else(g,x)::uR f v r
theorem pW (f g:Str)(v:V):∀ fs:List (Str×V),(uR f v fs).lookup g=if g=f then some v else fs.lookup g
 | []=>by
  show CZ g [(f,v)]=_
  by_cases h:g=f
  ·have hb:(g==f)=true:=beq_iff_eq.mpr h;simp only[CZ,hb,if_pos h]
  ·have hb:(g==f)=false:=beq_eq_false_iff_ne.mpr h;simp only[CZ,hb,if_neg h]
 | (k,x)::r=>by
  have ih:=pW f g v r;rw[show uR f v ((k,x)::r)=(if k=f then(k,v)::r else(k,x)::uR f v r) from rfl]
  by_cases hk:k=f
  ·rw[if_pos hk]
   by_cases h:g=k
   ·have hb:(g==k)=true:=beq_iff_eq.mpr h;simp only[CZ,hb,if_pos (h.trans hk)]
   ·have hb:(g==k)=false:=beq_eq_false_iff_ne.mpr h;simp only[CZ,hb,if_neg (fun e:g=f=>h (e.trans hk.symm))]
  ·rw[if_neg hk]
   by_cases h:g=k
   ·have hb:(g==k)=true:=beq_iff_eq.mpr h;simp only[CZ,hb,if_neg (fun e:g=f=>hk (h.symm.trans e))]
   ·have hb:(g==k)=false:=beq_eq_false_iff_ne.mpr h;simp only[CZ,hb];exact ih
theorem pL (f:Str)(v:V):∀ fs:List (Str×V),f∈(uR f v fs).map (·.1)∧∀ g,g∈fs.map (·.1)→g∈(uR f v fs).map (·.1)
 | []=>⟨by simp[uR],fun g h=>by simp at h⟩
 | (k,x)::r=>by
  obtain⟨i1,i2⟩:=pL f v r;rw[show uR f v ((k,x)::r)=(if k=f then(k,v)::r else(k,x)::uR f v r) from rfl]
  by_cases hk:k=f
  ·rw[if_pos hk];subst hk;exact⟨by simp,fun g h=>by simpa using h⟩
  ·rw[if_neg hk];refine⟨?_,fun g h=>?_⟩
   ·rw[B6];exact BK _ i1
   ·rw[B6] at h ⊢;rcases Aq.mp h with e|e
    ·exact Aq.mpr (.inl e)
    ·exact BK _ (i2 g e)
theorem pH (f:Str)(v:V):∀ fs:List (Str×V),(uR f v fs).length≤fs.length+1
 | []=>by simp[uR]
 | (k,x)::r=>by
  have ih:=pH f v r;rw[show uR f v ((k,x)::r)=(if k=f then(k,v)::r else(k,x)::uR f v r) from rfl]
  by_cases hk:k=f
  ·rw[if_pos hk,Aw,Aw]; omega
  ·rw[if_neg hk,Aw,Aw]; omega
theorem RelO.some_of {v:V}{o:Option AB}(r:RelO (some v) o):∃ u,o=some u∧RelV v u:=by
 cases o with
 | none=>exact(show False from r).elim
 | some u=>exact⟨u,rfl,r⟩
theorem RelO.none_of {o:Option AB}(r:RelO none o):o=none:=by
 cases o with
 | none=>rfl
 | some u=>exact(show False from r).elim
theorem zK {v:V}{u:AB}(r:RelV v u):handedIn u=true:=by
 cases v with
 | non=>cases(show u=A9 from r); rfl
 | bl b=>cases(show u=C6 b from r); rfl
 | int i=>obtain⟨t,e⟩:=(show ∃ t,u=Dc i t from r); cases e; rfl
 | str x=>obtain⟨t,e⟩:=(show ∃ t,u=Dd x t from r); cases e; rfl
 | byt b=>obtain⟨t,e⟩:=(show ∃ t,u=AB.bytes b t from r); cases e; rfl
 | flt b=>obtain⟨t,e⟩:=(show ∃ t,u=D3 b t from r); cases e; rfl
 | ref a=>cases(show u=A0 a from r); rfl
 | ty n=>cases(show u=CU n from r); rfl
section
variable {P:AQ}{w:AL}{H H':Hp}{h h':AH}{a C dx:AA}{fs fs':List (Str×V)}
theorem rN (hok:HOk P w H h)(e:H a=some (.ins C dx fs)):∃ mA,ObjM h a dx C mA∧(∀ f,RelO (fs.lookup f) (mA f))∧Df mA (fs.map (·.1))∧fs.length≤1000∧H dx=some (.own a):=by
 obtain⟨d,z,ne,ob,mA,n,r,q⟩:=(show ObjOk P w H h a (.ins C dx fs) from hok a _ e);exact⟨mA,⟨ob,n,ne⟩,r,q,z,d⟩
end
structure Cls (K:AW)(C:AA):Prop where
 pg:Cz K C Str.empty=true
 hd:DU K C=true
 po:plainOver K C=true
 sa:Ax K (.ref C) "__setattr__" = some (some (.builtin "object.__setattr__"))
theorem Cls.get {K:AW}{C:AA}(c:Cls K C)(f:Str):Cz K C f=true:=c.pg
noncomputable def NoAttr (K:AW)(C:AA)(f:Str):Prop:=Ax K (.ref C) f=some none
theorem NoAttr.taker {K:AW}{C:AA}{f:Str}(n:NoAttr K C f):takerIn K C f=some none:=by
 unfold takerIn;rw[show Ax K (.ref C) f=some none from n];rfl
structure Meth (K:AW)(C:AA)(m:Str)(f:AA):Prop where
 at_:Ax K (.ref C) m=some (some (.ref f))
 fn:isFn K (.ref f)=true
 kp:BX K (.ref f)=true
section
variable {X:Cx}{pins:List (AA×Obj)}{σ:St}{H:Hp}{s:AC}{a C dx:AA}{fs:List (Str×V)}{f:Str}{v:V}{A:AR}{E:AB→AC→Prop}
theorem xX {b:Bool}{Q:AB→AC→Prop}(I:Inv X pins σ H s)(e:H a=some (.ins C dx fs))(c:Cls X.K C)(n:NoAttr X.K C f)(l:fs.lookup f=some v)
  (h:∀ u s',Inv X pins σ H s'→RelV v u→Q u s'):AK (AF X.prog X.w) A (getAttr (.ref a) f b) Q E s:=by
 obtain⟨mA,O,r,_,_,_⟩:=rN I.hok e;obtain⟨u,hu,ru⟩:=RelO.some_of (v:=v) (o:=mA f) (by rw[← l]; exact r f);exact a6T I.kIn O (c.get f) c.hd n hu (zK ru) (h u _ (I.tok _) ru)
theorem nO {m:Str}{g:AA}{pl:Sem Bool}{Q:AB×List AB→AC→Prop}(I:Inv X pins σ H s)(e:H a=some (.ins C dx fs))(c:Cls X.K C)(k:Meth X.K C m g)(l:fs.lookup m=none)
  (h:Q (.ref g,[.ref a]) s):AK (AF X.prog X.w) A (DC (.ref a) m pl) Q E s:=by
 obtain⟨mA,O,r,_,_,_⟩:=rN I.hok e;have hn:mA m=none:=RelO.none_of (by rw[← l]; exact r m);exact a4H I.kIn O (c.get m) k.at_ k.fn hn h
theorem yG {y:V}{u:AB}{Q:Unit→AC→Prop}(I:Inv X pins σ H s)(e:H a=some (.ins C dx fs))(c:Cls X.K C)(n:NoAttr X.K C f)(hl:fs.length<1000)(ry:RelV y u)
  (h:∀ s',Inv X pins σ (upd H a (.ins C dx (uR f y fs))) s'→Q () s'):AK (AF X.prog X.w) A (setAttr (.ref a) f u) Q E s:=by
 obtain⟨mA,O,r,wi,_,ho⟩:=rN I.hok e;have hz:(fs.map (·.1)).length≤sizeLine:=by rw[A3,Bj]; omega
 refine a6O I.kIn O c.sa c.po n.taker c.hd wi hz fun h' O' sb=>h _ ?_;have hd:∃ o,h'.get? dx=some o:=let ⟨o,_,_,e',_⟩:=O'.ns; ⟨o,e'⟩;refine I.write (x:=a) (e:=dx) (by rw[e]; exact Ca) (.inr ho) (fun b q hb z=>(sb.2 b hb).trans z) hd ?_;refine⟨by rw[bR O.ne]; exact ho,?_,O.ne,O'.obj,_,O'.ns,fun g=>?_,fun g hg=>?_⟩
 ·have:=pH f y fs; omega
 ·show RelO ((uR f y fs).lookup g) (if g=f then some u else mA g);rw[pW]
  by_cases q:g=f
  ·rw[if_pos q,if_pos q]; exact ry
  ·rw[if_neg q,if_neg q]; exact r g
 ·by_cases q:g=f
  ·rw[q]; exact(pL f y fs).1
  ·refine(pL f y fs).2 g (wi g fun z=>hg ?_)
   show(if g=f then some u else mA g)=none
   rw[if_neg q]; exact z
theorem Inv.made (I:Inv X pins σ H s):Inv X pins σ (upd (upd H s.heap.objs.size (.own (s.heap.objs.size+1))) (s.heap.objs.size+1) (.ins C s.heap.objs.size []))
  { s with heap:=(s.heap.push Bm).push (Bw C s.heap.objs.size) }:=by
 have e1:(s.heap.push Bm).get? s.heap.objs.size=some Bm:=Bh s.heap rfl;have e2:((s.heap.push Bm).push (Bw C s.heap.objs.size)).get? (s.heap.objs.size+1)=some (Bw C s.heap.objs.size):=by
  have:=Bh (s.heap.push Bm) (o:=Bw C s.heap.objs.size) rfl;rwa[C2] at this
 have e3:(s.heap.push Bm).Ns s.heap.objs.size (fun _=>none):=⟨Bm,#[],_,e1,rfl,(fun e he=>absurd he (by simp)),fun _=>rfl⟩;have I1:=I.laid (a:=s.heap.objs.size) (o:=.own (s.heap.objs.size+1)) (h':=s.heap.push Bm) (t':=s.toks) (fun b u q=>An _ q) (AT _) ⟨_,e1⟩;refine I1.laid (a:=s.heap.objs.size+1) (o:=.ins C s.heap.objs.size []) (t':=s.toks) (fun b u q=>An _ q) (Nat.le_of_eq (C2 _ _)) ?_;have ne:s.heap.objs.size≠s.heap.objs.size+1:=BB (Nat.lt_succ_self _);refine⟨by rw[bR ne,bQ],Ah _,ne,e2,fun _=>none,(AH.Ns1.of_empty e3).at fun o q=>An _ q,fun _=>Ca,fun y hy=>absurd rfl hy⟩
theorem a76 {prog:AQ}{w:AL}{env:Env}{e:AN}{f:Str}{pos:Pos}{s:AC}{Q:AB→AC→Prop}(hb:D6 e f env (Aa e env)=Aa e env)
  (h:AK (AF prog w) A (Aa e env) (fun o s₁=>AK (AF prog w) A (getAttr o f true) Q E s₁) E s):AK (AF prog w) A (Aa (.Attribute e f pos) env) Q E s:=
 Attribute_any_ h (by rw[arm_eval_Attribute,hb])
end
noncomputable def aCZ (K:AW)(ta:TE)(f:Str):TE:=fun σ H Q=>ta σ H fun x H1=>∃ a C dx fs v,x=.ref a∧H1 a=some (.ins C dx fs)∧Cls K C∧NoAttr K C f∧fs.lookup f=some v∧Q v H1
noncomputable def aCL (K:AW)(ta tv:TE)(f:Str):TS:=fun D σ H=>tv σ H fun y H1=>ta σ H1 fun x H2=>∃ a C dx fs,x=.ref a∧H2 a=some (.ins C dx fs)∧Cls K C∧NoAttr K C f∧fs.length<1000 ∧
 D.nx σ (upd H2 a (.ins C dx (uR f y fs)))
section
variable {X:Cx}{o e value:AN}{f:Str}{pos pos' tpos:Pos}{ta tv:TE}
theorem kZ (he:PE X e ta)(hb:D6 e f X.env (Aa e X.env)=Aa e X.env):PE X (.Attribute e f pos) (aCZ X.K ta f):=by
 intro pins s σ H Q I h;refine a76 hb (thn (he pins s σ H _ I h) fun u s1 ⟨x,H1,I1,rx,a,C,dx,fs,v,ex,ea,c,n,l,q⟩=>?_);subst ex;obtain rfl:u=A0 a:=rx;exact xX I1 ea c n l fun u' s2 I2 ru=>⟨v,H1,I2,ru,q⟩
theorem a8W (ha:PE X o ta)(hv:PE X value tv)(hs:swapsWith value (some (.Attribute o f pos')) pos.line X.env=pure false):PS X (.Assign [.Attribute o f pos'] value pos) (aCL X.K ta tv f):=by
 intro pins s σ H D I h;refine plainObj_wpAny_Assign_Attribute (thn (hv pins s σ H _ I h) fun u s1 ⟨y,H1,I1,ry,q⟩=>thn (ha pins s1 σ H1 _ I1 q) fun ov s2 ⟨x,H2,I2,rx,a,C,dx,fs,ex,ea,c,n,l,q2⟩=>?_) hs;subst ex;obtain rfl:ov=A0 a:=rx;exact yG I2 ea c n l ry fun s3 I3=>⟨σ,_,I3,q2⟩
theorem a6G {pl:Sem Bool}{m:Str}{apos:Pos}{args:List AN}{pins:List (AA×Obj)}{s:AC}{σ:St}{H:Hp}{Q:AB→AC→Prop}{te:TE}(he:PE X e te)(I:Inv X pins σ H s)
  (h:te σ H fun x H1=>∃ a C dx fs g,x=.ref a∧H1 a=some (.ins C dx fs)∧Cls X.K C∧Meth X.K C m g∧fs.lookup m=none ∧
   ∀ s1,Inv X pins σ H1 s1→AK (AF X.prog X.w) X.A (callWith pos (.ref g) [.ref a] (BL pos (Ak args X.env)) (DD pos (DE [] X.env))) Q X.xe s1)
  (ht:Aa (.Call (.Attribute e m apos) args [] pos) X.env=(do
   let ov←Aa e X.env
   DA apos.atName
   let (f,first)←CW [ov] (DC ov m pl)
   callWith pos f first (BL pos (Ak args X.env)) (DD pos (DE [] X.env)))) :
  AK (AF X.prog X.w) X.A (Aa (.Call (.Attribute e m apos) args [] pos) X.env) Q X.xe s:=by
 refine DW (pl:=pl) (thn (he pins s σ H _ I h) fun u s1 ⟨x,H1,I1,rx,a,C,dx,fs,g,ex,ea,c,k,l,q⟩=>?_) ht;subst ex;obtain rfl:u=A0 a:=rx;exact nO I1 ea c k l (q s1 I1)
end
section
variable {X:Cx}{pins:List (AA×Obj)}{σ:St}{H:Hp}{s:AC}{A:AR}{E:AB→AC→Prop}{Q:AB→AC→Prop}{c:AB}{b:Bool}
inductive TyOf (K:AW) (H:Hp):V→AB→Prop where
 | non:TyOf K H .non (.type "NoneType")
 | bl (x:Bool):TyOf K H (.bl x) (.type "bool")
 | int (i:Int):TyOf K H (.int i) (.type "int")
 | str (x:Str):TyOf K H (.str x) (.type "str")
 | flt (x:UInt64):TyOf K H (.flt x) (.type "float")
 | lst {a:AA} {xs:List V} (e:H a=some (.lst xs)):TyOf K H (.ref a) (.type "list")
 | frz {a:AA} {o:Obj} {xs:List V} (e:H a=some (.frz o (.lst xs))):TyOf K H (.ref a) (.type "list")
 | tup {a:AA} {xs:List V} (e:H a=some (.tup xs)):TyOf K H (.ref a) (.type "tuple")
 | dK {a:AA} {kvs:List (Key×V)} (e:H a=some (.dK kvs)):TyOf K H (.ref a) (.type "dict")
 | fdK {a:AA} {o:Obj} {kvs:List (Key×V)} (e:H a=some (.frz o (.dK kvs))):TyOf K H (.ref a) (.type "dict")
 | dT {a:AA} {kvs:List (List Key×V)} (e:H a=some (.dT kvs)):TyOf K H (.ref a) (.type "dict")
 | ins {a C dx:AA} {fs:List (Str×V)} (e:H a=some (.ins C dx fs)) (cl:Cls K C) (ha:Ax K (.ref C) "__class__" = some (some (.builtin "object.__class__")))
   (hn:PySem.W.specialIn K (.builtin "object.__class__") "__get__" = some (some (.builtin "getset_descriptor.__get__"))) (htk:PySem.W.takesIn K (.builtin "object.__class__")=some true)
   (hm:mroIn K C (.type "object")=some true):TyOf K H (.ref a) (.ref C)
theorem zH {x:V}{u t:AB}(I:Inv X pins σ H s)(rx:RelV x u)(ty:TyOf X.K H x t)(e:AV X.K t c=some b)(h:∀ tk,Q (.bool b) { s with toks:=tk }) :
  AK (AF X.prog X.w) A (call (.builtin "isinstance") [u,c]) Q E s:=by
 cases ty with
 | non=>cases(show u=A9 from rx); exact BP PySem.W.kitx_none I.kIn Ca e (fun z=>nomatch z) h
 | bl y=>cases(show u=C6 y from rx); exact BP PySem.W.kitx_bool I.kIn Ca e (fun z=>nomatch z) h
 | int i=>obtain⟨t,q⟩:=(show ∃ t,u=Dc i t from rx); cases q; exact BP PySem.W.kitx_int I.kIn Ca e (fun z=>nomatch z) h
 | str y=>obtain⟨t,q⟩:=(show ∃ t,u=Dd y t from rx); cases q; exact BP PySem.W.kitx_str I.kIn Ca e (fun z=>nomatch z) h
 | flt y=>obtain⟨t,q⟩:=(show ∃ t,u=D3 y t from rx); cases q; exact BP PySem.W.kitx_float I.kIn Ca e (fun z=>nomatch z) h
 | @lst a xs ea=>
  cases(show u=A0 a from rx)
  obtain⟨_,_,n,_,h1⟩:=(show ObjOk X.prog X.w H s.heap a (.lst xs) from I.hok a _ ea);exact BP kitx_list I.kIn ⟨_,h1,rfl⟩ e (fun z=>nomatch z) h
 | @frz a ob xs ea=>
  cases(show u=A0 a from rx)
  obtain⟨_,_,_,n,_,h1⟩:=(show ObjOk X.prog X.w H s.heap a (.frz ob (.lst xs)) from I.hok a _ ea);exact BP kitx_list I.kIn ⟨_,h1,rfl⟩ e (fun z=>nomatch z) h
 | @tup a xs ea=>
  cases(show u=A0 a from rx)
  obtain⟨_,_,_,p⟩:=(show ObjOk X.prog X.w H s.heap a (.tup xs) from I.hok a _ ea);obtain⟨o,h1,h2,_⟩:=p;exact BP PySem.W.kitx_tuple I.kIn ⟨o,h1,h2⟩ e (fun z=>nomatch z) h
 | @dK a kvs ea=>
  cases(show u=A0 a from rx)
  obtain⟨_,_,vs,_,p⟩:=(show ObjOk X.prog X.w H s.heap a (.dK kvs) from I.hok a _ ea);obtain⟨o,es,ep,h1,h2,_⟩:=p;exact BP DV I.kIn ⟨o,h1,h2.1⟩ e (fun z=>nomatch z) h
 | @fdK a ob kvs ea=>
  cases(show u=A0 a from rx)
  obtain⟨_,_,_,vs,_,p⟩:=(show ObjOk X.prog X.w H s.heap a (.frz ob (.dK kvs)) from I.hok a _ ea);obtain⟨o,es,ep,h1,h2,_⟩:=p;exact BP DV I.kIn ⟨o,h1,h2.1⟩ e (fun z=>nomatch z) h
 | @dT a kvs ea=>
  cases(show u=A0 a from rx)
  obtain⟨_,_,xs,_,o,es,ep,h1,h2,_⟩:=(show ObjOk X.prog X.w H s.heap a (.dT kvs) from I.hok a _ ea);exact BP DV I.kIn ⟨o,h1,h2.1⟩ e (fun z=>nomatch z) h
 | @ins a C dx fs ea cl ha hn htk hm=>
  cases(show u=A0 a from rx)
  obtain⟨mA,O,_⟩:=rN I.hok ea;obtain⟨od,J,_⟩:=O.look;exact BP (PySem.W.kitx_own (cl.get _) cl.hd ha hn htk hm) I.kIn J e (fun z=>nomatch z) h
end
end L2
namespace L2
open PySem PySem.Spec PyProof.Rows
structure Room (k:Nat)(A:AR):Prop where
 hd:A.handled=none
 dp:A.depth+3*k+5<recursionLimit
 un:A.units+16*k+200<A5
 gd:A.guards=some []
theorem Room.mono {j k:Nat}{A:AR}(r:Room k A)(h:j≤k):Room j A:=⟨r.hd,by have:=r.dp; omega,by have:=r.un; omega,r.gd⟩
theorem Room.deeper {k:Nat}{A:AR}(r:Room (k+1) A)(env:Env):Room k (A.deeper env):=
 ⟨r.hd,by have:=r.dp; show A.depth+1+3*k+5<_; omega,by have:=r.un; show A.units+3+16*k+200<_; omega,r.gd⟩
theorem yI {A:AR}{C:AA}{us:List AB}{kw:List (Str×AB)}:(A.under (.builtin "type.__call__" ⟨.ref C::us,kw⟩)).depth=A.depth+1:=by
 first|rfl|simp[Di,Code.weight,Code.isCreation,Code.isGuard,Code.isCaller,Code.frames,D7,guardIds]
theorem xV {A:AR}{C:AA}{us:List AB}{kw:List (Str×AB)}:(A.under (.builtin "type.__call__" ⟨.ref C::us,kw⟩)).units=A.units+1:=by
 first|rfl|simp[Di,Code.cUnits,Code.frames,D7]
theorem Room.make {k:Nat}{A:AR}(r:Room (k+1) A)(C:AA)(us:List AB)(kw:List (Str×AB)):Room k (A.under (.builtin "type.__call__" ⟨.ref C::us,kw⟩)):=
 ⟨r.hd,by have:=r.dp; rw[yI]; omega,by have:=r.un; rw[xV]; omega,by simp[Di,r.gd,pushGuards,Code.guards,Code.isGuard,guardIds]⟩
theorem Room.depth {k:Nat}{A:AR}(r:Room k A):A.depth<recursionLimit:=by have:=r.dp; omega
theorem Room.units {k:Nat}{A:AR}(r:Room k A):A.units+64<A5:=by have:=r.un; omega
theorem Room.units0 {k:Nat}{A:AR}(r:Room k A):A.units<A5:=by have:=r.un; omega
noncomputable def tM:TA:=fun _ H Q=>Q [] H
noncomputable def jX (ta:TE)(tr:TA):TA:=fun σ H Q=>ta σ H fun x H1=>tr σ H1 fun xs H2=>Q (x::xs) H2
section
variable {X:Cx}{e:AN}{es:List AN}{te:TE}{t:TA}{pos:Pos}
theorem aG:PA X [] tM:=fun _ _ _ _ H Q I h=>Calls.spliced_nil ⟨[],H,I,.nil,h⟩
theorem aA (ha:PE X e te)(hr:PA X es t)(hs:Ak (e::es) X.env=(false,Aa e X.env)::Ak es X.env:=by rfl):PA X (e::es) (jX te t):=by
 intro pos pins s σ H Q I h;rw[hs];show AK _ _ (spliced ((false,Aa e X.env)::BL pos (Ak es X.env))) _ _ s;refine Calls.spliced_cons (thn (ha pins s σ H _ I h) fun u s1 ⟨x,H1,I1,r1,q1⟩=>?_);exact thn (hr pos pins s1 σ H1 _ I1 q1) fun us s2 ⟨xs,H2,I2,r2,q2⟩=>⟨x::xs,H2,I2,.cons r1 r2,q2⟩
noncomputable def aCI (t:TA):TE:=fun σ H Q=>t σ H fun xs H1=>xs.length≤sizeLine∧∀ p,H1 p=none→Q (.ref p) (upd H1 p (.tup xs))
noncomputable def aBV (t:TA):TE:=fun σ H Q=>t σ H fun xs H1=>xs.length≤sizeLine∧∀ p,H1 p=none→Q (.ref p) (upd H1 p (.lst xs))
theorem cH {x1}(h:PA X es t):PE X (.Tuple es x1 pos) (aCI t):=by
 intro pins s σ H Q I hq;refine wpAny_Tuple_spliced (thn (h pos pins s σ H _ I hq) fun us s1 ⟨xs,H1,I1,r,z,q⟩=>⟨by rw[← r.length]; exact z,?_⟩);have hf:H1 s1.heap.objs.size=none:=I1.hok.fresh (AT _);refine⟨.ref s1.heap.objs.size,upd H1 s1.heap.objs.size (.tup xs),I1.laid (t':=s1.toks) (fun b u e=>An _ e) (AT _) ?_,rfl,q _ hf⟩;exact⟨z,us,r,⟨_,Bh _ rfl,rfl,_,rfl⟩⟩
theorem dF (h:PA X es t):PE X (.List es pos) (aBV t):=by
 intro pins s σ H Q I hq;refine wpAny_List_spliced (thn (h pos pins s σ H _ I hq) fun us s1 ⟨xs,H1,I1,r,z,q⟩=>⟨by rw[← r.length]; exact z,?_⟩);have hf:H1 s1.heap.objs.size=none:=I1.hok.fresh (AT _);refine⟨.ref s1.heap.objs.size,upd H1 s1.heap.objs.size (.lst xs),I1.laid (t':=s1.toks) (fun b u e=>An _ e) (AT _) ?_,rfl,q _ hf⟩;exact⟨z,us,0,r,Bh _ rfl⟩
end
abbrev Sp:=List V→Hp→VK→XK→Prop
abbrev CXT:=List Env→Hp→AC→XK→AB→AC→Prop
structure Env0 (P:AQ)(w:AL)(K:AW)(mg:Str→Option AB)(base:AH)(A:AR)(outer:List Env)(s:AC)(H:Hp):Prop where
 frames:A.frames=some outer
 mod:Mod K mg base
 bs:∀ b o,base.get? b=some o→s.heap.get? b=some o∧H b=none
 bsz:base.objs.size≤s.heap.objs.size
 funs:s.heap.FunFrames base outer
 frf:∀ b∈frs outer,H b=none
 hok:HOk P w H s.heap
 bare:B0 s.gens
noncomputable def CE (outer:List Env)(P:AQ)(w:AL)(H:Hp)(s:AC)(Q:VK)(u:AB)(s':AC):Prop:=
 ∃ v H',s'.os=s.os∧B0 s'.gens∧Un (frs outer) [] H H' s.heap s'.heap∧HOk P w H' s'.heap∧RelV v u∧Q v H'
noncomputable def CR (CX:CXT)(outer:List Env)(P:AQ)(w:AL)(H:Hp)(s:AC)(Q:VK)(E:XK)(r:Result)(s':AC):Prop:=
 match r with
 | .ok (.ret u)=>CE outer P w H s Q u s'
 | .ok _=>False
 | .error e=>CX outer H s E e s'
structure FnOk (P:AQ)(w:AL)(K:AW)(mg:Str→Option AB)(base:AH)(CX:CXT)(k:Nat)(f:AA)(fd:Ag)(ps:List Str)(sp:Sp):Prop where
 len:∀ vs H Q E,sp vs H Q E→vs.length=ps.length
 run:∀(A:AR) (outer:List Env) (s:AC) (H:Hp) (args:Args) (us:List AB) (vs:List V) (Q:VK) (E:XK),Room k A→Env0 P w K mg base A outer s H→Cr s fd args (ps.zip us)→Vals vs us→sp vs H Q E →
  Cq (AF P w) A (.call (.ref f) args) (CR CX outer P w H s Q E) s
theorem FnOk.imp {P:AQ}{w:AL}{K:AW}{mg:Str→Option AB}{base:AH}{CX:CXT}{k:Nat}{f:AA}{fd:Ag}{ps:List Str}{sp sp':Sp}(F:FnOk P w K mg base CX k f fd ps sp)
  (h:∀ vs H Q E,sp' vs H Q E→sp vs H Q E):FnOk P w K mg base CX k f fd ps sp':=
 ⟨fun vs H Q E q=>F.len vs H Q E (h _ _ _ _ q),fun A outer s H args us vs Q E hr he hb hv hs=>F.run A outer s H args us vs Q E hr he hb hv (h _ _ _ _ hs)⟩
theorem Env0.make {P:AQ}{w:AL}{K:AW}{mg:Str→Option AB}{base:AH}{A:AR}{outer:List Env}{s:AC}{H:Hp}(e:Env0 P w K mg base A outer s H)(C:AA)(us:List AB)(kw:List (Str×AB)) :
  Env0 P w K mg base (A.under (.builtin "type.__call__" ⟨.ref C::us,kw⟩)) outer s H:=⟨by first|exact e.frames|(simpa [Di,Code.envs,D7,pushEnvs] using e.frames),e.mod,e.bs,e.bsz,e.funs,e.frf,e.hok,e.bare⟩
section
variable {X:Cx}{pins:List (AA×Obj)}{σ:St}{H:Hp}{s s':AC}
theorem Inv.env0 (I:Inv X pins σ H s):Env0 X.prog X.w X.K X.mg X.base X.A X.stack s H:=
 ⟨I.ok.frames,I.ok.mod,I.bs,BF I.ok.bsz I.sz,I.stack,I.stkFree,I.hok,I.bare⟩
theorem Inv.after {Q:VK}{u:AB}(I:Inv X pins σ H s)(h:CE X.stack X.prog X.w H s Q u s'):EP X pins σ Q u s':=by
 obtain⟨v,H',os,bare,un,hok,r,q⟩:=h;obtain⟨hh,g,d,t,os'⟩:=s';obtain rfl:os'=s.os:=os;exact⟨v,H',I.call (h':=hh) (g':=g) (d':=d) (t':=t) (ch:=[]) un hok bare (fun b z=>absurd z (by simp)),r,q⟩
end
noncomputable def a0T (sp:Sp)(dvs:List V)(E:XK)(t:TA):TE:=fun σ H Q=>t σ H fun vs H1=>sp (vs++dvs) H1 Q E
noncomputable def a0M (C:AA)(m:Str)(sp:Sp)(dvs:List V)(E:XK)(ta:TE)(t:TA):TE:=fun σ H Q=>ta σ H fun x H1=>∃ a dx fs,x=.ref a∧H1 a=some (.ins C dx fs)∧fs.lookup m=none ∧
 t σ H1 fun vs H2=>sp (x::(vs++dvs)) H2 Q E
noncomputable def a81 (C:AA)(sp:Sp)(dvs:List V)(E:XK)(t:TA):TE:=fun σ H Q=>t σ H fun vs H1=>∀ x dx,H1 x=none→H1 dx=none→dx≠x →
 sp (.ref x::(vs++dvs)) (upd (upd H1 dx (.own x)) x (.ins C dx [])) (fun v H2=>v=.non∧Q (.ref x) H2) E
noncomputable def Binds (K:AW)(fd:Ag)(ps:List Str)(ds:List AB):Prop:=
 ∀(s:AC) (us:List AB),K.In s.heap→(us++ds).length=ps.length→Cr s fd ⟨us,[]⟩ (ps.zip (us++ds))
theorem Binds.all {K:AW}{fd:Ag}{ps:List Str}(h:∀ us:List AB,us.length=ps.length→bindArgs fd ⟨us,[]⟩=pure (ps.zip us)):Binds K fd ps []:=fun s us _ hl=>by
 rw[Cd] at hl ⊢;exact .of_eq (h us hl)
noncomputable def p6 (CX:CXT)(X:Cx)(E:XK):Prop:=∀(pins:List (AA×Obj)) (σ:St) (H:Hp) (s:AC) (e:AB) (s':AC),Inv X pins σ H s→CX X.stack H s E e s'→X.xe e s'
section
variable {X:Cx}{CX:CXT}{k:Nat}{f C:AA}{fd:Ag}{ps:List Str}{sp:Sp}{dvs:List V}{ds:List AB}{E:XK}{x m:Str}{p pos apos:Pos}{e o:AN}{es:List AN}{ta:TE}{t:TA}
theorem a1P {pins:List (AA×Obj)}{σ:St}{H:Hp}{s:AC}{Q:VK}{us:List AB}{vs:List V}(F:FnOk X.prog X.w X.K X.mg X.base CX k f fd ps sp)(hr:Room k X.A)(hb:Binds X.K fd ps ds)(hd:Vals dvs ds)(hx:p6 CX X E)
  (I:Inv X pins σ H s) (r:Vals vs us) (h:sp (vs++dvs) H Q E):AK (AF X.prog X.w) X.A (call (.ref f) us) (EP X pins σ Q) X.xe s:=by
 have r2:Vals (vs++dvs) (us++ds):=r.append hd;have hl:(us++ds).length=ps.length:=by rw[← r2.length]; exact F.len _ _ _ _ h
 refine wpAny_call (DF (F.run X.A X.stack s H ⟨us,[]⟩ (us++ds) (vs++dvs) Q E hr I.env0 (hb s us I.kIn hl) r2 h) fun r s' hq=>?_)
 cases r with
 | error e=>exact hx pins σ H s e s' I hq
 | ok fl=>
  cases fl with
  | ret u=>exact I.after hq
  | next=>exact BR hq
  | brk=>exact BR hq
  | cont=>exact BR hq
theorem a6L (F:FnOk X.prog X.w X.K X.mg X.base CX k f fd ps sp)(hr:Room k X.A)(hg:Gl X x)(hm:X.mg x=some (.ref f))(hk:BX X.K (.ref f)=true)(hb:Binds X.K fd ps ds)(hd:Vals dvs ds)(hx:p6 CX X E)
  (ha:PA X (e::es) t) (hdb:(x==("__debug__" : Str))=false:=by decide) (he:Ak (e::es) X.env=(false,Aa e X.env)::Ak es X.env:=by rfl) (hpl:(BL pos (Ak es X.env)).any (·.1)=false:=by rfl) :
  PE X (.Call (.Name x p) (e::es) [] pos) (a0T sp dvs E t):=by
 intro pins s σ H Q I h;refine Dj (vB I hg hm ?_ hdb);refine callWith_K (h₀:=X.base) I.ok.mod.kin hk (thn (ha pos pins s σ H _ I h) fun us s1 ⟨vs,H1,I1,r,q⟩=>⟨I1.kIn,?_⟩) he hpl;exact a1P F hr hb hd hx I1 r q
theorem zV {pl:Sem Bool}(he:PE X o ta)(c:Cls X.K C)(hm:Meth X.K C m f)(F:FnOk X.prog X.w X.K X.mg X.base CX k f fd ps sp)(hr:Room k X.A)(hb:Binds X.K fd ps ds)(hd:Vals dvs ds)(hx:p6 CX X E)(ha:PA X (e::es) t)
  (hst:Ak (e::es) X.env=(false,Aa e X.env)::Ak es X.env:=by rfl) (hpl:(BL pos (Ak es X.env)).any (·.1)=false:=by rfl)
  (ht:Aa (.Call (.Attribute o m apos) (e::es) [] pos) X.env=(do
   let ov←Aa o X.env
   DA apos.atName
   let (f,first)←CW [ov] (DC ov m pl)
   callWith pos f first (BL pos (Ak (e::es) X.env)) (DD pos (DE [] X.env))):=by rfl) :
  PE X (.Call (.Attribute o m apos) (e::es) [] pos) (a0M C m sp dvs E ta t):=by
 intro pins s σ H Q I h;refine DW (pl:=pl) (thn (he pins s σ H _ I h) fun u s1 ⟨x,H1,I1,rx,a,dx,fs,ex,ea,l,q⟩=>?_) ht;subst ex;obtain rfl:u=A0 a:=rx;refine nO I1 ea c hm l ?_;refine callWith_K (first:=[.ref a]) (h₀:=X.base) I.ok.mod.kin hm.kp (thn (ha pos pins s1 σ H1 _ I1 q) fun us s2 ⟨vs,H2,I2,r,q2⟩=>⟨I2.kIn,?_⟩) hst hpl;exact a1P (us:=.ref a::us) (vs:=.ref a::vs) F hr hb hd hx I2 (.cons rfl r) q2
theorem mZ {pl:Sem Bool}(he:PE X o ta)(c:Cls X.K C)(hm:Meth X.K C m f)(F:FnOk X.prog X.w X.K X.mg X.base CX k f fd ps sp)(hr:Room k X.A)(hb:Binds X.K fd ps ds)(hd:Vals dvs ds)(hx:p6 CX X E)
  (ht:Aa (.Call (.Attribute o m apos) [] [] pos) X.env=(do
   let ov←Aa o X.env
   DA apos.atName
   let (f,first)←CW [ov] (DC ov m pl)
   callWith pos f first (BL pos (Ak [] X.env)) (DD pos (DE [] X.env))):=by rfl) :
  PE X (.Call (.Attribute o m apos) [] [] pos) (a0M C m sp dvs E ta tM):=by
 intro pins s σ H Q I h;refine DW (pl:=pl) (thn (he pins s σ H _ I h) fun u s1 ⟨x,H1,I1,rx,a,dx,fs,ex,ea,l,q⟩=>?_) ht;subst ex;obtain rfl:u=A0 a:=rx;refine nO I1 ea c hm l ?_;exact D1 (first:=[.ref a]) I1.kIn hm.kp (a1P (us:=[.ref a]) (vs:=[.ref a]) F hr hb hd hx I1 (.cons rfl .nil) q)
structure Mk (K:AW)(C f:AA):Prop where
 makes:makesIn K C=true
 init:Ax K (.ref C) "__init__" = some (some (.ref f))
 fn:isFn K (.ref f)=true
 kp:BX K (.ref C)=true
theorem a2S {pins:List (AA×Obj)}{σ:St}{H:Hp}{s:AC}{Q:VK}{us:List AB}{vs:List V}(M:Mk X.K C f)(F:FnOk X.prog X.w X.K X.mg X.base CX k f fd ps sp)(hr:Room (k+1) X.A)(hb:Binds X.K fd ps ds)(hd:Vals dvs ds)
  (hx:p6 CX X E) (I:Inv X pins σ H s) (r:Vals vs us)
  (h:∀ x dx,H x=none→H dx=none→dx≠x→sp (.ref x::(vs++dvs)) (upd (upd H dx (.own x)) x (.ins C dx [])) (fun v H2=>v=.non∧Q (.ref x) H2) E) :
  AK (AF X.prog X.w) X.A (call (.ref C) us) (EP X pins σ Q) X.xe s:=by
 have hq:=h (s.heap.objs.size+1) s.heap.objs.size (I.hok.fresh (C1 _)) (I.hok.fresh (AT _)) (BB (Nat.lt_succ_self _));have I2:=Inv.made (C:=C) I;have r2:Vals (V.ref (s.heap.objs.size+1)::(vs++dvs)) (A0 (s.heap.objs.size+1)::(us++ds)):=.cons rfl (r.append hd);have hl:(A0 (s.heap.objs.size+1)::us++ds).length=ps.length:=by
  have e:=r2.length;rw[F.len _ _ _ _ hq] at e;exact e.symm
 refine wpAny_call (a4S (f:=f) I.kIn M.makes M.init (beq_iff_eq.mp M.fn) (DF (F.run _ X.stack _ _ ⟨A0 (s.heap.objs.size+1)::us,[]⟩ (A0 (s.heap.objs.size+1)::(us++ds)) _ _ E (hr.make C us [])
  (I2.env0.make C us []) (hb _ (A0 (s.heap.objs.size+1)::us) I2.kIn hl) r2 hq) fun r s' hq'=>?_))
 cases r with
 | error e=>exact hx pins σ _ _ e s' I2 hq'
 | ok fl=>
  cases fl with
  | ret u=>
   obtain⟨v,H',I3,rv,ev,q3⟩:=I2.after hq';subst ev;exact⟨rv,⟨V.ref (s.heap.objs.size+1),H',I3,rfl,q3⟩⟩
  | next=>exact BR hq'
  | brk=>exact BR hq'
  | cont=>exact BR hq'
theorem a3V (M:Mk X.K C f)(F:FnOk X.prog X.w X.K X.mg X.base CX k f fd ps sp)(hr:Room (k+1) X.A)(hg:Gl X x)(hm:X.mg x=some (.ref C))(hb:Binds X.K fd ps ds)(hd:Vals dvs ds)(hx:p6 CX X E)
  (hdb:(x==("__debug__" : Str))=false:=by decide):PE X (.Call (.Name x p) [] [] pos) (a81 C sp dvs E tM):=by
 intro pins s σ H Q I h;refine Dj (vB I hg hm ?_ hdb);exact D1 I.kIn M.kp (a2S (us:=[]) M F hr hb hd hx I .nil h)
end
section
variable {X:Cx}{CX:CXT}{k:Nat}{f C:AA}{fd:Ag}{ps ks:List Str}{sp:Sp}{E:XK}{x m:Str}{p pos apos kpos:Pos}{e o:AN}{es:List AN}{kws:List Keyword}{te ta:TE}{t tk:TA}{nm:Option Str}
variable {g:List AB→List AB→List AB}{gV:List V→List V→List V}
end
structure FnScope (N P:List Str)(sc:BZ):Prop where
 kind:sc.kind=.function
 co:sc.isCoroutine=false
 gen:sc.isGenerator=false
 nd:N.Nodup
 pre:N.take P.length=P
 par:∀ x∈P,sc.names.lookup x=some .local∨sc.names.lookup x=some .cell
 nofree:∀ y∈sc.names,y.2≠.free
theorem tV {kindOf:Str→Option NameKind}{x:Str}:∀{binds:List (Str×AB)} {m:Str→Option AB},(∀ v,(x,v)∉binds)→bindL kindOf binds m x=m x
 | [],_,_=>rfl
 | (n,v)::r,m,h=>by
  unfold bindL;rw[tV fun w hw=>h w (BK _ hw)]
  split
  ·have:x≠n:=by rintro rfl; exact h v Bf
   simp[this]
  ·rfl
theorem uA {kindOf:Str→Option NameKind}{x:Str}:∀{binds:List (Str×AB)} {m:Str→Option AB},(∀ v,(x,v)∉binds)→bindC kindOf binds m x=m x
 | [],_,_=>rfl
 | (n,v)::r,m,h=>by
  unfold bindC;rw[uA fun w hw=>h w (BK _ hw)]
  split
  ·rfl
  ·have:x≠n:=by rintro rfl; exact h v Bf
   simp[this]
theorem u5 {kindOf:Str→Option NameKind}{x:Str}{v:AB}:∀{P:List Str} {vs:List AB} {i:Nat} {m:Str→Option AB},P.Nodup→P[i]?=some x→vs[i]?=some v→kindOf x=some .local →
  bindL kindOf (P.zip vs) m x=some v
 | [],_,_,_,_,h,_,_=>by simp at h
 | _::_,[],_,_,_,_,h,_=>by simp at h
 | p::P,w::vs,0,m,nd,h1,h2,hk=>by
  simp at h1 h2; subst h1; subst h2;show bindL kindOf ((p,w)::P.zip vs) m p=_;unfold bindL;rw[tV fun v hv=>(CK.mp nd).1 (DS hv).1,if_pos hk];simp
 | p::P,w::vs,i+1,m,nd,h1,h2,hk=>by
  show bindL kindOf ((p,w)::P.zip vs) m x=_;unfold bindL;exact u5 (i:=i) (CK.mp nd).2 (by simpa using h1) (by simpa using h2) hk
theorem uL {kindOf:Str→Option NameKind}{x:Str}{v:AB}:∀{P:List Str} {vs:List AB} {i:Nat} {m:Str→Option AB},P.Nodup→P[i]?=some x→vs[i]?=some v→kindOf x≠some .local →
  bindC kindOf (P.zip vs) m x=some v
 | [],_,_,_,_,h,_,_=>by simp at h
 | _::_,[],_,_,_,_,h,_=>by simp at h
 | p::P,w::vs,0,m,nd,h1,h2,hk=>by
  simp at h1 h2; subst h1; subst h2;show bindC kindOf ((p,w)::P.zip vs) m p=_;unfold bindC;rw[uA fun v hv=>(CK.mp nd).1 (DS hv).1,if_neg hk];simp
 | p::P,w::vs,i+1,m,nd,h1,h2,hk=>by
  show bindC kindOf ((p,w)::P.zip vs) m x=_;unfold bindC;exact uL (i:=i) (CK.mp nd).2 (by simpa using h1) (by simpa using h2) hk
noncomputable def start (N:List Str)(vs:List V):St:=vs.map some++At (N.length-vs.length) none
noncomputable def a4L (CX:CXT)(P:AQ)(w:AL)(K:AW)(mg:Str→Option AB)(base:AH)(N:List Str)(qual:Str)(scope:BZ)(f:AA)(cd:AB)(A:AR)(outer:List Env)(s:AC)(H:Hp)(E:XK):Cx where
 prog:=P
 w:=w
 K:=K
 mg:=mg
 base:=base
 A:=A.deeper (Ba qual scope s.heap.objs.size f cd)
 N:=N
 s₀:=s
 H₀:=H
 env:=Ba qual scope s.heap.objs.size f cd
 outer:=outer
 stack:=Ba qual scope s.heap.objs.size f cd::outer
 ex:=[]
 calm:=true
 fn:=fun _=>true
 pn:=[]
 xe:=fun e s'=>AK (AF P w) (A.deeper (Ba qual scope s.heap.objs.size f cd)) (leaving (Ba qual scope s.heap.objs.size f cd) e) (fun _ s''=>CX outer H s E e s'') (fun e' s''=>CX outer H s E e' s'') s'
theorem wD {sc:BZ}{n:Nat}{x:Str}(h:sc.names.lookup x=some .cell):∃ c,(cellsFrom n sc.names []).lookup x=some c:=by
 have q:=D2 sc.names n [] (.inl h);exact Ed.mp q
theorem zX {CX:CXT}{P:AQ}{w:AL}{K:AW}{mg:Str→Option AB}{base:AH}{N ps:List Str}{qual:Str}{scope:BZ}{f:AA}{cd:AB}{A:AR}{outer:List Env}{s s1:AC}{H:Hp}{E:XK}{us:List AB}{vs:List V}
  (S:FnScope N ps scope) (hd:A.handled=none) (e0:Env0 P w K mg base A outer s H) (hl:vs.length=ps.length) (r:Vals vs us)
  (x:InCallC s s.heap.objs.size (bindL (Ba qual scope s.heap.objs.size f cd).kindOf (ps.zip us) fun _=>none) (cellsFrom (s.heap.objs.size+1) scope.names []) (bindC (Ba qual scope s.heap.objs.size f cd).kindOf (ps.zip us) fun _=>none) s1) :
  Inv (a4L CX P w K mg base N qual scope f cd A outer s H E) [] (start N vs) H s1:=by
 have hpl:ps.length≤N.length:=by have:=congrArg List.length S.pre; rw[BU] at this; omega
 obtain⟨h1,tk,rfl,hk⟩:=x.done;have noA:∀ b:AA,b∉(a4L CX P w K mg base N qual scope f cd A outer s H E).ex:=fun b z=>absurd (show b∈([]:List AA) from z) (by simp);refine⟨⟨e0.mod,S.kind,rfl,rfl,AT _,fun y z c h1 h2=>?_,fun y hy=>?_,fun y c _ h=>?_,fun _=>hd,AR.frames_deeper e0.frames,.inr ⟨rfl,rfl⟩,fun b z=>absurd z (noA b),e0.bs,e0.bsz,fun b _ _=>noA b,fun b z=>absurd z (noA b),e0.funs,e0.frf⟩,
  rfl,e0.bare,Un.kept hk,⟨_,x.toInCall.ns,fun i y v h1 h2 h3=>?_⟩,fun y c h=>⟨_,x.cell y c h⟩,e0.hok.fresh (AT _),fun y c h=>?_,fun p hp=>absurd (show p∈([]:List (AA×Obj)) from hp) (by simp),e0.hok.kept hk,?_⟩
 ·exact name_of_addr x.apart (DG h1) (DG h2)
 ·have hy:scope.names.lookup y=some .cell∨scope.names.lookup y=some .free:=hy;rcases hy with hy|hy
  ·exact wD hy
  ·exact absurd rfl (S.nofree _ (DG hy))
 ·exact CP (x.above y c (DG h))
 ·have hi:i<vs.length:=by
   unfold start at h2
   by_cases hi:i<vs.length
   ·exact hi
   ·rw[Cf (by simpa using hi)] at h2;rw[Ct] at h2
    split at h2<;>cases h2
  have ha:vs[i]?=some v:=by
   unfold start at h2;rw[CI (by simpa using hi),BD] at h2
   cases e:vs[i]? with
   | none=>rw[e] at h2; cases h2
   | some a=>rw[e] at h2; cases h2; rfl
  obtain⟨u,hu,rv⟩:=r.get ha;have hp:ps[i]?=some y:=by
   rw[← S.pre,D8 (by omega)]; exact h1
  have ndP:ps.Nodup:=by rw[← S.pre]; exact S.nd.sublist (List.take_sublist _ _)
  refine⟨u,rv,?_⟩;rcases S.par y (Cv hp) with k|k
  ·exact .inl ⟨k,u5 ndP hp hu k⟩
  ·obtain⟨c,e⟩:=wD (n:=s.heap.objs.size+1) k;refine .inr ⟨.inl k,c,e,?_⟩;have q:=x.cell y c e;rw[uL ndP hp hu (by show scope.names.lookup y≠_; rw[k]; decide)] at q;exact q
 ·exact e0.hok.fresh (CP (x.above y c (DG h)))
 ·unfold start;show _=N.length;rw[A6,A3,D9];omega
theorem a9F {CX:CXT}{P:AQ}{w:AL}{K:AW}{mg:Str→Option AB}{base:AH}{k:Nat}{f:AA}{name qual:Str}{params:Arguments}{body:List AS}{scope:BZ}{dV kV doc pm cdv ct oc:AB}{an od:Option AA}
  {osl:Array (Option AB)} {N ps:List Str} {sp:Sp} (lk:K.lookup f=some ⟨oc,od,.func (fnOf name qual params body scope dV kV doc pm an cdv ct),osl⟩) (hcd:CN K cdv qual=true) (S:FnScope N ps scope)
  (len:∀ vs H Q E,sp vs H Q E→vs.length=ps.length)
  (hbody:∀(A:AR) (outer:List Env) (s:AC) (H:Hp) (vs:List V) (Q:VK) (E:XK),Room k (A.deeper (Ba qual scope s.heap.objs.size f cdv))→sp vs H Q E →
   ∃ t,PSs (a4L CX P w K mg base N qual scope f cdv A outer s H E) body t∧t { nx:=fun _ H'=>Q .non H',rt:=Q } (start N vs) H) :
  FnOk P w K mg base CX (k+1) f (fnOf name qual params body scope dV kV doc pm an cdv ct) ps sp:=by
 refine⟨len,fun A outer s H args us vs Q E hr e0 hb r hsp=>?_⟩;have hl:=len _ _ _ _ hsp;have KX:K.In s.heap:=e0.mod.kin.keeps fun b o e=>(e0.bs b o e).1;have lim:s.heap.NoLimit:=e0.mod.nolimit.keeps fun b o e=>(e0.bs b o e).1;have hkind:∀ y∈ps.zip us,scope.names.lookup y.1=some .local∨(scope.names.lookup y.1=some .cell∧((cellsFrom (s.heap.objs.size+1) scope.names []).lookup y.1).isSome=true):=fun⟨n,v⟩ hy=>by
  rcases S.par n (DS hy).1 with q|q
  ·exact .inl q
  ·exact .inr ⟨q,D2 _ _ _ (.inl q)⟩
 refine codeAny_call_function hr.depth (KX _ _ lk) rfl S.co S.gen rfl (PySem.W.codeRec_of KX hcd) (hb _ _ _ _ ?_);refine wpAny_newFunctionEnv_cells S.kind hkind fun env he s1 x=>?_;subst he;refine⟨lim.keeps x.toInCall.keep,codeAny_func ?_⟩;obtain⟨t,ht,hq⟩:=hbody A outer s H vs Q E (hr.deeper _) hsp;have I:Inv (a4L CX P w K mg base N qual scope f cdv A outer s H E) [] (start N vs) H s1:=zX S hr.hd e0 hl r x;refine C7 (ht [] s1 (start N vs) H _ I hq) (fun fl s' hs=>?_) fun e s' hs=>hs;have fin:∀{σ':St} {H':Hp} {v:V} {u:AB},Inv (a4L CX P w K mg base N qual scope f cdv A outer s H E) [] σ' H' s'→RelV v u→Q v H'→CE outer P w H s Q u s':=
  fun{σ' H' v u} J rv q=>⟨v,H',J.os,J.bare,J.base,J.hok,rv,q⟩
 cases fl with
 | ret u=>
  obtain⟨v,σ',H',J,rv,q⟩:=hs;exact fin J rv q
 | next=>
  obtain⟨σ',H',J,q⟩:=hs;exact fin (v:=V.non) (u:=A9) J rfl q
 | brk=>
  obtain⟨_,_,_,q⟩:=hs;exact BR q
 | cont=>
  obtain⟨_,_,_,q⟩:=hs;exact BR q
end L2
namespace L2
open PySem PySem.Spec PyProof.Rows
section
variable {X:Cx}{x:Str}{p pos:Pos}{e:AN}{es:List AN}{t:TA}{id T:String}{r:List V→Hp→VK→Prop}
noncomputable def tCB (r:List V→Hp→VK→Prop)(t:TA):TE:=fun σ H Q=>t σ H fun vs H1=>r vs H1 Q
theorem bG (hc:CallR X (.builtin id) r)(hg:Gl X x)(hm:X.mg x=none)(hv:Cp x=some (.builtin id))(ha:PA X (e::es) t)(hn:x ≠ "__name__" := by decide)(hdb:(x==("__debug__" : Str))=false:=by decide)
  (he:Ak (e::es) X.env=(false,Aa e X.env)::Ak es X.env:=by rfl) (hpl:(BL pos (Ak es X.env)).any (·.1)=false:=by rfl):PE X (.Call (.Name x p) (e::es) [] pos) (tCB r t):=by
 intro pins s σ H Q I h;refine Dj (wI I hg hm hv ?_ hn hdb);exact PyProof.Rows.callWith_builtin1 (thn (ha pos pins s σ H _ I h) fun us s1 ⟨vs,H1,I1,r1,q1⟩=>hc pins s1 σ H1 vs us Q I1 r1 q1) he hpl
theorem a1Y (hc:CallR X (.type T) r)(hg:Gl X x)(hm:X.mg x=none)(hv:Cp x=some (.type T))(ha:PA X (e::es) t)(hn:x ≠ "__name__" := by decide)(hdb:(x==("__debug__" : Str))=false:=by decide)
  (he:Ak (e::es) X.env=(false,Aa e X.env)::Ak es X.env:=by rfl) (hpl:(BL pos (Ak es X.env)).any (·.1)=false:=by rfl):PE X (.Call (.Name x p) (e::es) [] pos) (tCB r t):=by
 intro pins s σ H Q I h;refine Dj (wI I hg hm hv ?_ hn hdb);exact Eb (thn (ha pos pins s σ H _ I h) fun us s1 ⟨vs,H1,I1,r1,q1⟩=>hc pins s1 σ H1 vs us Q I1 r1 q1) he hpl
end
end L2
namespace HT
open PySem PyProof.Rows
noncomputable def lexLt:List Int→List Int→Bool
 | [],[]=>false
 | [],_::_=>true
 | _::_,[]=>false
 | x::xs,y::ys=>if x=y then lexLt xs ys else decide (x<y)
theorem lexLt_cons (x y:Int)(xs ys:List Int):lexLt (x::xs) (y::ys)=if x=y then lexLt xs ys else decide (x<y):=rfl
theorem lexLt_nil_nil:lexLt [] []=false:=rfl
theorem qI (y:Int)(ys:List Int):lexLt [] (y::ys)=true:=rfl
theorem qQ (x:Int)(xs:List Int):lexLt (x::xs) []=false:=rfl
theorem a3T (A:AR)(s:AC)(a:Int)(t:Tok)(c:Int)(u:Tok):∃ e,C5 A s (.int a t) (.int c u) e∧(e=true↔a=c):=
 ⟨(a==c),C5.int_int a t c u,by simp⟩
theorem a3A (A:AR)(s:AC)(a:Int)(t:Tok)(c:Int)(u:Tok)(prog:AQ)(w:AL)(E:AB→AC→Prop)(Q:AB→AC→Prop)(h:Q (.bool (decide (a<c))) s) :
  AK (AF prog w) A (richCompare .Lt (.int a t) (.int c u)) Q E s:=
 (PyProof.Rows.lt_int h:AK (AF prog w) A (BQ .Lt (.int a t) (.int c u)) Q E s)
section
open PySem.SeqAt
open PySem.MeetsSeq PySem.MeetsSeq2 PySem.MeetsSeq3
theorem sJ (l b:AA)(items items2:Array AB)(n n2:Nat)(dd dd2:Option AA)(sl sl2:Array (Option AB))(ns ms:List Int)(hi:BM items.toList ns)(hj:BM items2.toList ms) :
  Meets (Al.«tuple.__lt__» ⟨[.ref l,.ref b],[]⟩)
   (fun _ R s=>s.heap.get? l=some { cls:=.type "tuple", dict:=dd,data:=.seq items n,slots:=sl }∧s.heap.get? b=some { cls:=.type "tuple", dict:=dd2,data:=.seq items2 n2,slots:=sl2 } ∧
    R (.ok (.ret (.bool (lexLt ns ms)))) s):=
 .of_wp fun prog w A R s h=>by
  obtain⟨hp,g,d,tk,os⟩:=s; obtain⟨hl,hb,h⟩:=h;have f2:=AutoSeq1.sub_tuple_tuple;have z1:items.size=ns.length:=by rw[← hi.length]; simp
  have z2:items2.size=ms.length:=by rw[← hj.length]; simp
  wp_walk using Cb hl,Cb hb,wpAny_forIn_list _ (fun rest b s'=>b.1=none∧s'=⟨hp,g,d,tk,os⟩∧∃(vs ws:List AB) (ns' ms':List Int),rest=vs.zip ws ∧
   BM vs ns'∧BM ws ms'∧ns'.length+items2.size=ms'.length+items.size∧R (.ok (.ret (.bool (lexLt ns' ms')))) ⟨hp,g,d,tk,os⟩) _
  case turn=>
   rintro⟨y,x⟩ rest b s' ⟨hb',rfl,vs,ws,ns',ms',hz,hvi,hwi,hlen,hR⟩
   cases hvi with
   | nil=>rw[List.zip_nil_left] at hz; cases hz
   | cons a t hvi'=>
    cases hwi with
    | nil=>rw[List.zip_nil_right] at hz; cases hz
    | cons c u hwi'=>
     rw[List.zip_cons_cons] at hz;injection hz with hyx hrest;injection hyx with hy hx;subst hy hx;rw[lexLt_cons] at hR;simp only[Aw] at hlen;obtain⟨e,he,hiff⟩:=a3T A.in1 ⟨hp,g,d,tk,os⟩ a t c u;refine AO (he prog w _ _ ?_)
     cases e with
     | true=>
      rw[if_pos (hiff.mp rfl)] at hR
      wp_walk
      exact⟨rfl,rfl,_,_,_,_,hrest,hvi',hwi',by omega,hR⟩
     | false=>
      rw[if_neg (fun q=>absurd (hiff.mpr q) Dh)] at hR;have hri:=a3A A.in1 ⟨hp,g,d,tk,os⟩ a t c u prog w
      wp_walk using hri
      exact⟨_,rfl,by simpa using hR⟩
  case fin=>
   rintro⟨b1,b2⟩ s' ⟨hb',rfl,vs,ws,ns',ms',hz,hvi,hwi,hlen,hR⟩
   simp only at hb';subst hb';have hv:lexLt ns' ms'=decide (items.size<items2.size):=by
    cases hvi with
    | nil=>
     cases hwi with
     | nil=>
      simp only[Cg] at hlen;rw[lexLt_nil_nil];exact(decide_eq_false (by omega)).symm
     | cons c u hw=>
      simp only[Cg,Aw] at hlen;rw[qI];exact(decide_eq_true (by omega)).symm
    | cons a t hv=>
     cases hwi with
     | nil=>
      simp only[Cg,Aw] at hlen;rw[qQ];exact(decide_eq_false (by omega)).symm
     | cons c u hw=>
      rw[List.zip_cons_cons] at hz
      cases hz
   rw[hv] at hR
   wp_walk
   exact⟨_,rfl,by simpa [Al.Tuple.tupleCompareSizes] using hR⟩
  case h=>
   exact⟨rfl,rfl,items.toList,items2.toList,ns,ms,rfl,hi,hj,by omega,h⟩
end
section
variable {prog:AQ}{w:AL}{A:AR}{E:AB→AC→Prop}{s:AC}
theorem lt_tupInts {l b:AA}{items items2:Array AB}{ns ms:List Int}{Q:AB→AC→Prop}(hl:IsTup s.heap l items)(hb:IsTup s.heap b items2)(hi:BM items.toList ns)(hj:BM items2.toList ms)
  (hu:A.units<A5) (h:Q (.bool (lexLt ns ms)) s):AK (AF prog w) A (BQ .Lt (.ref l) (.ref b)) Q E s:=by
 obtain⟨⟨cls,dd,data,sl⟩,ho,hc,n,hd⟩:=id hl;obtain⟨⟨cls2,dd2,data2,sl2⟩,ho2,hc2,n2,hd2⟩:=id hb;simp only at hc hd hc2 hd2;subst hc hd hc2 hd2;exact richCompare_meets_room (op:=.Lt) ⟨_,ho,rfl⟩ ⟨_,ho2,rfl⟩ PySem.F.slot_tuple_lt PySem.F.entry_tuple_lt (PySem.F.args_tuple_lt_2 _ _) (sJ l b items items2 n n2 dd dd2 sl sl2 ns ms hi hj)
  ⟨ho,ho2,show C6 (lexLt ns ms)≠AB.notImplemented∧Q (.bool (lexLt ns ms)) s from⟨(fun x=>nomatch x),h⟩⟩ hu
noncomputable def sIx (n d:Nat):Option Int→Nat
 | none=>d
 | some v=>if v<0 then(v+(n:Int)).toNat else min v.toNat n
theorem a7L (n d:Nat)(hd:d≤n)(o:Option Int):sIx n d o≤n:=by
 cases o with
 | none=>exact hd
 | some v=>
  show(if v<0 then(v+(n:Int)).toNat else min v.toNat n)≤n
  by_cases hv:v<0
  ·rw[if_pos hv]; omega
  ·rw[if_neg hv]; exact Nat.min_le_right _ _
theorem a1V (v:Int)(n d:Nat):(if v<0 then max (v+(n:Int)) 0 else min v (n:Int))=((sIx n d (some v):Nat):Int):=by
 show(if v<0 then max (v+(n:Int)) 0 else min v (n:Int))=(((if v<0 then(v+(n:Int)).toNat else min v.toNat n):Nat):Int)
 by_cases hv:v<0
 ·simp only[if_pos hv]; omega
 ·simp only[if_neg hv]; omega
theorem yM (lo hi:Option Int)(n:Nat):EA lo hi 1 (n:Int)=(((sIx n 0 lo:Nat):Int),((sIx n n hi:Nat):Int)):=by
 have h1:¬((1:Int)<0):=by omega
 unfold EA;simp only[h1,if_false];refine Prod.ext ?_ ?_
 ·cases lo with
  | none=>rfl
  | some v=>exact a1V v n 0
 ·cases hi with
  | none=>rfl
  | some v=>exact a1V v n n
theorem xY (i j:Nat):Dk (i:Int) (j:Int) 1=j-i:=by
 unfold Dk;have h1:(1:Int)>0:=by omega
 simp only[h1,if_true,Int.ediv_one]
 split<;>omega
theorem rD {v:AB}{o:Option Int}{Q:Option Int→AC→Prop}(p:CD v o)(h:Q o s):AK (AF prog w) A (Al.Slice.slicePartIndex v) Q E s:=by
 cases p with
 | none=>exact slicePart_none h
 | int i t=>exact slicePart_int h
theorem oE {sl:AA}{vl vu:AB}{lo hi:Option Int}{n:Nat}{Q:Int×Int×Nat→AC→Prop}(hs:s.heap.IsSliceOf sl vl vu .none)(pl:CD vl lo)(pu:CD vu hi)
  (h:Q (((sIx n 0 lo:Nat):Int),1,sIx n n hi-sIx n 0 lo) s):AK (AF prog w) A (Ee (.ref sl) (pure (n:Int))) Q E s:=by
 obtain⟨os,hos,hcs,hds⟩:=id hs;unfold Ee Al.Slice.sliceFields;refine AO (AO (EB hos hds (x:=vl) rfl (AO (EB hos hds (x:=vu) rfl (AO (EB hos hds (x:=.none) rfl (Ab ?_)))))));refine AO (slicePart_none ?_);show AK _ _ (if ((1:Int)==0)=true then _ else _) _ _ s;rw[if_neg (by decide)];refine AO (rD pl (AO (rD pu (AO (Ab ?_)))));show AK _ _ (match EA lo hi 1 (n:Int) with|(lo,hi)=>pure (lo,(1:Int),Dk lo hi 1)) _ _ s;rw[yM lo hi n];show AK _ _ (pure (((sIx n 0 lo:Nat):Int),(1:Int),Dk ((sIx n 0 lo:Nat):Int) ((sIx n n hi:Nat):Int) 1)) _ _ s;rw[xY];exact Ab h
theorem a4K (xs:Array AB)(i k:Nat):((BY k).filterMap fun(m:Nat)=>xs[((i:Int)+(m:Int)*1).toNat]?).toArray=((xs.toList.drop i).take k).toArray:=by
 have e:(fun(m:Nat)=>xs[((i:Int)+(m:Int)*1).toNat]?)=fun m=>xs[i+m]?:=by
  funext m
  have:((i:Int)+(m:Int)*1).toNat=i+m:=by omega
  rw[this]
 rw[e];have:=pick_run xs i k;rw[List.filterMap_map] at this;have e2:((fun x=>xs[x]?)∘fun x=>i+x)=fun m=>xs[i+m]?:=rfl;rw[e2] at this;rw[this]
theorem getItem_tuple_cut {t sl:AA}{items:Array AB}{vl vu:AB}{lo hi:Option Int}{Q:AB→AC→Prop}(ht:IsTup s.heap t items)(hs:s.heap.IsSliceOf sl vl vu .none)(pl:CD vl lo)(pu:CD vu hi)
  (hw:¬(sIx items.size 0 lo=0∧sIx items.size items.size hi=items.size))
  (h:Q (.ref s.heap.objs.size) { s with heap:=s.heap.push { cls:=.type "tuple", data:=.seq ((items.toList.drop (sIx items.size 0 lo)).take (sIx items.size items.size hi-sIx items.size 0 lo)).toArray } })
  (hsz:items.size≤sizeLine):AK (AF prog w) A (DH (.ref t) (.ref sl)) Q E s:=by
 have htake:sizeOk (.seq ((items.toList.drop (sIx items.size 0 lo)).take (sIx items.size items.size hi-sIx items.size 0 lo)).toArray):=by
  show((items.toList.drop (sIx items.size 0 lo)).take (sIx items.size items.size hi-sIx items.size 0 lo)).toArray.size≤sizeLine
  rw[Ap,BU,Bs,Aj];omega
 have hj:sIx items.size items.size hi≤items.size:=a7L _ _ (AT _) hi;obtain⟨os,hos,hcs,hds⟩:=id hs;have hTs:s.TypeIs (.ref sl) "slice" := ⟨os,hos,hcs⟩;unfold DH
 try with_reducible refine CB ?_
 first|refine AO (Ab ?_)|skip
 refine AO (wpAny_sequenceKey ht.typeIs (by decide) ?_);refine AO (wpAny_callSpecial?_slot (name:=Str.ofString "__getitem__") ht.typeIs EC
  (ED EC ht.typeIs entry_tuple_getitem ?_ (args_tuple_getitem _ _)))
 show AK _ _ (Al.Tuple.tupleItemsOf (.ref t) >>= _) _ _ s;refine AO (tupleItemsOf_ ht ?_);refine AO (wpAny_typeOf hTs ?_);rw[if_pos (by decide)];refine AO (oE hs pl pu ?_);have hno:¬((((sIx items.size 0 lo:Nat):Int)==0&&(1:Int)==1&&(sIx items.size items.size hi-sIx items.size 0 lo)==items.size)=true):=by
  intro q;rw[Co,Co] at q;have q1:((sIx items.size 0 lo:Nat):Int)=0:=eq_of_beq q.1.1;have q2:sIx items.size items.size hi-sIx items.size 0 lo=items.size:=eq_of_beq q.2;exact hw ⟨by omega,by omega⟩
 show AK _ _ (if (((sIx items.size 0 lo:Nat):Int)==0&&(1:Int)==1&&(sIx items.size items.size hi-sIx items.size 0 lo)==items.size)=true then _ else _) _ _ s;rw[if_neg hno,a4K]
 first
  | exact AO (m:=Dl _) (DB (Ab ⟨_,rfl,Ab h⟩) htake)
  | exact AO (m:=Dl _) (DB (AO (Ab (Ab ⟨_,rfl,Ab h⟩))) htake)
  | exact AO (AO (m:=Dl _) (DB (Ab (Ab ⟨_,rfl,Ab h⟩)) htake))
  | exact AO (AO (m:=Dl _) (DB (Ab ⟨_,rfl,Ab h⟩) htake))
end
end HT
namespace L2
open PySem PySem.Spec PyProof.Rows
abbrev TO:=St→Hp→(Option Int→Hp→Prop)→Prop
noncomputable def PO (X:Cx)(e:Option AN)(t:TO):Prop:=
 ∀(pins:List (AA×Obj)) (s:AC) (σ:St) (H:Hp) (Q:Option Int→Hp→Prop),Inv X pins σ H s→t σ H Q →
  AK (AF X.prog X.w) X.A (evalPart e X.env) (fun u s'=>∃ o H',Inv X pins σ H' s'∧CD u o∧Q o H') X.xe s
noncomputable def zN:TO:=fun _ H Q=>Q none H
noncomputable def a9M (t:TE):TO:=fun σ H Q=>t σ H fun x H1=>∃ i,x=.int i∧Q (some i) H1
theorem intsAre_of {ns:List Int}:∀{us:List AB},Vals (ns.map V.int) us→BM us ns:=by
 induction ns with
 | nil=>intro us r; rw[map_nil] at r; cases r; exact .nil
 | cons n ns ih=>
  intro us r;rw[B6] at r
  cases r with
  | cons r1 r2=>
   obtain⟨t,e⟩:=r1;subst e;exact .cons n t (ih r2)
section
variable {X:Cx}{e:AN}{te:TE}{lo hi:Option AN}{tl th:TO}{pos p2:Pos}
theorem iB:PO X none zN:=by
 intro pins s σ H Q I h;rw[evalPart_none];exact Ab ⟨none,H,I,.none,h⟩
theorem iC (h:PE X e te):PO X (some e) (a9M te):=by
 intro pins s σ H Q I hw;rw[evalPart_some];refine thn (h pins s σ H _ I hw) fun u s1 ⟨x,H1,I1,r1,q1⟩=>?_;obtain⟨i,rfl,q⟩:=q1;obtain⟨t,rfl⟩:=r1;exact⟨some i,H1,I1,.int i t,q⟩
noncomputable def SlR (X:Cx)(r:V→Option Int→Option Int→Hp→VK→Prop):Prop:=
 ∀(pins:List (AA×Obj)) (s:AC) (σ:St) (H:Hp) (x:V) (v vl vu:AB) (lo hi:Option Int) (sl:AA) (Q:VK),Inv X pins σ H s→RelV x v→s.heap.IsSliceOf sl vl vu .none→CD vl lo→CD vu hi→r x lo hi H Q →
  ∃ T id,typeLookup (.type T) "__getitem__" = pure (some (.builtin id))∧s.TypeIs v T∧AK (AF X.prog X.w) X.A (DH v (.ref sl)) (EP X pins σ Q) X.xe s
noncomputable def tSl (r:V→Option Int→Option Int→Hp→VK→Prop)(te:TE)(tl th:TO):TE:=fun σ H Q=>te σ H fun x H1=>tl σ H1 fun l H2=>th σ H2 fun u H3=>r x l u H3 Q
theorem fY {r:V→Option Int→Option Int→Hp→VK→Prop}(hr:SlR X r)(he:PE X e te)(hl:PO X lo tl)(hu:PO X hi th):PE X (.Subscript e (.Slice lo hi none p2) pos) (tSl r te tl th):=by
 intro pins s σ H Q I h;refine Subscript_ (thn (he pins s σ H _ I h) fun v s1 ⟨x,H1,I1,r1,q1⟩=>?_);refine wpAny_Slice (thn (hl pins s1 σ H1 _ I1 q1) fun vl s2 ⟨l,H2,I2,pl,q2⟩=>thn (hu pins s2 σ H2 _ I2 q2) fun vu s3 ⟨u,H3,I3,pu,q3⟩=>?_);rw[evalPart_none];refine Ab ?_;have I4:Inv X pins σ H3 { s3 with heap:=s3.heap.push { cls:=.type "slice", data:=.fields #[vl,vu,.none] } }:=I3.kept (t':=s3.toks) fun b ob q=>An _ q;obtain⟨T,id,hT,ht,hg⟩:=hr pins { s3 with heap:=s3.heap.push { cls:=.type "slice", data:=.fields #[vl,vu,.none] } } σ H3 x v vl vu l u s3.heap.objs.size Q I4 r1 (AH.IsSliceOf.new ..) pl pu q3;show AK (AF X.prog X.w) X.A (subscriptTail e (.Slice lo hi none p2) v (.ref s3.heap.objs.size)) (EP X pins σ Q) X.xe { s3 with heap:=s3.heap.push { cls:=.type "slice", data:=.fields #[vl,vu,.none] } };exact tail_any (ops:=[.ref s3.heap.objs.size,v]) ht hT hg (by with_unfolding_all rfl)
noncomputable def a6M (xs:List V)(lo hi:Option Int):List V:=(xs.drop (HT.sIx xs.length 0 lo)).take (HT.sIx xs.length xs.length hi-HT.sIx xs.length 0 lo)
theorem vJ (xs:List V)(lo hi:Option Int):(a6M xs lo hi).length≤xs.length:=by
 unfold a6M;rw[BU,Bs];omega
noncomputable def aCK (K:AW):V→Option Int→Option Int→Hp→VK→Prop:=fun x lo hi H Q=>∃ a xs,x=.ref a∧SqT K H a xs ∧
 ¬(HT.sIx xs.length 0 lo=0∧HT.sIx xs.length xs.length hi=xs.length)∧∀ p,H p=none→Q (.ref p) (upd H p (.tup (a6M xs lo hi)))
theorem lZ:SlR X (aCK X.K):=by
 intro pins s σ H x v vl vu lo hi sl Q I rx hs pl pu h;obtain⟨a,xs,rfl,hx,hw,q⟩:=h
 cases rx
 obtain⟨its,r,ht,hz⟩:=I.tuple hx;have hlen:its.toArray.size=xs.length:=by rw[Ap]; exact r.length.symm
 refine⟨"tuple", _,EC.lookup,ht.typeIs,?_⟩;refine HT.getItem_tuple_cut ht hs pl pu (by rw[hlen]; exact hw) ?_ (by rw[hlen]; exact hz);rw[hlen];refine⟨.ref s.heap.objs.size,_,I.laid (t':=s.toks) (o:=.tup (a6M xs lo hi)) (fun b ob q=>An _ q) (AT _) ?_,rfl,q _ (I.hok.fresh (AT _))⟩;exact⟨BF (vJ xs lo hi) hz,_,(r.drop (HT.sIx xs.length 0 lo)).take (HT.sIx xs.length xs.length hi-HT.sIx xs.length 0 lo),IsTup.new _ _⟩
noncomputable def aBW (K:AW):R2:=fun x y H Q=>∃ a b ns ms,x=.ref a∧y=.ref b∧SqT K H a (ns.map V.int)∧SqT K H b (ms.map V.int)∧Q (.bl (HT.lexLt ns ms)) H
theorem a5I (hu:X.A.units<A5):OpR X (BQ .Lt) (aBW X.K):=by
 intro pins s σ H x y v u Q I rx ry h;obtain⟨a,b,ns,ms,rfl,rfl,ha,hb,q⟩:=h
 cases rx
 cases ry
 obtain⟨its,r1,p1,_⟩:=I.tuple ha;obtain⟨its2,r2,p2,_⟩:=I.tuple hb;have i1:BM its.toArray.toList ns:=intsAre_of r1;have i2:BM its2.toArray.toList ms:=intsAre_of r2;exact HT.lt_tupInts p1 p2 i1 i2 hu ⟨.bl (HT.lexLt ns ms),H,I,rfl,q⟩
end
end L2
namespace L2
open PySem PySem.Spec PyProof.Rows
noncomputable def ixN (n:Nat)(i:Int):Option Nat:=if 0≤i then(if i<n then some i.toNat else none) else if -(n:Int)≤i then some (i+n).toNat else none
noncomputable def atI {α:Type}(xs:List α)(i:Int):Option α:=(ixN xs.length i).bind fun j=>xs[j]?
theorem a2F {n:Nat}{i:Int}{j:Nat}(h:ixN n i=some j):Dm i n=some j∧j<n ∧ -(n:Int)≤i∧i<n:=by
 unfold ixN at h
 by_cases h0:0≤i
 ·rw[if_pos h0] at h
  by_cases h1:i<n
  ·rw[if_pos h1] at h;have e:i.toNat=j:=A1.inj h;exact⟨by rw[EE h0 h1,e],by omega,by omega,h1⟩
  ·rw[if_neg h1] at h; cases h
 ·rw[if_neg h0] at h
  by_cases h1 : -(n:Int)≤i
  ·rw[if_pos h1] at h;have e:(i+n).toNat=j:=A1.inj h;exact⟨by rw[seqIndex_neg (by omega) h1,e],by omega,h1,by omega⟩
  ·rw[if_neg h1] at h; cases h
theorem vM {α:Type}{xs:List α}{i:Int}{v:α}(h:atI xs i=some v):∃ j,Dm i xs.length=some j∧xs[j]?=some v∧j<xs.length ∧ -(xs.length:Int)≤i∧i<xs.length:=by
 unfold atI at h
 cases e:ixN xs.length i with
 | none=>rw[e] at h; cases h
 | some j=>
  rw[e] at h;obtain⟨h1,h2,h3,h4⟩:=a2F e;exact⟨j,h1,h,h2,h3,h4⟩
theorem pQ {α:Type}{xs:List α}{j:Nat}{v:α}(h:xs[j]?=some v):atI xs (j:Int)=some v:=by
 have hj:j<xs.length:=(A4.mp h).1;have e:ixN xs.length (j:Int)=some j:=by
  unfold ixN;rw[if_pos (by omega),if_pos (by omega)]; simp
 unfold atI; rw[e]; exact h
noncomputable def a7B (b:AN):Prop:=∀ o i,subscripted b false o i=operate [o,i] (DH o i)
noncomputable def IxR (X:Cx)(r:R2):Prop:=
 ∀(value slice:AN) (pins:List (AA×Obj)) (s:AC) (σ:St) (H:Hp) (x y:V) (v u:AB) (Q:VK),Inv X pins σ H s→RelV x v→RelV y u→r x y H Q →
  subscripted slice false v u=operate [v,u] (DH v u)→AK (AF X.prog X.w) X.A (subscriptTail value slice v u) (EP X pins σ Q) X.xe s
noncomputable def MtR (X:Cx)(id:String)(r:V→List V→Hp→VK→Prop):Prop:=
 ∀(pins:List (AA×Obj)) (s:AC) (σ:St) (H:Hp) (x:V) (xs:List V) (v:AB) (us:List AB) (Q:VK),Inv X pins σ H s→RelV x v→Vals xs us→r x xs H Q →
  AK (AF X.prog X.w) X.A (call (.builtin id) (v::us)) (EP X pins σ Q) X.xe s
section
variable {X:Cx}{a b:AN}{ta tb:TE}{pos:Pos}
theorem IxR.or {r r':R2}(h:IxR X r)(h':IxR X r'):IxR X (fun x y H Q=>r x y H Q∨r' x y H Q):=by
 intro value slice pins s σ H x y v u Q I rx ry q hs;rcases q with q|q
 ·exact h value slice pins s σ H x y v u Q I rx ry q hs
 ·exact h' value slice pins s σ H x y v u Q I rx ry q hs
theorem aX {r:R2}(hr:IxR X r)(ha:PE X a ta)(hb:PE X b tb)(hs:a7B b):PE X (.Subscript a b pos) (tOp r ta tb):=by
 intro pins s σ H Q I h;exact Subscript_ (aBD ha hb I h fun v u s2 x y H2 I2 rx ry q=>hr a b pins s2 σ H2 x y v u Q I2 rx ry q (hs _ _))
noncomputable def aBY (K:AW):R2:=fun x y H Q=>∃ p xs i v,x=.ref p∧y=.int i∧SqL K H p xs∧atI xs i=some v∧Q v H
noncomputable def aC4 (K:AW):R2:=fun x y H Q=>∃ p xs i v,x=.ref p∧y=.int i∧SqT K H p xs∧atI xs i=some v∧Q v H
noncomputable def aC5:R2:=fun x y H Q=>∃ z i c,x=.str z∧y=.int i∧z.length≤sizeLine∧atI z.cps.toList i=some c∧Q (.str ⟨#[c]⟩) H
theorem ix_list:IxR X (aBY X.K):=by
 intro value slice pins s σ H x y v u Q I rx ry h hs;obtain⟨p,xs,i,z,rfl,rfl,hq,he,q⟩:=h
 cases rx
 obtain⟨t,rfl⟩:=ry;obtain⟨its,r,pl,hz⟩:=I.list hq;obtain⟨j,h1,h2,h3,h4,h5⟩:=vM he;obtain⟨w,ew,rw'⟩:=r.get h2;have hl:=r.length;have hn:=uD;have fin:EP X pins σ Q w s:=⟨z,H,I,rw',q⟩
 by_cases h0:0≤i
 ·have hj:i.toNat=j:=by
   rw[EE h0 h5] at h1;exact A1.inj h1
  exact item_listR pl.isList h0 (by omega) (by rw[hj]; simpa using ew) fin hs
 ·have hj:(i+(its.toArray.size:Int)).toNat=j:=by
   rw[seqIndex_neg (by omega) h4] at h1;rw[Ap,←hl];exact A1.inj h1
  exact Ef (x:=w) pl.isList.typeIs slot_list_getitem.lookup
   (wpAny_getItem_list_neg (Q:=fun r s'=>r=w∧EP X pins σ Q r s') pl.isList (by omega) (by rw[Ap]<;>omega) (by omega) (by rw[hj]; simpa using ew) ⟨rfl,fin⟩) hs
theorem ix_tup:IxR X (aC4 X.K):=by
 intro value slice pins s σ H x y v u Q I rx ry h hs;obtain⟨p,xs,i,z,rfl,rfl,hq,he,q⟩:=h
 cases rx
 obtain⟨t,rfl⟩:=ry;obtain⟨its,r,pl,hz⟩:=I.tuple hq;obtain⟨j,h1,h2,h3,h4,h5⟩:=vM he;obtain⟨w,ew,rw'⟩:=r.get h2;have hl:=r.length;have hn:=uD;have fin:EP X pins σ Q w s:=⟨z,H,I,rw',q⟩;exact Ef (x:=w) pl.typeIs slot_tuple_getitem.lookup
  (getItem_tuple (j:=j) (Q:=fun r s'=>r=w∧EP X pins σ Q r s') pl (by omega) (by omega) (by rw[Ap,←hl]; exact h1) (by simpa using ew) ⟨rfl,fin⟩) hs
theorem a8N:IxR X aC5:=by
 intro value slice pins s σ H x y v u Q I rx ry h hs;obtain⟨z,i,c,rfl,rfl,hz,he,q⟩:=h;obtain⟨t,rfl⟩:=rx;obtain⟨t',rfl⟩:=ry;obtain⟨j,h1,h2,h3,h4,h5⟩:=vM he;have hl:z.cps.toList.length=z.length:=by simp[Str.length]
 rw[hl] at h1 h4 h5;have hn:=uD;exact tail_any (typeIs_str s z t) slot_str_getitem.lookup (getItem_str (c:=c) (by
  have e1:decide (i < -(2^63:Int))=false:=decide_eq_false (by omega);have e2:decide (i≥2^63)=false:=decide_eq_false (by omega);rw[e1,e2,Bool.or_false]) (by rw[h1]; simpa using h2) ⟨.str ⟨#[c]⟩,H,I.tok _,⟨_,rfl⟩,q⟩) hs
noncomputable def rIx (K:AW):R2:=fun x y H Q=>aBY K x y H Q∨aC4 K x y H Q∨aC5 x y H Q
theorem aK:IxR X (rIx X.K):=ix_list.or (ix_tup.or a8N)
theorem yU (its:List AB)(n j:Nat)(u:AB):Am (·.setIfInBounds j u) { cls:=.type "list", data:=.seq its.toArray n }={ cls:=.type "list", data:=.seq (its.set j u).toArray n }:=by
 simp[Am]
theorem Inv.lst {pins:List (AA×Obj)}{σ:St}{H:Hp}{s:AC}{p:AA}{xs:List V}(I:Inv X pins σ H s)(h:H p=some (.lst xs)) :
  ∃(its:List AB) (n:Nat),Vals xs its∧s.heap.get? p=some { cls:=.type "list", data:=.seq its.toArray n }∧xs.length≤sizeLine:=by
 obtain⟨z,its,n,r,e⟩:=I.hok p _ h;exact⟨its,n,r,e,z⟩
theorem Inv.lstUpd {pins:List (AA×Obj)}{σ:St}{H:Hp}{s:AC}{p:AA}{xs ys:List V}{its its':List AB}{n n':Nat}{f:Obj→Obj}(I:Inv X pins σ H s)(h:H p=some (.lst xs))
  (ho:s.heap.get? p=some { cls:=.type "list", data:=.seq its.toArray n }) (hf:f { cls:=.type "list", data:=.seq its.toArray n }={ cls:=.type "list", data:=.seq its'.toArray n' }) (r:Vals ys its') (hz:ys.length≤sizeLine) (t:Nat) :
  Inv X pins σ (upd H p (.lst ys)) { s with heap:=s.heap.update p f,toks:=t }:=by
 have e:(s.heap.update p f).get? p=some { cls:=.type "list", data:=.seq its'.toArray n' }:=by
  rw[AH.get?_update_self f ho (by rw[hf]<;>rfl),hf]
 refine I.write (x:=p) (e:=p) (by rw[h]; trivial) (.inl rfl) (fun b u hb q=>(Eg _ _ (Ne.symm hb)).trans q) ⟨_,e⟩ ?_;exact⟨hz,its',n',r,e⟩
noncomputable def aAS:V→V→V→Hp→(Hp→Prop)→Prop:=fun o i v H Q=>∃ p xs k j,o=.ref p∧i=.int k∧H p=some (.lst xs)∧ixN xs.length k=some j∧Q (upd H p (.lst (xs.set j v)))
theorem set_list:aC3 X aAS:=by
 intro pins s σ H o i v ov iv u Q I ro ri rv h;obtain⟨p,xs,k,j,rfl,rfl,hp,hj,q⟩:=h
 cases ro
 obtain⟨t,rfl⟩:=ri;obtain⟨its,n,r,ho,hz⟩:=I.lst hp;obtain⟨h1,h2,h3,h4⟩:=a2F hj;have hl:=r.length;have hn:=uD;have I':Inv X pins σ (upd H p (.lst (xs.set j v))) { s with heap:=s.heap.update p (Am (·.setIfInBounds j u)) }:=
  I.lstUpd hp ho (yU its n j u) (r.set rv j) (by rw[Bu]; exact hz) s.toks
 by_cases h0:0≤k
 ·have hk:k.toNat=j:=by
   rw[EE h0 h4] at h1;exact A1.inj h1
  exact PySem.W.ki_setAt ho h0 (by omega) (by rw[Ap,←hl]; exact h4) (by rw[hk]; exact⟨_,I',q⟩)
 ·have hk:(k+(its.toArray.size:Int)).toNat=j:=by
   rw[seqIndex_neg (by omega) h3] at h1;rw[Ap,←hl];exact A1.inj h1
  exact PySem.W.ki_setBack ho (by omega) (by rw[Ap,←hl]; exact h3) (by omega) (by rw[hk]; exact⟨_,I',q⟩)
theorem aR:CallR X (.builtin "len") (fun xs H Q=>∃ p ys,xs=[.ref p]∧(SqL X.K H p ys∨SqT X.K H p ys)∧Q (.int ys.length) H):=by
 intro pins s σ H xs us Q I r h;obtain⟨p,ys,rfl,hq,q⟩:=h;obtain⟨u,rfl,rx⟩:=vals1 r
 cases rx
 have hn:=uD;rcases hq with hq|hq
 ·obtain⟨its,r',pl,hz⟩:=I.list hq;have hlen:=r'.length;exact Calls.call_len_list pl.isList (by simp only[Ap]<;>omega) ⟨.int ys.length,H,I.tok _,⟨s.toks+1,by rw[Ap,hlen]⟩,q⟩
 ·obtain⟨its,r',pl,hz⟩:=I.tuple hq;have hlen:=r'.length;exact len_tuple pl (by simp only[Ap]<;>omega) ⟨.int ys.length,H,I.tok _,⟨s.toks+1,by rw[Ap,hlen]⟩,q⟩
theorem CallR.or {f:AB}{r r':List V→Hp→VK→Prop}(h:CallR X f r)(h':CallR X f r'):CallR X f (fun xs H Q=>r xs H Q∨r' xs H Q):=by
 intro pins s σ H xs us Q I rs q;rcases q with q|q
 ·exact h pins s σ H xs us Q I rs q
 ·exact h' pins s σ H xs us Q I rs q
noncomputable def tyV (K:AW)(T:String)(x:V)(H:Hp):Prop:=match x with
 | .str _=>T = "str"
 | .int _=>T = "int"
 | .ref p=>(T = "list" ∧ ∃ xs,SqL K H p xs)∨(T = "tuple" ∧ ∃ o,K.lookup p=some o∧o.cls=.type "tuple" ∧ o.dict=none) ∨
   (T = "dict" ∧ ((∃ kvs,H p=some (.dK kvs))∨∃ kvs,H p=some (.dT kvs)))∨(T = "set" ∧ ∃ S n,H p=some (.set S n))
 | _=>False
theorem a8M {pins:List (AA×Obj)}{σ:St}{H:Hp}{s:AC}{T:String}{x:V}{v:AB}(I:Inv X pins σ H s)(r:RelV x v)(ty:tyV X.K T x H) :
  s.TypeIs v T∧∀ a,v=.ref a→∃ ob,s.heap.get? a=some ob∧ob.dict=none:=by
 cases x with
 | str z=>
  obtain⟨t,rfl⟩:=r
  cases(show T = "str" from ty)
  exact⟨typeIs_str s z t,fun _ e=>nomatch e⟩
 | int i=>
  obtain⟨t,rfl⟩:=r
  cases(show T = "int" from ty)
  exact⟨typeIs_int s i t,fun _ e=>nomatch e⟩
 | ref p=>
  cases r
  rcases ty with⟨rfl,xs,hq⟩|⟨rfl,o,hk,hc,hd⟩|⟨rfl,hk⟩|⟨rfl,S,n,hk⟩
  ·obtain⟨its,_,pl,_⟩:=I.list hq;refine⟨pl.isList.typeIs,fun a e=>?_⟩
   cases e
   obtain⟨o,n,e,c,hd,_⟩:=pl;exact⟨o,e,hd⟩
  ·refine⟨⟨o,I.kIn p o hk,hc⟩,fun a e=>?_⟩
   cases e
   exact⟨o,I.kIn _ o hk,hd⟩
  ·have z:∃ o,s.heap.get? p=some o∧o.ExactDict:=by
    rcases hk with⟨kvs,hk⟩|⟨kvs,hk⟩
    ·obtain⟨_,_,_,_,o,_,_,e,ex,_⟩:=I.hok p _ hk;exact⟨o,e,ex⟩
    ·obtain⟨_,_,_,_,o,_,_,e,ex,_⟩:=I.hok p _ hk;exact⟨o,e,ex⟩
   obtain⟨o,e,ex⟩:=z;refine⟨⟨o,e,ex.1⟩,fun a e2=>?_⟩
   cases e2
   exact⟨o,e,ex.2.1⟩
  ·obtain⟨o,_,_,_,e,ex,_⟩:=I.hok p _ hk;refine⟨⟨o,e,ex.1⟩,fun a e2=>?_⟩
   cases e2
   exact⟨o,e,ex.2.1⟩
 | _=>exact BR ty
noncomputable def tBM (K:AW)(T:String)(r:V→List V→Hp→VK→Prop)(to:TE)(t:TA):TE:=fun σ H Q=>to σ H fun x H1=>tyV K T x H1∧t σ H1 fun xs H2=>r x xs H2 Q
variable {o e:AN}{es:List AN}{to:TE}{t:TA}{name:Str}{apos cpos:Pos}{T id:String}{r:V→List V→Hp→VK→Prop}
theorem a3Y (pa:PlainAttrs T)(slot:Slot T name id)(hty:typeOf (.builtin id)=pure (.type "method_descriptor"))(hm:MtR X id r)(ho:PE X o to)(ha:PA X (e::es) t)
  (hbase:D6 o name X.env (Aa o X.env)=Aa o X.env:=by rfl)
  (hfew:((BL cpos (Ak (e::es) X.env)).all (fun x => !x.1)&&(DD cpos (DE [] X.env)).all (fun x=>x.1.isSome)
   && decide ((e::es).length+([]:List Keyword).length+(if ([]:List Keyword).isEmpty then 0 else 1)<30))=true:=by rfl)
  (hline:(apos.endLine==cpos.line)=true:=by rfl) (hs:Ak (e::es) X.env=(false,Aa e X.env)::Ak es X.env:=by rfl) (hplain:(BL cpos (Ak es X.env)).any (·.1)=false:=by rfl) :
  PE X (.Call (.Attribute o name apos) (e::es) [] cpos) (tBM X.K T r to t):=by
 intro pins s σ H Q I h;refine wpAny_Call_method_late hbase hfew hline rfl (thn (ho pins s σ H _ I h) fun v s1 ⟨x,H1,I1,r1,ty,q1⟩=>?_);obtain⟨h1,h2⟩:=a8M I1 r1 ty;refine⟨T,id,pa,slot,hty,h1,h2,?_⟩;have hA:=ha cpos pins s1 σ H1 _ I1 q1;rw[hs] at hA ⊢;refine Calls.callWith_builtin (by show(false||(BL cpos (Ak es X.env)).any (·.1))=false; rw[hplain]<;>rfl) (Eh ?_);exact thn hA fun us s2 ⟨vs,H2,I2,r2,q2⟩=>hm pins s2 σ H2 x vs v us Q I2 r1 r2 q2
end
end L2
namespace L2
open PySem PySem.Spec PyProof.Rows
noncomputable def MtM (X:Cx)(id:String)(r:V→List V→Hp→VK→Prop):Prop:=
 ∀(pins:List (AA×Obj)) (s:AC) (σ:St) (H:Hp) (x:V) (xs:List V) (v:AB) (us:List AB) (Q:VK),Inv X pins σ H s→RelV x v→Vals xs us→r x xs H Q →
  AK (AF X.prog X.w) X.A (call (.builtin id) (v::us)) (EP X pins σ Q) X.xe s
theorem Vals.one:∀{x:V} {us:List AB},Vals [x] us→∃ u,us=[u]∧RelV x u:=by
 intro x us h
 cases h with
 | cons r t=>cases t; exact⟨_,rfl,r⟩
theorem Vals.two:∀{x y:V} {us:List AB},Vals [x,y] us→∃ u v,us=[u,v]∧RelV x u∧RelV y v:=by
 intro x y us h
 cases h with
 | cons r t=>
  obtain⟨v,rfl,q⟩:=Vals.one t;exact⟨_,_,rfl,r,q⟩
theorem Vals.eraseIdx:∀{xs:List V} {us:List AB} (i:Nat),Vals xs us→Vals (xs.eraseIdx i) (us.eraseIdx i)
 | _,_,_,.nil=>.nil
 | _,_,0,.cons _ t=>t
 | _,_,i+1,.cons r t=>.cons r (Vals.eraseIdx i t)
theorem pP {α:Type}:∀(l:List α) (i:Nat),(l.eraseIdx i).length≤l.length
 | [],_=>AT _
 | _::_,0=>C1 _
 | _::r,i+1=>EF (pP r i)
section
variable {X:Cx}{pins:List (AA×Obj)}{σ:St}{H:Hp}{s:AC}{l b:AA}{xs ys zs:List V}
theorem Inv.lset {its its':List AB}{n:Nat}{f:Array AB→Array AB}{t':Nat}(I:Inv X pins σ H s)(hH:H l=some (.lst xs))
  (e:s.heap.get? l=some { cls:=.type "list", data:=.seq its.toArray n }) (hf:f its.toArray=its'.toArray) (hv:Vals ys its') (hz:ys.length≤sizeLine) :
  Inv X pins σ (upd H l (.lst ys)) { s with heap:=s.heap.update l (Am f),toks:=t' }:=by
 have q:=PySem.IsL.update e f;rw[hf] at q;refine I.write (x:=l) (e:=l) (by rw[hH]; exact trivial) (.inl rfl) (fun b' u hb hu=>(Eg s.heap (Am f) (Ne.symm hb)).trans hu) ⟨_,q⟩ ?_;exact⟨hz,its',_,hv,q⟩
theorem Inv.lnew {its:List AB}{t':Nat}(I:Inv X pins σ H s)(hv:Vals ys its)(hz:ys.length≤sizeLine) :
  Inv X pins σ (upd H s.heap.objs.size (.lst ys)) { s with heap:=s.heap.push { cls:=.type "list", data:=.seq its.toArray },toks:=t' }:=
 I.laid (fun _ _ q=>An _ q) (AT _) ⟨hz,its,0,hv,Bh _ rfl⟩
theorem Inv.fresh (I:Inv X pins σ H s):H s.heap.objs.size=none:=I.hok.fresh (AT _)
theorem Inv.lstM (I:Inv X pins σ H s)(hH:H l=some (.lst xs)):xs.length≤sizeLine∧∃(its:List AB) (n:Nat),Vals xs its∧xs.length=its.length∧s.heap.get? l=some { cls:=.type "list", data:=.seq its.toArray n }:=by
 obtain⟨z,its,n,r,e⟩:=I.hok l _ hH;exact⟨z,its,n,r,r.length,e⟩
end
section
variable {X:Cx}
noncomputable def a2H:V→List V→Hp→VK→Prop:=fun x vs H Q=>∃ l xs y,x=.ref l∧vs=[y]∧H l=some (.lst xs)∧xs.length<sizeLine∧Q .non (upd H l (.lst (xs++[y])))
theorem a0B:MtM X "list.append" a2H:=by
 intro pins s σ H x vs v us Q I rx rv h;obtain⟨l,xs,y,rfl,rfl,hH,hz,q⟩:=h
 cases rx
 obtain⟨u,rfl,ru⟩:=rv.one;obtain⟨z,its,n,r,hl,e⟩:=I.lstM hH;refine Do F.slot_list_append ⟨_,e,rfl⟩ F.entry_list_append (F.args_list_append_2 _ _) (PySem.list_append l its.toArray n u (by rw[Ap]; omega)) ⟨e,?_⟩;refine⟨.non,_,I.lset (its':=its++[u]) hH e (by simp) (r.append (.cons ru .nil)) ?_,rfl,q⟩;rw[A6,Ei];omega
noncomputable def a98:V→List V→Hp→VK→Prop:=fun x vs H Q=>∃ l xs i k y,x=.ref l∧vs=[.int i]∧H l=some (.lst xs) ∧ -(2^63)≤i∧i<2^63∧Dm i xs.length=some k∧xs[k]?=some y∧Q y (upd H l (.lst (xs.eraseIdx k)))
theorem a3F:MtM X "list.pop" a98:=by
 intro pins s σ H x vs v us Q I rx rv h;obtain⟨l,xs,i,k,y,rfl,rfl,hH,h1,h2,hk,hy,q⟩:=h
 cases rx
 obtain⟨u,rfl,ru⟩:=rv.one;obtain⟨t,rfl⟩:=ru;obtain⟨z,its,n,r,hl,e⟩:=I.lstM hH;obtain⟨w,hw,rw'⟩:=r.get hy;refine Do F.slot_list_pop ⟨_,e,rfl⟩ F.entry_list_pop (F.args_list_pop_2 _ _)
  (MeetsSeq.list_pop_at l its.toArray n i t k w (fitsIndex_both h1 h2) (by rw[Ap,←hl]; exact hk) (by rw[← Bi]; exact hw) (by rw[Ap]; omega)) ⟨e,?_⟩
 refine⟨y,_,I.lset (its':=its.eraseIdx k) hH e ?_ (r.eraseIdx k) ?_,rw',q⟩
 ·show its.toArray.eraseIdxIfInBounds k=(its.eraseIdx k).toArray;rw[Ej]
 ·have:=pP xs k;omega
noncomputable def aCC:R2:=fun x y H Q=>∃ l b xs zs,x=.ref l∧y=.ref b∧H l=some (.lst xs)∧H b=some (.lst zs)∧xs.length+zs.length≤sizeLine∧∀ p,H p=none→Q (.ref p) (upd H p (.lst (xs++zs)))
theorem fB:OpR X (Bn .Add) aCC:=by
 intro pins s σ H x y v u Q I rx ry h;obtain⟨l,b,xs,zs,rfl,rfl,hH,hB,hz,q⟩:=h
 cases rx
 cases ry
 obtain⟨z,its,n,r,hl,e⟩:=I.lstM hH;obtain⟨z2,its2,n2,r2,hl2,e2⟩:=I.lstM hB;refine PySem.P.add_list e e2 ?_ (by rw[Ap,Ap]; omega);have ea:its.toArray++its2.toArray=(its++its2).toArray:=by simp
 rw[ea];exact⟨.ref _,_,I.lnew (t':=s.toks) (r.append r2) (by rw[A6]; omega),rfl,q _ I.fresh⟩
end
section
variable {prog:AQ}{w:AL}{A:AR}{E:AB→AC→Prop}{s:AC}
end
section
variable {X:Cx}
end
end L2
namespace Att
open PySem PySem.W PySem.Calls PyProof.Rows
theorem p7 {P:Params}{h:AH}:∀(ns:List Int) (vs:List AB),WellAll P h vs (ns.map WData.int)→BM vs ns:=by
 intro ns
 induction ns with
 | nil=>
  intro vs w;rw[map_nil] at w
  cases w
  exact .nil
 | cons n ns ih=>
  intro vs w;rw[B6] at w
  cases w with
  | cons a b=>
   cases a
   exact .cons _ _ (ih _ b)
theorem a05 {l:OpenLaw}{n:Nat}(hn:l.most=some n){P:Params}{h:AH}{args:List WData}{vals:List AB}
  (hpre:l.row.toRowW.claim.pre args=true) (hwl:WellAll P h vals args) :
  ∃ a vs ns,vals=[A0 a]∧args=[WData.list (ns.map WData.int)]∧h.get? a=some { cls:=.type "list", data:=.seq vs.toArray }∧BM vs ns∧ns.length≤n:=by
 have hsh:WShape.hasAll [] args [.list .int]=true:=(pre_splitW hpre).1;have hc:l.pre.holds [] { args:=args }=true:=(pre_splitW hpre).2;obtain⟨d,r,rfl,h1,h2⟩:=hasAllW_cons hsh;obtain rfl:=hasAllW_nil h2;obtain⟨xs,rfl,h3⟩:=hasW_list h1;obtain⟨ns,rfl⟩:=items_int h3;have hlen:ns.length≤n:=by
  unfold OpenLaw.pre at hc;have h4:(WTm.not (.lt (.lit (.int (n:Int))) (.len (.arg 0)))).holds [] { args:=[.list (ns.map .int)] }=true:=by
   have h4:=(holds_andW hc).1;rw[hn] at h4;exact h4
  have h5:=condW_of h4 (w_not (w_lt w_lit (w_len_list (w_arg rfl))));rw[A3] at h5;refine Nat.le_of_not_lt fun q=>?_;have q':(n:Int)<((ns.length:Nat):Int):=by omega
  first
   | (rw[decide_eq_true q'] at h5; exact absurd h5 (by decide))
   | (simp at h5; omega)
 cases hwl with
 | cons w1 w2=>
  cases w2
  cases w1 with
  | list ho hall=>exact⟨_,_,ns,rfl,rfl,ho,p7 ns _ hall,hlen⟩
theorem a2K (l:OpenLaw)(args:List WData):l.row.toRowW.claim.post args (.bool true) args=true:=
 postW_of (r:=l.row.toRowW) (X:=(true==true))
  (show WShape.has [] (.bool true) .bool=true by first|rfl|decide|simp[WShape.has,WShape.arms,WShape.armsAll])
  (show(WTm.eq .res (.lit (.bool true))).value [] { args:=args,res:=some (.bool true),after:=args }=some (.bool (true==true)) from w_eq_bool (w_res rfl) w_lit) rfl
theorem attach_call {l:OpenLaw}{n:Nat}{q:AQ}{loose:List Str}{XP:(Str→Option AB)→AH→Prop}{YP:AL→AH→Prop}{d:DefRec}
  (hn:l.most=some n) (hdf:d.params.defaults=[])
  (call:∀(w:AL) (s₀ s₁:AC) (mg mb:Str→Option AB) (fa:AA) (o:Obj) (pm cd doc:AB) (a:AA) (vs:List AB) (ns:List Int),
   Ground q loose [] XP w s₀ mg mb s₁.heap→YP w s₁.heap →
   s₁.heap.get? fa=some o→o.data=.func (docDef d.name d.params d.body d.scope pm cd doc)→s₁.heap.CodeRec cd d.name→mg d.name=some (.ref fa) →
   s₁.heap.get? a=some { cls:=.type "list", data:=.seq vs.toArray }→BM vs ns→ns.length≤n→s₁.gens=#[] →
   Cq (AF l.prog w) Cc (.call (.ref fa) ⟨[.ref a],[]⟩) (fun r s'=>r=.ok (.ret (.bool true))∧OldK s₁.heap s'.heap∧s'.os=s₁.os∧B0 s'.gens) s₁) :
  WalkO q loose XP YP l.row.toRowW d [] (fun f vs=>PySem.call f vs):=by
 intro w s₀ s₁ mg mb G Y fa o pm cd doc dV kV ho hd hcd hD hmg hg args vals as hpre hlay hrd hwl hlo;obtain rfl:dV=.none:=Dflts.none hD hdf;obtain rfl:kV=.none:=Dflts.noKw hD;obtain⟨a,vs,ns,rfl,rfl,hobj,hints,hlen⟩:=a05 hn hpre hwl;refine enter_call (DF (call w s₀ s₁ mg mb fa o pm cd doc a vs ns G Y ho (fd_plain hd) hcd hmg hobj hints hlen hg) fun r s' hq=>?_);obtain⟨rfl,h2,h3,h4⟩:=hq;exact⟨.inl ⟨.bool true,.bool true,[],rfl,fun _=>rfl,.bool true,a2K l _,fun _=>⟨EG,fun _ hm=>(nomatch hm)⟩⟩,h2,h3,h4⟩
section
variable {prog:AQ}{w:AL}{A:AR}{E:AB→AC→Prop}{s:AC}{K:Frag}
end
end Att
namespace L2
open PySem PySem.Spec PyProof.Rows
theorem a2B:∀{vs:List AB} {ns:List Int},BM vs ns→Vals (ns.map V.int) vs:=by
 intro vs ns h
 induction h with
 | nil=>exact .nil
 | cons n t h ih=>exact .cons ⟨t,rfl⟩ ih
noncomputable def Only (H:Hp):Prop:=∀ b,H b=none∨∃ o xs,H b=some (.frz o (.lst xs))
theorem law_call {P:AQ}{w:AL}{K:AW}{mg mb:Str→Option AB}{CX:CXT}{k:Nat}{fa a:AA}{fd:Ag}{x:Str}{sp:Sp}{s₁:AC}{vs:List AB}{ns:List Int}
  (KX:K.In s₁.heap) (hns:s₁.heap.Ns Ad mg) (hb:s₁.heap.Ns builtinsNs mb) (hbb:∀ x:Str,x ≠ "__name__" → mb x=Cp x) (hlim:s₁.heap.NoLimit) (hsy:∃ mm,s₁.heap.Ns De mm) (hg:s₁.gens=#[])
  (ha:s₁.heap.get? a=some { cls:=.type "list", data:=.seq vs.toArray }) (hi:BM vs ns) (hl:ns.length≤sizeLine) (hr:Room k Cc)
  (F:∀ base:AH,K.In base→base.Ns Ad mg→FnOk P w K mg base CX k fa fd [x] sp) (hbind:∀(s:AC) (u:AB),Cr s fd ⟨[u],[]⟩ [(x,u)])
  (hsp:∀ H:Hp,Only H→SqL K H a (ns.map V.int)→sp [.ref a] H (fun v _=>v=.bl true) fun _ _ _=>False)
  (hCX:∀ H e s',CX [] H s₁ (fun _ _ _=>False) e s'→False) :
  Cq (AF P w) Cc (.call (.ref fa) ⟨[.ref a],[]⟩) (fun r s'=>r=.ok (.ret (.bool true))∧OldK s₁.heap s'.heap∧s'.os=s₁.os∧B0 s'.gens) s₁:=by
 have rv:=a2B hi;have lenV:=hi.length;have core:∀ H:Hp,Only H→SqL K H a (ns.map V.int)→HOk P w H s₁.heap→(∀ b,H b≠none→b=a)→(H a≠none→K.lookup a=none) →
   Cq (AF P w) Cc (.call (.ref fa) ⟨[.ref a],[]⟩) (fun r s'=>r=.ok (.ret (.bool true))∧OldK s₁.heap s'.heap∧s'.os=s₁.os∧B0 s'.gens) s₁:=by
  intro H hO hS hok hA hK;have base_of:∀{b:AA} {o:Obj},s₁.heap.get? b=some o→H b=none→(a2U s₁.heap H).get? b=some o:=fun e n=>a4U e n;have noA:∀{b:AA} {o:Obj} {es:Array DictEntry} {ep:Nat},s₁.heap.get? b=some o→o.data=.dict es ep→H b=none:=fun{b o es ep} e d=>by
   cases q:H b with
   | none=>rfl
   | some u=>
    have e':b=a:=hA b (by rw[q]; simp);subst e';rw[ha] at e; cases e;have d':Data.seq vs.toArray _=Data.dict es ep:=d
    cases d'
  have nsK:∀{b:AA} {m:Str→Option AB},s₁.heap.Ns b m→(a2U s₁.heap H).Ns b m:=fun{b m} ⟨o,es,ep,e,d,r⟩=>⟨o,es,ep,base_of e (noA e d),d,r⟩;have hKb:K.In (a2U s₁.heap H):=fun b o e=>base_of (KX b o e) (by
   cases q:H b with
   | none=>rfl
   | some u=>
    have e':b=a:=hA b (by rw[q]; simp);subst e';rw[hK (by rw[q]; simp)] at e; cases e)
  have hM:Mod K mg (a2U s₁.heap H):=⟨hKb,nsK hns,⟨mb,nsK hb,hbb⟩,let ⟨mc,h1,h2⟩:=hlim; ⟨mc,nsK h1,h2⟩,let ⟨mm,h1⟩:=hsy; ⟨mm,nsK h1⟩⟩;have e0:Env0 P w K mg (a2U s₁.heap H) Cc [] s₁ H:=⟨rfl,hM,fun b o e=>a6N e,Nat.le_of_eq (a2G _ _),trivial,fun b hb=>absurd (show b∈([]:List AA) from hb) (by simp),hok,.of_eq hg⟩;refine DF ((F _ hKb (nsK hns)).run Cc [] s₁ H ⟨[.ref a],[]⟩ [.ref a] [.ref a] _ _ hr e0 (hbind s₁ (.ref a)) (.cons rfl .nil) (hsp H hO hS)) fun r s' h=>?_
  cases r with
  | error e=>exact(hCX H e s' h).elim
  | ok fl=>
   cases fl with
   | next=>exact BR h
   | brk=>exact BR h
   | cont=>exact BR h
   | ret u=>
    obtain⟨v,H',os,bare,un,hok',r',q⟩:=h;have q':v=.bl true:=q;subst q';obtain rfl:u=C6 true:=r';refine⟨rfl,OldK.of_keep fun b o e=>?_,os,bare⟩
    cases q:H b with
    | none=>exact un.keep b o e q (by intro z; exact absurd (show b∈([]:List AA) from z) (by simp)) (by simp)
    | some u=>
     rcases hO b with z|⟨ob,xs,z⟩
     ·rw[q] at z; cases z
     ·have z2:=un.frzs b ob _ z;obtain⟨e1,_⟩:=hok b _ z;obtain⟨e2,_⟩:=hok' b _ z2;rw[e] at e1; cases e1;exact e2
 cases hk:K.lookup a with
 | some o=>
  have e:=KX a o hk;rw[ha] at e
  cases e
  refine core (fun _=>none) (fun _=>.inl rfl) (.inr ⟨_,vs.toArray,_,hk,rfl,rfl,rfl,by rw[Ap,lenV]; exact hl,by simpa using rv⟩) (fun b u z=>by have z':(none:Option HO)=some u:=z; cases z') (fun b z=>absurd rfl z) fun z=>absurd rfl z
 | none=>
  refine core (fun b=>if b=a then some (.frz { cls:=.type "list", data:=.seq vs.toArray } (.lst (ns.map V.int))) else none) (fun b=>?_) (.inl (.inr ⟨{ cls:=.type "list", data:=.seq vs.toArray },if_pos rfl⟩)) (fun b u z=>?_) (fun b z=>?_) fun _=>hk
  ·by_cases hb:b=a
   ·exact .inr ⟨_,_,if_pos hb⟩
   ·exact .inl (if_neg hb)
  ·by_cases hb:b=a
   ·have z':=(if_pos hb).symm.trans z
    cases z'
    subst hb;exact⟨ha,by rw[A3]; exact hl,vs,_,rv,ha⟩
   ·have z':=(if_neg hb).symm.trans z
    cases z'
  ·by_cases hb:b=a
   ·exact hb
   ·exact absurd (if_neg hb) z
end L2
namespace L2
open PySem PySem.Spec PyProof.Rows
theorem a6U {l:EH}{n k:Nat}{q:AQ}{loose:List Str}{XP:(Str→Option AB)→AH→Prop}{YP:AL→AH→Prop}{d:DefRec}{K:Params→AW}{CX:AL→CXT}{sp:AL→Sp}{x:Str}
  (hn:l.most=some n) (hn2:n≤sizeLine) (hdf:d.params.defaults=[]) (him:Ek q=true) (hr:Room k Cc)
  (hY:∀(w:AL) (h:AH),YP w h→(K w.params).In h)
  (F:∀(w:AL) (mg:Str→Option AB) (fa:AA) (h:AH),(K w.params).In h→h.Ns Ad mg→mg d.name=some (.ref fa) →
   ∃ fd:Ag,(∀(s:AC) (u:AB),Cr s fd ⟨[u],[]⟩ [(x,u)]) ∧
    ∀ base:AH,(K w.params).In base→base.Ns Ad mg→FnOk l.prog w (K w.params) mg base (CX w) k fa fd [x] (sp w))
  (hsp:∀(w:AL) (H:Hp) (a:AA) (ns:List Int),ns.length≤n→Only H→SqL (K w.params) H a (ns.map V.int)→sp w [.ref a] H (fun v _=>v=.bl true) fun _ _ _=>False)
  (hCX:∀(w:AL) (H:Hp) (s:AC) (e:AB) (s':AC),CX w [] H s (fun _ _ _=>False) e s'→False) :
  PySem.W.WalkO q loose XP YP l.row.toRowW d [] (fun f vs=>PySem.call f vs):=by
 refine Att.attach_call hn hdf fun w s₀ s₁ mg mb fa o pm cd doc a vs ns G Y ho hd hcd hmg hobj hints hlen hg=>?_;have KX:=hY w _ Y;obtain⟨fd,hb,hF⟩:=F w mg fa _ KX G.T.g hmg;exact law_call KX G.T.g G.T.b G.T.builtins G.T.nolimit (let ⟨mm,h1,_⟩:=(G.T.seer him).mods; ⟨mm,h1⟩) hg hobj hints (BF hlen hn2) hr hF hb (fun H hO hS=>hsp w H a ns hlen hO hS) fun H e s'=>hCX w H s₁ e s'
end L2
namespace L2
open PySem PySem.Spec PyProof.Rows
noncomputable def inClass (s:AS)(j:Nat):AS:=match s with
 | .ClassDef _ _ _ body _ _ _ _ _ _ _=>body.getD j (.Pass ⟨0,0,0,0⟩)
 | _=>.Pass ⟨0,0,0,0⟩
noncomputable def mH (s:AS):Arguments:=match s with
 | .FunctionDef _ a _ _ _ _ _ _ _ _=>a
 | _=>{ posonlyargs:=[],args:=[],vararg:=none,kwonlyargs:=[],kw_defaults:=[],kwarg:=none,defaults:=[] }
noncomputable def gP (s:AS):List AS:=match s with
 | .FunctionDef _ _ b _ _ _ _ _ _ _=>b
 | _=>[]
noncomputable def bK (s:AS):BZ:=match s with
 | .FunctionDef _ _ _ _ _ _ sc _ _ _=>sc
 | _=>{ kind:=.function,names:=[],isGenerator:=false,isCoroutine:=false }
abbrev CX0:CXT:=fun _ _ _ _ _ _=>False
abbrev E0:XK:=fun _ _ _=>False
theorem sH {X:Cx}:p6 CX0 X E0:=fun _ _ _ _ _ _ _ h=>h.elim
structure Fun (K:AW)(x qual:Str)(st:AS)(f:AA)(fd:Ag):Prop where
 ex:∃(oc:AB) (od:Option AA) (kV doc pm:AB) (an:Option AA) (cdv ct:AB) (osl:Array (Option AB)),
  fd=fnOf x qual (mH st) (gP st) (bK st) .none kV doc pm an cdv ct∧K.lookup f=some ⟨oc,od,.func fd,osl⟩∧CN K cdv qual=true
 kp:BX K (.ref f)=true
section
variable {P:AQ}{w:AL}{K:AW}{mg:Str→Option AB}{base:AH}
theorem Fun.ok {x qual:Str}{st:AS}{f:AA}{fd:Ag}{N ps:List Str}{k:Nat}{sp:Sp}(F:Fun K x qual st f fd)(S:FnScope N ps (bK st))(len:∀ vs H Q E,sp vs H Q E→vs.length=ps.length)
  (hbody:∀(cdv:AB) (A:AR) (outer:List Env) (s:AC) (H:Hp) (vs:List V) (Q:VK) (E:XK),Room k (A.deeper (Ba qual (bK st) s.heap.objs.size f cdv))→sp vs H Q E →
   ∃ t,PSs (a4L CX0 P w K mg base N qual (bK st) f cdv A outer s H E).nox (gP st) t∧t { nx:=fun _ H'=>Q .non H',rt:=Q } (start N vs) H):FnOk P w K mg base CX0 (k+1) f fd ps sp:=by
 obtain⟨oc,od,kV,doc,pm,an,cdv,ct,osl,rfl,lk,hcd⟩:=F.ex;refine a9F lk hcd S len fun A outer s H vs Q E hr hsp=>?_;obtain⟨t,h,q⟩:=hbody cdv A outer s H vs Q E hr hsp;exact⟨t,h.nox,q⟩
theorem Fun.binds {x qual:Str}{st:AS}{f:AA}{fd:Ag}{ps:List Str}(F:Fun K x qual st f fd)
  (h:∀(kV doc pm:AB) (an:Option AA) (cdv ct:AB) (us:List AB),us.length=ps.length→bindArgs (fnOf x qual (mH st) (gP st) (bK st) .none kV doc pm an cdv ct) ⟨us,[]⟩=pure (ps.zip us)):Binds K fd ps []:=by
 obtain⟨oc,od,kV,doc,pm,an,cdv,ct,osl,rfl,lk,hcd⟩:=F.ex;exact .all (h kV doc pm an cdv ct)
theorem a2A {x qual:Str}{st:AS}{f:AA}{oc:AB}{od an:Option AA}{osl:Array (Option AB)}{kV doc pm cdv ct:AB}(l:K.lookup f=some ⟨oc,od,.func (fnOf x qual (mH st) (gP st) (bK st) .none kV doc pm an cdv ct),osl⟩)
  (c:CN K cdv qual=true) (k:BX K (.ref f)=true):Fun K x qual st f (fnOf x qual (mH st) (gP st) (bK st) .none kV doc pm an cdv ct):=⟨⟨oc,od,kV,doc,pm,an,cdv,ct,osl,rfl,l,c⟩,k⟩
end
theorem nA {n:Nat}(h:n≤1000):n<sizeLine:=EI h (by decide)
section
variable {X:Cx}
theorem pv (i:Nat){x:Str}{pos:Pos}(hN:X.N[i]?=some x:=by rfl)(hv:Vis X.env.scope x:=by first|exact B2 rfl|exact Or.inr (B2 rfl)|exact Or.inr (Or.inr rfl))(hd:(x==("__debug__" : Str))=false:=by decide)
  (hcd:(x==("__classdict__" : Str))=false:=by decide):PE X (.Name x pos) (yC i):=a9B hN hv hd hcd
end
theorem rF {A B:Prop}(h:B):if false=true then A else B:=by
 rw[if_neg Dh];exact h
theorem vC {A B:Prop}(h:A):if true=true then A else B:=by
 rw[if_pos rfl];exact h
theorem aBH {c A B:Prop}[Decidable c](hc:c)(h:B):if (!decide c)=true then A else B:=by
 rw[decide_eq_true hc];exact rF h
noncomputable def Same (H H':Hp):Prop:=∀ b o,H b=some o→H' b=some o
theorem Same.refl (H:Hp):Same H H:=fun _ _ h=>h
theorem Same.trans {H H1 H2:Hp}(a:Same H H1)(b:Same H1 H2):Same H H2:=fun c o h=>b c o (a c o h)
theorem Same.free {H H':Hp}(e:Same H H'){l:AA}(h:H' l=Option.none):H l=Option.none:=by
 cases q:H l with
 | none=>rfl
 | some o=>
  rw[e l o q] at h
  cases h
end L2
set_option maxHeartbeats 4000000
namespace LT
theorem a4N (a b:Rat):decide (a.num*b.den<b.num*a.den)=decide (a<b):=by
 rw[decide_eq_decide,Rat.lt_iff]
theorem fd (t:Int)(g:Nat):t.fdiv (g:Int)=t/(g:Int):=Ec t (by omega)
theorem t6 {t b:Int}(h:0<b):t.fdiv (Bb t b:Nat)=(Rat.divInt t b).num∧b.fdiv (Bb t b:Nat)=((Rat.divInt t b).den:Int):=by
 rw[Rat.num_divInt,Rat.den_divInt,fd,fd,if_neg (by omega),Int.sign_eq_one_of_pos h,Int.one_mul,Int.gcd_comm b t];refine⟨rfl,?_⟩;obtain⟨n,rfl⟩:∃ n:Nat,b=(n:Int):=⟨b.toNat,by omega⟩;rw[← Int.natCast_ediv,Int.natAbs_natCast]
theorem a3P {d r:Int}(hd:0≤d)(h:0<r):Bb r (d%r)=Bb d r:=by
 obtain⟨m,rfl⟩:∃ n:Nat,d=(n:Int):=⟨d.toNat,by omega⟩;obtain⟨n,rfl⟩:∃ n:Nat,r=(n:Int):=⟨r.toNat,by omega⟩;rw[← Int.natCast_emod];show Nat.gcd n (m%n)=Nat.gcd m n;rw[Nat.gcd_comm n,←Nat.gcd_rec,Nat.gcd_comm]
theorem a71 {d:Int}(h:0≤d):(Bb d 0:Int)=d:=by
 rw[Int.gcd_zero_right]; omega
theorem a8P (i:Int):0≤(if i<0 then -i else i):=by split<;>omega
theorem a70 (i j:Int):Bb (if i<0 then -i else i) (if j<0 then -j else j)=Bb i j:=by
 split<;>split<;>simp only[Int.gcd_neg,Int.neg_gcd]
noncomputable def Bt (k:Nat)(i:Int):Prop:=i.natAbs<2^k
noncomputable def Sz (k:Nat)(q:Rat):Prop:=Bt k q.num∧Bt k q.den
theorem Bt.mono {k m:Nat}{i:Int}(h:Bt k i)(l:k≤m):Bt m i:=Az h (El (by decide) l)
theorem Sz.mono {k m:Nat}{q:Rat}(h:Sz k q)(l:k≤m):Sz m q:=⟨h.1.mono l,h.2.mono l⟩
theorem Bt.mul {k m:Nat}{i j:Int}(h:Bt k i)(g:Bt m j):Bt (k+m) (i*j):=by
 unfold Bt at *; rw[Int.natAbs_mul,Nat.pow_add];exact Nat.mul_lt_mul'' h g
theorem Bt.neg {k:Nat}{i:Int}(h:Bt k i):Bt k (-i):=by unfold Bt at *; omega
theorem Bt.ediv {k:Nat}{i:Int}(h:Bt k i)(g:Nat):Bt k (i/(g:Int)):=by
 unfold Bt at *;exact EI (by exact Int.natAbs_ediv_le_natAbs _ _) h
theorem Sz.divInt {k:Nat}{t b:Int}(h:Bt k t)(g:Bt k b)(h0:b≠0):Sz k (Rat.divInt t b):=by
 rcases Int.lt_or_gt_of_ne h0 with hb|hb
 ·have e:Rat.divInt (-t) (-b)=Rat.divInt t b:=by
   have:=Rat.divInt_mul_right (n:=t) (d:=b) (a := -1) (by decide);rw[← this]; congr 1<;>omega
  rw[← e];have n:=t6 (t := -t) (b := -b) (by omega);rw[fd,fd] at n;exact⟨by rw[← n.1]; exact h.neg.ediv _,by rw[← n.2]; exact g.neg.ediv _⟩
 ·have n:=t6 (t:=t) (b:=b) hb;rw[fd,fd] at n;exact⟨by rw[← n.1]; exact h.ediv _,by rw[← n.2]; exact g.ediv _⟩
end LT
namespace LT
theorem a3X {i:Int}(h1 : -1152921504606846976<i)(h2:i<1152921504606846976):Bt 60 i:=by
 show i.natAbs<2^60;have:(2:Nat)^60=1152921504606846976:=by decide
 omega
theorem a7U {k:Nat}{i:Int}(h:Bt k i)(hk:1≤k):Sz k (i:Rat):=by
 refine⟨by rw[Rat.num_intCast]; exact h,?_⟩;rw[Rat.den_intCast];exact Az (by decide:(1:Nat)<2^1) (El (by decide) hk)
end LT
namespace LT
end LT
namespace L2
open PySem PySem.Spec PyProof.Rows
mutual
inductive Dt (H:Hp):V→AM→Prop
 | non:Dt H .non .none
 | bl (b:Bool):Dt H (.bl b) (.bool b)
 | int (i:Int):Dt H (.int i) (.int i)
 | str (x:Str):Dt H (.str x) (.str x)
 | tup {p:AA} {xs:List V} {ds:List AM}:H p=some (.tup xs)→Dts H xs ds→Dt H (.ref p) (.tuple ds)
 | lst {p:AA} {xs:List V} {ds:List AM}:H p=some (.lst xs)→Dts H xs ds→Dt H (.ref p) (.list ds)
 | dic {p:AA} {kvs:List (Key×V)} {kds:List (AM×AM)}:Rd H p (.dK kvs)→Dtk H kvs kds→Dt H (.ref p) (.dict kds)
inductive Dts (H:Hp):List V→List AM→Prop
 | nil:Dts H [] []
 | cons {x:V} {xs:List V} {d:AM} {ds:List AM}:Dt H x d→Dts H xs ds→Dts H (x::xs) (d::ds)
inductive Dtk (H:Hp):List (Key×V)→List (AM×AM)→Prop
 | nil:Dtk H [] []
 | cons {n:Int} {x:V} {d:AM} {kvs:List (Key×V)} {kds:List (AM×AM)}:Dt H x d→Dtk H kvs kds→Dtk H ((Bz n,x)::kvs) ((.int n,d)::kds)
end
mutual
theorem Dt.reads {P:AQ}{w:AL}{H:Hp}{h:AH}(ok:HOk P w H h):∀(d:AM) (x:V) (v:AB),Dt H x d→RelV x v→∃ as,Reads h v d as
 | .none,_,_,e,r=>by cases e; cases r; exact⟨_,.none⟩
 | .bool _,_,_,e,r=>by cases e; cases r; exact⟨_,.bool _⟩
 | .int _,_,_,e,r=>by cases e; obtain⟨t,rfl⟩:=r; exact⟨_,.int _ _⟩
 | .str _,_,_,e,r=>by cases e; obtain⟨t,rfl⟩:=r; exact⟨_,.str _ _⟩
 | .list ds,_,_,e,r=>by
  cases e with
  | @lst p xs _ hp rs=>
   cases r
   obtain⟨_,its,n,r',hg⟩:=(show ObjOk P w H h p (.lst xs) from ok p _ hp);obtain⟨as,q⟩:=Dts.reads ok ds xs its rs r';exact⟨_,.list hg rfl rfl (by simpa using q)⟩
 | .tuple ds,_,_,e,r=>by
  cases e with
  | @tup p xs _ hp rs=>
   cases r
   obtain⟨_,its,r',o,h1,h2,n,h3⟩:=(show ObjOk P w H h p (.tup xs) from ok p _ hp);obtain⟨as,q⟩:=Dts.reads ok ds xs its rs r';exact⟨_,.tuple h1 h2 h3 (by simpa using q)⟩
 | .dict kds,_,_,e,r=>by
  cases e with
  | @dic p kvs _ hp rs=>
   cases r
   obtain⟨_,_,vs,kv,o,es,ep,h1,h2,h3,_,h4,_⟩:=(show ObjOk P w H h p (.dK kvs) from hp.ok ok);obtain⟨as,bs,q1,q2⟩:=Dtk.reads ok kds kvs vs es.toList rs kv h4;exact⟨_,.dict h1 h2.1 h3 q1 q2⟩
theorem Dts.reads {P:AQ}{w:AL}{H:Hp}{h:AH}(ok:HOk P w H h):∀(ds:List AM) (xs:List V) (vs:List AB),Dts H xs ds→Vals xs vs→∃ as,ReadsAll h vs ds as
 | [],_,_,e,r=>by cases e; cases r; exact⟨_,.nil⟩
 | d::ds,_,_,e,r=>by
  cases e with
  | cons e1 e2=>
   cases r with
   | cons r1 r2=>
    obtain⟨as,q1⟩:=Dt.reads ok d _ _ e1 r1;obtain⟨bs,q2⟩:=Dts.reads ok ds _ _ e2 r2;exact⟨_,.cons q1 q2⟩
theorem Dtk.reads {P:AQ}{w:AL}{H:Hp}{h:AH}(ok:HOk P w H h):∀(kds:List (AM×AM)) (kvs:List (Key×V)) (vs:List (Key×AB)) (es:List DictEntry),Dtk H kvs kds→KV kvs vs→Pairs (tH P w) es vs →
  ∃ as bs,ReadsAll h (es.map (·.key)) (kds.map (·.1)) as∧ReadsAll h (es.map (·.val)) (kds.map (·.2)) bs
 | [],_,_,_,e,r,z=>by cases e; cases r; cases z; exact⟨_,_,.nil,.nil⟩
 | (k,d)::kds,_,_,_,e,r,z=>by
  cases e with
  | @cons n _ _ _ _ e1 e2=>
   cases r with
   | cons r1 r2=>
    cases z with
    | @cons en kv _ _ z1 z2 z3=>
     obtain⟨k1,rv⟩:=r1;obtain⟨as,q1⟩:=Dt.reads ok d _ _ e1 rv;obtain⟨as2,bs2,q3,q4⟩:=Dtk.reads ok kds _ _ _ e2 r2 z3;have kr:∃ cs,Reads h en.key (.int n) cs:=by
      rcases dG ((xZ P w _ _).symm.trans z1) with⟨i,t,a,b⟩|⟨_,_,a,_⟩
      ·rw[← k1] at a
       cases a
       rw[b];exact⟨_,.int _ _⟩
      ·rw[← k1] at a
       cases a
     obtain⟨cs,kr⟩:=kr;exact⟨_,_,.cons kr q3,.cons (z2▸q1:Reads h en.val d as) q4⟩
end
theorem Rd.same {H H':Hp}(g:Same H H'){a:AA}{u:HO}(r:Rd H a u):Rd H' a u:=r.elim (fun e=>.inl (g _ _ e)) fun⟨o,e⟩=>.inr ⟨o,g _ _ e⟩
mutual
theorem Dt.same {H H':Hp}(g:Same H H'):∀(d:AM) (x:V),Dt H x d→Dt H' x d
 | .none,_,e=>by cases e; exact .non
 | .bool _,_,e=>by cases e; exact .bl _
 | .int _,_,e=>by cases e; exact .int _
 | .str _,_,e=>by cases e; exact .str _
 | .list ds,_,e=>by
  cases e with
  | lst hp rs=>exact .lst (g _ _ hp) (Dts.same g ds _ rs)
 | .tuple ds,_,e=>by
  cases e with
  | tup hp rs=>exact .tup (g _ _ hp) (Dts.same g ds _ rs)
 | .dict kds,_,e=>by
  cases e with
  | dic hp rs=>exact .dic (hp.same g) (Dtk.same g kds _ rs)
theorem Dts.same {H H':Hp}(g:Same H H'):∀(ds:List AM) (xs:List V),Dts H xs ds→Dts H' xs ds
 | [],_,e=>by cases e; exact .nil
 | d::ds,_,e=>by
  cases e with
  | cons e1 e2=>exact .cons (Dt.same g d _ e1) (Dts.same g ds _ e2)
theorem Dtk.same {H H':Hp}(g:Same H H'):∀(kds:List (AM×AM)) (kvs:List (Key×V)),Dtk H kvs kds→Dtk H' kvs kds
 | [],_,e=>by cases e; exact .nil
 | (_,d)::kds,_,e=>by
  cases e with
  | cons e1 e2=>exact .cons (Dt.same g d _ e1) (Dtk.same g kds _ e2)
end
mutual
noncomputable def iU:AM→Bool
 | .list _=>false
 | .dict _=>false
 | .tuple ds=>jP ds
 | _=>true
noncomputable def jP:List AM→Bool
 | []=>true
 | d::ds=>iU d&&jP ds
end
noncomputable def a0G (x:AA)(H H':Hp):Prop:=∀ b o,b≠x→H b=some o→H' b=some o
theorem gZ {H:Hp}{p:AA}(h:H p=none)(o:HO):Same H (upd H p o):=fun b u q=>by rw[bR (cG q h)]; exact q
theorem uB {H:Hp}{p:AA}(o:HO):a0G p H (upd H p o):=fun b u n q=>by rw[bR n]; exact q
structure Good (d:AM):Prop where
 lay:d.canLay0=true
 dep:d.depth≤60
section
variable {X:Cx}
theorem a7O {u a b:Nat}(h:u+64<A5)(ha:a≤60):u+min a b<A5:=by
 have:min a b≤a:=Nat.min_le_left _ _;omega
noncomputable def aC7:R2:=fun x y H Q=>∃ dx dy,Dt H x dx∧Dt H y dy∧Good dx∧Good dy∧Q (.bl (Au dx dy)) H
noncomputable def aBU:R2:=fun x y H Q=>∃ dx dy,Dt H x dx∧Dt H y dy∧Good dx∧Good dy∧Q (.bl (!PyData.eqv dx dy)) H
theorem n8 (hu:X.A.units+64<A5):OpR X (BQ .Eq) aC7:=by
 intro pins s σ H x y v u Q I rx ry h;obtain⟨dx,dy,ex,ey,gx,gy,q⟩:=h;obtain⟨as,r1⟩:=Dt.reads I.hok dx x v ex rx;obtain⟨bs,r2⟩:=Dt.reads I.hok dy y u ey ry;exact SeqAt.compareEq_reads r1 r2 gx.lay gy.lay (a7O hu gx.dep) ⟨.bl _,H,I,rfl,q⟩
theorem gG (hu:X.A.units+64<A5):OpR X (BQ .NotEq) aBU:=by
 intro pins s σ H x y v u Q I rx ry h;obtain⟨dx,dy,ex,ey,gx,gy,q⟩:=h;obtain⟨as,r1⟩:=Dt.reads I.hok dx x v ex rx;obtain⟨bs,r2⟩:=Dt.reads I.hok dy y u ey ry;exact SeqAt.compareNe_reads r1 r2 gx.lay gy.lay (a7O hu gx.dep) ⟨.bl _,H,I,rfl,q⟩
theorem c7:OpR X (Bn .Mult) (rI DI fun i j=>.int (i*j)):=opI fun _ _ _ _ _ _ _ hc q=>mul_int q hc
noncomputable def a2X (_ j:Int):Prop:=j≠0∧LT.Bt 9000 j
theorem aCU {i j:Int}(h:a2X i j):Al.divisionGoesByPylong i j=false:=by
 refine PyProof.noPylong_of_log2 ((Nat.log2_lt ?_).mpr h.2);have:=h.1;omega
theorem xR:OpR X (Bn .FloorDiv) (rI a2X fun i j=>.int (i.fdiv j)):=opI fun _ _ _ _ _ _ _ hc q=>floordiv_int hc.1 q (.inl (aCU hc))
theorem bits_le {k:Nat}{i:Int}(h:LT.Bt k i):Em i≤k:=by
 unfold Em
 split
 ·exact Ah _
 ·rename_i h0
  have:i.natAbs≠0:=by
   intro e;exact h0 (by simpa using e)
  exact(Nat.log2_lt this).mpr h
theorem a7I {k m:Nat}{i j:Int}(h:LT.Bt k i)(g:LT.Bt m j)(hk:k≤1048576:=by decide)(hm:m≤1048576:=by decide):DI i j:=
 DI.of_bits (BF (bits_le h) hk) (BF (bits_le g) hm)
theorem vN {a b v:Int}{j j':Nat}{p p' pos:Pos}(h:a^b.toNat=v)(hc:a7Q a b):PE X (.BinOp (.Constant (.int a) j p) .Pow (.Constant (.int b) j' p') pos) (tC (.int v)):=by
 intro pins s σ H Q I hq;subst h;exact bA a8Z aC aC pins s σ H Q I ⟨_,_,rfl,rfl,hc,hq⟩
noncomputable def aCS:V→Option AB
 | .ty n=>some (.type n)
 | .ref a=>some (.ref a)
 | _=>none
noncomputable def aCJ (K:AW):List V→Hp→VK→Prop:=fun xs H Q=>∃ x c cv t b,xs=[x,c]∧aCS c=some cv∧TyOf K H x t∧AV K t cv=some b∧Q (.bl b) H
theorem eZ:CallR X (.builtin "isinstance") (aCJ X.K):=by
 intro pins s σ H xs us Q I r h;obtain⟨x,c,cv,t,b,rfl,ec,ty,e,q⟩:=h;obtain⟨u,v,rfl,rx,rc⟩:=vals2 r;have ev:v=cv:=by
  cases c<;>first
   | (cases ec; exact rc)
   | cases ec
 subst ev;exact zH I rx ty e fun tk=>⟨.bl b,H,I.tok tk,rfl,q⟩
structure Cal (P:AQ)(w:AL)(K:AW)(mg:Str→Option AB)(base:AH)(k:Nat)(x:Str)(ps:List Str)(sp:Sp):Prop where
 ex:∃(f:AA) (fd:Ag),FnOk P w K mg base CX0 k f fd ps sp∧mg x=some (.ref f)∧BX K (.ref f)=true∧Binds K fd ps []
variable {j k:Nat}{x:Str}{ps:List Str}{sp:Sp}{e:AN}{es:List AN}{t:TA}{p pos:Pos}
theorem aJ (c:Cal X.prog X.w X.K X.mg X.base j x ps sp)(hr:Room k X.A)(hg:Gl X x)(ha:PA X (e::es) t)(hjk:j≤k:=by decide)
  (hdb:(x==("__debug__" : Str))=false:=by decide) (he:Ak (e::es) X.env=(false,Aa e X.env)::Ak es X.env:=by rfl) (hpl:(BL pos (Ak es X.env)).any (·.1)=false:=by rfl) :
  PE X (.Call (.Name x p) (e::es) [] pos) (a0T sp [] E0 t):=by
 obtain⟨f,fd,F,hm,hk,hb⟩:=c.ex;exact a6L F (hr.mono hjk) hg hm hk hb .nil sH ha hdb he hpl
end
structure Bl (K:AW)(mg:Str→Option AB):Prop where
 len_:mg "len" = none
 abs_:mg "abs" = none
 range_:mg "range" = none
 isinstance_:mg "isinstance" = none
 int_:mg "int" = none
 bool_:mg "bool" = none
 tuple_:mg "tuple" = none
 max_:mg "max" = none
 min_:mg "min" = none
 list_:mg "list" = none
 all_:mg "all" = none
 any_:mg "any" = none
 sorted_:mg "sorted" = none
 zip_:mg "zip" = none
 set_:mg "set" = none
 sum_:mg "sum" = none
 str_:mg "str" = none
 enumerate_:mg "enumerate" = none
 repr_:mg "repr" = none
 kib:AV K (.type "int") (.type "bool")=some false
 kbi:AV K (.type "bool") (.type "int")=some true
theorem a2O (K:AW)(t:AB):AV K t t=some true:=by
 unfold AV;rw[if_pos (beq_self_eq_true t)]
end L2
namespace L2
open PySem PySem.Spec PyProof.Rows LT
theorem aAN {c A B:Prop}[Decidable c](h:c)(a:A):if decide c=true then A else B:=by rw[decide_eq_true h]; exact vC a
theorem aAI {c A B:Prop}[Decidable c](h:¬c)(b:B):if decide c=true then A else B:=by rw[decide_eq_false h]; exact rF b
theorem aBJ {c A B:Prop}[Decidable c](h:¬c)(a:A):if (!decide c)=true then A else B:=by rw[decide_eq_false h]; exact vC a
theorem gY {c A B:Prop}[Decidable c](h1:c→A)(h2:¬c→B):if decide c=true then A else B:=by
 by_cases h:c
 ·exact aAN h (h1 h)
 ·exact aAI h (h2 h)
theorem a9X {c A B:Prop}[Decidable c](h1:¬c→A)(h2:c→B):if (!decide c)=true then A else B:=by
 by_cases h:c
 ·exact aBH h (h2 h)
 ·exact aBJ h (h1 h)
theorem oH {n:Nat}(h:n≤1000):n≤sizeLine:=CP (nA h)
theorem iV {n:Nat}(h:Nat.ble n 1000=true):n≤sizeLine:=oH (Eo h)
noncomputable def qX (q:Rat):AM:=.tuple [.int q.num,.int (q.den:Int)]
theorem lH (q:Rat):Good (qX q):=⟨rfl,by show 1≤60; decide⟩
theorem a0D (a b:Rat):Au (qX a) (qX b)=decide (a=b):=by
 show((a.num==b.num)&&(((a.den:Int)==(b.den:Int))&&true))=decide (a=b)
 rw[Bool.and_true]
 by_cases e:a=b
 ·subst e; simp
 ·rw[decide_eq_false e];refine Bool.eq_false_iff.mpr fun h=>e ?_;rw[Co] at h;have h1:a.num=b.num:=beq_iff_eq.mp h.1;have h2:(a.den:Int)=(b.den:Int):=beq_iff_eq.mp h.2;exact Rat.ext h1 (by omega)
noncomputable def a4E (K:AW):Sp:=fun vs H Q _=>∃(a:AA) (ns:List Int),vs=[.ref a]∧SqL K H a (ns.map V.int)∧ns.length≤63∧∀ H',Q (.bl true) H'
theorem a7W {k:Nat}{t b:Int}(h:Bt k b)(h0:b≠0):Bt k (Bb t b:Nat):=by
 unfold Bt at *;refine EI ?_ h;show Bb t b≤b.natAbs;exact Nat.le_of_dvd (by omega) (Nat.gcd_dvd_right _ _)
theorem a92 {t b:Int}(h0:b≠0):((Bb t b:Nat):Int)≠0:=by
 have:=Int.gcd_pos_of_ne_zero_right t h0;omega
end L2
namespace L2
open PySem PySem.Spec PyProof.Rows
section
variable {κ:Type}[DecidableEq κ]
end
section
variable {P:AQ}{w:AL}{H:Hp}{h:AH}{a:AA}
end
section
variable {X:Cx}{pins:List (AA×Obj)}{σ:St}{H:Hp}{s:AC}{a:AA}{y v:V}{u r:AB}{o:Option V}{A:AR}{E:AB→AC→Prop}
end
section
variable {X:Cx}{pins:List (AA×Obj)}{σ:St}{H:Hp}{s:AC}{a:AA}{kvs:List (Key×V)}{k:Key}{u:AB}{A:AR}{E:AB→AC→Prop}
end
section
variable {X:Cx}{o i e value:AN}{pos pos' tpos:Pos}{td ty tv:TE}
end
section
variable {X:Cx}{pos:Pos}
end
section
variable {X:Cx}{pins:List (AA×Obj)}{σ:St}{H:Hp}{s:AC}{a:AA}{y d:V}{u r:AB}{o:Option V}{A:AR}{E:AB→AC→Prop}
end
section
variable {X:Cx}{o e f:AN}{apos cpos:Pos}{td ty tx:TE}
end
section
variable {X:Cx}{pins:List (AA×Obj)}{σ:St}{H:Hp}{s:AC}{a:AA}{kvs:List (Key×V)}{A:AR}{E:AB→AC→Prop}
end
section
variable {X:Cx}{pins:List (AA×Obj)}{σ:St}{H:Hp}{s:AC}{a:AA}{y:V}{u:AB}{A:AR}{E:AB→AC→Prop}
end
end L2
namespace L2
open PySem PySem.Spec PyProof.Rows
section
variable {κ:Type}[DecidableEq κ]
end
end L2
abbrev Fg:=AW
abbrev Mg:=PySem.Str→Option PySem.Value
namespace L2.VS
open PySem PySem.Spec PyProof.Rows
section
abbrev D:=AM
structure Pb where
 P:V→Hp→Prop
 mono:∀{v G G'},Same G G'→P v G→P v G'
structure Bx where
 P:V→List AA→Hp→Hp→Prop
 mono:∀{v fp G G' H},Same G G'→P v fp G H→P v fp G' H
 loc:∀{v fp G H H'},(∀ b∈fp,H' b=H b)→P v fp G H→P v fp G H'
 dom:∀{v fp G H},P v fp G H→∀ b∈fp,∃ o,H b=some o
 uniq:∀{v fp fp' G H},P v fp G H→P v fp' G H→fp=fp'
 nt:∀{v fp G H},P v fp G H→∀ b∈fp,∀ xs,H b=some (.tup xs)→∃ q∈fp,V.ref q∈xs∧∃ vs,H q=some (.lst vs)
 view:Option D
 vok:∀{v fp G H G' d},P v fp G H→view=some d→Same G G'→(∀ b∈fp,G' b=H b)→Dt G' v d
 pv:Option Pb:=none
 pok:∀{v fp G H G' B},P v fp G H→pv=some B→Same G G'→(∀ b∈fp,G' b=H b)→B.P v G':=by intro _ _ _ _ _ _ _ z; cases z
inductive Sl where
 | no|val (d:D)|own (ds:List D)|pen|con (p:AA)|box (B:Bx)|pub (B:Pb)
abbrev En:=List Sl
inductive Rv where
 | val (d:D)|own (ds:List D)|box (B:Bx)
def Rv.d:Rv→D
 | .val d=>d
 | .own ds=>.list ds
 | .box B=>B.view.getD .none
def Rv.sl:Rv→Sl
 | .val d=>.val d
 | .own ds=>.own ds
 | .box B=>.box B
inductive Fl where
 | nx (Γ:En)|rt (r:Rv)|bk (Γ:En)|ct (Γ:En)
variable {P0:AA→Hp→Prop}
structure Fra (P0:AA→Hp→Prop) where
 H0:Hp
 G0:Hp
 pen:Option AA
 stab:∀ p,pen=some p→∀ H H',(∀ b o,H0 b=some o→H' b=H b)→P0 p H→P0 p H'
 pin:∀ p,pen=some p→∀ H,P0 p H→∃ o,H p=some o
 pin0:∀ p,pen=some p→∃ o,H0 p=some o
 pg:∀ p,pen=some p→G0 p=none
def Fra.PI (F:Fra P0)(H:Hp):Prop:=∀ p,F.pen=some p→P0 p H
theorem Fra.stab' (F:Fra P0):∀ H H',(∀ b o,F.H0 b=some o→H' b=H b)→F.PI H→F.PI H':=fun H H' h pi p e=>F.stab p e H H' h (pi p e)
structure Rf (F:Fra P0)(G H:Hp):Prop where
 sub:Same G H
 g0:∀ b o,F.H0 b=some o→G b=F.G0 b
 h0:∀ b o,F.H0 b=some o→F.pen≠some b→H b=some o
 pn:F.PI H
def SlF (F:Fra P0)(G H:Hp)(x:Option (Option V))(fp:List AA):Sl→Prop
 | .no=>fp=[]
 | .val d=>fp=[]∧∃ v,x=some (some v)∧Dt G v d
 | .own ds=>∃ p vs,fp=[p]∧x=some (some (.ref p))∧F.H0 p=none∧G p=none∧H p=some (.lst vs)∧Dts G vs ds
 | .pen=>fp=[]∧∃ p,x=some (some (.ref p))∧F.pen=some p
 | .con p=>fp=[]∧x=some (some (.ref p))
 | .pub B=>fp=[]∧∃ v,x=some (some v)∧B.P v G
 | .box B=>∃ v,x=some (some v)∧B.P v fp G H∧∀ b∈fp,F.H0 b=none∧G b=none
def aB4 (F:Fra P0)(G H:Hp)(x:Option (Option V)):Sl→Prop
 | .no=>True
 | .val d=>∃ v,x=some (some v)∧Dt G v d
 | .own ds=>∃ p vs,x=some (some (.ref p))∧F.H0 p=none∧G p=none∧H p=some (.lst vs)∧Dts G vs ds
 | .pen=>∃ p,x=some (some (.ref p))∧F.pen=some p
 | .con p=>x=some (some (.ref p))
 | .pub B=>∃ v,x=some (some v)∧B.P v G
 | .box B=>∃ v fp,x=some (some v)∧B.P v fp G H∧∀ b∈fp,F.H0 b=none∧G b=none
theorem SlF.ok {F:Fra P0}{G H:Hp}{x:Option (Option V)}{fp:List AA}:∀{s:Sl},SlF F G H x fp s→aB4 F G H x s
 | .no,_=>trivial
 | .val _,h=>h.2
 | .own _,h=>let ⟨p,vs,_,r⟩:=h; ⟨p,vs,r⟩
 | .pen,h=>h.2
 | .con _,h=>h.2
 | .pub _,h=>h.2
 | .box _,h=>let ⟨v,r⟩:=h; ⟨v,fp,r⟩
theorem SlF.mine {F:Fra P0}{G H:Hp}{x:Option (Option V)}{fp:List AA}{b:AA}(hb:b∈fp):∀{s:Sl},SlF F G H x fp s→F.H0 b=none∧G b=none∧∃ o,H b=some o
 | .no,h=>by rw[show fp=[] from h] at hb; cases hb
 | .val _,h=>by rw[h.1] at hb; cases hb
 | .own _,h=>by
  obtain⟨p,vs,e,_,h1,h2,h3,_⟩:=h;rw[e] at hb;rw[Ac.mp hb];exact⟨h1,h2,_,h3⟩
 | .pen,h=>by rw[h.1] at hb; cases hb
 | .con _,h=>by rw[h.1] at hb; cases hb
 | .pub _,h=>by rw[h.1] at hb; cases hb
 | .box B,h=>by
  obtain⟨v,_,h2,h3⟩:=h;exact⟨(h3 b hb).1,(h3 b hb).2,B.dom h2 b hb⟩
theorem SlF.go {F:Fra P0}{G H G' H':Hp}{x:Option (Option V)}{fp:List AA}(g:Same G G')(k:∀ b∈fp,G' b=none∧H' b=H b):∀{s:Sl},SlF F G H x fp s→SlF F G' H' x fp s
 | .no,h=>h
 | .val _,h=>let ⟨e,v,e1,d1⟩:=h; ⟨e,v,e1,Dt.same g _ _ d1⟩
 | .own _,h=>by
  obtain⟨p,vs,e,e1,e2,e3,e4,e5⟩:=h;have:=k p (by rw[e]; exact Ac.mpr rfl);exact⟨p,vs,e,e1,e2,this.1,this.2.trans e4,Dts.same g _ _ e5⟩
 | .pen,h=>h
 | .con _,h=>h
 | .pub B,h=>let ⟨e,v,e1,d1⟩:=h; ⟨e,v,e1,B.mono g d1⟩
 | .box B,h=>by
  obtain⟨v,h1,h2,h3⟩:=h;exact⟨v,h1,B.loc (fun b hb=>(k b hb).2) (B.mono g h2),fun b hb=>⟨(h3 b hb).1,(k b hb).1⟩⟩
structure R (F:Fra P0)(Γ:En)(σ:St)(G H:Hp):Prop where
 fr:Rf F G H
 len:Γ.length=σ.length
 fps:∃ fps:Nat→List AA,(∀(i:Nat) s,Γ[i]?=some s→SlF F G H σ[i]? (fps i) s)∧∀(i j:Nat) (s t:Sl),Γ[i]?=some s→Γ[j]?=some t→i≠j→∀ b∈fps i,b∉fps j
theorem R.sl {F:Fra P0}{Γ:En}{σ:St}{G H:Hp}(r:R F Γ σ G H)(i:Nat)(s:Sl)(e:Γ[i]?=some s):aB4 F G H σ[i]? s:=
 let ⟨_,h,_⟩:=r.fps; (h i s e).ok
theorem R.of {F:Fra P0}{Γ:En}{σ:St}{G H:Hp}(fr:Rf F G H)(len:Γ.length=σ.length)(sl:∀(i:Nat) s,Γ[i]?=some s→aB4 F G H σ[i]? s)(nb:∀(i:Nat) B,Γ[i]?≠some (.box B))
  (ap:∀(i j:Nat) x y,i≠j→Γ[i]?=some (.own x)→Γ[j]?=some (.own y)→σ[i]?≠σ[j]?):R F Γ σ G H:=by
 refine⟨fr,len,fun i=>match Γ[i]?,σ[i]? with|some (.own _),some (some (.ref p))=>[p]|_,_=>[],fun i s e=>?_,fun i j s t ei ej hij b hb hc=>?_⟩
 ·have h:=sl i s e
  cases s with
  | no=>simp only[e]; rfl
  | val d=>simp only[e]; exact⟨rfl,h⟩
  | own ds=>
   obtain⟨p,vs,e1,r⟩:=h;simp only[e,e1];exact⟨p,vs,rfl,rfl,r⟩
  | pen=>simp only[e]; exact⟨rfl,h⟩
  | con q=>simp only[e]; exact⟨rfl,h⟩
  | pub B=>simp only[e]; exact⟨rfl,h⟩
  | box B=>exact absurd e (nb i B)
 ·simp only[ei] at hb;simp only[ej] at hc
  cases s with
  | own x=>
   cases t with
   | own y=>
    split at hb
    ·rename_i p _ e1
     split at hc
     ·rename_i q _ e2
      have e1:=Ac.mp hb;have e2:=Ac.mp hc;exact ap i j x y hij ei ej (by simp_all)
     ·cases hc
    ·cases hb
   | _=>simp at hc
  | _=>simp at hb
section
variable {F:Fra P0}{Γ:En}{σ:St}{G H G' H':Hp}{p:AA}{o:HO}
theorem Rf.dom (h:Rf F G H){b:AA}(e:F.H0 b=some o):∃ o',H b=some o':=by
 by_cases hb:F.pen=some b
 ·exact F.pin b hb H (h.pn b hb)
 ·exact⟨o,h.h0 b o e hb⟩
theorem Rf.fresh (h:Rf F G H)(hp:H p=none):F.H0 p=none:=by
 cases e:F.H0 p with
 | none=>rfl
 | some o=>
  obtain⟨o',e'⟩:=h.dom e;rw[hp] at e'; cases e'
theorem Rf.gfresh (h:Rf F G H)(hp:H p=none):G p=none:=h.sub.free hp
theorem Rf.pub (h:Rf F G H)(hp:H p=none):Rf F (upd G p o) (upd H p o):=by
 have hf:=h.fresh hp;have hn:∀ b u,F.H0 b=some u→b≠p:=fun b u e z=>by rw[z,hf] at e; cases e
 refine⟨fun b u e=>?_,fun b u e=>?_,fun b u e hb=>?_,F.stab' H _ (fun b u e=>bR (hn b u e)) h.pn⟩
 ·by_cases hb:b=p
  ·subst hb; rw[bQ] at e; cases e; exact bQ
  ·rw[bR hb] at e ⊢; exact h.sub b u e
 ·rw[bR (hn b u e)]; exact h.g0 b u e
 ·rw[bR (hn b u e)]; exact h.h0 b u e hb
theorem Rf.priv (h:Rf F G H)(hp:F.H0 p=none)(hg:G p=none):Rf F G (upd H p o):=by
 have hn:∀ b u,F.H0 b=some u→b≠p:=fun b u e z=>by rw[z,hp] at e; cases e
 refine⟨fun b u e=>?_,h.g0,fun b u e hb=>?_,F.stab' H _ (fun b u e=>bR (hn b u e)) h.pn⟩
 ·rw[bR (cG e hg)]; exact h.sub b u e
 ·rw[bR (hn b u e)]; exact h.h0 b u e hb
theorem Rf.give (h:Rf F G H)(hp:F.H0 p=none)(hH:H p=some o):Rf F (upd G p o) H:=by
 have hn:∀ b u,F.H0 b=some u→b≠p:=fun b u e z=>by rw[z,hp] at e; cases e
 refine⟨fun b u e=>?_,fun b u e=>?_,h.h0,h.pn⟩
 ·by_cases hb:b=p
  ·subst hb; rw[bQ] at e; cases e; exact hH
  ·rw[bR hb] at e; exact h.sub b u e
 ·rw[bR (hn b u e)]; exact h.g0 b u e
def R.Has (_:R F Γ σ G H)(b:AA):Prop:=∃(i:Nat) (s:Sl) (fp:List AA),Γ[i]?=some s∧SlF F G H σ[i]? fp s∧b∈fp
theorem R.keep (r:R F Γ σ G H)(f:Rf F G' H')(g:Same G G')
  (k:∀ b o,r.Has b→F.H0 b=none→G b=none→H b=some o→G' b=none∧H' b=some o):R F Γ σ G' H':=by
 obtain⟨fps,h1,h2⟩:=r.fps;refine⟨f,r.len,fps,fun i s e=>(h1 i s e).go g fun b hb=>?_,h2⟩;obtain⟨m1,m2,o,m3⟩:=(h1 i s e).mine hb;obtain⟨k1,k2⟩:=k b o ⟨i,s,fps i,e,h1 i s e,hb⟩ m1 m2 m3;exact⟨k1,k2.trans m3.symm⟩
theorem R.new (r:R F Γ σ G H)(hp:H p=none):R F Γ σ (upd G p o) (upd H p o):=by
 refine r.keep (r.fr.pub hp) (gZ (r.fr.gfresh hp) o) fun q u _ _ g h=>?_;have hq:q≠p:=cG h hp;rw[bR hq,bR hq];exact⟨g,h⟩
theorem R.newP (r:R F Γ σ G H)(hp:H p=none):R F Γ σ G (upd H p o):=by
 refine r.keep (r.fr.priv (r.fr.fresh hp) (r.fr.gfresh hp)) (Same.refl _) fun q u _ _ g h=>?_;have hq:q≠p:=cG h hp;rw[bR hq];exact⟨g,h⟩
def RvO (F:Fra P0)(G H:Hp)(r:V):Rv→Prop
 | .val d=>Dt G r d
 | .own ds=>∃ p vs,r=.ref p∧F.H0 p=none∧G p=none∧H p=some (.lst vs)∧Dts G vs ds
 | .box B=>∃ fp,B.P r fp G H∧∀ b∈fp,F.H0 b=none∧G b=none
def Apart (F:Fra P0)(Γ:En)(σ:St)(G H:Hp)(r:V):Rv→Prop
 | .val _=>True
 | .own _=>∀(i:Nat) s fp,Γ[i]?=some s→SlF F G H σ[i]? fp s→∀ p,r=.ref p→p∉fp
 | .box B=>∀(i:Nat) s fp f,Γ[i]?=some s→SlF F G H σ[i]? fp s→B.P r f G H→∀ b∈f,b∉fp
theorem R.give (r:R F Γ σ G H){v:V}{ds:List D}(h:RvO F G H v (.own ds))(ha:Apart F Γ σ G H v (.own ds)):∃ G',Same G G'∧R F Γ σ G' H∧Dt G' v (.list ds):=by
 obtain⟨p,vs,rfl,e1,e2,e3,e4⟩:=h;have g:=gZ e2 (.lst vs);refine⟨upd G p (.lst vs),g,r.keep (r.fr.give e1 e3) g fun q u hq _ eg eh=>⟨?_,eh⟩,.lst bQ (Dts.same g _ _ e4)⟩;have hqp:q≠p:=fun z=>by
  obtain⟨i,s,fp,a1,a2,a3⟩:=hq;rw[z] at a3;exact ha i s fp a1 a2 p rfl a3
 rw[bR hqp];exact eg
theorem R.giveB (r:R F Γ σ G H){v:V}{B:Bx}{d:D}(h:RvO F G H v (.box B))(ha:Apart F Γ σ G H v (.box B))(hv:B.view=some d):∃ G',Same G G'∧R F Γ σ G' H∧Dt G' v d:=by
 obtain⟨fp,e1,e2⟩:=h;have g:Same G (fun b=>if b∈fp then H b else G b):=fun b o e=>by
  show(if b∈fp then H b else G b)=some o
  rw[if_neg (fun z=>by rw[(e2 b z).2] at e; cases e)];exact e
 refine⟨fun b=>if b∈fp then H b else G b,g,r.keep ⟨fun b o e=>?_,fun b o e=>?_,r.fr.h0,r.fr.pn⟩ g fun q u hq _ eg eh=>⟨?_,eh⟩,B.vok e1 hv g fun b hb=>if_pos hb⟩
 ·have e:(if b∈fp then H b else G b)=some o:=e
  split at e
  ·exact e
  ·exact r.fr.sub b o e
 ·show(if b∈fp then H b else G b)=_
  rw[if_neg (fun z=>by rw[(e2 b z).1] at e; cases e)];exact r.fr.g0 b o e
 ·obtain⟨i,s,f,a1,a2,a3⟩:=hq
  show(if q∈fp then H q else G q)=none
  rw[if_neg fun z=>ha i s f fp a1 a2 e1 q z a3];exact eg
theorem R.set (r:R F Γ σ G H){i:Nat}{v:V}{rv:Rv}(h:RvO F G H v rv)(ha:Apart F Γ σ G H v rv):R F (Γ.set i rv.sl) (σ.set i (some v)) G H:=by
 obtain⟨fps,h1,h2⟩:=r.fps;obtain⟨fp,hf,hd⟩:∃ fp,SlF F G H (some (some v)) fp rv.sl∧∀(j:Nat) s,Γ[j]?=some s→∀ b∈fp,b∉fps j:=by
  cases rv with
  | val d=>exact⟨[],⟨rfl,v,rfl,h⟩,fun j s _ b hb=>nomatch hb⟩
  | own ds=>
   obtain⟨p,vs,rfl,q⟩:=h;exact⟨[p],⟨p,vs,rfl,rfl,q⟩,fun j s ej b hb=>by rw[Ac.mp hb]; exact ha j s (fps j) ej (h1 j s ej) p rfl⟩
  | box B=>
   obtain⟨fp,q1,q2⟩:=h;exact⟨fp,⟨v,rfl,q1,q2⟩,fun j s ej b hb=>ha j s (fps j) fp ej (h1 j s ej) q1 b hb⟩
 have lt:∀{m:Nat} {z},(Γ.set i rv.sl)[m]?=some z→m<Γ.length:=fun e=>by
  have:=(A4.mp e).1;simpa using this
 have old:∀{m:Nat} {z},m≠i→(Γ.set i rv.sl)[m]?=some z→Γ[m]?=some z:=fun hm e=>by rw[BS (Ne.symm hm)] at e; exact e
 refine⟨r.fr,by rw[Bu,Bu]; exact r.len,fun j=>if j=i then fp else fps j,fun j s e=>?_,fun j k s t ej ek hjk b hb hc=>?_⟩
 ·dsimp only
  by_cases hj:j=i
  ·subst hj;have hi:=lt e;rw[BJ hi] at e;rw[if_pos rfl,BJ (by rw[← r.len]; exact hi)]
   cases e
   exact hf
  ·rw[if_neg hj,BS (Ne.symm hj)];exact h1 j s (old hj e)
 ·dsimp only at hb hc
  by_cases hj:j=i
  ·have hk:k≠i:=fun z=>hjk (hj.trans z.symm);rw[if_pos hj] at hb;rw[if_neg hk] at hc;exact hd k t (old hk ek) b hb hc
  ·rw[if_neg hj] at hb
   by_cases hk:k=i
   ·rw[if_pos hk] at hc;exact hd j s (old hj ej) b hc hb
   ·rw[if_neg hk] at hc;exact h2 j k s t (old hj ej) (old hk ek) hjk b hb hc
theorem R.setV (r:R F Γ σ G H){i:Nat}{v:V}{d:D}(h:Dt G v d):R F (Γ.set i (.val d)) (σ.set i (some v)) G H:=r.set (rv:=.val d) h trivial
theorem R.drop (r:R F Γ σ G H)(i:Nat):R F (Γ.set i .no) σ G H:=by
 obtain⟨fps,h1,h2⟩:=r.fps;have back:∀{m z},m≠i→(Γ.set i .no)[m]?=some z→Γ[m]?=some z:=fun{m z} hm e=>by rw[BS (Ne.symm hm)] at e; exact e
 refine⟨r.fr,by rw[Bu]; exact r.len,fun j=>if j=i then[] else fps j,fun j s e=>?_,fun j k s t ej ek hjk b hb hc=>?_⟩
 ·dsimp only
  by_cases hj:j=i
  ·subst hj;have hi:j<Γ.length:=by
    have:=(A4.mp e).1;simpa using this
   rw[BJ hi] at e
   cases e
   rw[if_pos rfl];rfl
  ·rw[if_neg hj];exact h1 j s (back hj e)
 ·dsimp only at hb hc
  by_cases hj:j=i
  ·rw[if_pos hj] at hb; cases hb
  ·rw[if_neg hj] at hb
   by_cases hk:k=i
   ·rw[if_pos hk] at hc; cases hc
   ·rw[if_neg hk] at hc;exact h2 j k s t (back hj ej) (back hk ek) hjk b hb hc
theorem R.writeF (r:R F Γ σ G H){i:Nat}{s0 s1:Sl}{H':Hp}(e:Γ[i]?=some s0)(fr:Rf F G H')(h:∀ fp,SlF F G H σ[i]? fp s0→∃ fp',SlF F G H' σ[i]? fp' s1∧(∀ b,b∉fp→(∃ o,H b=some o)→H' b=H b∧b∉fp')):R F (Γ.set i s1) σ G H':=by
 obtain⟨fps,h1,h2⟩:=r.fps;obtain⟨fp',w1,w2⟩:=h (fps i) (h1 i s0 e);have hi:i<Γ.length:=(A4.mp e).1;have back:∀{m z},m≠i→(Γ.set i s1)[m]?=some z→Γ[m]?=some z:=fun{m z} hm e=>by rw[BS (Ne.symm hm)] at e; exact e
 have away:∀{j:Nat} {s:Sl},j≠i→Γ[j]?=some s→∀ b∈fps j,H' b=H b∧b∉fp':=fun hj ej b hb=>
  w2 b (fun z=>h2 _ i _ s0 ej e hj b hb z) ((h1 _ _ ej).mine hb).2.2
 refine⟨fr,by rw[Bu]; exact r.len,fun j=>if j=i then fp' else fps j,fun j s ej=>?_,fun j k s t ej ek hjk b hb hc=>?_⟩
 ·dsimp only
  by_cases hj:j=i
  ·subst hj;rw[BJ hi] at ej
   cases ej
   rw[if_pos rfl];exact w1
  ·rw[if_neg hj];have e0:=back hj ej;exact(h1 j s e0).go (Same.refl _) fun b hb=>⟨((h1 j s e0).mine hb).2.1,(away hj e0 b hb).1⟩
 ·dsimp only at hb hc
  by_cases hj:j=i
  ·have hk:k≠i:=fun z=>hjk (hj.trans z.symm);rw[if_pos hj] at hb;rw[if_neg hk] at hc;exact(away hk (back hk ek) b hc).2 hb
  ·rw[if_neg hj] at hb
   by_cases hk:k=i
   ·rw[if_pos hk] at hc;exact(away hj (back hj ej) b hb).2 hc
   ·rw[if_neg hk] at hc;exact h2 j k s t (back hj ej) (back hk ek) hjk b hb hc
theorem R.write (r:R F Γ σ G H){i:Nat}{ds es:List D}{p:AA}{ws:List V}(e:Γ[i]?=some (.own ds))(ep:σ[i]?=some (some (.ref p)))(hw:Dts G ws es):R F (Γ.set i (.own es)) σ G (upd H p (.lst ws)):=by
 obtain⟨p',vs,e1,e2,e3,e4,e5⟩:=r.sl i _ e;rw[ep] at e1; cases e1;refine r.writeF e (r.fr.priv e2 e3) fun fp h=>?_;obtain⟨q,us,f0,f1,f2,f3,f4,f5⟩:=h;rw[ep] at f1; cases f1;refine⟨[p],⟨p,ws,rfl,ep,e2,e3,bQ,hw⟩,fun b hb _=>?_⟩;have hbp:b≠p:=fun z=>hb (by rw[f0,z]; exact Ac.mpr rfl);exact⟨bR hbp,fun z=>hbp (Ac.mp z)⟩
end
abbrev ME:=En→(D→En→Prop)→Prop
abbrev MO:=En→(Rv→En→Prop)→Prop
abbrev MT:=En→(Bool→En→Prop)→Prop
abbrev MA:=En→(List Sl→En→Prop)→Prop
abbrev MD:=En→(List D→En→Prop)→Prop
abbrev MG:=D→En→(En→Prop)→Prop
abbrev MGs:=List D→En→(En→Prop)→Prop
abbrev MS:=En→(Fl→Prop)→Prop
abbrev Fm:=List Sl→(Rv→Prop)→Prop
def VT (P0:AA→Hp→Prop)(t:TE)(m:ME):Prop:=∀(F:Fra P0) (Γ:En) (σ:St) (G H:Hp) (Q:VK) (Qm:D→En→Prop),R F Γ σ G H→m Γ Qm →
 (∀ d Γ' r G' H',Qm d Γ'→Same G G'→R F Γ' σ G' H'→Dt G' r d→Q r H')→t σ H Q
def VO (P0:AA→Hp→Prop)(t:TE)(m:MO):Prop:=∀(F:Fra P0) (Γ:En) (σ:St) (G H:Hp) (Q:VK) (Qm:Rv→En→Prop),R F Γ σ G H→m Γ Qm →
 (∀ rv Γ' r G' H',Qm rv Γ'→Same G G'→R F Γ' σ G' H'→RvO F G' H' r rv→Apart F Γ' σ G' H' r rv→Q r H')→t σ H Q
def VTT (P0:AA→Hp→Prop)(t:TT)(m:MT):Prop:=∀(F:Fra P0) (Γ:En) (σ:St) (G H:Hp) (Q:Bool→Hp→Prop) (Qm:Bool→En→Prop),R F Γ σ G H→m Γ Qm →
 (∀ b Γ' G' H',Qm b Γ'→Same G G'→R F Γ' σ G' H'→Q b H')→t σ H Q
def VD (P0:AA→Hp→Prop)(t:TA)(m:MD):Prop:=∀(F:Fra P0) (Γ:En) (σ:St) (G H:Hp) (Q:List V→Hp→Prop) (Qm:List D→En→Prop),R F Γ σ G H→m Γ Qm →
 (∀ ds Γ' rs G' H',Qm ds Γ'→Same G G'→R F Γ' σ G' H'→Dts G' rs ds→Q rs H')→t σ H Q
def oF (F:Fra P0)(G:Hp)(r:V):Sl→Prop
 | .val d=>Dt G r d
 | .pen=>∃ p,r=.ref p∧F.pen=some p
 | .con p=>r=.ref p
 | .pub B=>B.P r G
 | _=>False
def VA (P0:AA→Hp→Prop)(t:TA)(m:MA):Prop:=∀(F:Fra P0) (Γ:En) (σ:St) (G H:Hp) (Q:List V→Hp→Prop) (Qm:List Sl→En→Prop),R F Γ σ G H→m Γ Qm →
 (∀ as Γ' rs G' H',Qm as Γ'→Same G G'→R F Γ' σ G' H'→AX (oF F G') rs as→Q rs H')→t σ H Q
def VG (P0:AA→Hp→Prop)(A:Nat→Bool)(g:TG)(m:MG):Prop:=∀(F:Fra P0) (Γ:En) (σ:St) (G H:Hp) (v:V) (d:D) (Q:St→Hp→Prop) (Qm:En→Prop),R F Γ σ G H→Dt G v d→m d Γ Qm →
 (∀ Γ' σ',Qm Γ'→R F Γ' σ' G H→(∀ i,A i=false→σ'[i]?=σ[i]?)→Q σ' H)→g v σ H Q
def Post (F:Fra P0)(A:Nat→Bool)(σ0:St)(G:Hp)(E:Ends):Fl→Prop
 | .nx Γ=>∀ σ G' H',Same G G'→R F Γ σ G' H'→(∀ i,A i=false→σ[i]?=σ0[i]?)→E.nx σ H'
 | .rt rv=>∀ r G' H',Same G G'→Rf F G' H'→RvO F G' H' r rv→E.rt r H'
 | .bk Γ=>∀ σ G' H',Same G G'→R F Γ σ G' H'→(∀ i,A i=false→σ[i]?=σ0[i]?)→E.bk σ H'
 | .ct Γ=>∀ σ G' H',Same G G'→R F Γ σ G' H'→(∀ i,A i=false→σ[i]?=σ0[i]?)→E.ct σ H'
def VSA (P0:AA→Hp→Prop)(A:Nat→Bool)(t:TS)(m:MS):Prop:=∀(F:Fra P0) (Γ:En) (σ:St) (G H:Hp) (E:Ends) (Qm:Fl→Prop),R F Γ σ G H→m Γ Qm→(∀ fl,Qm fl→Post F A σ G E fl)→t E σ H
abbrev aD3:Nat→Bool:=fun _=>true
abbrev VS (P0:AA→Hp→Prop)(t:TS)(m:MS):Prop:=VSA P0 aD3 t m
theorem Post.same {F:Fra P0}{A:Nat→Bool}{σ0 σ1:St}{G G':Hp}{E:Ends}(g:Same G G')(hσ:∀ i,A i=false→σ1[i]?=σ0[i]?):∀{fl:Fl},Post F A σ0 G E fl→Post F A σ1 G' E fl
 | .nx _,h=>fun σ G2 H2 s r e=>h σ G2 H2 (g.trans s) r fun i hi=>(e i hi).trans (hσ i hi)
 | .rt _,h=>fun r G2 H2 s=>h r G2 H2 (g.trans s)
 | .bk _,h=>fun σ G2 H2 s r e=>h σ G2 H2 (g.trans s) r fun i hi=>(e i hi).trans (hσ i hi)
 | .ct _,h=>fun σ G2 H2 s r e=>h σ G2 H2 (g.trans s) r fun i hi=>(e i hi).trans (hσ i hi)
def SsX (P0:AA→Hp→Prop)(X:Cx)(sts:List AS)(m:MS):Prop:=∃ t,PSs X sts t∧VS P0 t m
end
section
variable {P0:AA→Hp→Prop}
theorem _root_.L2.Dts.get {G:Hp}:∀{vs:List V} {ds:List D} {i:Nat} {d:D},Dts G vs ds→ds[i]?=some d→∃ v,vs[i]?=some v∧Dt G v d
 := by
  intro vs ds i d h e
  induction ds generalizing vs i with
  | nil=>cases e
  | cons x ds ih=>
    cases h with
    | cons a b=>
      cases i with
      | zero=>cases e; exact⟨_,rfl,a⟩
      | succ i=>
        have q:=ih b (show ds[i]?=some d from e);exact q
theorem _root_.L2.Dts.len {G:Hp}:∀{vs:List V} {ds:List D},Dts G vs ds→vs.length=ds.length
 := by
  intro vs ds h
  induction ds generalizing vs with
  | nil=>cases h; rfl
  | cons x ds ih=>cases h with|cons a b=>exact congrArg Nat.succ (ih b)
theorem _root_.L2.Dts.app {G:Hp}:∀{vs ws:List V} {ds es:List D},Dts G vs ds→Dts G ws es→Dts G (vs++ws) (ds++es)
 := by
  intro vs ws ds es h g
  induction ds generalizing vs with
  | nil=>cases h; exact g
  | cons x ds ih=>cases h with|cons a b=>exact .cons a (ih b)
theorem _root_.L2.Dts.drp {G:Hp}:∀{vs:List V} {ds:List D} (n:Nat),Dts G vs ds→Dts G (vs.drop n) (ds.drop n)
 | _,_,0,h=>h
 | _,_,_+1,.nil=>.nil
 | _,_,n+1,.cons _ b=>Dts.drp n b
theorem _root_.L2.Dts.tak {G:Hp}:∀{vs:List V} {ds:List D} (n:Nat),Dts G vs ds→Dts G (vs.take n) (ds.take n)
 | _,_,0,_=>.nil
 | _,_,_+1,.nil=>.nil
 | _,_,n+1,.cons a b=>.cons a (Dts.tak n b)
def oQ (o:Option D)(k:D→Prop):Prop:=match o with
 | some d=>k d
 | none=>False
theorem a0O {o:Option D}{k:D→Prop}(h:oQ o k):∃ d,o=some d∧k d:=by
 cases o with
 | none=>exact h.elim
 | some d=>exact⟨d,rfl,h⟩
def mC (d:D):ME:=fun Γ Q=>Q d Γ
def cF (i:Nat):ME:=fun Γ Q=>match Γ[i]? with
 | some (.val d)=>Q d Γ
 | _=>False
def mI0 (g:Int→Int→D)(ma mb:ME):ME:=fun Γ Q=>ma Γ fun x Γ1=>mb Γ1 fun y Γ2=>match x,y with
 | .int i,.int j=>Q (g i j) Γ2
 | _,_=>False
def mI (C:Int→Int→Prop)(g:Int→Int→D)(ma mb:ME):ME:=fun Γ Q=>ma Γ fun x Γ1=>mb Γ1 fun y Γ2=>match x,y with
 | .int i,.int j=>C i j∧Q (g i j) Γ2
 | _,_=>False
def mU (g:Int→D)(ma:ME):ME:=fun Γ Q=>ma Γ fun x Γ1=>match x with
 | .int i=>Q (g i) Γ1
 | _=>False
def mEq (ma mb:ME):ME:=fun Γ Q=>ma Γ fun x Γ1=>mb Γ1 fun y Γ2=>Good x∧Good y∧Q (.bool (Au x y)) Γ2
def mNe (ma mb:ME):ME:=fun Γ Q=>ma Γ fun x Γ1=>mb Γ1 fun y Γ2=>Good x∧Good y∧Q (.bool (!PyData.eqv x y)) Γ2
def isN:D→Bool
 | .none=>true
 | _=>false
def a7P (ma:ME):ME:=fun Γ Q=>ma Γ fun x Γ1=>Q (.bool (isN x)) Γ1
def a0K (ma:ME):ME:=fun Γ Q=>ma Γ fun x Γ1=>Q (.bool (!isN x)) Γ1
def a08 (ma mb:ME):ME:=fun Γ Q=>ma Γ fun x Γ1=>match x with
 | .bool c=>if c=true then mb Γ1 Q else Q (.bool false) Γ1
 | _=>False
def aBQ (ma mb:ME):ME:=fun Γ Q=>ma Γ fun x Γ1=>match x with
 | .bool c=>if c=true then Q (.bool true) Γ1 else mb Γ1 Q
 | _=>False
def lV (ma:ME):MT:=fun Γ Q=>ma Γ fun x Γ1=>match x with
 | .bool c=>Q c Γ1
 | _=>False
def a8J (ma mb:MT):MT:=fun Γ Q=>ma Γ fun c Γ1=>if c=true then mb Γ1 Q else Q false Γ1
def mOr (ma mb:MT):MT:=fun Γ Q=>ma Γ fun c Γ1=>if c=true then Q true Γ1 else mb Γ1 Q
def a5W (ma:MT):MT:=fun Γ Q=>ma Γ fun c Γ1=>Q (!c) Γ1
def tL:MD:=fun Γ Q=>Q [] Γ
def dU (ma:ME)(mr:MD):MD:=fun Γ Q=>ma Γ fun x Γ1=>mr Γ1 fun xs Γ2=>Q (x::xs) Γ2
def jR:MA:=fun Γ Q=>Q [] Γ
def gU (ma:ME)(mr:MA):MA:=fun Γ Q=>ma Γ fun x Γ1=>mr Γ1 fun xs Γ2=>Q (.val x::xs) Γ2
def a3H (md:MD):ME:=fun Γ Q=>md Γ fun ds Γ1=>ds.length≤1000∧Q (.tuple ds) Γ1
def a4M (md:MD):MO:=fun Γ Q=>md Γ fun ds Γ1=>ds.length≤1000∧Q (.own ds) Γ1
def ixD:D→D→Option D
 | .tuple ds,.int i=>atI ds i
 | .list ds,.int i=>atI ds i
 | _,_=>none
def mIx (ma mb:ME):ME:=fun Γ Q=>ma Γ fun x Γ1=>mb Γ1 fun y Γ2=>oQ (ixD x y) fun d=>Q d Γ2
def nbQ:Rv→Prop→Prop
 | .box B,p=>B.view.isSome=true∧p
 | _,p=>p
def iD (mo:MO):ME:=fun Γ Q=>mo Γ fun rv Γ1=>nbQ rv (Q rv.d Γ1)
def gK (m:ME):MO:=fun Γ Q=>m Γ fun d Γ1=>Q (.val d) Γ1
def jB (n:Nat)(f:Fm)(ma:MA):MO:=fun Γ Q=>ma Γ fun as Γ1=>as.length=n∧f as fun rv=>Q rv Γ1
def a7E:D→Option D
 | .tuple ds=>some (.int ds.length)
 | .list ds=>some (.int ds.length)
 | _=>none
def a5A (ma:ME):ME:=fun Γ Q=>ma Γ fun x Γ1=>oQ (a7E x) fun d=>Q d Γ1
def cutD (xs:List D)(lo hi:Option Int):List D:=(xs.drop (HT.sIx xs.length 0 lo)).take (HT.sIx xs.length xs.length hi-HT.sIx xs.length 0 lo)
abbrev MP:=En→(Option Int→En→Prop)→Prop
def pNo:MP:=fun Γ Q=>Q none Γ
def pSo (m:ME):MP:=fun Γ Q=>m Γ fun x Γ1=>match x with
 | .int i=>Q (some i) Γ1
 | _=>False
def aD1 (ma:ME)(ml mh:MP):MO:=fun Γ Q=>ma Γ fun x Γ1=>ml Γ1 fun lo Γ2=>mh Γ2 fun hi Γ3=>match x with
 | .list ds=>Q (.own (cutD ds lo hi)) Γ3
 | _=>False
def a9P (ma mb:ME):MO:=fun Γ Q=>ma Γ fun x Γ1=>mb Γ1 fun y Γ2=>match x,y with
 | .list ds,.list es=>ds.length+es.length≤1000∧Q (.own (ds++es)) Γ2
 | _,_=>False
def VP (P0:AA→Hp→Prop)(t:TO)(m:MP):Prop:=∀(F:Fra P0) (Γ:En) (σ:St) (G H:Hp) (Q:Option Int→Hp→Prop) (Qm:Option Int→En→Prop),R F Γ σ G H→m Γ Qm →
 (∀ d Γ' G' H',Qm d Γ'→Same G G'→R F Γ' σ G' H'→Q d H')→t σ H Q
section
variable {ta tb tc:TE}{ma mb:ME}{tA tB':TT}{mA mB:MT}{K:Fg}
theorem aBC {v:V}{d:D}(h:∀ G,Dt G v d):VT P0 (tC v) (mC d):=fun _ _ _ G _ _ _ r m k=>k _ _ _ _ _ m (Same.refl _) r (h G)
theorem aB {i:Nat}:VT P0 (yC i) (cF i):=by
 intro F Γ σ G H Q Qm r m k;unfold cF at m
 split at m
 ·rename_i d e
  obtain⟨v,e1,d1⟩:=r.sl i _ e;exact⟨v,e1,k _ _ _ _ _ m (Same.refl _) r d1⟩
 ·exact m.elim
theorem a7F {r2:R2}{m2:D→D→(D→Prop)→Prop}(ha:VT P0 ta ma)(hb:VT P0 tb mb)
  (h:∀(F:Fra P0) (Γ:En) (σ:St) (G H:Hp) (x y:V) (d e:D) (Q:VK) (Qm:D→Prop),R F Γ σ G H→Dt G x d→Dt G y e→m2 d e Qm→(∀ u r G' H',Qm u→Same G G'→R F Γ σ G' H'→Dt G' r u→Q r H')→r2 x y H Q) :
  VT P0 (tOp r2 ta tb) (fun Γ Q=>ma Γ fun x Γ1=>mb Γ1 fun y Γ2=>m2 x y fun d=>Q d Γ2):=by
 intro F Γ σ G H Q Qm r m k;refine ha F Γ σ G H _ _ r m fun d Γ1 x G1 H1 m1 s1 r1 d1=>?_;refine hb F Γ1 σ G1 H1 _ _ r1 m1 fun e Γ2 y G2 H2 m2 s2 r2 d2=>?_;exact h F Γ2 σ G2 H2 x y d e _ _ r2 (Dt.same s2 _ _ d1) d2 m2 fun u w G3 H3 q s3 r3 d3=>k _ _ _ _ _ q ((s1.trans s2).trans s3) r3 d3
theorem a1B {gv:Int→Int→V}{g:Int→Int→D}(hg:∀ G i j,Dt G (gv i j) (g i j))(ha:VT P0 ta ma)(hb:VT P0 tb mb):VT P0 (tOp (rI0 gv) ta tb) (mI0 g ma mb):=by
 refine a7F (m2:=fun x y Q=>match x,y with|.int i,.int j=>Q (g i j)|_,_=>False) ha hb fun F Γ σ G H x y d e Q Qm r d1 d2 m k=>?_
 split at m
 ·cases d1; cases d2
  exact⟨_,_,rfl,rfl,k _ _ _ _ m (Same.refl _) r (hg _ _ _)⟩
 ·exact m.elim
theorem a7N {C:Int→Int→Prop}{gv:Int→Int→V}{g:Int→Int→D}(hg:∀ G i j,Dt G (gv i j) (g i j))(ha:VT P0 ta ma)(hb:VT P0 tb mb):VT P0 (tOp (rI C gv) ta tb) (mI C g ma mb):=by
 refine a7F (m2:=fun x y Q=>match x,y with|.int i,.int j=>C i j∧Q (g i j)|_,_=>False) ha hb fun F Γ σ G H x y d e Q Qm r d1 d2 m k=>?_
 split at m
 ·cases d1; cases d2
  exact⟨_,_,rfl,rfl,m.1,k _ _ _ _ m.2 (Same.refl _) r (hg _ _ _)⟩
 ·exact m.elim
theorem aD2 {gv:Int→V}{g:Int→D}(hg:∀ G i,Dt G (gv i) (g i))(ha:VT P0 ta ma):VT P0 (tUn (rU gv) ta) (mU g ma):=by
 intro F Γ σ G H Q Qm r m k;refine ha F Γ σ G H _ _ r m fun d Γ1 x G1 H1 m1 s1 r1 d1=>?_
 split at m1
 ·cases d1
  exact⟨_,rfl,k _ _ _ _ _ m1 s1 r1 (hg _ _)⟩
 ·exact m1.elim
theorem vR (ha:VT P0 ta ma)(hb:VT P0 tb mb):VT P0 (tOp aC7 ta tb) (mEq ma mb):=by
 refine a7F (m2:=fun x y Q=>Good x∧Good y∧Q (.bool (Au x y))) ha hb fun F Γ σ G H x y d e Q Qm r d1 d2 m k=>?_;exact⟨d,e,Dt.same r.fr.sub _ _ d1,Dt.same r.fr.sub _ _ d2,m.1,m.2.1,k _ _ _ _ m.2.2 (Same.refl _) r (.bl _)⟩
theorem mX (ha:VT P0 ta ma)(hb:VT P0 tb mb):VT P0 (tOp aBU ta tb) (mNe ma mb):=by
 refine a7F (m2:=fun x y Q=>Good x∧Good y∧Q (.bool (!PyData.eqv x y))) ha hb fun F Γ σ G H x y d e Q Qm r d1 d2 m k=>?_;exact⟨d,e,Dt.same r.fr.sub _ _ d1,Dt.same r.fr.sub _ _ d2,m.1,m.2.1,k _ _ _ _ m.2.2 (Same.refl _) r (.bl _)⟩
theorem a5N {G:Hp}{x:V}{d:D}(h:Dt G x d):decide (x=V.non)=isN d:=by
 cases h<;>first|rfl|exact decide_eq_false (by intro z; cases z)
theorem dC (ha:VT P0 ta ma):VT P0 (tOp (fun x y H Q=>y=.non∧Q (.bl (decide (x=.non))) H) ta (tC .non)) (a7P ma):=by
 intro F Γ σ G H Q Qm r m k;refine ha F Γ σ G H _ _ r m fun d Γ1 x G1 H1 m1 s1 r1 d1=>⟨rfl,?_⟩;rw[a5N d1];exact k _ _ _ _ _ m1 s1 r1 (.bl _)
theorem gF (ha:VT P0 ta ma):VT P0 (tOp (fun x y H Q=>y=.non∧Q (.bl (!decide (x=.non))) H) ta (tC .non)) (a0K ma):=by
 intro F Γ σ G H Q Qm r m k;refine ha F Γ σ G H _ _ r m fun d Γ1 x G1 H1 m1 s1 r1 d1=>⟨rfl,?_⟩;rw[a5N d1];exact k _ _ _ _ _ m1 s1 r1 (.bl _)
theorem a00 (ha:VT P0 ta ma)(hb:VT P0 tb mb):VT P0 (a8U ta tb) (a08 ma mb):=by
 intro F Γ σ G H Q Qm r m k;refine ha F Γ σ G H _ _ r m fun d Γ1 x G1 H1 m1 s1 r1 d1=>?_
 split at m1
 ·rename_i c
  cases d1
  refine⟨c,rfl,?_⟩
  cases c with
  | true=>exact vC (hb F Γ1 σ G1 H1 _ _ r1 m1 fun e Γ2 y G2 H2 m2 s2 r2 d2=>k _ _ _ _ _ m2 (s1.trans s2) r2 d2)
  | false=>exact rF (k _ _ _ _ _ m1 s1 r1 (.bl _))
 ·exact m1.elim
theorem aBO (ha:VT P0 ta ma)(hb:VT P0 tb mb):VT P0 (aC6 ta tb) (aBQ ma mb):=by
 intro F Γ σ G H Q Qm r m k;refine ha F Γ σ G H _ _ r m fun d Γ1 x G1 H1 m1 s1 r1 d1=>?_
 split at m1
 ·rename_i c
  cases d1
  refine⟨c,rfl,?_⟩
  cases c with
  | true=>exact vC (k _ _ _ _ _ m1 s1 r1 (.bl _))
  | false=>exact rF (hb F Γ1 σ G1 H1 _ _ r1 m1 fun e Γ2 y G2 H2 m2 s2 r2 d2=>k _ _ _ _ _ m2 (s1.trans s2) r2 d2)
 ·exact m1.elim
theorem aV (ha:VT P0 ta ma):VTT P0 (a8T ta) (lV ma):=by
 intro F Γ σ G H Q Qm r m k;refine ha F Γ σ G H _ _ r m fun d Γ1 x G1 H1 m1 s1 r1 d1=>?_
 split at m1
 ·cases d1
  exact⟨_,rfl,k _ _ _ _ m1 s1 r1⟩
 ·exact m1.elim
theorem dW (ha:VT P0 ta ma):VTT P0 (tB ta) (lV ma):=aV ha
theorem gB (ha:VTT P0 tA mA)(hb:VTT P0 tB' mB):VTT P0 (aBS tA tB') (a8J mA mB):=by
 intro F Γ σ G H Q Qm r m k;refine ha F Γ σ G H _ _ r m fun c Γ1 G1 H1 m1 s1 r1=>?_
 cases c with
 | true=>exact vC (hb F Γ1 σ G1 H1 _ _ r1 m1 fun e Γ2 G2 H2 m2 s2 r2=>k _ _ _ _ m2 (s1.trans s2) r2)
 | false=>exact rF (k _ _ _ _ m1 s1 r1)
theorem cZ (ha:VTT P0 tA mA)(hb:VTT P0 tB' mB):VTT P0 (tOr tA tB') (mOr mA mB):=by
 intro F Γ σ G H Q Qm r m k;refine ha F Γ σ G H _ _ r m fun c Γ1 G1 H1 m1 s1 r1=>?_
 cases c with
 | true=>exact vC (k _ _ _ _ m1 s1 r1)
 | false=>exact rF (hb F Γ1 σ G1 H1 _ _ r1 m1 fun e Γ2 G2 H2 m2 s2 r2=>k _ _ _ _ m2 (s1.trans s2) r2)
theorem dB (ha:VTT P0 tA mA):VTT P0 (aBT tA) (a5W mA):=by
 intro F Γ σ G H Q Qm r m k;exact ha F Γ σ G H _ _ r m fun c Γ1 G1 H1 m1 s1 r1=>k _ _ _ _ m1 s1 r1
theorem bO:VD P0 tM tL:=fun _ _ _ _ _ _ _ r m k=>k _ _ _ _ _ m (Same.refl _) r .nil
theorem aM {tr:TA}{mr:MD}(ha:VT P0 ta ma)(hr:VD P0 tr mr):VD P0 (jX ta tr) (dU ma mr):=by
 intro F Γ σ G H Q Qm r m k;refine ha F Γ σ G H _ _ r m fun d Γ1 x G1 H1 m1 s1 r1 d1=>?_;exact hr F Γ1 σ G1 H1 _ _ r1 m1 fun e Γ2 y G2 H2 m2 s2 r2 d2=>k _ _ _ _ _ m2 (s1.trans s2) r2 (.cons (Dt.same s2 _ _ d1) d2)
theorem bH:VA P0 tM jR:=fun _ _ _ _ _ _ _ r m k=>k _ _ _ _ _ m (Same.refl _) r .nil
theorem aO {tr:TA}{mr:MA}(ha:VT P0 ta ma)(hr:VA P0 tr mr):VA P0 (jX ta tr) (gU ma mr):=by
 intro F Γ σ G H Q Qm r m k;refine ha F Γ σ G H _ _ r m fun d Γ1 x G1 H1 m1 s1 r1 d1=>?_;exact hr F Γ1 σ G1 H1 _ _ r1 m1 fun e Γ2 y G2 H2 m2 s2 r2 d2=>k _ _ _ _ _ m2 (s1.trans s2) r2 (.cons (Dt.same s2 _ _ d1) d2)
theorem cL {t:TA}{md:MD}(h:VD P0 t md):VT P0 (aCI t) (a3H md):=by
 intro F Γ σ G H Q Qm r m k;refine h F Γ σ G H _ _ r m fun ds Γ1 xs G1 H1 m1 s1 r1 d1=>⟨oH (by rw[d1.len]; exact m1.1),fun p hp=>?_⟩;have g:=gZ (r1.fr.gfresh hp) (.tup xs);exact k _ _ _ _ _ m1.2 (s1.trans g) (r1.new hp) (.tup bQ (Dts.same g _ _ d1))
theorem SlF.det {F:Fra P0}{G H:Hp}{x:Option (Option V)}{fp fp':List AA}:∀{s:Sl},SlF F G H x fp s→SlF F G H x fp' s→fp=fp'
 | .no,h,g=>(show fp=[] from h).trans (show fp'=[] from g).symm
 | .val _,h,g=>h.1.trans g.1.symm
 | .pen,h,g=>h.1.trans g.1.symm
 | .con _,h,g=>h.1.trans g.1.symm
 | .pub _,h,g=>h.1.trans g.1.symm
 | .own _,h,g=>by
  obtain⟨p,vs,e,e1,_⟩:=h;obtain⟨q,ws,f,f1,_⟩:=g;rw[e1] at f1; cases f1;rw[e,f]
 | .box B,h,g=>by
  obtain⟨v,e1,e2,_⟩:=h;obtain⟨v',f1,f2,_⟩:=g;rw[e1] at f1; cases f1;exact B.uniq e2 f2
theorem R.before {F:Fra P0}{Γ:En}{σ:St}{G H G' H':Hp}(r:R F Γ σ G H)(g:Same G G')(k:∀ b o,F.H0 b=none→G b=none→H b=some o→G' b=none∧H' b=some o){i:Nat}{s:Sl}{fp:List AA}(e:Γ[i]?=some s)(h:SlF F G' H' σ[i]? fp s):∀ b∈fp,∃ o,H b=some o:=by
 obtain⟨fps,h1,h2⟩:=r.fps;have h0:=h1 i s e;have h3:SlF F G' H' σ[i]? (fps i) s:=h0.go g fun b hb=>by
  obtain⟨m1,m2,o,m3⟩:=h0.mine hb;obtain⟨k1,k2⟩:=k b o m1 m2 m3;exact⟨k1,k2.trans m3.symm⟩
 rw[h.det h3];exact fun b hb=>(h0.mine hb).2.2
theorem Apart.new {F:Fra P0}{Γ:En}{σ:St}{G H G' H':Hp}(r:R F Γ σ G H){p:AA}(hp:H p=none){ds:List D}(g:Same G G')(k:∀ b o,F.H0 b=none→G b=none→H b=some o→G' b=none∧H' b=some o):Apart F Γ σ G' H' (.ref p) (.own ds):=by
 intro i s fp e h q eq hq
 cases eq
 obtain⟨o,eo⟩:=r.before g k e h p hq;rw[hp] at eo; cases eo
theorem Apart.newB {F:Fra P0}{Γ:En}{σ:St}{G H G' H':Hp}(r:R F Γ σ G H){v:V}{B:Bx}(hp:∀ fp,B.P v fp G' H'→∀ b∈fp,H b=none)(g:Same G G')(k:∀ b o,F.H0 b=none→G b=none→H b=some o→G' b=none∧H' b=some o):Apart F Γ σ G' H' v (.box B):=by
 intro i s fp f e h hf b hb hc;obtain⟨o,eo⟩:=r.before g k e h b hc;rw[hp f hf b hb] at eo; cases eo
theorem sO {F:Fra P0}{Γ:En}{σ:St}{G H:Hp}(r:R F Γ σ G H){p:AA}{xs:List V}{ds:List D}(hp:H p=none)(d:Dts G xs ds) :
  R F Γ σ G (upd H p (.lst xs))∧RvO F G (upd H p (.lst xs)) (.ref p) (.own ds)∧Apart F Γ σ G (upd H p (.lst xs)) (.ref p) (.own ds):=
 ⟨r.newP hp,⟨p,xs,rfl,r.fr.fresh hp,r.fr.gfresh hp,bQ,d⟩,Apart.new r hp (Same.refl _) fun b o _ g e=>⟨g,by rw[bR (cG e hp)]; exact e⟩⟩
theorem dM {t:TA}{md:MD}(h:VD P0 t md):VO P0 (aBV t) (a4M md):=by
 intro F Γ σ G H Q Qm r m k;refine h F Γ σ G H _ _ r m fun ds Γ1 xs G1 H1 m1 s1 r1 d1=>⟨oH (by rw[d1.len]; exact m1.1),fun p hp=>?_⟩;obtain⟨a,b,c⟩:=sO r1 hp d1;exact k _ _ _ _ _ m1.2 s1 a b c
theorem aN {mo:MO}(h:VO P0 ta mo):VT P0 ta (iD mo):=by
 intro F Γ σ G H Q Qm r m k;refine h F Γ σ G H _ _ r m fun rv Γ1 x G1 H1 m1 s1 r1 d1 a1=>?_
 cases rv with
 | val d=>exact k _ _ _ _ _ m1 s1 r1 d1
 | own ds=>
  obtain⟨G2,s2,r2,d2⟩:=r1.give d1 a1;exact k _ _ _ _ _ m1 (s1.trans s2) r2 d2
 | box B=>
  obtain⟨hv,m1⟩:=m1;obtain⟨d,hd⟩:=Ed.mp hv;obtain⟨G2,s2,r2,d2⟩:=r1.giveB d1 a1 hd;have m1:Qm (B.view.getD .none) Γ1:=m1;rw[hd] at m1;exact k _ _ _ _ _ m1 (s1.trans s2) r2 d2
theorem aL (h:VT P0 ta ma):VO P0 ta (gK ma):=by
 intro F Γ σ G H Q Qm r m k;exact h F Γ σ G H _ _ r m fun d Γ1 x G1 H1 m1 s1 r1 d1=>k _ _ _ _ _ m1 s1 r1 d1 trivial
theorem R.apart {F:Fra P0}{Γ:En}{σ:St}{G H:Hp}(r:R F Γ σ G H){i j:Nat}{s t:Sl}{fp fq:List AA}(hij:i≠j)(ei:Γ[i]?=some s)(ej:Γ[j]?=some t)(hi:SlF F G H σ[i]? fp s)(hj:SlF F G H σ[j]? fq t):∀ b∈fp,b∉fq:=by
 obtain⟨fps,h1,h2⟩:=r.fps;rw[hi.det (h1 i s ei),hj.det (h1 j t ej)];exact h2 i j s t ei ej hij
theorem bC (ha:VT P0 ta ma)(hb:VT P0 tb mb):VT P0 (tOp (rIx K) ta tb) (mIx ma mb):=by
 refine a7F (m2:=fun x y Q=>oQ (ixD x y) Q) ha hb fun F Γ σ G H x y d e Q Qm r d1 d2 m k=>?_;obtain⟨u,hu,q⟩:=a0O m;unfold ixD at hu
 split at hu
 ·rename_i ds i
  cases d2
  cases d1 with
  | @tup p xs _ hp rs=>
   obtain⟨j,h1,h2⟩:∃ j,ixN ds.length i=some j∧ds[j]?=some u:=by
    unfold atI at hu
    cases e:ixN ds.length i with
    | none=>rw[e] at hu; cases hu
    | some j=>rw[e] at hu; exact⟨j,rfl,hu⟩
   obtain⟨v,hv,dv⟩:=Dts.get rs h2;refine .inr (.inl ⟨p,xs,i,v,rfl,rfl,SqT.of (r.fr.sub _ _ hp),?_,k _ _ _ _ q (Same.refl _) r dv⟩);unfold atI;rw[rs.len,h1];exact hv
 ·rename_i ds i
  cases d2
  cases d1 with
  | @lst p xs _ hp rs=>
   obtain⟨j,h1,h2⟩:∃ j,ixN ds.length i=some j∧ds[j]?=some u:=by
    unfold atI at hu
    cases e:ixN ds.length i with
    | none=>rw[e] at hu; cases hu
    | some j=>rw[e] at hu; exact⟨j,rfl,hu⟩
   obtain⟨v,hv,dv⟩:=Dts.get rs h2;refine .inl ⟨p,xs,i,v,rfl,rfl,SqL.of (r.fr.sub _ _ hp),?_,k _ _ _ _ q (Same.refl _) r dv⟩;unfold atI;rw[rs.len,h1];exact hv
 ·cases hu
theorem a09 {rr:List V→Hp→VK→Prop}{m1:D→(D→Prop)→Prop}(ha:VT P0 ta ma)
  (h:∀(F:Fra P0) (Γ:En) (σ:St) (G H:Hp) (x:V) (d:D) (Q:VK) (Qm:D→Prop),R F Γ σ G H→Dt G x d→m1 d Qm→(∀ u r G' H',Qm u→Same G G'→R F Γ σ G' H'→Dt G' r u→Q r H')→rr [x] H Q) :
  VT P0 (tCB rr (jX ta tM)) (fun Γ Q=>ma Γ fun x Γ1=>m1 x fun d=>Q d Γ1):=by
 intro F Γ σ G H Q Qm r m k;refine ha F Γ σ G H _ _ r m fun d Γ1 x G1 H1 m1 s1 r1 d1=>?_;exact h F Γ1 σ G1 H1 x d _ _ r1 d1 m1 fun u w G3 H3 q s3 r3 d3=>k _ _ _ _ _ q (s1.trans s3) r3 d3
theorem cT (ha:VT P0 ta ma):VT P0 (tCB (fun xs H Q=>∃ p ys,xs=[.ref p]∧(SqL K H p ys∨SqT K H p ys)∧Q (.int ys.length) H) (jX ta tM)) (a5A ma):=by
 refine a09 (m1:=fun x Q=>oQ (a7E x) Q) ha fun F Γ σ G H x d Q Qm r d1 m k=>?_;obtain⟨u,hu,q⟩:=a0O m;unfold a7E at hu
 split at hu
 ·cases hu
  cases d1 with
  | @tup p xs _ hp rs=>exact⟨p,xs,rfl,.inr (SqT.of (r.fr.sub _ _ hp)),by rw[rs.len]; exact k _ _ _ _ q (Same.refl _) r (.int _)⟩
 ·cases hu
  cases d1 with
  | @lst p xs _ hp rs=>exact⟨p,xs,rfl,.inl (SqL.of (r.fr.sub _ _ hp)),by rw[rs.len]; exact k _ _ _ _ q (Same.refl _) r (.int _)⟩
 ·cases hu
def aBM (ma:ME):ME:=fun Γ Q=>ma Γ fun x Γ1=>match x with
 | .int i=>Q (.int (if i<0 then -i else i)) Γ1
 | _=>False
theorem a9A (ha:VT P0 ta ma):VT P0 (tCB (fun xs H Q=>∃ i,xs=[.int i]∧Q (.int (if i<0 then -i else i)) H) (jX ta tM)) (aBM ma):=by
 refine a09 (m1:=fun x Q=>match x with|.int i=>Q (.int (if i<0 then -i else i))|_=>False) ha fun F Γ σ G H x d Q Qm r d1 m k=>?_
 split at m
 ·cases d1
  exact⟨_,rfl,k _ _ _ _ m (Same.refl _) r (.int _)⟩
 ·exact m.elim
def a6Y (ma:ME):ME:=fun Γ Q=>ma Γ fun x Γ1=>match x with
 | .int i=>Q (.int i) Γ1
 | .bool b=>Q (.int (if b then 1 else 0)) Γ1
 | _=>False
theorem a6R (ha:VT P0 ta ma):VT P0 (tCB (fun xs H Q=>(∃ i,xs=[.int i]∧Q (.int i) H)∨∃ k,xs=[.bl k]∧Q (.int (if k then 1 else 0)) H) (jX ta tM)) (a6Y ma):=by
 refine a09 (m1:=fun x Q=>match x with|.int i=>Q (.int i)|.bool b=>Q (.int (if b then 1 else 0))|_=>False) ha fun F Γ σ G H x d Q Qm r d1 m k=>?_
 split at m
 ·cases d1
  exact .inl ⟨_,rfl,k _ _ _ _ m (Same.refl _) r (.int _)⟩
 ·cases d1
  exact .inr ⟨_,rfl,k _ _ _ _ m (Same.refl _) r (.int _)⟩
 ·exact m.elim
theorem qN:VP P0 zN pNo:=fun _ _ _ _ _ _ _ r m k=>k _ _ _ _ m (Same.refl _) r
theorem qT (ha:VT P0 ta ma):VP P0 (a9M ta) (pSo ma):=by
 intro F Γ σ G H Q Qm r m k;refine ha F Γ σ G H _ _ r m fun d Γ1 x G1 H1 m1 s1 r1 d1=>?_
 split at m1
 ·cases d1
  exact⟨_,rfl,k _ _ _ _ m1 s1 r1⟩
 ·exact m1.elim
theorem _root_.L2.Dts.cut {G:Hp}{vs:List V}{ds:List D}(h:Dts G vs ds)(lo hi:Option Int):Dts G (a6M vs lo hi) (cutD ds lo hi):=by
 unfold a6M cutD;rw[h.len];exact Dts.tak _ (Dts.drp _ h)
theorem f9 (ha:VT P0 ta ma)(hb:VT P0 tb mb):VO P0 (tOp aCC ta tb) (a9P ma mb):=by
 intro F Γ σ G H Q Qm r m k;refine ha F Γ σ G H _ _ r m fun d Γ1 x G1 H1 m1 s1 r1 d1=>?_;refine hb F Γ1 σ G1 H1 _ _ r1 m1 fun e Γ2 y G2 H2 m2 s2 r2 d2=>?_;have d1:=Dt.same s2 _ _ d1
 split at m2
 ·cases d1 with
  | @lst p xs _ hp rs=>
   cases d2 with
   | @lst q ys _ hq ss=>
    refine⟨p,q,xs,ys,rfl,rfl,r2.fr.sub _ _ hp,r2.fr.sub _ _ hq,oH (by rw[rs.len,ss.len]; exact m2.1),fun l hl=>?_⟩;obtain⟨a,b,c⟩:=sO r2 hl (rs.app ss);exact k _ _ _ _ _ m2.2 (s1.trans s2) a b c
 ·exact m2.elim
def spM (P0:AA→Hp→Prop)(n:Nat)(f:Fm):Sp:=fun vs H Q _=>∃(F:Fra P0) (as:List Sl) (Qm:Rv→Prop),F.H0=H∧Rf F F.G0 H∧AX (oF F F.G0) vs as∧as.length=n∧f as Qm ∧
 ∀ rv r G' H',Qm rv→Rf F G' H'→RvO F G' H' r rv→Q r H'
def Fra.sub (F:Fra P0){G H:Hp}(r:Rf F G H):Fra P0 where
 H0:=H
 G0:=G
 pen:=F.pen
 stab:=fun p e H1 H2 h=>F.stab p e H1 H2 fun b o e=>let ⟨o',e'⟩:=r.dom e; h b o' e'
 pin:=F.pin
 pin0:=fun p e=>F.pin p e H (r.pn p e)
 pg:=fun p e=>by
  obtain⟨o,e0⟩:=F.pin0 p e;rw[r.g0 p o e0];exact F.pg p e
theorem Fra.subRf (F:Fra P0){G H:Hp}(r:Rf F G H):Rf (F.sub r) G H:=⟨r.sub,fun _ _ _=>rfl,fun _ _ e _=>e,r.pn⟩
theorem Rf.back {F:Fra P0}{G H G' H':Hp}(r:Rf F G H)(h:Rf (F.sub r) G' H'):Rf F G' H'∧Same G G':=by
 refine⟨⟨h.sub,fun b o e=>?_,fun b o e hb=>?_,h.pn⟩,fun b o e=>?_⟩
 ·obtain⟨o',e'⟩:=r.dom e;exact(h.g0 b o' e').trans (r.g0 b o e)
 ·exact h.h0 b o (r.h0 b o e hb) hb
 ·exact(h.g0 b o (r.sub b o e)).trans e
theorem Fra.pen_ne (F:Fra P0){p:AA}(h:F.H0 p=none):F.pen≠some p:=fun e=>by
 obtain⟨o,e0⟩:=F.pin0 p e;rw[h] at e0; cases e0
theorem R.after {F:Fra P0}{Γ:En}{σ:St}{G H G' H':Hp}(r:R F Γ σ G H)(h:Rf (F.sub r.fr) G' H'):R F Γ σ G' H'∧Same G G':=by
 obtain⟨a,b⟩:=r.fr.back h;refine⟨r.keep a b fun p u _ e1 e2 e3=>⟨(h.g0 p _ e3).trans e2,h.h0 p _ e3 (F.pen_ne e1)⟩,b⟩
theorem bD {n:Nat}{f:Fm}{t:TA}{m:MA}{E:XK}(h:VA P0 t m):VO P0 (a0T (spM P0 n f) [] E t) (jB n f m):=by
 intro F Γ σ G H Q Qm r hm k;refine h F Γ σ G H _ _ r hm fun as Γ1 rs G1 H1 m1 s1 r1 d1=>?_;refine⟨F.sub r1.fr,as,fun rv=>Qm rv Γ1,rfl,F.subRf r1.fr,?_,m1.1,m1.2,fun rv v G2 H2 q f2 v2=>?_⟩
 ·rw[Cd];exact AX.imp' (fun a s h=>by cases s<;>exact h) d1
 ·obtain⟨r2,s2⟩:=r1.after f2;refine k _ _ _ _ _ q (s1.trans s2) r2 ?_ ?_
  ·cases rv with
   | val d=>exact v2
   | own ds=>
    obtain⟨p,vs,e,e1,e2,e3,e4⟩:=v2;exact⟨p,vs,e,r1.fr.fresh e1,e2,e3,e4⟩
   | box B=>
    obtain⟨fp,e1,e2⟩:=v2;exact⟨fp,e1,fun b hb=>⟨r1.fr.fresh (e2 b hb).1,(e2 b hb).2⟩⟩
  ·have kp:∀ b o,F.H0 b=none→G1 b=none→H1 b=some o→G2 b=none∧H2 b=some o:=fun b o h1 h2 h3=>⟨(f2.g0 b _ h3).trans h2,f2.h0 b _ h3 (F.pen_ne h1)⟩
   cases rv with
   | val d=>trivial
   | own ds=>
    obtain⟨p,vs,rfl,e1,e2,e3,e4⟩:=v2;exact Apart.new r1 e1 s2 kp
   | box B=>
    obtain⟨fp,e1,e2⟩:=v2;exact Apart.newB r1 (fun f hf b hb=>by rw[B.uniq hf e1] at hb; exact(e2 b hb).1) s2 kp
end
end
section
variable {P0:AA→Hp→Prop}{A:Nat→Bool}
def gN (i:Nat):MG:=fun d Γ Q=>Q (Γ.set i (.val d))
def gT (n:Nat)(gs:MGs):MG:=fun d Γ Q=>match d with
 | .tuple ds=>ds.length=n∧gs ds Γ Q
 | _=>False
theorem sW {i:Nat}{v:Option V}{σ:St}(hA:A i=true):∀ j,A j=false→(σ.set i v)[j]?=σ[j]?:=fun j hj=>BS (fun z=>by rw[z,hj] at hA; cases hA)
theorem fV {i:Nat}(hA:A i=true:=by rfl):VG P0 A (a07 i) (gN i):=fun _ _ _ _ _ _ _ _ _ r h m k=>k _ _ m (r.setV h) (sW hA)
def Walk (P0:AA→Hp→Prop)(J:It)(G0:Hp)(ds:List D):Prop:=∀(F:Fra P0) (Γ:En) (σ:St) (G H:Hp),Same G0 G→R F Γ σ G H →
 (∀ i d,ds[i]?=some d→J.go i H∧∀ x H',J.yld i H x H'→∃ G',Same G G'∧R F Γ σ G' H'∧Dt G' x d)∧J.stop ds.length H
def VI (P0:AA→Hp→Prop)(wi:TI)(m:MD):Prop:=∀(F:Fra P0) (Γ:En) (σ:St) (G H:Hp) (Q:It→Hp→Prop) (Qm:List D→En→Prop),R F Γ σ G H→m Γ Qm →
 (∀ ds Γ' J G' H',Qm ds Γ'→Same G G'→R F Γ' σ G' H'→Walk P0 J G' ds→Q J H')→wi σ H Q
def aA3 (ma:ME):MD:=fun Γ Q=>ma Γ fun x Γ1=>match x with
 | .list ds=>Q ds Γ1
 | _=>False
def a9U (ma:ME):MD:=fun Γ Q=>ma Γ fun x Γ1=>match x with
 | .tuple ds=>Q ds Γ1
 | _=>False
def m5 (lo:Int)(n:Nat):List D:=(BY n).map fun(k:Nat)=>Bo (lo+k)
def a5R (md:MD):MD:=fun Γ Q=>md Γ fun ds Γ1=>match ds with
 | [.int j] => -(2^62)≤j∧j<2^62∧Q (m5 0 j.toNat) Γ1
 | _=>False
theorem a65 {K:Fg}{ta:TE}{ma:ME}(ha:VT P0 ta ma):VI P0 (a8R K ta) (aA3 ma):=by
 intro F Γ σ G H Q Qm r m k;refine ha F Γ σ G H _ _ r m fun d Γ1 x G1 H1 m1 s1 r1 d1=>?_
 split at m1
 ·cases d1 with
  | @lst p xs ds hp rs=>
   refine⟨p,rfl,⟨xs,SqL.of (r1.fr.sub _ _ hp)⟩,k _ _ _ _ _ m1 s1 r1 fun F2 Γ2 σ2 G2 H2 s2 r2=>⟨fun i d e=>?_,?_⟩⟩
   ·have hq:H2 p=some (.lst xs):=r2.fr.sub _ _ (s2 _ _ hp);obtain⟨v,ev,dv⟩:=Dts.get rs e;refine⟨⟨xs,v,SqL.of hq,ev⟩,fun y H3 hy=>⟨G2,Same.refl _,?_⟩⟩;obtain⟨rfl,hy⟩:=hy;have:=hy xs (SqL.of hq);rw[ev] at this
    cases this
    exact⟨r2,Dt.same s2 _ _ dv⟩
   ·exact⟨xs,SqL.of (r2.fr.sub _ _ (s2 _ _ hp)),by rw[rs.len]; exact AT _⟩
 ·exact m1.elim
theorem jQ {K:Fg}{ta:TE}{ma:ME}(ha:VT P0 ta ma):VI P0 (aCE K ta) (a9U ma):=by
 intro F Γ σ G H Q Qm r m k;refine ha F Γ σ G H _ _ r m fun d Γ1 x G1 H1 m1 s1 r1 d1=>?_
 split at m1
 ·cases d1 with
  | @tup p xs ds hp rs=>
   refine⟨p,rfl,⟨xs,SqT.of (r1.fr.sub _ _ hp)⟩,k _ _ _ _ _ m1 s1 r1 fun F2 Γ2 σ2 G2 H2 s2 r2=>⟨fun i d e=>?_,?_⟩⟩
   ·have hq:H2 p=some (.tup xs):=r2.fr.sub _ _ (s2 _ _ hp);obtain⟨v,ev,dv⟩:=Dts.get rs e;refine⟨⟨xs,v,SqT.of hq,ev⟩,fun y H3 hy=>⟨G2,Same.refl _,?_⟩⟩;obtain⟨rfl,hy⟩:=hy;have:=hy xs (SqT.of hq);rw[ev] at this
    cases this
    exact⟨r2,Dt.same s2 _ _ dv⟩
   ·exact⟨xs,SqT.of (r2.fr.sub _ _ (s2 _ _ hp)),by rw[rs.len]; exact AT _⟩
 ·exact m1.elim
theorem z9 {G:Hp}(lo:Int)(n:Nat):Walk P0 (Itr lo n) G (m5 lo n):=by
 intro F Γ σ G2 H2 _ r;have hl:(m5 lo n).length=n:=by simp[m5]
 refine⟨fun i d e=>?_,by rw[hl]; exact AT _⟩;have hi:i<n:=by have:=(A4.mp e).1; omega
 refine⟨hi,fun x H' hy=>?_⟩;obtain⟨rfl,rfl⟩:=hy;refine⟨G2,Same.refl _,r,?_⟩;unfold m5 at e;rw[BD,Ep hi] at e
 cases e
 exact .int _
theorem a6B {t:TA}{md:MD}(h:VD P0 t md):VI P0 (a7Y t) (a5R md):=by
 intro F Γ σ G H Q Qm r m k;refine h F Γ σ G H _ _ r m fun ds Γ1 xs G1 H1 m1 s1 r1 d1=>?_
 split at m1
 ·rename_i j
  cases d1 with
  | cons a b=>
   cases a; cases b
   exact⟨j,rfl,m1.1,m1.2.1,k _ _ _ _ _ m1.2.2 s1 r1 (z9 _ _)⟩
 ·exact m1.elim
def mNx:MS:=fun Γ Q=>Q (.nx Γ)
def gW (a b:MS):MS:=fun Γ Q=>a Γ fun fl=>match fl with
 | .nx Γ1=>b Γ1 Q
 | fl=>Q fl
def a3S (m:ME):MS:=fun Γ Q=>m Γ fun _ Γ1=>Q (.nx Γ1)
def o4 (i:Nat)(m:MO):MS:=fun Γ Q=>m Γ fun rv Γ1=>Q (.nx (Γ1.set i rv.sl))
def aAO (i j:Nat)(m:MD):MS:=fun Γ Q=>m Γ fun ds Γ1=>match ds with
 | [d,e]=>Q (.nx ((Γ1.set i (.val d)).set j (.val e)))
 | _=>False
def o9 (m:MO):MS:=fun Γ Q=>m Γ fun rv _=>Q (.rt rv)
def mIf (c:MT)(a b:MS):MS:=fun Γ Q=>c Γ fun k Γ1=>if k=true then a Γ1 Q else b Γ1 Q
def forL (g:MG)(b:MS):List D→En→(Fl→Prop)→Prop
 | [],Γ,Q=>Q (.nx Γ)
 | d::ds,Γ,Q=>g d Γ fun Γ1=>b Γ1 fun fl=>match fl with
  | .nx Γ2=>forL g b ds Γ2 Q
  | .ct Γ2=>forL g b ds Γ2 Q
  | .bk Γ2=>Q (.nx Γ2)
  | .rt rv=>Q (.rt rv)
def a7D (mi:MD)(g:MG)(b:MS):MS:=fun Γ Q=>mi Γ fun ds Γ1=>forL g b ds Γ1 Q
def wW (c:MT)(b:MS):MS:=fun Γ Q=>∃ W:Nat→En→Prop,(∃ n,W n Γ)∧∀ n Γ,W n Γ→c Γ fun k Γ1=>if k=true then b Γ1 fun fl=>match fl with
  | .nx Γ2=>∃ n',n'<n∧W n' Γ2
  | .ct Γ2=>∃ n',n'<n∧W n' Γ2
  | .bk Γ2=>Q (.nx Γ2)
  | .rt rv=>Q (.rt rv)
 else Q (.nx Γ1)
def pF (i:Nat)(m:ME):MS:=fun Γ Q=>match Γ[i]? with
 | some (.own _)=>m Γ fun d Γ1=>match Γ1[i]? with
  | some (.own ds)=>ds.length<1000∧Q (.nx (Γ1.set i (.own (ds++[d]))))
  | _=>False
 | _=>False
def a1S (i:Nat)(m:MS):MS:=fun Γ Q=>match Γ[i]? with
 | some (.own ds)=>m (Γ.set i (.val (.list ds))) Q
 | _=>m Γ Q
theorem bZ:VSA P0 A a8H mNx:=fun _ _ _ _ _ _ _ r m k=>k _ m _ _ _ (Same.refl _) r fun _ _=>rfl
theorem aQ {t u:TS}{a b:MS}(ha:VSA P0 A t a)(hb:VSA P0 A u b):VSA P0 A (aC0 t u) (gW a b):=by
 intro F Γ σ G H E Qm r m k;refine ha F Γ σ G H _ _ r m fun fl q=>?_
 cases fl with
 | nx Γ1=>exact fun σ1 G1 H1 s1 r1 e1=>hb F Γ1 σ1 G1 H1 E Qm r1 q fun fl q=>(k fl q).same s1 e1
 | rt rv=>exact k _ q
 | bk Γ1=>exact k _ q
 | ct Γ1=>exact k _ q
theorem zQ {t:TE}{m:ME}(h:VT P0 t m):VSA P0 A (a3C t) (a3S m):=by
 intro F Γ σ G H E Qm r hm k;exact h F Γ σ G H _ _ r hm fun d Γ1 x G1 H1 m1 s1 r1 d1=>k _ m1 _ _ _ s1 r1 fun _ _=>rfl
theorem bV {i:Nat}{t:TE}{m:MO}(h:VO P0 t m)(hA:A i=true:=by rfl):VSA P0 A (a9R t (a07 i)) (o4 i m):=by
 intro F Γ σ G H E Qm r hm k;exact h F Γ σ G H _ _ r hm fun rv Γ1 x G1 H1 m1 s1 r1 d1 a1=>k _ m1 _ _ _ s1 (r1.set d1 a1) (sW hA)
theorem a7K {i j:Nat}{t:TA}{m:MD}(h:VD P0 t m)(hA:A i=true:=by rfl)(hB:A j=true:=by rfl):VSA P0 A (aCF i j t) (aAO i j m):=by
 intro F Γ σ G H E Qm r hm k;refine h F Γ σ G H _ _ r hm fun ds Γ1 x G1 H1 m1 s1 r1 d1=>?_
 split at m1
 ·cases d1 with
  | cons a b=>
   cases b with
   | cons b c=>
    cases c
    exact⟨_,_,rfl,k _ m1 _ _ _ s1 ((r1.setV a).setV b) fun q hq=>(sW hB q hq).trans (sW hA q hq)⟩
 ·exact m1.elim
theorem bB {t:TE}{m:MO}(h:VO P0 t m):VSA P0 A (aAX t) (o9 m):=by
 intro F Γ σ G H E Qm r hm k;exact h F Γ σ G H _ _ r hm fun rv Γ1 x G1 H1 m1 s1 r1 d1 _=>k _ m1 _ _ _ s1 r1.fr d1
theorem bY {c:TT}{t u:TS}{mc:MT}{a b:MS}(hc:VTT P0 c mc)(ha:VSA P0 A t a)(hb:VSA P0 A u b):VSA P0 A (aC8 c t u) (mIf mc a b):=by
 intro F Γ σ G H E Qm r m k;refine hc F Γ σ G H _ _ r m fun k1 Γ1 G1 H1 m1 s1 r1=>?_
 cases k1 with
 | true=>exact vC (ha F Γ1 σ G1 H1 E Qm r1 m1 fun fl q=>(k fl q).same s1 fun _ _=>rfl)
 | false=>exact rF (hb F Γ1 σ G1 H1 E Qm r1 m1 fun fl q=>(k fl q).same s1 fun _ _=>rfl)
theorem wK {c:TT}{t:TS}{mc:MT}{b:MS}(hc:VTT P0 c mc)(hb:VSA P0 A t b):VSA P0 A (a5C c t) (wW mc b):=by
 intro F Γ σ G H E Qm r m k;obtain⟨W,⟨n0,w0⟩,turn⟩:=m;refine⟨fun n σ1 H1=>∃ Γ1 G1,Same G G1∧R F Γ1 σ1 G1 H1∧W n Γ1∧∀ i,A i=false→σ1[i]?=σ[i]?,⟨n0,Γ,G,Same.refl _,r,w0,fun _ _=>rfl⟩,?_⟩;rintro n σ1 H1 ⟨Γ1,G1,s1,r1,w1,e1⟩;refine hc F Γ1 σ1 G1 H1 _ _ r1 (turn n Γ1 w1) fun k2 Γ2 G2 H2 m2 s2 r2=>?_
 cases k2 with
 | true=>
  refine vC ⟨_,fun _ _ h=>h,?_⟩;refine hb F Γ2 σ1 G2 H2 _ _ r2 m2 fun fl q=>?_
  cases fl with
  | nx Γ3=>
   obtain⟨n',hn,w3⟩:=q;exact fun σ3 G3 H3 s3 r3 e3=>⟨n',hn,Γ3,G3,(s1.trans s2).trans s3,r3,w3,fun i hi=>(e3 i hi).trans (e1 i hi)⟩
  | ct Γ3=>
   obtain⟨n',hn,w3⟩:=q;exact fun σ3 G3 H3 s3 r3 e3=>⟨n',hn,Γ3,G3,(s1.trans s2).trans s3,r3,w3,fun i hi=>(e3 i hi).trans (e1 i hi)⟩
  | bk Γ3=>exact fun σ3 G3 H3 s3 r3 e3=>k _ q _ _ _ ((s1.trans s2).trans s3) r3 fun i hi=>(e3 i hi).trans (e1 i hi)
  | rt rv=>exact fun v G3 H3 s3 r3=>k _ q _ _ _ ((s1.trans s2).trans s3) r3
 | false=>exact rF (k _ m2 _ _ _ (s1.trans s2) r2 e1)
theorem iG {wi:TI}{g:TG}{t:TS}{mi:MD}{mg:MG}{b:MS}(hi:VI P0 wi mi)(hg:VG P0 A g mg)(hb:VSA P0 A t b):VSA P0 A (aCH wi g t) (a7D mi mg b):=by
 intro F Γ σ G H E Qm r m k;refine hi F Γ σ G H _ _ r m fun ds Γ1 J G1 H1 m1 s1 r1 wk=>?_;refine⟨fun i n σ2 H2=>n=ds.length-i∧i≤ds.length∧∃ Γ2 G2,Same G1 G2∧R F Γ2 σ2 G2 H2∧forL mg b (ds.drop i) Γ2 Qm∧∀ i,A i=false→σ2[i]?=σ[i]?,⟨ds.length,by simp,Ah _,Γ1,G1,Same.refl _,r1,m1,fun _ _=>rfl⟩,?_⟩;rintro i n σ2 H2 ⟨rfl,hle,Γ2,G2,s2,r2,m2,e2⟩;obtain⟨go,stop⟩:=wk F Γ2 σ2 G2 H2 s2 r2
 by_cases hlt:i<ds.length
 ·refine .inr ⟨(go i ds[i] (by simp[hlt])).1,fun σ' H'=>ds.length-(i+1)<ds.length-i∧i+1≤ds.length∧∃ Γ3 G3,Same G1 G3∧R F Γ3 σ' G3 H'∧forL mg b (ds.drop (i+1)) Γ3 Qm∧∀ i,A i=false→σ'[i]?=σ[i]?,fun σ' H' h=>⟨_,h.1,rfl,h.2⟩,fun x H' hy=>?_⟩;obtain⟨G3,s3,r3,d3⟩:=(go i ds[i] (by simp[hlt])).2 x H' hy;rw[Dp hlt] at m2;refine hg F Γ2 σ2 G3 H' x _ _ _ r3 d3 m2 fun Γ4 σ4 m4 r4 e4=>?_;refine hb F Γ4 σ4 G3 H' _ _ r4 m4 fun fl q=>?_
  cases fl with
  | nx Γ5=>exact fun σ5 G5 H5 s5 r5 e5=>⟨by omega,hlt,Γ5,G5,(s2.trans s3).trans s5,r5,q,fun i hi=>((e5 i hi).trans (e4 i hi)).trans (e2 i hi)⟩
  | ct Γ5=>exact fun σ5 G5 H5 s5 r5 e5=>⟨by omega,hlt,Γ5,G5,(s2.trans s3).trans s5,r5,q,fun i hi=>((e5 i hi).trans (e4 i hi)).trans (e2 i hi)⟩
  | bk Γ5=>exact fun σ5 G5 H5 s5 r5 e5=>k _ q _ _ _ ((s1.trans s2).trans (s3.trans s5)) r5 fun i hi=>((e5 i hi).trans (e4 i hi)).trans (e2 i hi)
  | rt rv=>exact fun v G5 H5 s5 r5=>k _ q _ _ _ ((s1.trans s2).trans (s3.trans s5)) r5
 ·have e:i=ds.length:=by omega
  subst e;rw[List.drop_length] at m2;exact .inl ⟨stop,k _ m2 _ _ _ (s1.trans s2) r2 e2⟩
theorem a1R {K:Fg}{i:Nat}{t:TE}{m:ME}(h:VT P0 t m):VSA P0 A (a3C (tBM K "list" a2H (yC i) (jX t tM))) (pF i m):=by
 intro F Γ σ G H E Qm r hm k;unfold pF at hm
 split at hm
 ·rename_i ds0 e0
  obtain⟨p,vs,e1,e2,e3,e4,e5⟩:=r.sl i _ e0;refine⟨_,e1,.inl ⟨rfl,_,SqL.of e4⟩,?_⟩;refine h F Γ σ G H _ _ r hm fun d Γ1 x G1 H1 m1 s1 r1 d1=>?_
  split at m1
  ·rename_i ds e
   obtain⟨p',ws,f1,f2,f3,f4,f5⟩:=r1.sl i _ e;rw[e1] at f1; cases f1;refine⟨p,ws,x,rfl,rfl,f4,nA (by rw[f5.len]; exact CP m1.1),?_⟩;exact k _ m1.2 _ _ _ s1 (r1.write e e1 (f5.app (.cons d1 .nil))) fun _ _=>rfl
  ·exact m1.elim
 ·exact hm.elim
theorem R.pub1 {F:Fra P0}{Γ:En}{σ:St}{G H:Hp}(r:R F Γ σ G H){i:Nat}{ds:List D}(e:Γ[i]?=some (.own ds)):∃ G',Same G G'∧R F (Γ.set i (.val (.list ds))) σ G' H:=by
 obtain⟨p,vs,e1,e2,e3,e4,e5⟩:=r.sl i _ e;have hap:Apart F (Γ.set i .no) σ G H (.ref p) (.own ds):=fun j s fp ej hj q eq hq=>by
  cases eq
  by_cases hji:i=j
  ·subst hji;have hi:i<Γ.length:=(A4.mp e).1;rw[BJ hi] at ej
   cases ej
   rw[show fp=[] from hj] at hq; cases hq
  ·rw[BS hji] at ej;exact r.apart hji e ej (fp:=[p]) ⟨p,vs,rfl,e1,e2,e3,e4,e5⟩ hj p (Ac.mpr rfl) hq
 obtain⟨G',s,r',d'⟩:=(r.drop i).give (ds:=ds) ⟨p,vs,rfl,e2,e3,e4,e5⟩ hap;refine⟨G',s,?_⟩;have q:=r'.setV (i:=i) d';rw[List.set_set] at q;have hs:σ.set i (some (.ref p))=σ:=by
  apply List.ext_getElem?;intro j
  by_cases hj:i=j
  ·subst hj;have hi:i<σ.length:=(A4.mp e1).1;rw[BJ hi,e1]
  ·rw[BS hj]
 rw[hs] at q;exact q
theorem a7G {i:Nat}{t:TS}{m:MS}(h:VSA P0 A t m):VSA P0 A t (a1S i m):=by
 intro F Γ σ G H E Qm r hm k;unfold a1S at hm
 split at hm
 ·rename_i ds e
  obtain⟨G',s,r'⟩:=r.pub1 e;exact h F _ σ G' H E Qm r' hm fun fl q=>(k fl q).same s fun _ _=>rfl
 ·exact h F Γ σ G H E Qm r hm k
def mFn (n:Nat)(b:MS):Fm:=fun as Q=>b (as++At n .no) fun fl=>match fl with
 | .rt rv=>Q rv
 | .nx _=>Q (.val .none)
 | _=>False
theorem a2Y {n k:Nat}{N:List Str}{t:TS}{b:MS}(h:VS P0 t b)(hN:N.length=n+k){vs:List V}{H:Hp}{Q:VK}{E:XK}(hs:spM P0 n (mFn k b) vs H Q E) :
  t { nx:=fun _ H'=>Q .non H',rt:=Q } (start N vs) H:=by
 obtain⟨F,as,Qm,rfl,rf,pr,hl,hm,q⟩:=hs;have hlen:vs.length=as.length:=AX.length pr;have get:∀{vs:List V} {as:List Sl} {i:Nat} {s:Sl},AX (oF F F.G0) vs as→as[i]?=some s→∃ v,vs[i]?=some v∧oF F F.G0 v s:=by
  intro vs as i s pr
  induction pr generalizing i with
  | nil=>intro e; simp at e
  | cons a b ih=>
   cases i with
   | zero=>intro e; simp at e; subst e; exact⟨_,rfl,a⟩
   | succ i=>intro e; simpa using ih (i:=i) (by simpa using e)
 have at_:∀{i:Nat} {s:Sl},(as++At k Sl.no)[i]?=some s→s≠.no→∃ v,(start N vs)[i]?=some (some v)∧oF F F.G0 v s:=by
  intro i s e hne
  by_cases hi:i<as.length
  ·rw[CI hi] at e;obtain⟨v,ev,av⟩:=get pr e;refine⟨v,?_,av⟩;unfold start;rw[CI (by rw[A3]; omega),BD,ev];rfl
  ·rw[Cf (by omega),Ct] at e
   split at e
   ·cases e; exact absurd rfl hne
   ·cases e
 have r:R F (as++At k .no) (start N vs) F.G0 F.H0:=by
  refine R.of rf ?_ (fun i s e=>?_) (fun i B e=>?_) (fun i j x y _ e _=>?_)
  ·unfold start;simp only[A6,D9,A3];omega
  ·cases s with
   | no=>trivial
   | val d=>
    obtain⟨v,ev,av⟩:=at_ e (by intro z; cases z)
    exact⟨v,ev,av⟩
   | own ds=>
    obtain⟨v,ev,av⟩:=at_ e (by intro z; cases z)
    exact av.elim
   | pen=>
    obtain⟨v,ev,p,rfl,ep⟩:=at_ e (by intro z; cases z)
    exact⟨p,ev,ep⟩
   | con q=>
    obtain⟨v,ev,av⟩:=at_ e (by intro z; cases z)
    have av:v=.ref q:=av;rw[av] at ev;exact ev
   | pub B=>
    obtain⟨v,ev,av⟩:=at_ e (by intro z; cases z)
    exact⟨v,ev,av⟩
   | box B=>
    obtain⟨v,ev,av⟩:=at_ e (by intro z; cases z)
    exact av.elim
  ·obtain⟨v,ev,av⟩:=at_ e (by intro z; cases z)
   exact av.elim
  ·obtain⟨v,ev,av⟩:=at_ e (by intro z; cases z)
   exact av.elim
 refine h F _ _ _ _ _ _ r hm fun fl hq=>?_
 cases fl with
 | nx Γ=>exact fun σ G' H' _ r' _=>q _ _ _ _ hq r'.fr .non
 | rt rv=>exact fun v G' H' _ f' v'=>q _ _ _ _ hq f' v'
 | bk Γ=>exact hq.elim
 | ct Γ=>exact hq.elim
theorem a6V {n:Nat}{f:Fm}{ps:List Str}(h:ps.length=n):∀ vs H Q E,spM P0 n f vs H Q E→vs.length=ps.length:=by
 rintro vs H Q E ⟨F,as,Qm,_,_,pr,hl,_⟩;rw[AX.length pr,hl,h]
theorem _root_.L2.Fun.okV {P:AQ}{w:AL}{K:Fg}{mg:Mg}{base:AH}{x qual:Str}{st:AS}{f:AA}{fd:Ag}{N ps:List Str}{k n j:Nat}{b:MS}
  (F:Fun K x qual st f fd) (S:FnScope N ps (bK st)) (hn:ps.length=n) (hN:N.length=n+j)
  (hbody:∀(cdv:AB) (A:AR) (outer:List Env) (s:AC) (H:Hp) (E:XK),Room k (A.deeper (Ba qual (bK st) s.heap.objs.size f cdv)) →
   SsX P0 (a4L CX0 P w K mg base N qual (bK st) f cdv A outer s H E).nox (gP st) b):FnOk P w K mg base CX0 (k+1) f fd ps (spM P0 n (mFn j b)):=by
 refine F.ok S (a6V hn) fun cdv A outer s H vs Q E hr hs=>?_;obtain⟨t,h1,h2⟩:=hbody cdv A outer s H E hr;exact⟨t,h1,a2Y h2 hN hs⟩
end
section
variable {P0:AA→Hp→Prop}
def mR:D→String
 | .none => "NoneType"
 | .bool _ => "bool"
 | .int _ => "int"
 | .str _ => "str"
 | .list _ => "list"
 | .tuple _ => "tuple"
 | .dict _ => "dict"
def a4Y (a b:String):Bool:=a==b||(a == "bool" && b == "int")
def tyL:List String:=["NoneType", "bool", "int", "str", "list", "tuple", "dict"]
def Kit (K:Fg):Prop:=∀ a∈tyL,∀ b∈tyL,AV K (.type a) (.type b)=some (a4Y a b)
theorem Kit.mk' {K:Fg}(h:∀ a∈tyL,∀ b∈tyL,(a==b)=false→AV K (.type a) (.type b)=some (a == "bool" && b == "int")):Kit K:=by
 intro a ha b hb
 by_cases e:a=b
 ·subst e;rw[a2O];simp[a4Y]
 ·have e':(a==b)=false:=by simpa using e
  rw[h a ha b hb e'];simp[a4Y,e']
theorem a6P {K:Fg}{H:Hp}{x:V}{d:D}(h:Dt H x d):TyOf K H x (.type (mR d))∧mR d∈tyL:=by
 cases h with
 | non=>exact⟨.non,by simp[mR,tyL]⟩
 | bl b=>exact⟨.bl b,by simp[mR,tyL]⟩
 | int i=>exact⟨.int i,by simp[mR,tyL]⟩
 | str x=>exact⟨.str x,by simp[mR,tyL]⟩
 | tup hp _=>exact⟨.tup hp,by simp[mR,tyL]⟩
 | lst hp _=>exact⟨.lst hp,by simp[mR,tyL]⟩
 | dic hp _=>exact⟨hp.elim .dK fun⟨_,q⟩=>.fdK q,by simp[mR,tyL]⟩
def a90 (n:String)(ma:ME):ME:=fun Γ Q=>ma Γ fun x Γ1=>Q (.bool (a4Y (mR x) n)) Γ1
theorem j6 {K:Fg}{n:String}{ta:TE}{ma:ME}(hk:Kit K)(hn:n∈tyL)(ha:VT P0 ta ma):VT P0 (tCB (aCJ K) (jX ta (jX (tC (.ty n)) tM))) (a90 n ma):=by
 intro F Γ σ G H Q Qm r m k;refine ha F Γ σ G H _ _ r m fun d Γ1 x G1 H1 m1 s1 r1 d1=>?_;obtain⟨h1,h2⟩:=a6P (K:=K) (Dt.same r1.fr.sub _ _ d1);exact⟨x,.ty n,.type n,_,_,rfl,rfl,h1,hk _ h2 _ hn,k _ _ _ _ _ m1 s1 r1 (.bl _)⟩
section
variable {X:Cx}
structure Goods (ds:List D):Prop where
 lay:EJ ds=true
 dep:EK ds≤59
theorem aBP {u a b:Nat}(h:u+64<A5)(ha:a≤59):u+1+min a b<A5:=by
 have:min a b≤a:=Nat.min_le_left _ _;omega
end
def uW (H H':Hp):Prop:=∀ b xs,H b=some (.tup xs)→H' b=some (.tup xs)∨∃ q vs,V.ref q∈xs∧H q=some (.lst vs)
theorem no_ref {H:Hp}{q:AA}{vs:List V}(hq:H q=some (.lst vs)):∀(ds:List D) (xs:List V),jP ds=true→Dts H xs ds→V.ref q∉xs
 | [],xs,_,e,h=>by cases e; cases h
 | d::ds,xs,z,e,h=>by
  have z':iU d=true∧jP ds=true:=by simpa [jP] using z
  cases e with
  | cons e1 e2=>
   rcases Aq.mp h with e|e
   ·subst e
    cases e1 with
    | tup hp _=>rw[hq] at hp; cases hp
    | lst hp _=>exact absurd z'.1 (by simp[iU])
    | dic hp _=>exact absurd z'.1 (by simp[iU])
   ·exact no_ref hq ds _ z'.2 e2 e
mutual
theorem Dt.sameU {H H':Hp}(g:uW H H'):∀(d:AM) (x:V),iU d=true→Dt H x d→Dt H' x d
 | .none,_,_,e=>by cases e; exact .non
 | .bool _,_,_,e=>by cases e; exact .bl _
 | .int _,_,_,e=>by cases e; exact .int _
 | .str _,_,_,e=>by cases e; exact .str _
 | .list _,_,z,_=>absurd z (by simp[iU])
 | .tuple ds,_,z,e=>by
  have z':jP ds=true:=by simpa [iU] using z
  cases e with
  | tup hp rs=>
   rcases g _ _ hp with h|⟨q,vs,h1,h2⟩
   ·exact .tup h (Dts.sameU g ds _ z' rs)
   ·exact absurd h1 (no_ref h2 ds _ z' rs)
 | .dict _,_,z,_=>absurd z (by simp[iU])
theorem Dts.sameU {H H':Hp}(g:uW H H'):∀(ds:List AM) (xs:List V),jP ds=true→Dts H xs ds→Dts H' xs ds
 | [],_,_,e=>by cases e; exact .nil
 | d::ds,_,z,e=>by
  have z':iU d=true∧jP ds=true:=by simpa [jP] using z
  cases e with
  | cons e1 e2=>exact .cons (Dt.sameU g d _ z'.1 e1) (Dts.sameU g ds _ z'.2 e2)
end
def v7:En→En:=List.map fun s=>match s with
 | .own ds=>.val (.list ds)
 | .box B=>match B.view with
  | some d=>.val d
  | none=>match B.pv with
   | some b=>.pub b
   | none=>.no
 | s=>s
def a4D (m:ME):ME:=fun Γ Q=>m (v7 Γ) fun d Γ1=>iU d=true∧Γ1=v7 Γ∧Q d Γ
def wM (m:MT):MT:=fun Γ Q=>m (v7 Γ) fun b Γ1=>Γ1=v7 Γ∧Q b Γ
def OwnA (F:Fra P0)(Γ:En)(σ:St)(G H:Hp)(b:AA):Prop:=∃(i:Nat) (s:Sl) (fp:List AA),Γ[i]?=some s∧SlF F G H σ[i]? fp s∧b∈fp
section
variable {F:Fra P0}{Γ:En}{σ:St}{G H:Hp}
open Classical in
noncomputable def yW (F:Fra P0)(Γ:En)(σ:St)(G H:Hp):Hp:=fun b=>if OwnA F Γ σ G H b then H b else G b
noncomputable def nZ (F:Fra P0)(Γ:En)(σ:St)(G H:Hp)(G1:Hp):Hp:=fun b=>open Classical in if OwnA F Γ σ G H b then none else G1 b
theorem OwnA.at {b:AA}(h:OwnA F Γ σ G H b):F.H0 b=none∧G b=none∧∃ o,H b=some o:=by
 obtain⟨i,s,fp,_,e,hb⟩:=h;exact e.mine hb
theorem OwnA.tup {b:AA}(h:OwnA F Γ σ G H b){xs:List V}(e:H b=some (.tup xs)):∃ q vs,V.ref q∈xs∧OwnA F Γ σ G H q∧H q=some (.lst vs):=by
 obtain⟨i,s,fp,e0,e1,hb⟩:=h
 cases s with
 | no=>rw[show fp=[] from e1] at hb; cases hb
 | val d=>rw[e1.1] at hb; cases hb
 | pen=>rw[e1.1] at hb; cases hb
 | con q=>rw[e1.1] at hb; cases hb
 | pub B=>rw[e1.1] at hb; cases hb
 | own ds=>
  obtain⟨p,vs,f0,_,_,_,f3,_⟩:=e1;rw[f0] at hb;rw[Ac.mp hb,f3] at e
  cases e
 | box B=>
  have e1':=e1;obtain⟨v,_,h2,_⟩:=e1;obtain⟨q,q1,q2,vs,q3⟩:=B.nt h2 b hb xs e;exact⟨q,vs,q2,⟨i,_,fp,e0,e1',q1⟩,q3⟩
theorem R.pubAll (r:R F Γ σ G H):Same G (yW F Γ σ G H)∧R F (v7 Γ) σ (yW F Γ σ G H) H:=by
 have g:Same G (yW F Γ σ G H):=fun b o e=>by
  unfold yW
  by_cases h:OwnA F Γ σ G H b
  ·have:=h.at.2.1;rw[e] at this; cases this
  ·rw[if_neg h]; exact e
 have nob:∀(i:Nat) s,(v7 Γ)[i]?=some s→(∀ x,s≠.own x)∧∀ B,s≠.box B:=by
  intro i s e;unfold v7 at e;rw[BD] at e
  cases e0:Γ[i]? with
  | none=>rw[e0] at e; cases e
  | some s0=>
   rw[e0] at e
   cases s0 with
   | box B=>
    have e:(match B.view with|some d=>Sl.val d|none=>match B.pv with|some b=>Sl.pub b|none=>Sl.no)=s:=A1.inj e
    cases hv:B.view with
    | none=>
     cases hw:B.pv with
     | none=>rw[hv,hw] at e; subst e; exact⟨fun x z=>(nomatch z),fun x z=>(nomatch z)⟩
     | some b=>rw[hv,hw] at e; subst e; exact⟨fun x z=>(nomatch z),fun x z=>(nomatch z)⟩
    | some d=>rw[hv] at e; subst e; exact⟨fun x z=>(nomatch z),fun x z=>(nomatch z)⟩
   | _=>cases e; exact⟨fun x z=>(nomatch z),fun x z=>(nomatch z)⟩
 refine⟨g,R.of ⟨fun b o e=>?_,fun b o e=>?_,r.fr.h0,r.fr.pn⟩ ?_ (fun i s e=>?_) (fun i B e=>(nob i _ e).2 B rfl) (fun i j x y _ e=>((nob i _ e).1 x rfl).elim)⟩
 ·unfold yW at e
  split at e
  ·exact e
  ·exact r.fr.sub b o e
 ·have h:¬OwnA F Γ σ G H b:=fun h=>by
   have:=h.at.1;rw[e] at this; cases this
  unfold yW;rw[if_neg h];exact r.fr.g0 b o e
 ·unfold v7;rw[A3];exact r.len
 ·unfold v7 at e;rw[BD] at e
  cases e0:Γ[i]? with
  | none=>rw[e0] at e; cases e
  | some s0=>
   rw[e0] at e;have h:=r.sl i s0 e0
   cases s0 with
   | no=>cases e; trivial
   | val d=>cases e; obtain⟨v,e1,d1⟩:=h; exact⟨v,e1,Dt.same g _ _ d1⟩
   | own ds=>
    cases e
    obtain⟨p,vs,e1,e2,e3,e4,e5⟩:=h;refine⟨_,e1,.lst ?_ (Dts.same g _ _ e5)⟩;unfold yW;rw[if_pos ⟨i,_,[p],e0,⟨p,vs,rfl,e1,e2,e3,e4,e5⟩,Ac.mpr rfl⟩];exact e4
   | pen=>cases e; exact h
   | con q=>cases e; exact h
   | pub B=>cases e; obtain⟨v,e1,e2⟩:=h; exact⟨v,e1,B.mono g e2⟩
   | box B=>
    have e:(match B.view with|some d=>Sl.val d|none=>match B.pv with|some b=>Sl.pub b|none=>Sl.no)=s:=A1.inj e;obtain⟨v,fp,e1,e2,e3⟩:=h
    cases hv:B.view with
    | none=>
     cases hw:B.pv with
     | none=>rw[hv,hw] at e; subst e; trivial
     | some b0=>
      rw[hv,hw] at e;subst e;refine⟨v,e1,B.pok e2 hw g fun b hb=>?_⟩;unfold yW;rw[if_pos ⟨i,_,fp,e0,⟨v,e1,e2,e3⟩,hb⟩]
    | some d=>
     rw[hv] at e;subst e;refine⟨v,e1,B.vok e2 hv g fun b hb=>?_⟩;unfold yW;rw[if_pos ⟨i,_,fp,e0,⟨v,e1,e2,e3⟩,hb⟩]
theorem R.backG (r:R F Γ σ G H){G1 H1:Hp}(s:Same (yW F Γ σ G H) G1)(f1:Rf F G1 H1) :
  (∀ b,OwnA F Γ σ G H b→G1 b=H b∧H1 b=H b)∧Same G (nZ F Γ σ G H G1)∧Rf F (nZ F Γ σ G H G1) H1∧uW G1 (nZ F Γ σ G H G1):=by
 have s0:=(r.pubAll).1;have own:∀ b,OwnA F Γ σ G H b→G1 b=H b∧H1 b=H b:=fun b h=>by
  obtain⟨_,_,o,e⟩:=h.at;have q:yW F Γ σ G H b=H b:=by unfold yW; rw[if_pos h]
  rw[e] at q ⊢;exact⟨s b _ q,f1.sub b _ (s b _ q)⟩
 have g:Same G (nZ F Γ σ G H G1):=fun b o e=>by
  have h:¬OwnA F Γ σ G H b:=fun h=>by
   have:=h.at.2.1;rw[e] at this; cases this
  unfold nZ;rw[if_neg h];exact s b o (s0 b o e)
 refine⟨own,g,⟨fun b o e=>?_,fun b o e=>?_,f1.h0,f1.pn⟩,fun b xs e=>?_⟩
 ·unfold nZ at e
  split at e
  ·cases e
  ·exact f1.sub b o e
 ·have h:¬OwnA F Γ σ G H b:=fun h=>by
   have:=h.at.1;rw[e] at this; cases this
  unfold nZ;rw[if_neg h];exact f1.g0 b o e
 ·by_cases h:OwnA F Γ σ G H b
  ·have e':H b=some (.tup xs):=by rw[← (own b h).1]; exact e
   obtain⟨q,vs,q1,q2,q3⟩:=h.tup e';exact .inr ⟨q,vs,q1,by rw[(own q q2).1]; exact q3⟩
  ·refine .inl ?_;unfold nZ;rw[if_neg h];exact e
theorem a0U {G1:Hp}{b:AA}(h:OwnA F Γ σ G H b):nZ F Γ σ G H G1 b=none:=by
 unfold nZ;rw[if_pos h]
theorem R.back (r:R F Γ σ G H){G' H':Hp}(s:Same (yW F Γ σ G H) G')(r':R F (v7 Γ) σ G' H'):Same G (nZ F Γ σ G H G')∧R F Γ σ (nZ F Γ σ G H G') H'∧uW G' (nZ F Γ σ G H G'):=by
 obtain⟨own,g,f,t⟩:=r.backG s r'.fr;obtain⟨fps,h1,h2⟩:=r.fps;refine⟨g,⟨f,r.len,fps,fun i sl e=>(h1 i sl e).go g fun b hb=>?_,h2⟩,t⟩;have ho:OwnA F Γ σ G H b:=⟨i,sl,fps i,e,h1 i sl e,hb⟩;exact⟨a0U ho,(own b ho).2⟩
end
theorem zY {t:TE}{m:ME}(h:VT P0 t m):VT P0 t (a4D m):=by
 intro F Γ σ G H Q Qm r hm k;obtain⟨s0,r0⟩:=r.pubAll;refine h F _ σ _ H _ _ r0 hm fun d Γ1 x G1 H1 m1 s1 r1 d1=>?_;obtain⟨hd,rfl,q⟩:=m1;obtain⟨s2,r2,t2⟩:=r.back s1 r1;exact k _ _ _ _ _ q s2 r2 (Dt.sameU t2 _ _ hd d1)
theorem vY {t:TT}{m:MT}(h:VTT P0 t m):VTT P0 t (wM m):=by
 intro F Γ σ G H Q Qm r hm k;obtain⟨s0,r0⟩:=r.pubAll;refine h F _ σ _ H _ _ r0 hm fun b Γ1 G1 H1 m1 s1 r1=>?_;obtain⟨rfl,q⟩:=m1;obtain⟨s2,r2,t2⟩:=r.back s1 r1;exact k _ _ _ _ q s2 r2
section
variable {ta tb:TE}{ma mb:ME}
abbrev a1E:=mI0 fun i j=>Bo (i+j)
abbrev a95:=mI0 fun i j=>Bo (i-j)
abbrev a5Z:=mI DI fun i j=>Bo (i*j)
abbrev a5Y:=mI a2X fun i j=>Bo (i.fdiv j)
abbrev aC1:=mI a9V fun i j=>Bo (i/j)
abbrev aB8:=mI (fun _ j=>0<j) fun i j=>Bo (i%j)
abbrev aCD:=mU fun i=>Bo (-i)
abbrev mLt:=mI0 fun i j=>EL (decide (i<j))
abbrev mGt:=mI0 fun i j=>EL (decide (j<i))
abbrev mGe:=mI0 fun i j=>EL (decide (j≤i))
theorem bT (ha:VT P0 ta ma)(hb:VT P0 tb mb):VT P0 (tOp (rI0 fun i j=>.int (i+j)) ta tb) (a1E ma mb):=a1B (fun _ _ _=>.int _) ha hb
theorem xN (ha:VT P0 ta ma)(hb:VT P0 tb mb):VT P0 (tOp (rI0 fun i j=>.int (i-j)) ta tb) (a95 ma mb):=a1B (fun _ _ _=>.int _) ha hb
theorem dR (ha:VT P0 ta ma)(hb:VT P0 tb mb):VT P0 (tOp (rI DI fun i j=>.int (i*j)) ta tb) (a5Z ma mb):=a7N (fun _ _ _=>.int _) ha hb
theorem a1L (ha:VT P0 ta ma)(hb:VT P0 tb mb):VT P0 (tOp (rI a2X fun i j=>.int (i.fdiv j)) ta tb) (a5Y ma mb):=a7N (fun _ _ _=>.int _) ha hb
theorem a9H (ha:VT P0 ta ma)(hb:VT P0 tb mb):VT P0 (tOp (rI a9V fun i j=>.int (i/j)) ta tb) (aC1 ma mb):=a7N (fun _ _ _=>.int _) ha hb
theorem a5G (ha:VT P0 ta ma)(hb:VT P0 tb mb):VT P0 (tOp (rI (fun _ j=>0<j) fun i j=>.int (i%j)) ta tb) (aB8 ma mb):=a7N (fun _ _ _=>.int _) ha hb
theorem a7H (ha:VT P0 ta ma):VT P0 (tUn (rU fun i=>.int (-i)) ta) (aCD ma):=aD2 (fun _ _=>.int _) ha
theorem zP (ha:VT P0 ta ma)(hb:VT P0 tb mb):VT P0 (tOp (rI0 fun i j=>.bl (decide (i<j))) ta tb) (mLt ma mb):=a1B (fun _ _ _=>.bl _) ha hb
theorem nJ (ha:VT P0 ta ma)(hb:VT P0 tb mb):VT P0 (tOp (rI0 fun i j=>.bl (decide (j<i))) ta tb) (mGt ma mb):=a1B (fun _ _ _=>.bl _) ha hb
theorem qL (ha:VT P0 ta ma)(hb:VT P0 tb mb):VT P0 (tOp (rI0 fun i j=>.bl (decide (j≤i))) ta tb) (mGe ma mb):=a1B (fun _ _ _=>.bl _) ha hb
theorem aD {i:Int}:VT P0 (tC (.int i)) (mC (.int i)):=aBC fun _=>.int i
theorem yH {b:Bool}:VT P0 (tC (.bl b)) (mC (.bool b)):=aBC fun _=>.bl b
theorem bW:VT P0 (tC .non) (mC .none):=aBC fun _=>.non
end
end
section
def iW:Fl→Prop:=fun fl=>fl=.rt (.val (.bool true))
end
end L2.VS
namespace L2.VS
open PySem PySem.Spec PyProof.Rows LT
section
variable {Γ:En}{i j n:Nat}{d e x y:D}{ma mb:ME}{oa ob:MO}{ta tb:MT}{md:MD}{aa:MA}{sa sb:MS}{g:MG}{gs:MGs}{mp mq:MP}
theorem aBG {Q:Fl→Prop}(h:sa Γ fun fl=>match fl with|.nx Γ1=>sb Γ1 Q|fl=>Q fl):gW sa sb Γ Q:=h
theorem aCP {Q:Fl→Prop}(h:Q (.nx Γ)):mNx Γ Q:=h
theorem a9D {Q:Fl→Prop}(h:ma Γ fun _ Γ1=>Q (.nx Γ1)):a3S ma Γ Q:=h
theorem aA7 {Q:Fl→Prop}(h:oa Γ fun rv Γ1=>Q (.nx (Γ1.set i rv.sl))):o4 i oa Γ Q:=h
theorem aAQ {Q:Fl→Prop}(h:md Γ fun ds Γ1=>match ds with|[d,e]=>Q (.nx ((Γ1.set i (.val d)).set j (.val e)))|_=>False):aAO i j md Γ Q:=h
theorem aB1 {Q:Fl→Prop}(h:oa Γ fun rv _=>Q (.rt rv)):o9 oa Γ Q:=h
theorem aD4 {Q:Fl→Prop}(h:ta Γ fun k Γ1=>if k=true then sa Γ1 Q else sb Γ1 Q):mIf ta sa sb Γ Q:=h
theorem aAV {Q:Fl→Prop}(h:md Γ fun ds Γ1=>forL g sa ds Γ1 Q):a7D md g sa Γ Q:=h
def aBI (i:Nat)(d:D)(Γ1:En)(Q:Fl→Prop):Prop:=match Γ1[i]? with
 | some (.own ds)=>ds.length<1000∧Q (.nx (Γ1.set i (.own (ds++[d]))))
 | _=>False
theorem a4P {Q:Fl→Prop}{ds:List D}(h0:Γ[i]?=some (.own ds))(h:ma Γ fun d Γ1=>aBI i d Γ1 Q):pF i ma Γ Q:=by
 unfold pF;rw[h0];exact h
theorem a8S {Q:Fl→Prop}{Γ1:En}{ds:List D}(h0:Γ1[i]?=some (.own ds))(h1:ds.length<1000)(h:Q (.nx (Γ1.set i (.own (ds++[d]))))):aBI i d Γ1 Q:=by
 unfold aBI;rw[h0];exact⟨h1,h⟩
theorem a84 {Q:Fl→Prop}{ds:List D}(h0:Γ[i]?=some (.own ds))(h:sa (Γ.set i (.val (.list ds))) Q):a1S i sa Γ Q:=by
 unfold a1S;rw[h0];exact h
theorem i_c {Q:D→En→Prop}(h:Q d Γ):mC d Γ Q:=h
theorem aA6 {Q:D→En→Prop}(h0:Γ[i]?=some (.val d))(h:Q d Γ):cF i Γ Q:=by
 unfold cF;rw[h0];exact h
theorem aCY {f:Int→Int→D}{Q:D→En→Prop}(h:ma Γ fun x Γ1=>mb Γ1 fun y Γ2=>match x,y with|.int i,.int j=>Q (f i j) Γ2|_,_=>False):mI0 f ma mb Γ Q:=h
theorem i_I {C:Int→Int→Prop}{f:Int→Int→D}{Q:D→En→Prop}(h:ma Γ fun x Γ1=>mb Γ1 fun y Γ2=>match x,y with|.int i,.int j=>C i j∧Q (f i j) Γ2|_,_=>False):mI C f ma mb Γ Q:=h
theorem i_U {f:Int→D}{Q:D→En→Prop}(h:ma Γ fun x Γ1=>match x with|.int i=>Q (f i) Γ1|_=>False):mU f ma Γ Q:=h
theorem aAU {Q:D→En→Prop}(h:ma Γ fun x Γ1=>match x with|.int i=>Q (.int (if i<0 then -i else i)) Γ1|_=>False):aBM ma Γ Q:=h
theorem a7Z {Q:D→En→Prop}(h:ma Γ fun x Γ1=>match x with|.int i=>Q (.int i) Γ1|.bool b=>Q (.int (if b then 1 else 0)) Γ1|_=>False):a6Y ma Γ Q:=h
theorem aCV {Q:D→En→Prop}(h:ma Γ fun x Γ1=>mb Γ1 fun y Γ2=>Good x∧Good y∧Q (.bool (Au x y)) Γ2):mEq ma mb Γ Q:=h
theorem aD0 {Q:D→En→Prop}(h:ma Γ fun x Γ1=>mb Γ1 fun y Γ2=>Good x∧Good y∧Q (.bool (!PyData.eqv x y)) Γ2):mNe ma mb Γ Q:=h
theorem aBL {Q:D→En→Prop}(h:ma Γ fun x Γ1=>Q (.bool (isN x)) Γ1):a7P ma Γ Q:=h
theorem a9K {Q:D→En→Prop}(h:ma Γ fun x Γ1=>Q (.bool (!isN x)) Γ1):a0K ma Γ Q:=h
theorem a9I {Q:D→En→Prop}(h:ma Γ fun x Γ1=>match x with|.bool c=>if c=true then mb Γ1 Q else Q (.bool false) Γ1|_=>False):a08 ma mb Γ Q:=h
theorem aBA {Q:D→En→Prop}(h:ma Γ fun x Γ1=>match x with|.bool c=>if c=true then Q (.bool true) Γ1 else mb Γ1 Q|_=>False):aBQ ma mb Γ Q:=h
theorem aAB {Q:Bool→En→Prop}(h:ma Γ fun x Γ1=>match x with|.bool c=>Q c Γ1|_=>False):lV ma Γ Q:=h
theorem aBE {Q:Bool→En→Prop}(h:ta Γ fun c Γ1=>if c=true then tb Γ1 Q else Q false Γ1):a8J ta tb Γ Q:=h
theorem aCQ {Q:Bool→En→Prop}(h:ta Γ fun c Γ1=>if c=true then Q true Γ1 else tb Γ1 Q):mOr ta tb Γ Q:=h
theorem a9Y {Q:Bool→En→Prop}(h:ta Γ fun c Γ1=>Q (!c) Γ1):a5W ta Γ Q:=h
theorem aBN {Q:List D→En→Prop}(h:Q [] Γ):tL Γ Q:=h
theorem a86 {Q:List D→En→Prop}(h:ma Γ fun x Γ1=>md Γ1 fun xs Γ2=>Q (x::xs) Γ2):dU ma md Γ Q:=h
theorem a80 {Q:List Sl→En→Prop}(h:Q [] Γ):jR Γ Q:=h
theorem a8O {Q:List Sl→En→Prop}(h:ma Γ fun x Γ1=>aa Γ1 fun xs Γ2=>Q (.val x::xs) Γ2):gU ma aa Γ Q:=h
theorem aA4 {Q:D→En→Prop}(h:md Γ fun ds Γ1=>ds.length≤1000∧Q (.tuple ds) Γ1):a3H md Γ Q:=h
theorem aB7 {Q:Rv→En→Prop}(h:md Γ fun ds Γ1=>ds.length≤1000∧Q (.own ds) Γ1):a4M md Γ Q:=h
theorem aCX {Q:D→En→Prop}(h:ma Γ fun x Γ1=>mb Γ1 fun y Γ2=>oQ (ixD x y) fun d=>Q d Γ2):mIx ma mb Γ Q:=h
theorem aAH {Q:D→En→Prop}(h:ma Γ fun x Γ1=>oQ (a7E x) fun d=>Q d Γ1):a5A ma Γ Q:=h
theorem aA9 {s:String}{Q:D→En→Prop}(h:ma Γ fun x Γ1=>Q (.bool (a4Y (mR x) s)) Γ1):a90 s ma Γ Q:=h
theorem aAF {Q:D→En→Prop}(h:oa Γ fun rv Γ1=>nbQ rv (Q rv.d Γ1)):iD oa Γ Q:=h
theorem aAW {Q:Rv→En→Prop}(h:ma Γ fun d Γ1=>Q (.val d) Γ1):gK ma Γ Q:=h
theorem a91 {f:Fm}{Q:Rv→En→Prop}(h:aa Γ fun as Γ1=>as.length=n∧f as fun rv=>Q rv Γ1):jB n f aa Γ Q:=h
theorem aB0 {Q:Rv→En→Prop}(h:ma Γ fun x Γ1=>mp Γ1 fun lo Γ2=>mq Γ2 fun hi Γ3=>match x with|.list ds=>Q (.own (cutD ds lo hi)) Γ3|_=>False):aD1 ma mp mq Γ Q:=h
theorem aAZ {Q:Option Int→En→Prop}(h:Q none Γ):pNo Γ Q:=h
theorem a9Z {Q:Option Int→En→Prop}(h:ma Γ fun x Γ1=>match x with|.int i=>Q (some i) Γ1|_=>False):pSo ma Γ Q:=h
theorem aAR {Q:Rv→En→Prop}(h:ma Γ fun x Γ1=>mb Γ1 fun y Γ2=>match x,y with|.list ds,.list es=>ds.length+es.length≤1000∧Q (.own (ds++es)) Γ2|_,_=>False):a9P ma mb Γ Q:=h
theorem a8Q {Q:D→En→Prop}(h:ma (v7 Γ) fun d Γ1=>iU d=true∧Γ1=v7 Γ∧Q d Γ):a4D ma Γ Q:=h
theorem a5V {Q:Bool→En→Prop}(h:ta (v7 Γ) fun b Γ1=>Γ1=v7 Γ∧Q b Γ):wM ta Γ Q:=h
theorem aA2 {Q:List D→En→Prop}(h:ma Γ fun x Γ1=>match x with|.list ds=>Q ds Γ1|_=>False):aA3 ma Γ Q:=h
theorem aB6 {Q:List D→En→Prop}(h:ma Γ fun x Γ1=>match x with|.tuple ds=>Q ds Γ1|_=>False):a9U ma Γ Q:=h
theorem a83 {Q:List D→En→Prop}(h:md Γ fun ds Γ1=>match ds with|[.int j] => -(2^62)≤j∧j<2^62∧Q (m5 0 j.toNat) Γ1|_=>False):a5R md Γ Q:=h
theorem aCT {Q:En→Prop}(h:Q (Γ.set i (.val d))):gN i d Γ Q:=h
theorem zB {k:Nat}{as:List Sl}{Q:Rv→Prop}(h:sa (as++At k .no) fun fl=>match fl with|.rt rv=>Q rv|.nx _=>Q (.val .none)|_=>False):mFn k sa as Q:=h
theorem gR {o:Option D}{k:D→Prop}(h0:o=some d)(h:k d):oQ o k:=by rw[h0]; exact h
structure KOk (I:En→Prop)(Q K:Fl→Prop):Prop where
 nx:∀ Γ,I Γ→K (.nx Γ)
 ct:∀ Γ,I Γ→K (.ct Γ)
 bk:∀ Γ,Q (.nx Γ)→K (.bk Γ)
 rt:∀ rv,Q (.rt rv)→K (.rt rv)
theorem rQ {ds:List D}{Q:Fl→Prop}(I:Nat→En→Prop)(h0:I 0 Γ)(hs:∀ i d Γ K,ds[i]?=some d→I i Γ→KOk (I (i+1)) Q K→g d Γ fun Γ1=>sa Γ1 K)(he:∀ Γ,I ds.length Γ→Q (.nx Γ)):forL g sa ds Γ Q:=by
 have aux:∀(es:List D) (k:Nat) (Γ:En),(∀ i d,es[i]?=some d→ds[k+i]?=some d)→k+es.length=ds.length→I k Γ→forL g sa es Γ Q:=by
  intro es
  induction es with
  | nil=>intro k Γ _ hl hi; exact he Γ (by rw[← hl]; simpa using hi)
  | cons d es ih=>
   intro k Γ hd hl hi;have next:∀ Γ2,I (k+1) Γ2→forL g sa es Γ2 Q:=fun Γ2 h3=>ih (k+1) Γ2 (fun i e he'=>by
    have:=hd (i+1) e (by simpa using he');rw[show k+1+i=k+(i+1) by omega]; exact this) (by rw[← hl,Aw]; omega) h3
   exact hs k d Γ _ (by simpa using hd 0 d rfl) hi ⟨next,next,fun _ h=>h,fun _ h=>h⟩
 exact aux ds 0 Γ (fun i d h=>by simpa using h) (by simp) h0
theorem a1Q {lo:Int}{n:Nat}{Q:Fl→Prop}(I:Nat→En→Prop)(h0:I 0 Γ)(hs:∀ i Γ K,i<n→I i Γ→KOk (I (i+1)) Q K→g (.int (lo+i)) Γ fun Γ1=>sa Γ1 K)(he:∀ Γ,I n Γ→Q (.nx Γ)):forL g sa (m5 lo n) Γ Q:=by
 have hl:(m5 lo n).length=n:=by simp[m5]
 refine rQ I h0 (fun i d Γ K e hi hk=>?_) (by rw[hl]; exact he);have hi':i<n:=by have:=(A4.mp e).1; omega
 unfold m5 at e;rw[BD,Ep hi'] at e
 cases e
 exact hs i Γ K hi' hi hk
theorem uP {Q:Fl→Prop}(I:Nat→En→Prop)(m0:Nat)(h0:I m0 Γ)(hs:∀ m Γ,I m Γ→ta Γ fun k Γ1=>if k=true then sa Γ1 fun fl=>match fl with
  | .nx Γ2=>∃ n',n'<m∧I n' Γ2
  | .ct Γ2=>∃ n',n'<m∧I n' Γ2
  | .bk Γ2=>Q (.nx Γ2)
  | .rt rv=>Q (.rt rv)
 else Q (.nx Γ1)):wW ta sa Γ Q:=⟨I,⟨m0,h0⟩,hs⟩
end
theorem aA0 {A B:Prop}(h:B):if (!true)=true then A else B:=rF h
theorem aAL {A B:Prop}(h:A):if (!false)=true then A else B:=vC h
theorem good_int (i:Int):Good (.int i):=⟨rfl,by show 0≤60; decide⟩
theorem a2E (i j:Int):Au (.int i) (.int j)=decide (i=j):=by
 show(i==j)=_
 exact Bool.beq_eq_decide_eq i j
section
variable {P:D→Prop}{Γ:En}{Q:D→En→Prop}
end
def Gd (n:Nat)(d:D):Prop:=d.canLay0=true∧d.depth≤n
theorem Gd.good {n:Nat}{d:D}(h:Gd n d)(hn:n≤60:=by decide):Good d:=⟨h.1,BF h.2 hn⟩
theorem Gd.mono {n m:Nat}{d:D}(h:Gd n d)(hn:n≤m:=by decide):Gd m d:=⟨h.1,BF h.2 hn⟩
theorem gds {n:Nat}:∀{ds:List D},(∀ d∈ds,Gd n d)→EJ ds=true∧EK ds≤n
 | [],_=>⟨rfl,Ah _⟩
 | d::ds,h=>by
  have h1:=h d Bf;have h2:=gds (ds:=ds) fun e he=>h e (BK _ he);refine⟨by show(d.canLay0&&EJ ds)=true; rw[h1.1,h2.1]; rfl,?_⟩;show max d.depth (EK ds)≤n;exact Nat.max_le.mpr ⟨h1.2,h2.2⟩
theorem a1H {n:Nat}{ds:List D}(h:∀ d∈ds,Gd n d):Gd (n+1) (.tuple ds):=⟨(gds h).1,EF (gds h).2⟩
theorem a2N {n:Nat}{ds:List D}(h:∀ d∈ds,Gd n d):Gd (n+1) (.list ds):=⟨(gds h).1,EF (gds h).2⟩
theorem a3B {n:Nat}{ds:List D}(h:∀ d∈ds,Gd n d)(hn:n≤59:=by decide):Goods ds:=⟨(gds h).1,BF (gds h).2 hn⟩
theorem o8 (i:Int):Gd 0 (.int i):=⟨rfl,AT _⟩
theorem gd_none:Gd 0 .none:=⟨rfl,AT _⟩
theorem a7S (q:Rat):Gd 1 (qX q):=a1H (n:=0) fun d h=>by
 rcases Aq.mp h with rfl|h
 ·exact o8 _
 ·rw[Ac.mp h]; exact o8 _
theorem a97 {n:Nat}{a b:D}(ha:Gd n a)(hb:Gd n b):Gd (n+1) (.tuple [a,b]):=a1H fun d h=>by
 rcases Aq.mp h with rfl|h
 ·exact ha
 ·rw[Ac.mp h]; exact hb
theorem rY {d:D}(h:Good d):Au d d=true:=SeqAt.eqv_refl d h.lay
theorem aCB {d:D}{n:String}{A B:Prop}(h:a4Y (mR d) n=true)(b:B):if (!a4Y (mR d) n)=true then A else B:=by rw[h]; exact rF b
theorem a78 (q:Rat):ixD (qX q) (.int 0)=some (.int q.num):=rfl
theorem a5S (q:Rat):ixD (qX q) (.int 1)=some (.int (q.den:Int)):=rfl
end L2.VS
namespace L2
open PySem PySem.Spec PyProof.Rows
section
variable {X:Cx}{N:List Str}{scope:BZ}{nt:Nat}{fv:List Nat}{pins:List (AA×Obj)}{σ:St}{H:Hp}{s:AC}
end
section
variable {prog:AQ}{w:AL}{A:AR}{R:Result→AC→Prop}{s:AC}
end
end L2
namespace L2
open PySem PySem.Spec PyProof.Rows
section
variable {X:Cx}{N:List Str}{scope:BZ}{nt:Nat}{fv:List Nat}{elt tg iter:AN}{ifs:List AN}{wi:TI}{g:TG}{ti:TT}{te:TE}{pos:Pos}
end
end L2
namespace L2
open PySem PySem.Spec PyProof.Rows
end L2
namespace L2.VS
open PySem PySem.Spec PyProof.Rows
section
variable {P0:AA→Hp→Prop}
end
end L2.VS
namespace L2
open PySem PySem.Spec PyProof.Rows
section
variable {X:Cx}
def a3R (n:Nat)(x:Int):Nat:=if x<0 then(x+(n:Int)).toNat else min x.toNat n
def uK {α:Type}(xs:List α)(x:Int)(y:α):List α:=xs.take (a3R xs.length x)++y::xs.drop (a3R xs.length x)
theorem a4T {α:Type}(xs:List α)(x:Int)(y:α):(uK xs x y).length=xs.length+1:=by
 unfold uK;rw[A6,Aw,BU,Bs];omega
theorem Vals.ins {xs:List V}{us:List AB}(r:Vals xs us)(x:Int){y:V}{u:AB}(h:RelV y u):Vals (uK xs x y) (uK us x u):=by
 unfold uK;rw[r.length];exact(r.take _).append (.cons h (r.drop _))
def a5U:V→List V→Hp→VK→Prop:=fun x vs H Q=>∃ l xs i y,x=.ref l∧vs=[.int i,y]∧H l=some (.lst xs) ∧ -(2^63)≤i∧i<2^63∧xs.length<sizeLine∧Q .non (upd H l (.lst (uK xs i y)))
theorem a0E:MtM X "list.insert" a5U:=by
 intro pins s σ H x vs v us Q I rx rv h;obtain⟨l,xs,i,y,rfl,rfl,hH,h1,h2,hz,q⟩:=h
 cases rx
 obtain⟨u0,u,rfl,ru0,ru⟩:=rv.two;obtain⟨t,rfl⟩:=ru0;obtain⟨z,its,n,r,hl,e⟩:=I.lstM hH;have hf:Er i=true:=by
  unfold Er;rw[Co];exact⟨decide_eq_true h1,decide_eq_true h2⟩
 refine Do F.slot_list_insert ⟨_,e,rfl⟩ F.entry_list_insert (F.args_list_insert_3 _ _ _) (PySem.AutoSeq1.list_insert_list_int_val_1 l its.toArray n i t u (by simp[hf]) (by rw[Ap]; omega)) ⟨e,?_⟩;refine⟨.non,_,I.lset (its':=uK its i u) hH e ?_ (r.ins i ru) ?_,rfl,q⟩
 ·show(its.toArray.extract 0 (if i<0 then(i+(its.toArray.size:Int)).toNat else min i.toNat its.toArray.size)).push u++its.toArray.extract (if i<0 then(i+(its.toArray.size:Int)).toNat else min i.toNat its.toArray.size)=(uK its i u).toArray
  rw[Ap];unfold uK a3R;generalize (if i<0 then(i+(its.length:Int)).toNat else min i.toNat its.length)=k;apply toList_inj.mp;simp;exact Es (by simp)
 ·rw[a4T];omega
end
end L2
namespace L2.VS
open PySem PySem.Spec PyProof.Rows
section
variable {P0:AA→Hp→Prop}
theorem _root_.L2.Dts.ins {G:Hp}{vs:List V}{ds:List D}(r:Dts G vs ds)(x:Int){y:V}{d:D}(h:Dt G y d):Dts G (uK vs x y) (uK ds x d):=by
 unfold uK;rw[r.len];exact(r.tak _).app (.cons h (r.drp _))
end
section
variable {P0:AA→Hp→Prop}
end
section
variable {P0:AA→Hp→Prop}{K:Fg}
def aAP (ma:ME)(ml mh:MP):ME:=fun Γ Q=>ma Γ fun x Γ1=>ml Γ1 fun lo Γ2=>mh Γ2 fun hi Γ3=>match x with
 | .tuple ds=>¬(HT.sIx ds.length 0 lo=0∧HT.sIx ds.length ds.length hi=ds.length)∧Q (.tuple (cutD ds lo hi)) Γ3
 | _=>False
theorem lR {ta:TE}{ma:ME}{tl th:TO}{ml mh:MP}(ha:VT P0 ta ma)(hl:VP P0 tl ml)(hh:VP P0 th mh):VT P0 (tSl (aCK K) ta tl th) (aAP ma ml mh):=by
 intro F Γ σ G H Q Qm r m k;refine ha F Γ σ G H _ _ r m fun d Γ1 x G1 H1 m1 s1 r1 d1=>?_;refine hl F Γ1 σ G1 H1 _ _ r1 m1 fun lo Γ2 G2 H2 m2 s2 r2=>?_;refine hh F Γ2 σ G2 H2 _ _ r2 m2 fun hi Γ3 G3 H3 m3 s3 r3=>?_
 split at m3
 ·have d1:=Dt.same (s2.trans s3) _ _ d1
  cases d1 with
  | @tup p xs _ hp rs=>
   refine⟨p,xs,rfl,SqT.of (r3.fr.sub _ _ hp),by rw[rs.len]; exact m3.1,fun l hl=>?_⟩;have g:=gZ (r3.fr.gfresh hl) (.tup (a6M xs lo hi));exact k _ _ _ _ _ m3.2 (((s1.trans s2).trans s3).trans g) (r3.new hl) (.tup bQ (Dts.same g _ _ (rs.cut lo hi)))
 ·exact m3.elim
theorem aB2 {ma:ME}{ml mh:MP}{Γ:En}{Q:D→En→Prop}(h:ma Γ fun x Γ1=>ml Γ1 fun lo Γ2=>mh Γ2 fun hi Γ3=>match x with|.tuple ds=>¬(HT.sIx ds.length 0 lo=0∧HT.sIx ds.length ds.length hi=ds.length)∧Q (.tuple (cutD ds lo hi)) Γ3|_=>False):aAP ma ml mh Γ Q:=h
end
end L2.VS
namespace L2
open PySem PySem.Spec PyProof.Rows
section
variable {X:Cx}
end
end L2
namespace L2.VS
open PySem PySem.Spec PyProof.Rows
section
variable {P0:AA→Hp→Prop}
end
section
variable {P0:AA→Hp→Prop}{ta tb:TE}{ma mb:ME}
end
end L2.VS
namespace L2
open PySem PySem.Calls PyProof.Rows PySem.W
section
variable {cmp:Nat→Nat→(Bool→AC→Prop)→AC→Prop}
end
section
variable {prog:AQ}{w:AL}{A:AR}{E:AB→AC→Prop}{s:AC}{Q:Bool→AC→Prop}
end
section
variable {prog:AQ}{w:AL}{A:AR}{E:AB→AC→Prop}{s:AC}
end
end L2
namespace L2
open PySem PySem.Spec PyProof.Rows
section
variable {X:Cx}
end
end L2
namespace L2.VS
open PySem PySem.Spec PyProof.Rows
section
variable {P0:AA→Hp→Prop}{ta:TE}{ma:ME}{K:Fg}
end
end L2.VS
namespace L2
open PySem PySem.Calls PyProof.Rows PySem.W
section
variable {cmp:Nat→Nat→(Bool→AC→Prop)→AC→Prop}{lt:Nat→Nat→Bool}{n:Nat}{I:AC→Prop}
end
end L2
namespace L2
open PySem PySem.Calls PyProof.Rows PySem.W
section
variable {prog:AQ}{w:AL}{A:AR}{E:AB→AC→Prop}{s:AC}
theorem a2P {a:AA}{vs:List AB}{n:Nat}{P:PySem.Fin→AC→Prop}(h1:vs.length≤1)(ho:s.heap.get? a=some (AY "list" vs.toArray n))
  (k:∀ h' c,(∀ b o,b≠a→s.heap.get? b=some o→h'.get? b=some o)→h'.get? a=some (AY "list" vs.toArray c)→P (.done (.ret .none)) { s with heap:=h' }):AK (AF prog w) A (Al.«list.sort» ⟨[.ref a],[]⟩) P E s:=by
 have hsz:vs.toArray.size=vs.length:=rfl;obtain⟨e1,ho1⟩:∃ e1,(s.heap.update a (Am fun _=>(#[]:Array AB))).get? a=some (AY "list" #[] e1):=⟨_,Dq ho fun _=>#[]⟩;have s1:=Dr s.heap a (Am fun _=>(#[]:Array AB));have ho2:(((s.heap.update a (Am fun _=>(#[]:Array AB))).push (AY "tuple" vs.toArray 0)).push (AY "list" #[] 0)).get? a=some (AY "list" #[] e1):=An _ (An _ ho1);rw[list_sort_plain];refine AO (listItems_at ho rfl (AO (Ds ho rfl ?_ (by rw[hsz,Bj]; omega) (Ah _))));refine AO (Du ho1 rfl (AO (wpAny_newTuple ?_ (by rw[Bj]; show vs.toArray.toList.length≤_; rw[show vs.toArray.toList.length=vs.length from rfl]; omega))));refine AO (Dv (CB ?_) (Ah _));show AK (AF prog w) A _ P E { s with heap:=((s.heap.update a (Am fun _=>(#[]:Array AB))).push (AY "tuple" vs.toArray 0)).push (AY "list" #[] 0) };dsimp only;have h12:vs.toArray.size<2:=by rw[hsz]; omega
 rw[if_pos h12,if_pos h12];refine AO (Ab (AO (Ab ?_)));dsimp only;have ea:(AD (AJ.mk' general' (vs.toArray.zip vs.toArray) #[] 7 none)).map (·.2)=vs.toArray:=by
  show(vs.toArray.zip vs.toArray).map (·.2)=vs.toArray
  match vs,h1 with
  | [],_=>simp
  | [v],_=>simp
 rw[ea];have s2:=Dr (((s.heap.update a (Am fun _=>(#[]:Array AB))).push (AY "tuple" vs.toArray 0)).push (AY "list" #[] 0)) a (Am fun _=>vs.toArray);obtain⟨c2,hc2⟩:∃ c2,((((s.heap.update a (Am fun _=>(#[]:Array AB))).push (AY "tuple" vs.toArray 0)).push (AY "list" #[] 0)).update a (Am fun _=>vs.toArray)).get? a=some (AY "list" vs.toArray c2):=⟨_,Dq ho2 fun _=>vs.toArray⟩;refine AO (Du ho2 rfl (AO (Ds ho2 rfl ?_ (Ah _) (by rw[hsz,Bj]; omega))));rw[if_neg (by simp)];refine Ab (k _ c2 (fun b o hb e=>?_) hc2);exact(s2.2 b hb).trans (An _ (An _ ((s1.2 b hb).trans e)))
theorem yO {l:AA}{vs:List AB}{Q:AB→AC→Prop}(h1:vs.length≤1)(hl:s.heap.IsList l vs.toArray)
  (q:∀(D:AA) (h':AH) (c:Nat),s.heap.objs.size≤D→(∀ b o,s.heap.get? b=some o→h'.get? b=some o)→h'.get? D=some (listOf vs.toArray c)→Q (.ref D) { s with heap:=h' }) :
  AK (AF prog w) A (call (.builtin "sorted") [.ref l]) Q E s:=by
 refine Et kind_sorted plain_sorted entry_sorted (args_sorted1 _) ?_;unfold Al.«sorted»; refine AO (m:=checkCount "sorted" 1 1 _) (Ab ?_);refine AO (collect_list (vs:=vs) hl ?_ (by rw[Bj]; omega));refine AO (Dv ?_ (by rw[Bj]; omega));have kU:∀ b o,s.heap.get? b=some o→((s.heap.push (AY "list" #[] 0)).update s.heap.objs.size (Am fun x=>x++vs.toArray)).get? b=some o:=fun b o e=>by
  rw[Eu _ _ _ _ (BB (Ai e))];exact An _ e
 have zU:s.heap.objs.size≤((s.heap.push (AY "list" #[] 0)).update s.heap.objs.size (Am fun x=>x++vs.toArray)).objs.size:=by
  rw[AH.size_update,C2];exact C1 _
 show AK _ _ _ _ _ { s with heap:=((s.heap.push (AY "list" #[] 0)).update s.heap.objs.size (Am fun x=>x++vs.toArray)).push (AY "list" vs.toArray 0) };dsimp only;generalize (s.heap.push (AY "list" #[] 0)).update s.heap.objs.size (Am fun x=>x++vs.toArray)=U at *;have hoL:(U.push (AY "list" vs.toArray 0)).get? U.objs.size=some (AY "list" vs.toArray 0):=Bh _ rfl;refine AO (CB (ED slot_list_sort ⟨_,hoL,rfl⟩ entry_list_sort ?body (args_list_sort _)))
 case body=>
  refine a2P (s:={ s with heap:=U.push (AY "list" vs.toArray 0) }) h1 hoL fun h' c kp hd=>⟨_,rfl,Ab ⟨_,rfl,q _ h' c zU (fun b o e=>kp b o ?_ (An _ (kU b o e))) hd⟩⟩;exact BB (Az (Ai e) zU)
end
end L2
namespace L2
open PySem PySem.Spec PyProof.Rows
def a4X (K:Fg):List V→Hp→VK→Prop:=fun xs H Q=>∃ l qs,xs=[.ref l]∧SqL K H l qs∧qs.length≤1∧∀ p,H p=none→Q (.ref p) (upd H p (.lst qs))
theorem zJ {qs:List V}{its:List AB}(h:AX RelV qs its):∀{is:List Nat},(∀ i∈is,i<qs.length)→AX RelV (is.map fun i=>qs.getD i .non) (is.map fun i=>its.getD i .none):=by
 have at_:∀ i,i<qs.length→RelV (qs.getD i .non) (its.getD i .none):=by
  induction h with
  | nil=>intro i hi; cases hi
  | cons r t ih=>
   intro i hi
   cases i with
   | zero=>exact r
   | succ i=>exact ih i (Cm hi)
 intro is hm
 induction is with
 | nil=>exact .nil
 | cons i is ih=>exact .cons (at_ i (hm i Bf)) (ih fun j hj=>hm j (BK _ hj))
section
variable {X:Cx}
theorem yL:CallR X (.builtin "sorted") (a4X X.K):=by
 intro pins s σ H xs us Q I r h;obtain⟨l,qs,rfl,hq,h1,q⟩:=h;obtain⟨u,rfl,rx⟩:=vals1 r
 cases rx
 obtain⟨its,rv,pl,hz⟩:=I.list hq;have hlen:qs.length=its.length:=rv.length;refine yO (by omega) pl.isList fun D h' c hD kp hd=>?_;exact⟨.ref D,_,I.laid (t':=s.toks) kp hD (show ObjOk X.prog X.w _ h' D (.lst qs) from⟨hz,its,c,rv,hd⟩),rfl,q D (I.hok.fresh hD)⟩
end
end L2
namespace L2.VS
open PySem PySem.Spec PyProof.Rows
section
variable {P0:AA→Hp→Prop}{ta:TE}{ma:ME}{K:Fg}
end
end L2.VS
namespace L2
open PySem PySem.Spec PyProof.Rows
structure UnB (fs:List AA)(H H':Hp)(h B h':AH):Prop where
 keep:∀ b o,h.get? b=some o→H b=none→b∉fs→B.get? b=some o
 slot:∀ b o,h.get? b=some o→b∈fs→∃ sl,h'.get? b=some { o with slots:=sl }
 free:∀ b o,h.get? b=some o→H b=none→H' b=none
 there:∀ b o,h.get? b=some o→b∉fs→∃ o',B.get? b=some o'
 tups:∀ b xs,H b=some (.tup xs)→H' b=some (.tup xs)
 frzs:∀ b o u,H b=some (.frz o u)→H' b=some (.frz o u)
 tbls:∀ b ps,H b=some (.tbl ps)→∃ more,H' b=some (.tbl (ps++more))
def CX1 (P:AQ)(w:AL):CXT:=fun outer H s E e s'=>∃(ea C:AA) (a0:AB) (B:AH) (H':Hp),e=.ref ea∧s'.os=s.os∧B0 s'.gens ∧
 AH.FlyingW B outer ea (.ref C) a0 s'.heap∧UnB (frs outer) H H' s.heap B s'.heap∧HOk P w H' B∧E (.ref C) (some ea) H'
section
variable {X:Cx}{pins:List (AA×Obj)}{σ:St}{H:Hp}{s:AC}{M:Model}{F:AB→AC→Prop}{E E':XK}
theorem Inv.frsS (hs:X.stack=X.env::X.outer)(hf:X.env.frame=some X.env.locals):frs X.stack=X.env.locals::frs X.outer:=by
 rw[hs];unfold frs;rw[B4,hf]
theorem Inv.nstk (I:Inv X pins σ H s)(hs:X.stack=X.env::X.outer)(hf:X.env.frame=some X.env.locals){b:AA}{o:Obj}(q:X.s₀.heap.get? b=some o)(hb:b∉frs X.outer):b∉frs X.stack:=fun z=>by
 rw[Inv.frsS hs hf] at z;rcases Aq.mp z with e|e
 ·exact absurd (Az (Ai q) I.ok.above) (by rw[e]; exact B8 _)
 ·exact hb e
theorem Inv.leave1 {e C:AA}{vs:List AB}{h':AH}(I:Inv X pins σ H s)(hs:X.stack=X.env::X.outer)(hf:X.env.frame=some X.env.locals)(hex:X.ex=[])
  (hx:AH.MadeExcOf s.heap h' e (.ref C) vs) (hE:∀ ea,E (.ref C) (some ea) H) :
  AK M X.A (leaving X.env (.ref e)) (fun _ s2=>CX1 X.prog X.w X.outer X.H₀ X.s₀ E (.ref e) s2) F { s with heap:=h' }:=by
 have hin:∀ env∈X.stack,∀ b,env.frame=some b→b∈frs X.stack:=fun env he b hb=>DR.mpr ⟨env,he,hb⟩;have stk:=PySem.W.funFrames_hide I.stack hin;have nex:∀ b:AA,b∉X.ex:=fun b z=>by rw[hex] at z; exact nomatch z
 refine wpAny_leaves_madeW (base:=hideAll s.heap (frs X.stack)) (h:=s.heap) (outer:=X.outer) (L:=X.env.locals) (by rw[← hs]; exact I.ok.frames) hf (fun b o q=>of_hideAll _ q) (by rw[← hs]; exact stk) hx fun h2 t fl tup _ ups=>?_;refine⟨e,C,_,_,H,rfl,I.os,I.bare,fl,⟨fun b o q n hb=>?_,fun b o q hb=>?_,fun b o q n=>I.base.free b o q n (nex b),fun b o q hb=>?_,I.base.tups,I.base.frzs,I.base.tbls⟩,fun b o q=>?_,hE e⟩
 ·exact Cy _ (I.base.keep b o q n hb (nex b)) (I.nstk hs hf q hb)
 ·obtain⟨sl,q1⟩:=I.base.slot b o q (I.ok.frf b hb) hb (nex b);obtain⟨_,o',q2,nf⟩:=I.ok.funs.mem hb;rw[q] at q2
  cases q2
  obtain⟨sl2,q3⟩:=ups b _ (hx.keeps _ _ q1) nf;exact⟨sl2,q3⟩
 ·obtain⟨o',q1⟩:=I.base.there b o q (nex b);exact⟨o',Cy _ q1 (I.nstk hs hf q hb)⟩
 ·refine(I.hok b o q).stay (fun c u hc q1=>Cy _ q1 fun z=>?_) (fun _ q=>q) fun _ _ q=>q;have hn:=I.stkFree c z;rcases hc with hc|hc
  ·rw[hc,q] at hn; cases hn
  ·rw[hc] at hn; cases hn
end
section
variable {P:AQ}{w:AL}{K:Fg}{mg:Mg}{base:AH}{N:List Str}{qual:Str}{scope:BZ}{f:AA}{cd:AB}{A:AR}{outer:List Env}{s:AC}{H:Hp}{E E':XK}
end
theorem a8B {K:Fg}{C:AA}{bmB:List AB}{newId:String}{h:AH}(G:K.In h)(z:excIn K C bmB newId=true) :
  ∃ bm N nm q bs hdct sn sub ab col dd k0 k1 k2 k3 k5 mN,h.get? C=some (excClassObj nm q C N bs bm hdct sn sub ab col dd k0 k1 k2 k3 k5 newId)∧h.Ns N mN∧mN "__init__" = none∧OwnTail h bmB bm∧K.lookup C=some (excClassObj nm q C N bs bm hdct sn sub ab col dd k0 k1 k2 k3 k5 newId):=by
 unfold excIn at z
 split at z
 next dd cd sl ho=>
  split at z
  next D bm k0 k1 k2 k3 n k5 hm hs=>
   simp only[Co,beq_iff_eq,CT] at z;obtain⟨⟨⟨⟨⟨e1,e2⟩,e3⟩,e4⟩,e5⟩,e6⟩:=z;obtain⟨nm,bs,mro,ns,qn,hd,sn,sub,ab,col,del⟩:=cd;obtain⟨l⟩:=sl;dsimp only at hm hs e3 e5 e6;subst e1 e2 hm hs e3;exact⟨bm,ns,nm,qn,bs,hd,sn,sub,ab,col,dd,k0,k1,k2,k3,k5,_,G _ _ ho,AH.Ns.of_isNs (PySem.W.isNs_of_in G e5),PySem.W.nsMap_none_of_in G e5 e6,PySem.W.tail_of_in G e4,ho⟩
  next=>cases z
 next=>cases z
section
variable {X:Cx}{E:XK}{x:Str}{C:AA}{B newId initId:String}{bmB:List AB}{e0:AN}{np cpos pos:Pos}{t:TA}
def a87 (C:AA)(E:XK)(t:TA):TS:=fun _ σ H=>t σ H fun vs H1=>vs.length≤sizeLine∧∀ ea,E (.ref C) (some ea) H1
theorem xM (hxe:∀(pins:List (AA×Obj)) (σ:St) (H:Hp) (s:AC) (h':AH) (e:AA) (vs:List AB),Inv X pins σ H s→AH.MadeExcOf s.heap h' e (.ref C) vs→(∀ ea,E (.ref C) (some ea) H)→X.xe (.ref e) { s with heap:=h' })
  (hcalm:X.calm=true) (hg:Gl X x) (hm:X.mg x=some (.ref C)) (z:excIn X.K C bmB newId=true) (FB:ExcBaseFacts B newId initId bmB) (ha:PA X [e0] t)
  (he:Ak [e0] X.env=[(false,Aa e0 X.env)]:=by rfl) (hd:(x==("__debug__" : Str))=false:=by decide) :
  PS X (.Raise (some (.Call (.Name x np) [e0] [] cpos)) none pos) (a87 C E t):=by
 intro pins s σ H D I h;obtain⟨bm,Nn,nm,q,bs,hdct,sn,sub,ab,col,dd,k0,k1,k2,k3,k5,mN,hC,hN,hni,T,hl⟩:=a8B I.mod.kin z;refine wpAny_Raise_call_subT (C:=C) (nm:=nm) (q:=q) (N:=Nn) (bs:=bs) (bm:=bm) (hdct:=hdct) (sn:=sn) (sub:=sub) (ab:=ab) (col:=col) (dd:=dd) (k0:=k0) (k1:=k1) (k2:=k2) (k3:=k3) (k5:=k5)
  FB (mN:=mN) (T.hasType FB.hasBase) (I.ok.hd hcalm) (by rw[he]; rfl) hni (vB I hg hm ⟨rfl,?_⟩ hd)
 have hh:=ha cpos pins s σ H _ I h;rw[he] at hh ⊢;refine Eh (C7 hh (fun vs s2 h2=>?_) fun _ _ y=>y);obtain⟨ws,H1,I1,r1,hw,hE⟩:=h2;exact⟨rfl,by rw[← r1.length]; exact hw,I1.bk _ _ hC,hN.keeps I1.bk,T.keeps I1.bk,fun h' e hx=>hxe pins σ H1 s2 h' e vs I1 hx hE⟩
end
theorem Fun.ok1 {P:AQ}{w:AL}{K:Fg}{mg:Mg}{base:AH}{x qual:Str}{st:AS}{f:AA}{fd:Ag}{N ps:List Str}{k:Nat}{sp:Sp}(F:Fun K x qual st f fd)(S:FnScope N ps (bK st))(len:∀ vs H Q E,sp vs H Q E→vs.length=ps.length)
  (hb:∀(cdv:AB) (A:AR) (outer:List Env) (s:AC) (H:Hp) (vs:List V) (Q:VK) (E:XK),Room k (A.deeper (Ba qual (bK st) s.heap.objs.size f cdv))→sp vs H Q E →
   ∃ t,PSs (a4L (CX1 P w) P w K mg base N qual (bK st) f cdv A outer s H E) (gP st) t∧t { nx:=fun _ H'=>Q .non H',rt:=Q } (start N vs) H):FnOk P w K mg base (CX1 P w) (k+1) f fd ps sp:=by
 obtain⟨oc,od,kV,doc,pm,an,cdv,ct,osl,rfl,lk,hcd⟩:=F.ex;exact a9F lk hcd S len fun A outer s H vs Q E hr hsp=>hb cdv A outer s H vs Q E hr hsp
end L2
namespace L2
open PySem PySem.Spec PyProof.Rows
set_option maxRecDepth 100000
section
variable {prog:AQ}{w:AL}{A:AR}{E:AB→AC→Prop}{h:AH}{g:Array GenState}{d:Drawn}{t:Nat}{os:OsState}{a:AA}{o:Obj}
 {nm q:Str} {C N:AA} {bs bm:List AB} {hdct:Bool} {sn:List Str} {sub:List AB} {ab:Bool} {col:Option Bool} {dd:Option AA} {k0 k1 k2 k3 k5:Option AB} {newId:String}
end
def aCO:List AB:=[.type "ValueError", .type "Exception", .type "BaseException", .type "object"]
structure XCls (K:Fg)(C:AA):Prop where
 ex:excIn K C aCO "ValueError.__new__" = true
 l1:Ax K (.ref C) "__class__" = some (some (.builtin "object.__class__"))
 l2:Ax K (.ref C) "__getattribute__" = some (some (.builtin "BaseException.__getattribute__"))
 l3:Ax K (.ref C) "__getattr__" = some none
end L2
namespace L2
open PySem PySem.Spec PyProof.Rows
section
variable {X:Cx}{pins:List (AA×Obj)}{σ:St}{H:Hp}{s:AC}
end
section
variable {X:Cx}{k:Nat}{f C D0:AA}{fd:Ag}{ps:List Str}{sp:Sp}{x lx ex cx:Str}{p cp ep lp p1 p2 p3 hp pos:Pos}{e:AN}{es:List AN}{t:TA}{i j:Nat}
end
end L2
namespace L2
open PySem PySem.Spec PyProof.Rows
namespace VS
variable {P0:AA→Hp→Prop}
end VS
end L2
namespace L2
open PySem PySem.Spec PyProof.Rows
@[irreducible] def PSi (X:Cx) (L:List AS) (t:TS):Prop:=PSs X L t
@[irreducible] def PSd (X:Cx) (st:AS) (t:TS):Prop:=PS X st t
@[irreducible] def PEd (X:Cx) (e:AN) (t:TE):Prop:=PE X e t
@[irreducible] def PAd (X:Cx) (es:List AN) (t:TA):Prop:=PA X es t
section
variable {X:Cx}{L rest:List AS}{st:AS}{t u:TS}{e a b:AN}{es:List AN}{te ta tb:TE}{tl:TA}{pos:Pos}
end
end L2
namespace L2.VS
open PySem PySem.Spec PyProof.Rows
section
variable {P0:AA→Hp→Prop}{S:Type}
structure Fam (S:Type) where
 box:AA→S→Bx
 pin:∀{p s v fp G H},(box p s).P v fp G H→v=.ref p
def RvP (G H:Hp)(v:V)(fp:List AA):Rv→Prop
 | .val d=>fp=[]∧Dt G v d
 | .own ds=>∃ p vs,fp=[p]∧v=.ref p∧H p=some (.lst vs)∧Dts G vs ds
 | .box B=>B.P v fp G H
section
variable {G G' H H':Hp}{v:V}{fp fp':List AA}
theorem RvP.mono (g:Same G G'):∀{rv:Rv},RvP G H v fp rv→RvP G' H v fp rv
 | .val _,h=>⟨h.1,Dt.same g _ _ h.2⟩
 | .own _,h=>let ⟨p,vs,a,b,c,d⟩:=h; ⟨p,vs,a,b,c,Dts.same g _ _ d⟩
 | .box B,h=>B.mono g h
theorem RvP.loc (k:∀ b∈fp,H' b=H b):∀{rv:Rv},RvP G H v fp rv→RvP G H' v fp rv
 | .val _,h=>h
 | .own _,h=>let ⟨p,vs,a,b,c,d⟩:=h; ⟨p,vs,a,b,(k p (by rw[a]; exact Ac.mpr rfl)).trans c,d⟩
 | .box B,h=>B.loc k h
theorem RvP.dom:∀{rv:Rv},RvP G H v fp rv→∀ b∈fp,∃ o,H b=some o
 | .val _,h=>fun b hb=>by rw[h.1] at hb; cases hb
 | .own _,h=>fun b hb=>by
  obtain⟨p,vs,a,_,c,_⟩:=h;rw[a] at hb;rw[Ac.mp hb];exact⟨_,c⟩
 | .box B,h=>B.dom h
theorem RvP.uniq:∀{rv:Rv},RvP G H v fp rv→RvP G H v fp' rv→fp=fp'
 | .val _,h,g=>h.1.trans g.1.symm
 | .own _,h,g=>by
  obtain⟨p,_,a,b,_⟩:=h;obtain⟨q,_,c,d,_⟩:=g;rw[b] at d
  cases d
  rw[a,c]
 | .box B,h,g=>B.uniq h g
theorem RvP.nt:∀{rv:Rv},RvP G H v fp rv→∀ b∈fp,∀ xs,H b=some (.tup xs)→∃ q∈fp,V.ref q∈xs∧∃ vs,H q=some (.lst vs)
 | .val _,h=>fun b hb=>by rw[h.1] at hb; cases hb
 | .own _,h=>fun b hb xs e=>by
  obtain⟨p,vs,a,_,c,_⟩:=h;rw[a] at hb;rw[Ac.mp hb,c] at e
  cases e
 | .box B,h=>B.nt h
end
def bKp (W:Fam S)(rv:Rv)(p:AA)(s:S):Bx where
 P:=fun v fp G H=>∃ f1 f2,fp=f1++f2∧RvP G H v f1 rv∧(W.box p s).P (.ref p) f2 G H∧∀ b∈f1,b∉f2
 mono:=fun g ⟨f1,f2,e,a,b,c⟩=>⟨f1,f2,e,a.mono g,(W.box p s).mono g b,c⟩
 loc:=fun k ⟨f1,f2,e,a,b,c⟩=>⟨f1,f2,e,a.loc fun x hx=>k x (by rw[e]; exact BO _ hx),(W.box p s).loc (fun x hx=>k x (by rw[e]; exact BE _ hx)) b,c⟩
 dom:=fun⟨f1,f2,e,a,b,c⟩ x hx=>by
  rw[e] at hx;exact(A7.mp hx).elim (a.dom x) ((W.box p s).dom b x)
 uniq:=fun⟨f1,f2,e,a,b,_⟩ ⟨g1,g2,e',a',b',_⟩=>by rw[e,e',a.uniq a',(W.box p s).uniq b b']
 nt:=fun⟨f1,f2,e,a,b,_⟩ x hx xs z=>by
  rw[e] at hx;rcases A7.mp hx with h|h
  ·obtain⟨q,h1,h2⟩:=a.nt x h xs z;exact⟨q,by rw[e]; exact BO _ h1,h2⟩
  ·obtain⟨q,h1,h2⟩:=(W.box p s).nt b x h xs z;exact⟨q,by rw[e]; exact BE _ h1,h2⟩
 view:=none
 vok:=fun _ z=>nomatch z
def a0J (W:Fam S)(m:MO):MS:=fun Γ Q=>m Γ fun rv Γ1=>∃ p s,Γ1[0]?=some (.box (W.box p s))∧Q (.rt (.box (bKp W rv p s)))
theorem v4 {W:Fam S}{A:Nat→Bool}{t:TE}{m:MO}(h:VO P0 t m):VSA P0 A (aAX t) (a0J W m):=by
 intro F Γ σ G H E Qm r hm k;refine h F Γ σ G H _ _ r hm fun rv Γ1 v G1 H1 m1 s1 r1 v1 a1=>?_;obtain⟨p,s,e,q⟩:=m1;obtain⟨fps,h1,h2⟩:=r1.fps;have h0:=h1 0 _ e;obtain⟨w,ew,pw,nw⟩:=id h0;have z:=W.pin pw;subst z;refine k _ q v G1 H1 s1 r1.fr ?_
 cases rv with
 | val d=>exact⟨_,⟨[],fps 0,rfl,⟨rfl,v1⟩,pw,fun b hb=>nomatch hb⟩,nw⟩
 | own ds=>
  obtain⟨u,vs,rfl,e1,e2,e3,e4⟩:=v1;refine⟨_,⟨[u],fps 0,rfl,⟨u,vs,rfl,rfl,e3,e4⟩,pw,fun b hb=>?_⟩,fun b hb=>?_⟩
  ·rw[Ac.mp hb];exact a1 0 _ _ e h0 u rfl
  ·rcases A7.mp hb with hb|hb
   ·rw[Ac.mp hb];exact⟨e1,e2⟩
   ·exact nw b hb
 | box B=>
  obtain⟨fp,e1,e2⟩:=v1;refine⟨_,⟨fp,fps 0,rfl,e1,pw,fun b hb=>a1 0 _ _ fp e h0 e1 b hb⟩,fun b hb=>?_⟩;rcases A7.mp hb with hb|hb
  ·exact e2 b hb
  ·exact nw b hb
abbrev Lm (S:Type):=AA→S→List Sl→(Rv→S→Prop)→Prop
def a9T (W:Fam S)(n:Nat)(b:MS):Lm S:=fun p s as Q=>b (.box (W.box p s)::(as++At n .no)) fun fl=>match fl with
 | .rt rv=>∃ rv0 s',rv=.box (bKp W rv0 p s')∧Q rv0 s'
 | .nx Γ=>∃ s',Γ[0]?=some (.box (W.box p s'))∧Q (.val .none) s'
 | _=>False
def spL (P0:AA→Hp→Prop)(W:Fam S)(n:Nat)(f:Lm S):Sp:=fun vs H Q _=>∃(F:Fra P0) (p:AA) (s:S) (fp:List AA) (ws:List V) (as:List Sl) (Qm:Rv→S→Prop),vs=.ref p::ws∧(∀ b,F.H0 b=if b∈fp then none else H b)∧Rf F F.G0 H ∧
 (W.box p s).P (.ref p) fp F.G0 H∧(∀ b∈fp,F.G0 b=none)∧AX (oF F F.G0) ws as∧as.length+1=n∧f p s as Qm ∧
 ∀ rv s' r f1 f2 G' H',Qm rv s'→Rf F G' H'→RvP G' H' r f1 rv→(W.box p s').P (.ref p) f2 G' H'→(∀ b∈f1,b∉f2)→(∀ b∈f1++f2,F.H0 b=none∧G' b=none)→Q r H'
theorem a7T {F:Fra P0}{G:Hp}{ws:List V}{as:List Sl}{i k m:Nat}{s:Sl}(pr:AX (oF F G) ws as)(e:(as++At k Sl.no)[i]?=some s)(hne:s≠.no) :
  ∃ v,(ws.map some++At m none)[i]?=some (some v)∧oF F G v s:=by
 induction pr generalizing i with
 | nil=>
  rw[List.nil_append,Ct] at e
  split at e
  ·cases e; exact absurd rfl hne
  ·cases e
 | cons a b ih=>
  cases i with
  | zero=>cases e; exact⟨_,rfl,a⟩
  | succ i=>exact ih e
theorem a1X {W:Fam S}{n k:Nat}{N:List Str}{t:TS}{b:MS}(h:VS P0 t b)(hN:N.length=n+k){vs:List V}{H:Hp}{Q:VK}{E:XK}(hs:spL P0 W n (a9T W k b) vs H Q E) :
  t { nx:=fun _ H'=>Q .non H',rt:=Q } (start N vs) H:=by
 obtain⟨F,p,s,fp,ws,as,Qm,rfl,hH,rf,hP,hG,pr,hl,hm,q⟩:=hs;have hlen:ws.length=as.length:=AX.length pr;have r:R F (.box (W.box p s)::(as++At k .no)) (start N (.ref p::ws)) F.G0 H:=by
  refine⟨rf,?_,fun i=>if i=0 then fp else[],fun i u e=>?_,fun i j u z _ _ hij b hb hc=>?_⟩
  ·unfold start;simp only[Aw,A6,D9,A3];omega
  ·cases i with
   | zero=>
    cases e
    exact⟨.ref p,rfl,hP,fun b hb=>⟨by have hb:b∈fp:=hb; rw[hH,if_pos hb],hG b hb⟩⟩
   | succ i=>
    have e:(as++At k Sl.no)[i]?=some u:=e;have at_:u≠.no→∃ v,(start N (.ref p::ws))[i+1]?=some (some v)∧oF F F.G0 v u:=fun hne=>by
     obtain⟨v,ev,av⟩:=a7T (m:=N.length-(ws.length+1)) pr e hne;exact⟨v,ev,av⟩
    cases u with
    | no=>rfl
    | val d=>
     obtain⟨v,ev,av⟩:=at_ (by intro z; cases z)
     exact⟨rfl,v,ev,av⟩
    | own ds=>
     obtain⟨v,ev,av⟩:=at_ (by intro z; cases z)
     exact av.elim
    | pen=>
     obtain⟨v,ev,q,rfl,eq⟩:=at_ (by intro z; cases z)
     exact⟨rfl,q,ev,eq⟩
    | con q=>
     obtain⟨v,ev,av⟩:=at_ (by intro z; cases z)
     have av:v=.ref q:=av;rw[av] at ev;exact⟨rfl,ev⟩
    | pub B=>
     obtain⟨v,ev,av⟩:=at_ (by intro z; cases z)
     exact⟨rfl,v,ev,av⟩
    | box B=>
     obtain⟨v,ev,av⟩:=at_ (by intro z; cases z)
     exact av.elim
  ·dsimp only at hb hc
   split at hb
   ·rename_i hi
    split at hc
    ·rename_i hj; exact hij (hi.trans hj.symm)
    ·cases hc
   ·cases hb
 refine h F _ _ _ _ _ _ r hm fun fl hq=>?_
 cases fl with
 | nx Γ=>
  intro σ G' H' _ r' _;obtain⟨s',e,hq⟩:=hq;obtain⟨fps,h1,_⟩:=r'.fps;obtain⟨w,ew,pw,nw⟩:=h1 0 _ e;have z:=W.pin pw;subst z;exact q _ _ _ [] _ _ _ hq r'.fr ⟨rfl,.non⟩ pw (fun b hb=>nomatch hb) nw
 | rt rv=>
  intro v G' H' _ f' v';obtain⟨rv0,s',rfl,hq⟩:=hq;obtain⟨g,⟨f1,f2,rfl,a,b,c⟩,d⟩:=v';exact q _ _ _ _ _ _ _ hq f' a b c d
 | bk Γ=>exact hq.elim
 | ct Γ=>exact hq.elim
theorem a72 {W:Fam S}{n:Nat}{f:Lm S}{ps:List Str}(h:ps.length=n):∀ vs H Q E,spL P0 W n f vs H Q E→vs.length=ps.length:=by
 rintro vs H Q E ⟨F,p,s,fp,ws,as,Qm,rfl,_,_,_,_,pr,hl,_⟩;rw[Aw,AX.length pr,hl,h]
theorem _root_.L2.Fun.okL {P:AQ}{w:AL}{K:Fg}{mg:Mg}{base:AH}{x qual:Str}{st:AS}{f:AA}{fd:Ag}{N ps:List Str}{k n j:Nat}{b:MS}{W:Fam S}
  (F:Fun K x qual st f fd) (S0:FnScope N ps (bK st)) (hn:ps.length=n) (hN:N.length=n+j)
  (hb:∀(cdv:AB) (A:AR) (outer:List Env) (s:AC) (H:Hp) (E:XK),Room k (A.deeper (Ba qual (bK st) s.heap.objs.size f cdv)) →
   SsX P0 (a4L CX0 P w K mg base N qual (bK st) f cdv A outer s H E).nox (gP st) b):FnOk P w K mg base CX0 (k+1) f fd ps (spL P0 W n (a9T W j b)):=by
 refine F.ok S0 (a72 hn) fun cdv A outer s H vs Q E hr hs=>?_;obtain⟨t,h1,h2⟩:=hb cdv A outer s H E hr;exact⟨t,h1,a1X h2 hN hs⟩
def fC (W:Fam S)(n:Nat)(f:Lm S)(i:Nat)(m:MA):MO:=fun Γ Q=>∃ p,(∃ s,Γ[i]?=some (.box (W.box p s)))∧m Γ fun as Γ1=>∃ s1,Γ1[i]?=some (.box (W.box p s1))∧as.length+1=n∧f p s1 as fun rv s'=>Q rv (Γ1.set i (.box (W.box p s')))
def Fra.less (F:Fra P0){G H:Hp}(r:Rf F G H)(fp:List AA)(hf:∀ b∈fp,F.H0 b=none):Fra P0 where
 H0:=fun b=>if b∈fp then none else H b
 G0:=G
 pen:=F.pen
 stab:=fun p e H1 H2 h=>F.stab p e H1 H2 fun b o z=>by
  obtain⟨o',e'⟩:=r.dom z;exact h b o' (by rw[if_neg (fun hb=>by rw[hf b hb] at z; cases z)]; exact e')
 pin:=F.pin
 pin0:=fun p e=>by
  obtain⟨o,z⟩:=F.pin0 p e;obtain⟨o',e'⟩:=F.pin p e H (r.pn p e);exact⟨o',by rw[if_neg (fun hb=>by rw[hf p hb] at z; cases z)]; exact e'⟩
 pg:=fun p e=>by
  obtain⟨o,e0⟩:=F.pin0 p e;rw[r.g0 p o e0];exact F.pg p e
theorem dJ {W:Fam S}{n i:Nat}{f:Lm S}{t:TA}{m:MA}{E:XK}(h:VA P0 t m):VO P0 (a0T (spL P0 W n f) [] E (jX (yC i) t)) (fC W n f i m):=by
 intro F Γ σ G H Q Qm r hm k;obtain⟨p,⟨s,e⟩,hm⟩:=hm;obtain⟨fps0,g1,_⟩:=r.fps;obtain⟨w,ew,pw,_⟩:=g1 i _ e;have z:=W.pin pw;subst z;refine⟨.ref p,ew,h F Γ σ G H _ _ r hm fun as Γ1 rs G1 H1 m1 s1 r1 d1=>?_⟩;obtain⟨s1',e1,hl,hf⟩:=m1;obtain⟨fps,h1,h2⟩:=r1.fps;have hi:=h1 i _ e1;obtain⟨w,ew',pw',nw⟩:=id hi;have z:=W.pin pw';subst z;have hF:∀ b∈fps i,F.H0 b=none:=fun b hb=>(nw b hb).1;have inH:∀ b o,F.H0 b=some o→(if b∈fps i then none else H1 b)≠none:=fun b o z=>by
  obtain⟨o',e'⟩:=r1.fr.dom z;rw[if_neg (fun hb=>by rw[hF b hb] at z; cases z),e'];exact fun y=>nomatch y
 refine⟨F.less r1.fr (fps i) hF,p,s1',fps i,rs,as,fun rv s'=>Qm rv (Γ1.set i (.box (W.box p s'))),by rw[Cd],fun b=>rfl,
  ⟨r1.fr.sub,fun _ _ _=>rfl,fun b o z _=>?_,r1.fr.pn⟩,pw',fun b hb=>(nw b hb).2,AX.imp' (fun a s h=>by cases s<;>exact h) d1,hl,hf,fun rv s' v f1 f2 G' H' hq f' a b c d=>?_⟩
 ·have z:(if b∈fps i then none else H1 b)=some o:=z
  split at z
  ·cases z
  ·exact z
 ·have h0:∀ b,(F.less r1.fr (fps i) hF).H0 b=if b∈fps i then none else H1 b:=fun _=>rfl
  have nF:∀ b,(F.less r1.fr (fps i) hF).H0 b=none→F.H0 b=none:=fun b z=>by
   cases y:F.H0 b with
   | none=>rfl
   | some o=>exact absurd z (inH b o y)
  have sG:Same G1 G':=fun b o z=>by
   have hH:=r1.fr.sub b o z;have hb:b∉fps i:=fun hb=>by rw[(nw b hb).2] at z; cases z
   have y:=f'.g0 b o (by rw[h0,if_neg hb]; exact hH);exact y.trans z
  have rf:Rf F G' H':=by
   refine⟨f'.sub,fun b o z=>?_,fun b o z hb=>?_,f'.pn⟩
   ·obtain⟨o',e'⟩:=r1.fr.dom z;have hb:b∉fps i:=fun hb=>by rw[hF b hb] at z; cases z
    exact(f'.g0 b o' (by rw[h0,if_neg hb]; exact e')).trans (r1.fr.g0 b o z)
   ·have hb':b∉fps i:=fun hb=>by rw[hF b hb] at z; cases z
    exact f'.h0 b o (by rw[h0,if_neg hb']; exact r1.fr.h0 b o z hb) hb
  have oth:∀(j:Nat) (u:Sl),j≠i→Γ1[j]?=some u→∀ b∈fps j,(F.less r1.fr (fps i) hF).H0 b≠none∧G' b=none∧H' b=H1 b:=fun j u hj ej b hb=>by
   obtain⟨m1,m2,o,m3⟩:=(h1 j u ej).mine hb;have hb':=h2 j i u _ ej e1 hj b hb;have y:(F.less r1.fr (fps i) hF).H0 b=some o:=by rw[h0,if_neg hb']; exact m3
   refine⟨by rw[y]; exact(fun z=>nomatch z),(f'.g0 b o y).trans m2,?_⟩;rw[m3];exact f'.h0 b o y (F.pen_ne m1)
  have back:∀(j:Nat) (u:Sl),j≠i→(Γ1.set i (.box (W.box p s')))[j]?=some u→Γ1[j]?=some u:=fun j u hj ej=>by rw[BS (Ne.symm hj)] at ej; exact ej
  have hil:i<Γ1.length:=(A4.mp e1).1;have new:R F (Γ1.set i (.box (W.box p s'))) σ G' H':=by
   refine⟨rf,by rw[Bu]; exact r1.len,fun j=>if j=i then f2 else fps j,fun j u ej=>?_,fun j l u z ej el hjl b hb hc=>?_⟩
   ·dsimp only
    by_cases hj:j=i
    ·subst hj;rw[if_pos rfl];rw[BJ hil] at ej
     cases ej
     exact⟨.ref p,ew',b,fun x hx=>⟨nF x (d x (BE _ hx)).1,(d x (BE _ hx)).2⟩⟩
    ·rw[if_neg hj];have ej:=back j u hj ej;exact(h1 j u ej).go sG fun x hx=>(oth j u hj ej x hx).2
   ·dsimp only at hb hc
    by_cases hj:j=i
    ·rw[if_pos hj] at hb;have hl':l≠i:=fun y=>hjl (hj.trans y.symm);rw[if_neg hl'] at hc;exact(oth l z hl' (back l z hl' el) b hc).1 (d b (BE _ hb)).1
    ·rw[if_neg hj] at hb
     by_cases hl':l=i
     ·rw[if_pos hl'] at hc;exact(oth j u hj (back j u hj ej) b hb).1 (d b (BE _ hc)).1
     ·rw[if_neg hl'] at hc;exact h2 j l u z (back j u hj ej) (back l z hl' el) hjl b hb hc
  have apart:∀(j:Nat) (u:Sl) (fp:List AA),(Γ1.set i (.box (W.box p s')))[j]?=some u→SlF F G' H' σ[j]? fp u→∀ x∈f1,x∉fp:=fun j u fp ej hu x hx hxf=>by
   by_cases hj:j=i
   ·subst hj;rw[BJ hil] at ej
    cases ej
    obtain⟨w,ew2,pw2,_⟩:=hu;rw[ew'] at ew2
    cases ew2
    rw[(W.box p s').uniq pw2 b] at hxf;exact c x hx hxf
   ·have ej:=back j u hj ej;have y:=SlF.det hu ((h1 j u ej).go sG fun x hx=>(oth j u hj ej x hx).2);rw[y] at hxf;exact(oth j u hj ej x hxf).1 (d x (BO _ hx)).1
  refine k rv _ v G' H' hq (s1.trans sG) new ?_ ?_
  ·cases rv with
   | val d'=>exact a.2
   | own ds=>
    obtain⟨u,vs,e2,e3,e4,e5⟩:=a;have hu:=d u (BO _ (by rw[e2]; exact Ac.mpr rfl));exact⟨u,vs,e3,nF u hu.1,hu.2,e4,e5⟩
   | box B=>exact⟨f1,a,fun x hx=>⟨nF x (d x (BO _ hx)).1,(d x (BO _ hx)).2⟩⟩
  ·cases rv with
   | val d'=>trivial
   | own ds=>
    intro j u fp ej hu y ey hy;obtain⟨u',vs,e2,e3,e4,e5⟩:=a;rw[e3] at ey
    cases ey
    exact apart j u fp ej hu _ (by rw[e2]; exact Ac.mpr rfl) hy
   | box B=>
    intro j u fp g ej hu hg x hx;have y:g=f1:=B.uniq hg a;rw[y] at hx;exact apart j u fp ej hu x hx
end
section
variable {P0:AA→Hp→Prop}
def aBX (p:AA)(n:Nat)(H:Hp):Prop:=∃ z c k:Int,H p=some (.lst [.int z,.int c,.int k])∧0≤z∧0≤c∧c<1099511627776∧0≤k∧k≤(n:Int)
def penF:Fam Nat where
  box:=fun p n=>
    { P:=fun v fp _ H=>v=.ref p∧fp=[p]∧aBX p n H
      mono:=fun _ h=>h
      loc:=fun k ⟨a,b,z,c,m,e,r⟩=>⟨a,b,z,c,m,(k p (by rw[b]; exact Ac.mpr rfl)).trans e,r⟩
      dom:=fun⟨_,b,z,c,m,e,_⟩ x hx=>by
        rw[b] at hx;rw[Ac.mp hx];exact⟨_,e⟩
      uniq:=fun h g=>h.2.1.trans g.2.1.symm
      nt:=fun⟨_,b,z,c,m,e,_⟩ x hx xs y=>by
        rw[b] at hx;rw[Ac.mp hx,e] at y
        cases y
      view:=none
      vok:=fun _ z=>nomatch z }
  pin:=fun h=>h.1
def a0S:Sp:=fun vs H Q _=>∃(pen:AA) (m z c k:Int) (n:Nat),vs=[.ref pen,.int m]∧H pen=some (.lst [.int z,.int c,.int k])∧0≤z∧0≤c∧c<1099511627776∧0≤k∧k≤(n:Int)∧n<1000000000∧0<m∧m<1073741824 ∧
 ∀(r:Int) (H':Hp),0≤r→r<m→aBX pen (n+1) H'→a0G pen H H'→Q (.int r) H'
def fG:Lm Nat:=fun _ n as Q=>match as with
 | [.val (.int m)]=>0<m∧m<1073741824∧n<1000000000∧∀ r:Int,0≤r→r<m→Q (.val (.int r)) (n+1)
 | _=>False
theorem a3K:∀ vs H Q E,spL P0 penF 2 fG vs H Q E→a0S vs H Q E:=by
 rintro vs H Q E ⟨F,p,n,fp,ws,as,Qm,rfl,hH,rf,hP,hG,pr,hl,hm,q⟩;unfold fG at hm
 split at hm
 ·rename_i m
  cases pr with
  | cons a1 b1=>
   cases b1
   have a1:Dt F.G0 _ (.int m):=a1
   cases a1
   obtain⟨_,rfl,z,c,k,e,hz,hc,hc2,hk,hkn⟩:=hP;refine⟨p,m,z,c,k,n,rfl,e,hz,hc,hc2,hk,hkn,hm.2.2.1,hm.1,hm.2.1,fun r H' r0 r1 hp hx=>?_⟩;have nb:∀ b o,F.H0 b=some o→b≠p∧H b=some o:=fun b o y=>by
    rw[hH] at y
    split at y
    ·cases y
    ·rename_i hb
     exact⟨fun w=>hb (by rw[w]; exact Ac.mpr rfl),y⟩
   refine q _ _ _ [] [p] F.G0 H' (hm.2.2.2 r r0 r1) ⟨fun b o y=>hx b o (fun w=>?_) (rf.sub b o y),fun _ _ _=>rfl,fun b o y _=>hx b o (nb b o y).1 (nb b o y).2,F.stab' H H' (fun b o y=>?_) rf.pn⟩ ⟨rfl,.int _⟩ ⟨rfl,rfl,hp⟩ (fun b hb=>nomatch hb) fun b hb=>?_
   ·rw[w,hG p (Ac.mpr rfl)] at y; cases y
   ·rw[(nb b o y).2]; exact hx b o (nb b o y).1 (nb b o y).2
   ·have hb:b∈[p]:=hb;refine⟨by rw[hH,if_pos hb],hG b hb⟩
 ·exact hm.elim
theorem fJ {p:AA}{n:Nat}{m:Int}{Q:Rv→Nat→Prop}(h1:0<m)(h2:m<1073741824)(hn:n<1000000000)(h:∀ r:Int,0≤r→r<m→Q (.val (.int r)) (n+1)):fG p n [.val (.int m)] Q:=⟨h1,h2,hn,h⟩
theorem aAK {S:Type}{W:Fam S}{n:Nat}{b:MS}{p:AA}{s:S}{as:List Sl}{Q:Rv→S→Prop}(h:b (.box (W.box p s)::(as++At n .no)) fun fl=>match fl with
 | .rt rv=>∃ rv0 s',rv=.box (bKp W rv0 p s')∧Q rv0 s'
 | .nx Γ=>∃ s',Γ[0]?=some (.box (W.box p s'))∧Q (.val .none) s'
 | _=>False):a9T W n b p s as Q:=h
end
section
variable {P0:AA→Hp→Prop}
def a9S (ma mb:ME):ME:=fun Γ Q=>ma Γ fun x Γ1=>mb Γ1 fun y Γ2=>∃ ns ms:List Int,x=.tuple (ns.map .int)∧y=.tuple (ms.map .int)∧Q (.bool (HT.lexLt ns ms)) Γ2
theorem jZ {G:Hp}:∀{ns:List Int} {vs:List V},Dts G vs (ns.map .int)→vs=ns.map V.int
 | [],_,h=>by cases h; rfl
 | n::ns,_,h=>by
  cases h with
  | cons h1 h2=>
   cases h1
   rw[jZ h2];rfl
theorem a4V {K:Fg}{ta tb:TE}{ma mb:ME}(ha:VT P0 ta ma)(hb:VT P0 tb mb):VT P0 (tOp (aBW K) ta tb) (a9S ma mb):=by
 refine a7F (m2:=fun x y Q=>∃ ns ms:List Int,x=.tuple (ns.map .int)∧y=.tuple (ms.map .int)∧Q (.bool (HT.lexLt ns ms))) ha hb fun F Γ σ G H x y d e Q Qm r d1 d2 m k=>?_;obtain⟨ns,ms,rfl,rfl,q⟩:=m
 cases d1 with
 | tup h1 r1=>
  cases d2 with
  | tup h2 r2=>
   rw[jZ r1] at h1;rw[jZ r2] at h2;exact⟨_,_,ns,ms,rfl,rfl,.of (r.fr.sub _ _ h1),.of (r.fr.sub _ _ h2),k _ _ _ _ q (Same.refl _) r (.bl _)⟩
theorem aAM {ma mb:ME}{Γ:En}{Q:D→En→Prop}(h:ma Γ fun x Γ1=>mb Γ1 fun y Γ2=>∃ ns ms:List Int,x=.tuple (ns.map .int)∧y=.tuple (ms.map .int)∧Q (.bool (HT.lexLt ns ms)) Γ2):a9S ma mb Γ Q:=h
end
section
abbrev NoP:AA→Hp→Prop:=fun _ _=>False
def xG (K:Fg):Sp:=fun vs H Q _=>∃(a:AA) (ns:List Int) (j:Int),vs=[.ref a,.int j]∧SqL K H a (ns.map V.int)∧0≤j∧j<1000∧∀ p z c,H p=none→0≤z→0≤c→c<1099511627776→Q (.ref p) (upd H p (.lst [.int z,.int c,.int 1]))
theorem law_goC {k:Nat}{t:TS}{b:MS}{H:Hp}{a pen:AA}{z c:Int}{Q:VK}{nx:St→Hp→Prop}(h:VS NoP t b)(hp:H pen=none)(hz:0≤z)(hc:0≤c)(hc2:c<1099511627776)
    (hb:b (.no::.box (penF.box pen 1)::At k .no) iW) (q:∀ H',Q (.bl true) H') :
    t { nx:=nx,rt:=Q } (some (.ref a)::some (.ref pen)::At k none) (upd H pen (.lst [.int z,.int c,.int 1])):=by
  have g:=gZ hp (.lst [.int z,.int c,.int 1])
  let F:Fra NoP:=
    { H0:=H
      G0:=fun _=>none
      pen:=none
      stab:=fun p e=>nomatch e
      pin:=fun p e=>nomatch e
      pin0:=fun p e=>nomatch e
      pg:=fun _ _=>rfl }
  have r:R F (.no::.box (penF.box pen 1)::At k .no) (some (.ref a)::some (.ref pen)::At k none) F.G0 (upd H pen (.lst [.int z,.int c,.int 1])):=by
    refine⟨⟨fun b o e=>(nomatch e),fun _ _ _=>rfl,fun b o e _=>g b o e,fun p e=>nomatch e⟩,by simp,fun i=>if i=1 then[pen] else[],fun i s e=>?_,fun i j s u _ _ hij b hb hc=>?_⟩
    · match i with
      | 0=>cases e; rfl
      | 1=>
        cases e
        refine⟨.ref pen,rfl,⟨rfl,rfl,z,c,1,bQ,hz,hc,hc2,by decide,by decide⟩,fun b hb=>?_⟩;have hb:b∈[pen]:=hb;rw[Ac.mp hb];exact⟨hp,rfl⟩
      | i+2=>
        have e':(At k Sl.no)[i]?=some s:=by simpa using e
        rw[Ct] at e'
        split at e'
        · cases e'; rfl
        · cases e'
    · dsimp only at hb hc
      split at hb
      · rename_i hi
        split at hc
        · rename_i hj; exact hij (hi.trans hj.symm)
        · cases hc
      · cases hb
  refine h F _ _ F.G0 _ _ iW r hb fun fl e=>?_;unfold iW at e;subst e;intro v G' H' _ _ hr;have hr:Dt G' v (.bool true):=hr
  cases hr
  exact q H'
theorem law_bodyC {K:Fg}{a:AA}{ns:List Int}{k:Nat}{j:Int}{b:MS}{H:Hp}{Q:VK}{nx:St→Hp→Prop}{X:Cx}{st:AS}{rest:List AS}{N:List Str}(hj:0≤j∧j<1000)
  (h1:PS X st (a9R (a0T (xG K) [] E0 (jX (yC 0) (jX (tC (.int j)) tM))) (a07 1))) (h2:∃ t,PSs X rest t∧VS NoP t b) (hN:N.length=k+2) (hS:SqL K H a (ns.map V.int))
  (hb:∀ pen,b (.no::.box (penF.box pen 1)::At k .no) iW) (q:∀ H',Q (.bl true) H'):∃ t,PSs X (st::rest) t∧t { nx:=nx,rt:=Q } (start N [.ref a]) H:=by
 obtain⟨t,h2,h3⟩:=h2;refine⟨_,aF h1 h2,?_⟩;have e:start N [.ref a]=some (.ref a)::none::At k none:=by
  unfold start;rw[hN];rfl
 rw[e];refine⟨.ref a,rfl,a,ns,j,rfl,hS,hj.1,hj.2,fun p z c hp hz hc hc2=>?_⟩;exact law_goC (t:=t) h3 hp hz hc hc2 (hb p) q
end
section
def a6Z (H:Hp):Fra NoP where
 H0:=H
 G0:=H
 pen:=none
 stab:=fun _ e=>nomatch e
 pin:=fun _ e=>nomatch e
 pin0:=fun _ e=>nomatch e
 pg:=fun _ e=>nomatch e
theorem a0A {H:Hp}:∀{vs:List V} {ds:List D},Dts H vs ds→AX (oF (a6Z H) H) vs (ds.map Sl.val)
 | _,_,.nil=>.nil
 | _,_,.cons a b=>.cons a (a0A b)
theorem wC {n:Nat}{f:Fm}{vs:List V}{ds:List D}{H:Hp}{Q:VK}{E:XK}(Qm:Rv→Prop)(hv:Dts H vs ds)(hl:ds.length=n)(hf:f (ds.map Sl.val) Qm)
  (q:∀ rv r G' H',Qm rv→Same H H'→Same G' H'→RvO (a6Z H) G' H' r rv→Q r H'):spM NoP n f vs H Q E:=
 ⟨a6Z H,_,Qm,rfl,⟨Same.refl _,fun _ _ _=>rfl,fun _ _ e _=>e,fun _ e=>nomatch e⟩,a0A hv,by rw[A3]; exact hl,hf,fun rv r G' H' a b c=>q rv r G' H' a (fun x o e=>b.h0 x o e (fun z=>nomatch z)) b.sub c⟩
def fQ (ds:List D)(k:Nat)(e:D):Bool:=match ds[k]? with
 | some d=>Au d e
 | none=>false
theorem pX {ds:List D}{k:Nat}{e:D}(h:k<ds.length):fQ ds k e=Au ds[k] e:=by
 unfold fQ;rw[Av h]
theorem uJ {ds:List D}{k:Nat}{e:D}(h:ds.length≤k):fQ ds k e=false:=by
 unfold fQ;rw[Ev h]
structure Ins1 (C:AA)(x:Str)(w d l:AA)(vs:List V)(H:Hp):Prop where
 i:H w=some (.ins C d [(x,.ref l)])
 d:H d=some (.own w)
 l:H l=some (.lst vs)
theorem Ins1.same {C w d l:AA}{x:Str}{vs:List V}{H H':Hp}(h:Ins1 C x w d l vs H)(g:Same H H'):Ins1 C x w d l vs H':=⟨g _ _ h.i,g _ _ h.d,g _ _ h.l⟩
theorem Ins1.upd {C w d l:AA}{x:Str}{vs us:List V}{H:Hp}(h:Ins1 C x w d l vs H):Ins1 C x w d l us (upd H l (.lst us)):=by
 refine⟨?_,?_,bQ⟩
 ·rw[bR (a79 h.i h.l (by intro z; cases z))]; exact h.i
 ·rw[bR (a79 h.d h.l (by intro z; cases z))]; exact h.d
theorem pG {H:Hp}:∀{us:List V} {ds:List D} {k:Nat},Dts H us ds→Dts H (us.eraseIdx k) (ds.eraseIdx k)
 | _,_,_,.nil=>.nil
 | _,_,0,.cons _ b=>b
 | _,_,k+1,.cons a b=>.cons a (pG b)
end
end L2.VS
namespace L2
open PySem PySem.Spec PyProof.Rows
section
variable {X:Cx}{k:Nat}{f C D0:AA}{fd:Ag}{ps:List Str}{sp:Sp}{x m lx ex cx:Str}{p cp ep lp p1 p2 p3 hp pos pos' apos:Pos}{o e:AN}{es:List AN}{ta:TE}{t:TA}{i j:Nat}
end
end L2
namespace L2
open PySem PySem.Spec PyProof.Rows
section
variable {X:Cx}{k:Nat}{f C:AA}{fd:Ag}{ps:List Str}{sp:Sp}{m:Str}{cp pos apos:Pos}{o e:AN}{es:List AN}{ta:TE}{t:TA}
end
end L2
namespace L2.VS
open PySem PySem.Spec PyProof.Rows
section
variable {P0:AA→Hp→Prop}
def aAY (C:AA)(x:Str)(w:AA)(ds:List D):Pb where
 P:=fun v G=>v=.ref w∧∃ d l us,Ins1 C x w d l us G∧Dts G us ds
 mono:=fun g ⟨a,d,l,us,b,c⟩=>⟨a,d,l,us,b.same g,Dts.same g _ _ c⟩
def tY (C:AA)(x:Str):Fam (List D) where
  box:=fun w ds=>
    { P:=fun v fp G H=>v=.ref w∧∃ d l us,fp=[w,d,l]∧Ins1 C x w d l us H∧Dts G us ds
      mono:=fun g ⟨a,d,l,us,b,c,e⟩=>⟨a,d,l,us,b,c,Dts.same g _ _ e⟩
      loc:=fun k ⟨a,d,l,us,b,c,e⟩=>by
        refine⟨a,d,l,us,b,⟨?_,?_,?_⟩,e⟩
        · rw[k w (by rw[b]; simp)]; exact c.i
        · rw[k d (by rw[b]; simp)]; exact c.d
        · rw[k l (by rw[b]; simp)]; exact c.l
      dom:=fun⟨_,d,l,us,b,c,_⟩ y hy=>by
        rw[b] at hy;simp only[Aq,CL,or_false] at hy;rcases hy with rfl|rfl|rfl
        · exact⟨_,c.i⟩
        · exact⟨_,c.d⟩
        · exact⟨_,c.l⟩
      uniq:=fun⟨_,d,l,us,b,c,_⟩ ⟨_,d',l',us',b',c',_⟩=>by
        have z:=c.i.symm.trans c'.i;injection z with z;injection z with z1 z2 z3;injection z3 with z3 z4;injection z3 with z5 z6;injection z6 with z6;rw[b,b',z2,z6]
      nt:=fun⟨_,d,l,us,b,c,_⟩ y hy xs z=>by
        rw[b] at hy;simp only[Aq,CL,or_false] at hy;rcases hy with rfl|rfl|rfl
        · rw[c.i] at z; cases z
        · rw[c.d] at z; cases z
        · rw[c.l] at z; cases z
      view:=none
      vok:=fun _ z=>nomatch z
      pv:=some (aAY C x w ds)
      pok:=fun⟨a,d,l,us,b,c,e⟩ z g k=>by
        cases z
        refine⟨a,d,l,us,⟨?_,?_,?_⟩,Dts.same g _ _ e⟩
        · rw[k w (by rw[b]; simp)]; exact c.i
        · rw[k d (by rw[b]; simp)]; exact c.d
        · rw[k l (by rw[b]; simp)]; exact c.l }
  pin:=fun h=>h.1
def a0I (C:AA)(x:Str)(w:AA)(ds:List D)(s:Sl):Prop:=s=.box ((tY C x).box w ds)∨s=.pub (aAY C x w ds)
section
variable {C:AA}{x:Str}{i:Nat}
theorem R.ins {F:Fra P0}{Γ:En}{σ:List (Option V)}{G H:Hp}{w:AA}{ds:List D}{s:Sl}(r:R F Γ σ G H)(e:Γ[i]?=some s)(h:a0I C x w ds s):∃ d l us,σ[i]?=some (some (.ref w))∧Ins1 C x w d l us H∧Dts G us ds:=by
 rcases h with rfl|rfl
 ·obtain⟨v,fp,e1,⟨rfl,d,l,us,_,b,c⟩,_⟩:=r.sl i _ e;exact⟨d,l,us,e1,b,c⟩
 ·obtain⟨v,e1,rfl,d,l,us,b,c⟩:=r.sl i _ e;exact⟨d,l,us,e1,b.same r.fr.sub,c⟩
theorem R.more {F:Fra P0}{Γ:En}{σ:List (Option V)}{G H H':Hp}(r:R F Γ σ G H)(g:Same H H'):R F Γ σ G H':=by
 refine r.keep ⟨fun b o e=>g b o (r.fr.sub b o e),r.fr.g0,fun b o e hb=>g b o (r.fr.h0 b o e hb),F.stab' H H' (fun b o e=>?_) r.fr.pn⟩ (Same.refl _) fun b o _ _ hg hH=>⟨hg,g b o hH⟩;obtain⟨o',e'⟩:=r.fr.dom e;rw[g b o' e',e']
def a8G (C:AA):Sp:=fun vs H Q _=>∃(w d l:AA) (us:List V),vs=[.ref w]∧Ins1 C "kept" w d l us H∧Q (.int (us.length:Int)) H
def v9 (C:AA):Sp:=fun vs H Q _=>∃(w d l:AA) (us:List V) (ds:List D),vs=[.ref w]∧Ins1 C "kept" w d l us H∧Dts H us ds∧Good (.list ds)∧∀ H',Same H H'→Q (us.headD .non) H'
def uY (C:AA)(i:Nat):ME:=fun Γ Q=>∃ w ds s,Γ[i]?=some s∧a0I C "kept" w ds s∧Good (.list ds)∧Q (ds.headD .none) Γ
variable {E:XK}
theorem a0V:VT P0 (a0M C "first" (v9 C) [] E (yC i) tM) (uY C i):=by
 intro F Γ σ G H Q Qm r hm k;obtain⟨w,ds,s,e,hs,gd,q⟩:=hm;obtain⟨d,l,us,ew,hI,hus⟩:=r.ins e hs;refine⟨.ref w,ew,w,d,_,rfl,hI.i,rfl,w,d,l,us,ds,rfl,hI,Dts.same r.fr.sub _ _ hus,gd,fun H' g=>?_⟩;refine k _ _ _ _ _ q (Same.refl _) (r.more g) ?_
 cases hus with
 | nil=>exact .non
 | cons a b=>exact a
theorem a4J {Γ:En}{Q:D→En→Prop}{w:AA}{ds:List D}{s:Sl}(h0:Γ[i]?=some s)(hs:a0I C "kept" w ds s)(h:Good (.list ds)∧Q (ds.headD .none) Γ):uY C i Γ Q:=⟨w,ds,s,h0,hs,h⟩
end
end
section
variable {P0:AA→Hp→Prop}
def rP (C:AA):Sp:=fun vs H Q _=>∃(w d:AA),vs=[.ref w]∧H w=some (.ins C d [])∧H d=some (.own w)∧∀ l,H l=none→Q .non (upd (upd H l (.lst [])) w (.ins C d [("kept", .ref l)]))
theorem a94 {C:AA}{H:Hp}{E:XK}{Q:VK}(q:∀ w d l H',Same H H'→H w=none→H d=none→H l=none→d≠w→l≠w→l≠d→Ins1 C "kept" w d l [] H'→(∀ b,b≠w→b≠d→b≠l→H' b=H b)→Q (.ref w) H') :
  ∀ w d,H w=none→H d=none→d≠w→rP C (.ref w::([]++[])) (upd (upd H d (.own w)) w (.ins C d [])) (fun v H2=>v=.non∧Q (.ref w) H2) E:=by
 intro w d hw hd hdw;refine⟨w,d,rfl,bQ,by rw[bR hdw]; exact bQ,fun l hl=>⟨rfl,?_⟩⟩;have hlw:l≠w:=fun z=>by rw[z,bQ] at hl; cases hl
 have hl1:upd H d (.own w) l=none:=by rw[bR hlw] at hl; exact hl
 have hld:l≠d:=fun z=>by rw[z,bQ] at hl1; cases hl1
 have hl0:H l=none:=by rw[bR hld] at hl1; exact hl1
 refine q w d l _ (fun b o e=>?_) hw hd hl0 hdw hlw hld ⟨bQ,?_,?_⟩ fun b h1 h2 h3=>?_
 ·rw[bR (cG e hw),bR (cG e hl0),bR (cG e hw),bR (cG e hd)];exact e
 ·rw[bR hdw,bR (Ne.symm hld),bR hdw];exact bQ
 ·rw[bR hlw];exact bQ
 ·rw[bR h1,bR h3,bR h1,bR h2]
end
section
variable {P0:AA→Hp→Prop}
def a7A (H H' G:Hp):Hp:=fun b=>match H b with
 | none=>H' b
 | some _=>G b
theorem wQ {H H' G:Hp}{b:AA}(h:H b=none):a7A H H' G b=H' b:=by unfold a7A; rw[h]
theorem oV {H H' G:Hp}{b:AA}{o:HO}(h:H b=some o):a7A H H' G b=G b:=by unfold a7A; rw[h]
theorem tQ {H H' G:Hp}(g:Same G H):Same G (a7A H H' G):=fun b o e=>by rw[oV (g b o e)]; exact e
end
section
variable {P0:AA→Hp→Prop}{A:Nat→Bool}
end
section
variable {P0:AA→Hp→Prop}{A:Nat→Bool}
end
section
variable {P0:AA→Hp→Prop}{S:Type}
structure PartAt (W:Fam S)(p:AA)(B:S→Bx)(v:V)(s:S)(fp f0:List AA)(G H:Hp):Prop where
 sub:∀ b∈f0,b∈fp
 own:(W.box p s).P (.ref p) f0 G H
 back:∀ s' f0' G' H',Same G G'→(W.box p s').P (.ref p) f0' G' H'→(∀ b∈fp,b∉f0→H' b=H b∧b∉f0')→∃ fp',(B s').P v fp' G' H'∧∀ b∈fp',b∈f0'∨(b∈fp∧b∉f0)
def PartOf (W:Fam S)(p:AA)(B:S→Bx):Prop:=∀{s v fp G H},(B s).P v fp G H→∃ f0,PartAt W p B v s fp f0 G H
theorem PartOf.self {W:Fam S}{p:AA}:PartOf W p (W.box p):=fun{s v fp G H} h=>by
 have z:=W.pin h;subst z;exact⟨fp,fun _ h=>h,h,fun s' f' G' H' _ h' _=>⟨f',h',fun b hb=>.inl hb⟩⟩
section
variable {W:Fam S}{B:S→Bx}{i:Nat}{p:AA}{s1 s':S}{F:Fra P0}{Γ1:En}{σ:St}{G1 H1 G' H':Hp}{v:V}{fp f0 f1 f2:List AA}
theorem R.unlend (r1:R F Γ1 σ G1 H1)(e1:Γ1[i]?=some (.box (B s1)))(hi:SlF F G1 H1 σ[i]? fp (.box (B s1)))(hv:σ[i]?=some (some v))(hp:PartAt W p B v s1 fp f0 G1 H1)(hF:∀ b∈f0,F.H0 b=none)
  (f':Rf (F.less r1.fr f0 hF) G' H') (b2:(W.box p s').P (.ref p) f2 G' H') (d2:∀ b∈f2,(F.less r1.fr f0 hF).H0 b=none∧G' b=none) :
  Same G1 G'∧R F (Γ1.set i (.box (B s'))) σ G' H'∧(∀ b,(F.less r1.fr f0 hF).H0 b=none→F.H0 b=none) ∧
  ∀ f1:List AA,(∀ b∈f1,(F.less r1.fr f0 hF).H0 b=none)→(∀ b∈f1,b∉f2)→∀(j:Nat) (u:Sl) (fq:List AA),(Γ1.set i (.box (B s')))[j]?=some u→SlF F G' H' σ[j]? fq u→∀ x∈f1,x∉fq:=by
 obtain⟨fps,h1,h2⟩:=r1.fps;have z:=SlF.det hi (h1 i _ e1);subst z;obtain⟨v',ev',pv',nw⟩:=id hi;rw[hv] at ev'
 cases ev'
 have h0:∀ b,(F.less r1.fr f0 hF).H0 b=if b∈f0 then none else H1 b:=fun _=>rfl
 have inH:∀ b o,F.H0 b=some o→(if b∈f0 then none else H1 b)≠none:=fun b o z=>by
  obtain⟨o',e'⟩:=r1.fr.dom z;rw[if_neg (fun hb=>by rw[hF b hb] at z; cases z),e'];exact fun y=>nomatch y
 have nF:∀ b,(F.less r1.fr f0 hF).H0 b=none→F.H0 b=none:=fun b z=>by
  cases y:F.H0 b with
  | none=>rfl
  | some o=>exact absurd z (inH b o y)
 have nw0:∀ b∈f0,G1 b=none:=fun b hb=>(nw b (hp.sub b hb)).2;have sG:Same G1 G':=fun b o z=>by
  have hH:=r1.fr.sub b o z;have hb:b∉f0:=fun hb=>by rw[nw0 b hb] at z; cases z
  exact(f'.g0 b o (by rw[h0,if_neg hb]; exact hH)).trans z
 have rf:Rf F G' H':=by
  refine⟨f'.sub,fun b o z=>?_,fun b o z hb=>?_,f'.pn⟩
  ·obtain⟨o',e'⟩:=r1.fr.dom z;have hb:b∉f0:=fun hb=>by rw[hF b hb] at z; cases z
   exact(f'.g0 b o' (by rw[h0,if_neg hb]; exact e')).trans (r1.fr.g0 b o z)
  ·have hb':b∉f0:=fun hb=>by rw[hF b hb] at z; cases z
   exact f'.h0 b o (by rw[h0,if_neg hb']; exact r1.fr.h0 b o z hb) hb
 have stay:∀ b,F.H0 b=none→G1 b=none→(∃ o,H1 b=some o)→b∉f0→(F.less r1.fr f0 hF).H0 b≠none∧G' b=none∧H' b=H1 b:=fun b m1 m2 m3 hb=>by
  obtain⟨o,m3⟩:=m3;have y:(F.less r1.fr f0 hF).H0 b=some o:=by rw[h0,if_neg hb]; exact m3
  refine⟨by rw[y]; exact(fun z=>nomatch z),(f'.g0 b o y).trans m2,?_⟩;rw[m3];exact f'.h0 b o y (F.pen_ne m1)
 have oth:∀(j:Nat) (u:Sl),j≠i→Γ1[j]?=some u→∀ b∈fps j,(F.less r1.fr f0 hF).H0 b≠none∧G' b=none∧H' b=H1 b:=fun j u hj ej b hb=>by
  obtain⟨m1,m2,m3⟩:=(h1 j u ej).mine hb;exact stay b m1 m2 m3 fun z=>h2 j i u _ ej e1 hj b hb (hp.sub b z)
 have mine:∀ b∈fps i,b∉f0→(F.less r1.fr f0 hF).H0 b≠none∧G' b=none∧H' b=H1 b:=fun b hb hn=>by
  obtain⟨m1,m2,m3⟩:=(h1 i _ e1).mine hb;exact stay b m1 m2 m3 hn
 obtain⟨fp',pB,hfp⟩:=hp.back s' f2 G' H' sG b2 fun b hb hn=>⟨(mine b hb hn).2.2,fun z=>(mine b hb hn).1 (d2 b z).1⟩;have back:∀(j:Nat) (u:Sl),j≠i→(Γ1.set i (.box (B s')))[j]?=some u→Γ1[j]?=some u:=fun j u hj ej=>by rw[BS (Ne.symm hj)] at ej; exact ej
 have hil:i<Γ1.length:=(A4.mp e1).1;have new:R F (Γ1.set i (.box (B s'))) σ G' H':=by
  refine⟨rf,by rw[Bu]; exact r1.len,fun j=>if j=i then fp' else fps j,fun j u ej=>?_,fun j l u z ej el hjl b hb hc=>?_⟩
  ·dsimp only
   by_cases hj:j=i
   ·subst hj;rw[if_pos rfl];rw[BJ hil] at ej
    cases ej
    refine⟨v,hv,pB,fun x hx=>?_⟩;rcases hfp x hx with hx|⟨hx,hn⟩
    ·exact⟨nF x (d2 x hx).1,(d2 x hx).2⟩
    ·exact⟨(nw x hx).1,(mine x hx hn).2.1⟩
   ·rw[if_neg hj];have ej:=back j u hj ej;exact(h1 j u ej).go sG fun x hx=>(oth j u hj ej x hx).2
  ·dsimp only at hb hc;have cross:∀(l:Nat) (z:Sl),l≠i→Γ1[l]?=some z→∀ b∈fp',b∉fps l:=fun l z hl el b hb hc=>by
    rcases hfp b hb with hb|⟨hb,_⟩
    ·exact(oth l z hl el b hc).1 (d2 b hb).1
    ·exact h2 i l _ z e1 el (Ne.symm hl) b hb hc
   by_cases hj:j=i
   ·rw[if_pos hj] at hb;have hl':l≠i:=fun y=>hjl (hj.trans y.symm);rw[if_neg hl'] at hc;exact cross l z hl' (back l z hl' el) b hb hc
   ·rw[if_neg hj] at hb
    by_cases hl':l=i
    ·rw[if_pos hl'] at hc;exact cross j u hj (back j u hj ej) b hc hb
    ·rw[if_neg hl'] at hc;exact h2 j l u z (back j u hj ej) (back l z hl' el) hjl b hb hc
 refine⟨sG,new,nF,fun f1 hf1 ap j u fq ej hu x hx hxf=>?_⟩
 by_cases hj:j=i
 ·subst hj;rw[BJ hil] at ej
  cases ej
  obtain⟨w,ew2,pw2,_⟩:=hu;rw[hv] at ew2
  cases ew2
  rw[(B s').uniq pw2 pB] at hxf;rcases hfp x hxf with h|⟨h,hn⟩
  ·exact ap x hx h
  ·exact(mine x h hn).1 (hf1 x hx)
 ·have ej:=back j u hj ej;have y:=SlF.det hu ((h1 j u ej).go sG fun x hx=>(oth j u hj ej x hx).2);rw[y] at hxf;exact(oth j u hj ej x hxf).1 (hf1 x hx)
theorem a0N {n:Nat}{f:Lm S}{as:List Sl}{rs:List V}{Q:VK}{E:XK}{Qm:Rv→En→Prop}(hB:PartOf W p B)(r1:R F Γ1 σ G1 H1)(e1:Γ1[i]?=some (.box (B s1)))(d1:AX (oF F G1) rs as)(hl:as.length+1=n)
  (hf:f p s1 as fun rv s'=>Qm rv (Γ1.set i (.box (B s')))) (k:∀ rv Γ' r G' H',Qm rv Γ'→Same G1 G'→R F Γ' σ G' H'→RvO F G' H' r rv→Apart F Γ' σ G' H' r rv→Q r H'):spL P0 W n f (.ref p::(rs++[])) H1 Q E:=by
 obtain⟨fps,h1,h2⟩:=r1.fps;have hi:=h1 i _ e1;obtain⟨v,ew',pw',nw⟩:=id hi;obtain⟨f0,hp⟩:=hB pw';have hF:∀ b∈f0,F.H0 b=none:=fun b hb=>(nw b (hp.sub b hb)).1;refine⟨F.less r1.fr f0 hF,p,s1,f0,rs,as,fun rv s'=>Qm rv (Γ1.set i (.box (B s'))),by rw[Cd],fun b=>rfl,
  ⟨r1.fr.sub,fun _ _ _=>rfl,fun b o z _=>?_,r1.fr.pn⟩,hp.own,fun b hb=>(nw b (hp.sub b hb)).2,AX.imp' (fun a s h=>by cases s<;>exact h) d1,hl,hf,fun rv s' v1 f1 f2 G' H' hq f' a b c d=>?_⟩
 ·have z:(if b∈f0 then none else H1 b)=some o:=z
  split at z
  ·cases z
  ·exact z
 ·obtain⟨sG,new,nF,apart⟩:=r1.unlend e1 hi ew' hp hF f' b (fun x hx=>d x (BE _ hx));have apart:=apart f1 (fun x hx=>(d x (BO _ hx)).1) c;refine k rv _ v1 G' H' hq sG new ?_ ?_
  ·cases rv with
   | val d'=>exact a.2
   | own ds=>
    obtain⟨u,vs,e2,e3,e4,e5⟩:=a;have hu:=d u (BO _ (by rw[e2]; exact Ac.mpr rfl));exact⟨u,vs,e3,nF u hu.1,hu.2,e4,e5⟩
   | box B=>exact⟨f1,a,fun x hx=>⟨nF x (d x (BO _ hx)).1,(d x (BO _ hx)).2⟩⟩
  ·cases rv with
   | val d'=>trivial
   | own ds=>
    intro j u fq ej hu y ey hy;obtain⟨u',vs,e2,e3,e4,e5⟩:=a;rw[e3] at ey
    cases ey
    exact apart j u fq ej hu _ (by rw[e2]; exact Ac.mpr rfl) hy
   | box B=>
    intro j u fq g ej hu hg x hx;have y:g=f1:=B.uniq hg a;rw[y] at hx;exact apart j u fq ej hu x hx
end
def zM (i:Nat)(mj:ME):ME:=fun Γ Q=>(∃ ds,Γ[i]?=some (.own ds))∧mj Γ fun d Γ1=>∃ ds,Γ1[i]?=some (.own ds)∧oQ (ixD (.list ds) d) fun e=>Q e Γ1
theorem a2R {ds:List D}{d e:D}(h:ixD (.list ds) d=some e):∃ i j,d=.int i∧ixN ds.length i=some j∧ds[j]?=some e:=by
 unfold ixD at h
 split at h
 ·rename_i z; cases z
 ·rename_i es i z
  cases z
  unfold atI at h
  cases y:ixN ds.length i with
  | none=>rw[y] at h; cases h
  | some j=>rw[y] at h; exact⟨i,j,rfl,y,h⟩
 ·cases h
theorem a4B {K:Fg}{i:Nat}{tj:TE}{mj:ME}(hj:VT P0 tj mj):VT P0 (tOp (rIx K) (yC i) tj) (zM i mj):=by
 intro F Γ σ G H Q Qm r hm k;obtain⟨⟨ds,e⟩,hm⟩:=hm;obtain⟨p,vs,ep,_⟩:=r.sl i _ e;refine⟨.ref p,ep,hj F Γ σ G H _ _ r hm fun d Γ1 x G1 H1 m1 g1 r1 d1=>?_⟩;obtain⟨es,e1,m1⟩:=m1;obtain⟨y,hy,q⟩:=a0O m1;obtain⟨q',us,eq',_,_,hq,hus⟩:=r1.sl i _ e1;rw[ep] at eq'
 cases eq'
 obtain⟨n,j,rfl,h1,h2⟩:=a2R hy
 cases d1
 obtain⟨v,hv,dv⟩:=Dts.get hus h2;refine .inl ⟨p,us,n,v,rfl,rfl,SqL.of hq,?_,k _ _ _ _ _ q g1 r1 dv⟩;unfold atI;rw[hus.len,h1];exact hv
end
section
section
variable {S:Type}{W:Fam S}{n i:Nat}{f:Lm S}{m:MA}{Γ Γ1:En}{p:AA}{s:S}{as:List Sl}
def lnK (W:Fam S)(n:Nat)(f:Lm S)(i:Nat)(p:AA)(Q:Rv→En→Prop)(as:List Sl)(Γ1:En):Prop:=∃ s1,Γ1[i]?=some (.box (W.box p s1))∧as.length+1=n∧f p s1 as fun rv s'=>Q rv (Γ1.set i (.box (W.box p s')))
theorem a9G {Q:Rv→En→Prop}(h0:Γ[i]?=some (.box (W.box p s)))(h:m Γ (lnK W n f i p Q)):fC W n f i m Γ Q:=⟨p,⟨s,h0⟩,h⟩
theorem aBB {Q:Rv→En→Prop}(h0:Γ1[i]?=some (.box (W.box p s)))(hl:as.length+1=n)(h:f p s as fun rv s'=>Q rv (Γ1.set i (.box (W.box p s')))):lnK W n f i p Q as Γ1:=⟨s,h0,hl,h⟩
def rtK (W:Fam S)(Q:Fl→Prop)(rv:Rv)(Γ1:En):Prop:=∃ p s,Γ1[0]?=some (.box (W.box p s))∧Q (.rt (.box (bKp W rv p s)))
theorem a9O {mo:MO}{Q:Fl→Prop}(h:mo Γ (rtK W Q)):a0J W mo Γ Q:=h
theorem aAE {rv:Rv}{Q:Fl→Prop}(h0:Γ1[0]?=some (.box (W.box p s)))(h:Q (.rt (.box (bKp W rv p s)))):rtK W Q rv Γ1:=⟨p,s,h0,h⟩
theorem a7R {rv:Rv}{Q:Rv→S→Prop}(h:Q rv s):∃ rv0 s',Rv.box (bKp W rv p s)=.box (bKp W rv0 p s')∧Q rv0 s':=⟨rv,s,rfl,h⟩
variable {L w0 w1:AA}{s0 s1:S}{mj:ME}
end
def oxK (i:Nat)(Q:D→En→Prop)(d:D)(Γ1:En):Prop:=∃ ds,Γ1[i]?=some (.own ds)∧oQ (ixD (.list ds) d) fun e=>Q e Γ1
theorem a3M {i:Nat}{mj:ME}{Γ:En}{Q:D→En→Prop}{ds:List D}(h0:Γ[i]?=some (.own ds))(h:mj Γ (oxK i Q)):zM i mj Γ Q:=⟨⟨ds,h0⟩,h⟩
theorem aAA {i:Nat}{Γ:En}{Q:D→En→Prop}{ds:List D}{d:D}(h0:Γ[i]?=some (.own ds))(h:oQ (ixD (.list ds) d) fun e=>Q e Γ):oxK i Q d Γ:=⟨ds,h0,h⟩
end
section
variable {P0:AA→Hp→Prop}
def pubS:Sl→Sl
 | .own ds=>.val (.list ds)
 | .box B=>match B.view with
  | some d=>.val d
  | none=>match B.pv with
   | some b=>.pub b
   | none=>.no
 | s=>s
def uX:List Bool→En→En
 | _,[]=>[]
 | true::bs,s::Γ=>s::uX bs Γ
 | false::bs,s::Γ=>pubS s::uX bs Γ
 | [],s::Γ=>pubS s::uX [] Γ
def vO:List Bool→En→En→En
 | true::bs,_::Γ,t::Γ1=>t::vO bs Γ Γ1
 | false::bs,s::Γ,_::Γ1=>s::vO bs Γ Γ1
 | _,Γ,_=>Γ
def Bx.Cut (B:Bx):Prop:=∀{v fp G G' H},uW G G'→B.P v fp G H→B.P v fp G' H
def KeptOk:List Bool→En→Prop
 | true::bs,.box B::Γ=>B.Cut∧KeptOk bs Γ
 | false::bs,_::Γ=>KeptOk bs Γ
 | [],_=>True
 | _,_=>False
theorem tE:∀{bs:List Bool} {Γ:En} (j:Nat),(uX bs Γ)[j]?=if bs[j]?=some true then Γ[j]? else(Γ[j]?).map pubS
 | bs,[],j=>by
  have:uX bs []=[]:=by cases bs<;>rfl
  rw[this]; simp
 | true::bs,s::Γ,0=>rfl
 | false::bs,s::Γ,0=>rfl
 | [],s::Γ,0=>rfl
 | true::bs,s::Γ,j+1=>tE (bs:=bs) (Γ:=Γ) j
 | false::bs,s::Γ,j+1=>tE (bs:=bs) (Γ:=Γ) j
 | [],s::Γ,j+1=>tE (bs:=[]) (Γ:=Γ) j
theorem vV:∀{bs:List Bool} {Γ Γ1:En} (j:Nat),Γ1.length=Γ.length→(vO bs Γ Γ1)[j]?=if bs[j]?=some true then Γ1[j]? else Γ[j]?
 | [],Γ,Γ1,j,_=>by
  have:vO [] Γ Γ1=Γ:=rfl;rw[this]; simp
 | b::bs,[],Γ1,j,h=>by
  have h:Γ1=[]:=List.length_eq_zero_iff.mp h;subst h;have:vO (b::bs) [] []=[]:=by cases b<;>rfl
  rw[this]; simp
 | true::bs,s::Γ,[],j,h=>absurd h (by simp)
 | false::bs,s::Γ,[],j,h=>absurd h (by simp)
 | true::bs,s::Γ,t::Γ1,0,h=>rfl
 | false::bs,s::Γ,t::Γ1,0,h=>rfl
 | true::bs,s::Γ,t::Γ1,j+1,h=>vV (bs:=bs) (Γ:=Γ) (Γ1:=Γ1) j (by simpa using h)
 | false::bs,s::Γ,t::Γ1,j+1,h=>vV (bs:=bs) (Γ:=Γ) (Γ1:=Γ1) j (by simpa using h)
theorem KeptOk.at:∀{bs:List Bool} {Γ:En} {j:Nat},KeptOk bs Γ→bs[j]?=some true→∃ B,Γ[j]?=some (.box B)∧B.Cut
 | [],_,_,_,e=>nomatch e
 | true::bs,[],_,h,_=>h.elim
 | true::bs,.box B::Γ,0,h,_=>⟨B,rfl,h.1⟩
 | true::bs,.box B::Γ,j+1,h,e=>KeptOk.at (bs:=bs) (Γ:=Γ) h.2 e
 | false::bs,s::Γ,0,h,e=>nomatch e
 | false::bs,s::Γ,j+1,h,e=>KeptOk.at (bs:=bs) (Γ:=Γ) h e
 | false::bs,[],_,h,_=>h.elim
section
variable {F:Fra P0}{Γ Γ1:En}{σ:St}{G H G1 H1:Hp}{bs:List Bool}
def OwnM (bs:List Bool)(F:Fra P0)(Γ:En)(σ:St)(G H:Hp)(b:AA):Prop:=∃(i:Nat) (s:Sl) (fp:List AA),bs[i]?≠some true∧Γ[i]?=some s∧SlF F G H σ[i]? fp s∧b∈fp
open Classical in
noncomputable def oA (bs:List Bool)(F:Fra P0)(Γ:En)(σ:St)(G H:Hp):Hp:=fun b=>if OwnM bs F Γ σ G H b then H b else G b
noncomputable def j4 (bs:List Bool)(F:Fra P0)(Γ:En)(σ:St)(G H G1:Hp):Hp:=fun b=>open Classical in if OwnM bs F Γ σ G H b then none else G1 b
theorem OwnM.all {b:AA}(h:OwnM bs F Γ σ G H b):OwnA F Γ σ G H b:=let ⟨i,s,fp,_,e⟩:=h; ⟨i,s,fp,e⟩
theorem OwnM.tup {b:AA}(h:OwnM bs F Γ σ G H b){xs:List V}(e:H b=some (.tup xs)):∃ q vs,V.ref q∈xs∧OwnM bs F Γ σ G H q∧H q=some (.lst vs):=by
 obtain⟨i,s,fp,en,e0,e1,hb⟩:=h
 cases s with
 | no=>rw[show fp=[] from e1] at hb; cases hb
 | val d=>rw[e1.1] at hb; cases hb
 | pen=>rw[e1.1] at hb; cases hb
 | con q=>rw[e1.1] at hb; cases hb
 | pub B=>rw[e1.1] at hb; cases hb
 | own ds=>
  obtain⟨p,vs,f0,_,_,_,f3,_⟩:=e1;rw[f0] at hb;rw[Ac.mp hb,f3] at e
  cases e
 | box B=>
  have e1':=e1;obtain⟨v,_,h2,_⟩:=e1;obtain⟨q,q1,q2,vs,q3⟩:=B.nt h2 b hb xs e;exact⟨q,vs,q2,⟨i,_,fp,en,e0,e1',q1⟩,q3⟩
theorem SlF.pubS {s:Sl}{x:Option (Option V)}{fp:List AA}{G':Hp}(h:SlF F G H x fp s)(g:Same G G')(k:∀ b∈fp,G' b=H b):SlF F G' H x [] (pubS s):=by
 cases s with
 | no=>rfl
 | val d=>obtain⟨_,v,e1,d1⟩:=h; exact⟨rfl,v,e1,Dt.same g _ _ d1⟩
 | own ds=>
  obtain⟨p,vs,e0,e1,e2,e3,e4,e5⟩:=h;refine⟨rfl,_,e1,.lst ?_ (Dts.same g _ _ e5)⟩;rw[k p (by rw[e0]; exact Ac.mpr rfl)];exact e4
 | pen=>exact⟨rfl,h.2⟩
 | con q=>exact⟨rfl,h.2⟩
 | pub B=>obtain⟨_,v,e1,e2⟩:=h; exact⟨rfl,v,e1,B.mono g e2⟩
 | box B=>
  obtain⟨v,e1,e2,e3⟩:=h;show SlF F G' H x [] (match B.view with|some d=>Sl.val d|none=>match B.pv with|some b=>Sl.pub b|none=>Sl.no)
  cases hv:B.view with
  | none=>
   cases hw:B.pv with
   | none=>exact rfl
   | some b0=>exact⟨rfl,v,e1,B.pok e2 hw g k⟩
  | some d=>exact⟨rfl,v,e1,B.vok e2 hv g k⟩
theorem R.pubSome (r:R F Γ σ G H):Same G (oA bs F Γ σ G H)∧R F (uX bs Γ) σ (oA bs F Γ σ G H) H:=by
 have g:Same G (oA bs F Γ σ G H):=fun b o e=>by
  unfold oA
  by_cases h:OwnM bs F Γ σ G H b
  ·have:=h.all.at.2.1;rw[e] at this; cases this
  ·rw[if_neg h]; exact e
 obtain⟨fps,h1,h2⟩:=r.fps;have keep:∀ i s,bs[i]?=some true→Γ[i]?=some s→∀ b∈fps i,oA bs F Γ σ G H b=none:=fun i s hb e b hbf=>by
  unfold oA;rw[if_neg]
  ·exact((h1 i s e).mine hbf).2.1
  ·rintro⟨j,u,fp,hj,ej,hu,hbu⟩
   rw[SlF.det hu (h1 j u ej)] at hbu;exact h2 i j s u e ej (fun z=>hj (by rw[← z]; exact hb)) b hbf hbu
 have get:∀(i:Nat) s,(uX bs Γ)[i]?=some s→∃ s0,Γ[i]?=some s0∧s=if bs[i]?=some true then s0 else VS.pubS s0:=fun i s e=>by
  rw[tE] at e
  by_cases hb:bs[i]?=some true
  ·rw[if_pos hb] at e;exact⟨s,e,by rw[if_pos hb]⟩
  ·rw[if_neg hb] at e
   cases e0:Γ[i]? with
   | none=>rw[e0] at e; cases e
   | some s0=>rw[e0] at e; exact⟨s0,rfl,by rw[if_neg hb]; exact(A1.inj e).symm⟩
 refine⟨g,⟨fun b o e=>?_,fun b o e=>?_,r.fr.h0,r.fr.pn⟩,?_,fun i=>if bs[i]?=some true then fps i else[],fun i s e=>?_,fun i j s t ei ej hij b hb hc=>?_⟩
 ·unfold oA at e
  split at e
  ·exact e
  ·exact r.fr.sub b o e
 ·have h:¬OwnM bs F Γ σ G H b:=fun h=>by
   have:=h.all.at.1;rw[e] at this; cases this
  unfold oA;rw[if_neg h];exact r.fr.g0 b o e
 ·rw[← r.len];have:∀(bs:List Bool) (Γ:En),(uX bs Γ).length=Γ.length:=fun bs Γ=>by
   induction Γ generalizing bs with
   | nil=>cases bs<;>rfl
   | cons s Γ ih=>
    rcases bs with _|⟨b,bs⟩
    ·show(uX [] Γ).length+1=_; rw[ih]; rfl
    ·cases b
     ·show(uX bs Γ).length+1=_; rw[ih]; rfl
     ·show(uX bs Γ).length+1=_; rw[ih]; rfl
  exact this bs Γ
 ·obtain⟨s0,e0,rfl⟩:=get i s e;dsimp only
  by_cases hb:bs[i]?=some true
  ·rw[if_pos hb,if_pos hb];exact(h1 i s0 e0).go g fun b hbf=>⟨keep i s0 hb e0 b hbf,rfl⟩
  ·rw[if_neg hb,if_neg hb];refine(h1 i s0 e0).pubS g fun b hbf=>?_;unfold oA;rw[if_pos ⟨i,s0,fps i,hb,e0,h1 i s0 e0,hbf⟩]
 ·dsimp only at hb hc
  split at hb
  ·split at hc
   ·obtain⟨s0,e0,_⟩:=get i s ei;obtain⟨t0,f0,_⟩:=get j t ej;exact h2 i j s0 t0 e0 f0 hij b hb hc
   ·cases hc
  ·cases hb
structure PkEnd (bs:List Bool)(Γ Γ1:En):Prop where
 len:Γ1.length=Γ.length
 oth:Γ1=vO bs (uX [] Γ) Γ1
 cut:KeptOk bs Γ1
theorem R.backSome (r:R F Γ σ G H)(s:Same (oA bs F Γ σ G H) G1)(r1:R F Γ1 σ G1 H1)(e:PkEnd bs Γ Γ1):Same G (j4 bs F Γ σ G H G1)∧R F (vO bs Γ Γ1) σ (j4 bs F Γ σ G H G1) H1∧uW G1 (j4 bs F Γ σ G H G1) ∧
  (∀ b,OwnM bs F Γ σ G H b→G1 b=H b∧H1 b=H b):=by
 have s0:=(r.pubSome (bs:=bs)).1;have own:∀ b,OwnM bs F Γ σ G H b→G1 b=H b∧H1 b=H b:=fun b h=>by
  obtain⟨_,_,o,e⟩:=h.all.at;have q:oA bs F Γ σ G H b=H b:=by unfold oA; rw[if_pos h]
  rw[e] at q ⊢;exact⟨s b _ q,r1.fr.sub b _ (s b _ q)⟩
 have g:Same G (j4 bs F Γ σ G H G1):=fun b o e=>by
  have h:¬OwnM bs F Γ σ G H b:=fun h=>by
   have:=h.all.at.2.1;rw[e] at this; cases this
  unfold j4;rw[if_neg h];exact s b o (s0 b o e)
 have un:uW G1 (j4 bs F Γ σ G H G1):=fun b xs e=>by
  by_cases h:OwnM bs F Γ σ G H b
  ·have e':H b=some (.tup xs):=by rw[← (own b h).1]; exact e
   obtain⟨q,vs,q1,q2,q3⟩:=h.tup e';exact .inr ⟨q,vs,q1,by rw[(own q q2).1]; exact q3⟩
  ·refine .inl ?_;unfold j4;rw[if_neg h];exact e
 obtain⟨fps,h1,h2⟩:=r.fps;obtain⟨fqs,k1,k2⟩:=r1.fps;have get:∀{i:Nat} {u:Sl},(vO bs Γ Γ1)[i]?=some u→if bs[i]?=some true then Γ1[i]?=some u else Γ[i]?=some u:=fun{i u} ei=>by
  rw[vV i e.len] at ei
  by_cases hb:bs[i]?=some true
  ·rw[if_pos hb] at ei ⊢; exact ei
  ·rw[if_neg hb] at ei ⊢; exact ei
 have none1:∀ b,G1 b=none→j4 bs F Γ σ G H G1 b=none:=fun b hb=>by
  unfold j4
  split
  ·rfl
  ·exact hb
 have cross:∀{i j:Nat} {u z:Sl},bs[i]?=some true→bs[j]?≠some true→Γ1[i]?=some u→Γ[j]?=some z→∀ b∈fqs i,b∉fps j:=fun{i j u z} hi hj ei ej b hb hc=>by
  have m:=(k1 i u ei).mine hb;have o:=own b ⟨j,z,fps j,hj,ej,h1 j z ej,hc⟩;obtain⟨_,_,o',e'⟩:=(h1 j z ej).mine hc;rw[m.2.1,e'] at o
  cases o.1
 refine⟨g,⟨⟨fun b o e=>?_,fun b o e=>?_,r1.fr.h0,r1.fr.pn⟩,?_,fun i=>if bs[i]?=some true then fqs i else fps i,fun i u ei=>?_,fun i j u z ei ej hij b hb hc=>?_⟩,un,own⟩
 ·unfold j4 at e
  split at e
  ·cases e
  ·exact r1.fr.sub b o e
 ·have h:¬OwnM bs F Γ σ G H b:=fun h=>by
   have:=h.all.at.1;rw[e] at this; cases this
  unfold j4;rw[if_neg h];exact r1.fr.g0 b o e
 ·have hl:∀(bs:List Bool) (Γ Γ1:En),Γ1.length=Γ.length→(vO bs Γ Γ1).length=Γ.length:=fun bs Γ Γ1 h=>by
   induction bs generalizing Γ Γ1 with
   | nil=>rfl
   | cons b bs ih=>
    cases Γ with
    | nil=>cases Γ1 with
     | nil=>cases b<;>rfl
     | cons t Γ1=>cases h
    | cons s Γ=>cases Γ1 with
     | nil=>cases h
     | cons t Γ1=>
      have h:Γ1.length=Γ.length:=by simpa using h
      cases b
      ·show(vO bs Γ Γ1).length+1=_; rw[ih Γ Γ1 h]; rfl
      ·show(vO bs Γ Γ1).length+1=_; rw[ih Γ Γ1 h]; rfl
  rw[hl bs Γ Γ1 e.len];exact r.len
 ·have ei:=get ei;dsimp only
  by_cases hb:bs[i]?=some true
  ·rw[if_pos hb] at ei ⊢;obtain⟨B,eB,cB⟩:=e.cut.at hb;rw[ei] at eB
   cases eB
   obtain⟨v,ev,pv,nv⟩:=k1 i _ ei;exact⟨v,ev,cB un pv,fun x hx=>⟨(nv x hx).1,none1 x (nv x hx).2⟩⟩
  ·rw[if_neg hb] at ei ⊢;refine(h1 i u ei).go g fun b hbf=>?_;have ho:OwnM bs F Γ σ G H b:=⟨i,u,fps i,hb,ei,h1 i u ei,hbf⟩;refine⟨?_,(own b ho).2⟩;unfold j4;rw[if_pos ho]
 ·have ei:=get ei;have ej:=get ej;dsimp only at hb hc
  by_cases hi:bs[i]?=some true
  ·rw[if_pos hi] at ei hb
   by_cases hj:bs[j]?=some true
   ·rw[if_pos hj] at ej hc;exact k2 i j u z ei ej hij b hb hc
   ·rw[if_neg hj] at ej hc;exact cross hi hj ei ej b hb hc
  ·rw[if_neg hi] at ei hb
   by_cases hj:bs[j]?=some true
   ·rw[if_pos hj] at ej hc;exact cross hj hi ej ei b hc hb
   ·rw[if_neg hj] at ej hc;exact h2 i j u z ei ej hij b hb hc
end
def a1K (bs:List Bool)(m:ME):ME:=fun Γ Q=>m (uX bs Γ) fun d Γ1=>iU d=true∧PkEnd bs Γ Γ1∧Q d (vO bs Γ Γ1)
theorem a3I {bs:List Bool}{t:TE}{m:ME}(h:VT P0 t m):VT P0 t (a1K bs m):=by
 intro F Γ σ G H Q Qm r hm k;obtain⟨s0,r0⟩:=r.pubSome (bs:=bs);refine h F _ σ _ H _ _ r0 hm fun d Γ1 x G1 H1 m1 s1 r1 d1=>?_;obtain⟨hd,he,q⟩:=m1;obtain⟨s2,r2,t2,_⟩:=r.backSome s1 r1 he;exact k _ _ _ _ _ q s2 r2 (Dt.sameU t2 _ _ hd d1)
theorem a6F {p:AA}{n:Nat}:(penF.box p n).Cut:=fun _ h=>h
def pkK (bs:List Bool)(Γ:En)(Q:D→En→Prop)(d:D)(Γ1:En):Prop:=iU d=true∧PkEnd bs Γ Γ1∧Q d (vO bs Γ Γ1)
section
variable {bs:List Bool}{Γ Γ1:En}
theorem aA8 {m:ME}{Q:D→En→Prop}(h:m (uX bs Γ) (pkK bs Γ Q)):a1K bs m Γ Q:=h
theorem aAG {Q:D→En→Prop}{d:D}(h1:iU d=true)(hl:Γ1.length=Γ.length)(ho:Γ1=vO bs (uX [] Γ) Γ1)(hc:KeptOk bs Γ1)(h:Q d (vO bs Γ Γ1)):pkK bs Γ Q d Γ1:=⟨h1,⟨hl,ho,hc⟩,h⟩
end
end
section
variable {P0:AA→Hp→Prop}{S:Type}
end
section
variable {P0:AA→Hp→Prop}{S:Type}
section
variable {C:AA}{i:Nat}
theorem vZ {W:Fam S}{n:Nat}{m:Str}{f:Lm S}{t:TA}{ma:MA}{E:XK}(hW:∀{p s v fp G H},(W.box p s).P v fp G H→∃ dx fs,H p=some (.ins C dx fs)∧fs.lookup m=none)(h:VA P0 t ma):VO P0 (a0M C m (spL P0 W n f) [] E (yC i) t) (fC W n f i ma):=by
 intro F Γ σ G H Q Qm r hm k;obtain⟨p,⟨s,e⟩,hm⟩:=hm;obtain⟨v,fp,ev,pv,_⟩:=r.sl i _ e;have z:=W.pin pv;subst z;obtain⟨dx,fs,hp,hl⟩:=hW pv;refine⟨.ref p,ev,p,dx,fs,rfl,hp,hl,h F Γ σ G H _ _ r hm fun as Γ1 rs G1 H1 m1 g1 r1 d1=>?_⟩;obtain⟨s1,e1,hn,hf⟩:=m1;exact a0N (Qm:=Qm) PartOf.self r1 e1 d1 hn hf fun rv Γ' r' G' H' q g'=>k rv Γ' r' G' H' q (g1.trans g')
end
end
section
theorem a8Y {Γ:En}:KeptOk [] Γ:=by cases Γ<;>exact trivial
theorem a8K {s:Sl}{bs:List Bool}{Γ:En}(h:KeptOk bs Γ):KeptOk (false::bs) (s::Γ):=h
theorem a7V {B:Bx}{bs:List Bool}{Γ:En}(c:B.Cut)(h:KeptOk bs Γ):KeptOk (true::bs) (.box B::Γ):=⟨c,h⟩
end
section
variable {P0:AA→Hp→Prop}
def a6D (i:Nat):ME:=fun Γ Q=>∃ ds,(Γ[i]?=some (.own ds)∨Γ[i]?=some (.val (.list ds)))∧Q (.int (ds.length:Int)) Γ
theorem a69 {K:Fg}{i:Nat}:VT P0 (tCB (fun xs H Q=>∃ p ys,xs=[.ref p]∧(SqL K H p ys∨SqT K H p ys)∧Q (.int ys.length) H) (jX (yC i) tM)) (a6D i):=by
 intro F Γ σ G H Q Qm r hm k;obtain⟨ds,e|e,q⟩:=hm
 ·obtain⟨p,vs,ep,_,_,hp,hvs⟩:=r.sl i _ e;exact⟨.ref p,ep,p,vs,rfl,.inl (SqL.of hp),by rw[hvs.len]; exact k _ _ _ _ _ q (Same.refl _) r (.int _)⟩
 ·obtain⟨v,ev,dv⟩:=r.sl i _ e
  cases dv with
  | @lst p vs _ hp rs=>exact⟨.ref p,ev,p,vs,rfl,.inl (SqL.of (r.fr.sub _ _ hp)),by rw[rs.len]; exact k _ _ _ _ _ q (Same.refl _) r (.int _)⟩
theorem a7J {i:Nat}{Γ:En}{Q:D→En→Prop}{ds:List D}(h0:Γ[i]?=some (.own ds))(h:Q (.int (ds.length:Int)) Γ):a6D i Γ Q:=⟨ds,.inl h0,h⟩
end
end L2.VS
namespace L2
open PySem PySem.Spec PyProof.Rows
end L2
namespace L2.VS
open PySem PySem.Spec PyProof.Rows
section
variable {P0:AA→Hp→Prop}
def mNo:Fm:=fun _ _=>False
theorem a5F {P:AQ}{w:AL}{K:Fg}{mg:Mg}{base:AH}{k n:Nat}{x:Str}{ps:List Str}{f:AA}{fd:Ag}(hm:mg x=some (.ref f))(kp:BX K (.ref f)=true)(b:Binds K fd ps []):Cal P w K mg base k x ps (spM P0 n mNo):=
 ⟨f,fd,⟨fun vs H Q E h=>by obtain⟨_,_,_,_,_,_,_,hm,_⟩:=h; exact hm.elim,fun _ _ _ _ _ _ _ _ _ _ _ _ _ h=>by obtain⟨_,_,_,_,_,_,_,hm,_⟩:=h; exact hm.elim⟩,hm,kp,b⟩
end
end L2.VS
namespace L2
open PySem PySem.Calls PyProof.Rows PySem.W
abbrev NK2:=(Int×Int)×(Int×Int)
def nk0:NK2:=((0,0),(0,0))
def nH (p q:NK2):Bool:=decide ((p.1.1<q.1.1∨p.1.1=q.1.1∧p.1.2<q.1.2)∨(p.1.1=q.1.1∧p.1.2=q.1.2)∧(p.2.1<q.2.1∨p.2.1=q.2.1∧p.2.2<q.2.2))
theorem iM {p q:NK2}:nH p q=true↔(p.1.1<q.1.1∨p.1.1=q.1.1∧p.1.2<q.1.2)∨(p.1.1=q.1.1∧p.1.2=q.1.2)∧(p.2.1<q.2.1∨p.2.1=q.2.1∧p.2.2<q.2.2):=decide_eq_true_iff
theorem nQ {p q:NK2}(h:nH p q=true):nH q p=false:=by
 rw[Bool.eq_false_iff];intro g;rw[iM] at h g;omega
theorem z8 {p q r:NK2}(h:nH p q=true)(g:nH q r=true):nH p r=true:=by
 rw[iM] at h g ⊢;omega
theorem oN {p q:NK2}(h:p≠q):nH p q=true∨nH q p=true:=by
 rw[iM,iM];obtain⟨⟨a,b⟩,c,d⟩:=p;obtain⟨⟨e,f⟩,g,i⟩:=q;have:¬(a=e∧b=f∧c=g∧d=i):=fun⟨h1,h2,h3,h4⟩=>h (by rw[h1,h2,h3,h4]);dsimp only;omega
def TupI (h:AH)(k:Int×Int)(x:AA):Prop:=∃ o n t u,h.get? x=some o∧o.cls=.type "tuple" ∧ o.data=.seq #[.int k.1 t,.int k.2 u] n
theorem TupI.key {prog:AQ}{w:AL}{h:AH}{k:Int×Int}{x:AA}(hx:TupI h k x):IsTupleKey (intKind prog w) h [k.1,k.2] x:=by
 obtain⟨o,n,t,u,h1,h2,h3⟩:=hx;exact⟨o,_,n,h1,h2,h3,.cons (intKind_is _ _ _ _) (.cons (intKind_is _ _ _ _) .nil)⟩
theorem aCR (a b:Int×Int):HT.lexLt [a.1,a.2] [b.1,b.2]=decide (a.1<b.1∨a.1=b.1∧a.2<b.2):=by
 rw[HT.lexLt_cons,HT.lexLt_cons,HT.lexLt_nil_nil]
 by_cases h:a.1=b.1
 ·rw[if_pos h]
  by_cases h2:a.2=b.2
  ·rw[if_pos h2];exact(decide_eq_false (by omega)).symm
  ·rw[if_neg h2];exact decide_eq_decide.mpr (by omega)
 ·rw[if_neg h];exact decide_eq_decide.mpr (by omega)
def NpAt (h:AH)(L:AA)(v:AB)(k:NK2):Prop:=∃ a o n x y,v=.ref a∧a≠L∧h.get? a=some o∧o.cls=.type "tuple" ∧ o.data=.seq #[.ref x,.ref y] n∧x≠L∧y≠L∧TupI h k.1 x∧TupI h k.2 y
theorem NpAt.go {h h':AH}{L:AA}{v:AB}{k:NK2}(keep:∀ b o,b≠L→h.get? b=some o→h'.get? b=some o)(z:NpAt h L v k):NpAt h' L v k:=by
 obtain⟨a,o,n,x,y,r1,r2,r3,r4,r5,r6,r7,⟨o1,n1,t1,u1,a1,a2,a3⟩,o2,n2,t2,u2,b1,b2,b3⟩:=z;exact⟨a,o,n,x,y,r1,r2,keep a o r2 r3,r4,r5,r6,r7,⟨o1,n1,t1,u1,keep _ _ r6 a1,a2,a3⟩,o2,n2,t2,u2,keep _ _ r7 b1,b2,b3⟩
section
variable {prog:AQ}{w:AL}{A:AR}{E:AB→AC→Prop}{s:AC}{Q:Bool→AC→Prop}
theorem a5B {a b:AA}{k l:Int×Int}(ta:TupI s.heap k a)(tb:TupI s.heap l b)(hu:A.units<A5)(h:Q (decide (k.1<l.1∨k.1=l.1∧k.2<l.2)) s):AK (AF prog w) A (oneLt' false (.ref a) (.ref b)) Q E s:=by
 obtain⟨o,n,t,u,h1,h2,h3⟩:=ta;obtain⟨o',n',t',u',h1',h2',h3'⟩:=tb;refine kat_one _ _ (HT.lt_tupInts (ns:=[k.1,k.2]) (ms:=[l.1,l.2]) ⟨o,h1,h2,n,h3⟩ ⟨o',h1',h2',n',h3'⟩ (intsAre_of (.cons ⟨t,rfl⟩ (.cons ⟨u,rfl⟩ .nil))) (intsAre_of (.cons ⟨t',rfl⟩ (.cons ⟨u',rfl⟩ .nil))) hu ?_);show Q (HT.lexLt [k.1,k.2] [l.1,l.2]) s;rw[aCR];exact h
theorem aB9 {x y:AA}{ox oy:Obj}{n m:Nat}{a b c d:AA}{p q:NK2}(hx:s.heap.get? x=some ox)(dx:ox.data=.seq #[.ref a,.ref b] n)(hy:s.heap.get? y=some oy)(dy:oy.data=.seq #[.ref c,.ref d] m)
  (ta:TupI s.heap p.1 a) (tb:TupI s.heap p.2 b) (tc:TupI s.heap q.1 c) (td:TupI s.heap q.2 d) (hu:A.units<A5)
  (h:Q (nH p q) s):AK (AF prog w) A (keyLt' (tuples' false) (.ref x) (.ref y)) Q E s:=by
 refine kat_lt hx dx hy dy ?_;show KatLex prog w A false _ Q [(.ref a,.ref c),(.ref b,.ref d)] 0 s;refine kat_cons (wpAny_eqBool_tuple hu ta.key tc.key ?_);obtain⟨⟨p1,p2⟩,p3,p4⟩:=p;obtain⟨⟨q1,q2⟩,q3,q4⟩:=q;dsimp only at ta tb tc td ⊢;unfold nH at h;dsimp only at h
 by_cases e:[p1,p2]=[q1,q2]
 ·rw[decide_eq_true e];injection e with e1 e2;injection e2 with e2 _;refine kat_yes (kat_cons (wpAny_eqBool_tuple hu tb.key td.key ?_));dsimp only
  by_cases f:[p3,p4]=[q3,q4]
  ·rw[decide_eq_true f];injection f with f1 f2;injection f2 with f2 _;refine kat_yes (kat_nil ?_);rw[decide_eq_false (by omega)] at h;exact h
  ·rw[decide_eq_false f];refine kat_no (a5B tb td hu ?_);rw[decide_eq_decide.mpr (show _↔(p3<q3∨p3=q3∧p4<q4) by omega)] at h;exact h
 ·rw[decide_eq_false e];have e':¬(p1=q1∧p2=q2):=fun⟨h1,h2⟩=>e (by rw[h1,h2]);refine kat_no (a5B ta tc hu ?_);rw[decide_eq_decide.mpr (show _↔(p1<q1∨p1=q1∧p2<q2) by omega)] at h;exact h
end
section
variable {prog:AQ}{w:AL}{A:AR}{E:AB→AC→Prop}{s:AC}
theorem yE {h:AH}{L:AA}{vs:List AB}{ks:List NK2}(hp:AX (NpAt h L) vs ks):∃ fs,KatTups h vs fs∧fs.length=vs.length∧∀ f∈fs,Looks (AF prog w) h (typeOf f) (.type "tuple"):=by
 induction hp with
 | nil=>exact⟨[],trivial,rfl,fun _ h=>(nomatch h)⟩
 | @cons v k vs ks r t ih=>
  obtain⟨fs,a1,a2,a3⟩:=ih;obtain⟨a,o,n,x,y,rfl,_,ho,hc,hd,_,_,⟨o',_,_,_,h1,h2,_⟩,_⟩:=r;refine⟨.ref x::fs,.cons ho hc hd rfl a1,congrArg Nat.succ a2,fun f hf=>?_⟩;rcases Aq.mp hf with e|e
  ·rw[e];exact h2▸(show Looks (AF prog w) h (typeOf (.ref x)) o'.cls from(Looks.ld h1).andThen .now)
  ·exact a3 f e
theorem zF {h:AH}{L:AA}{vs:List AB}{ks:List NK2}(hp:AX (NpAt h L) vs ks):∀{i:Nat},i<vs.length→NpAt h L (vs.getD i .none) (ks.getD i nk0):=by
 induction hp with
 | nil=>intro i hi; cases hi
 | cons r t ih=>
  intro i hi
  cases i with
  | zero=>exact r
  | succ i=>exact ih (Cm hi)
end
end L2
namespace L2
open PySem PySem.Spec PyProof.Rows
def wO (H:Hp):List V→List NK2→Prop:=AX fun v k=>∃ b x y,v=.ref b∧H b=some (.tup [.ref x,.ref y])∧H x=some (.tup [.int k.1.1,.int k.1.2])∧H y=some (.tup [.int k.2.1,.int k.2.2])
theorem zW {P:AQ}{w:AL}{H:Hp}{h:AH}{k:Int×Int}{x:AA}(ok:HOk P w H h)(e:H x=some (.tup [.int k.1,.int k.2])):TupI h k x:=by
 obtain⟨_,items,ri,o,h1,h2,n,h3⟩:=(show ObjOk P w H h x (.tup [.int k.1,.int k.2]) from ok x _ e);obtain⟨u1,u2,rfl,r1,r2⟩:=ri.two;obtain⟨t1,rfl⟩:=r1;obtain⟨t2,rfl⟩:=r2;exact⟨o,n,t1,t2,h1,h2,h3⟩
section
variable {X:Cx}
end
def a0L (ks:List NK2):List NK2:=ks.mergeSort fun a b => !nH b a
theorem pK (ks:List NK2):(a0L ks).Perm ks:=List.mergeSort_perm _ _
theorem a2C {a b:NK2}(h:nH a b=true):a≠b:=fun e=>by
 rw[e,iM] at h;omega
theorem a0H {ks:List NK2}(nd:ks.Nodup):(a0L ks).Pairwise fun a b=>nH a b=true:=by
 have h1:(a0L ks).Pairwise fun a b=>(!nH b a)=true:=by
  refine List.pairwise_mergeSort (fun a b c h g=>?_) (fun a b=>?_) ks
  ·simp only[CT,←Bool.not_eq_true,iM] at h g ⊢;omega
  ·by_cases e:a=b
   ·subst e;have:nH a a=false:=by rw[← Bool.not_eq_true,iM]; omega
    rw[this]; rfl
   ·rcases oN e with h|h
    ·rw[nQ h]; rfl
    ·rw[nQ h]; simp
 have h2:(a0L ks).Nodup:=(pK ks).nodup_iff.mpr nd;refine(h1.and h2).imp fun{a b} h=>?_;exact(oN h.2).resolve_right (by simpa using h.1)
theorem uT {xs ks:List NK2}(hp:xs.Perm ks)(hu:xs.Pairwise fun a b=>nH a b=true):a0L ks=xs:=by
 have nx:xs.Nodup:=hu.imp fun h=>a2C h;have nd:ks.Nodup:=hp.nodup_iff.mp nx;refine BN.eq_of_pairwise (le:=fun a b=>nH a b=true) (fun a b _ _ h g=>?_) (a0H nd) hu ((pK ks).trans hp.symm);rw[nQ h] at g
 cases g
end L2
namespace L2.VS
open PySem PySem.Spec PyProof.Rows
section
variable {P0:AA→Hp→Prop}{ta:TE}{ma:ME}{K:Fg}
def npD (k:NK2):D:=.tuple [.tuple [.int k.1.1,.int k.1.2],.tuple [.int k.2.1,.int k.2.2]]
def a0X (ks:List NK2):List D:=ks.map npD
theorem a6S {G H:Hp}(sub:∀ b o,G b=some o→H b=some o):∀{ks:List NK2} {vs:List V},Dts G vs (a0X ks)→wO H vs ks:=by
 intro ks vs h
 induction ks generalizing vs with
 | nil=>cases h; exact .nil
 | cons k ks ih=>
  cases h with
  | cons a b=>
   refine .cons ?_ (ih b)
   cases a with
   | tup h1 r1=>
    cases r1 with
    | cons a1 r1=>
     cases r1 with
     | cons a2 r2=>
      cases r2
      cases a1 with
      | tup h2 r2=>
       cases a2 with
       | tup h3 r3=>
        have z2:=jZ (ns:=[k.1.1,k.1.2]) r2;have z3:=jZ (ns:=[k.2.1,k.2.2]) r3;subst z2 z3;exact⟨_,_,_,rfl,sub _ _ h1,sub _ _ h2,sub _ _ h3⟩
theorem a5T {G:Hp}{qs:List V}{ks:List NK2}(h:Dts G qs (a0X ks)){is:List Nat}(hm:∀ i∈is,i<qs.length):Dts G (is.map fun i=>qs.getD i .non) (a0X (is.map fun i=>ks.getD i nk0)):=by
 have at_:∀ i,i<qs.length→Dt G (qs.getD i .non) (npD (ks.getD i nk0)):=by
  clear hm
  induction ks generalizing qs with
  | nil=>cases h; intro i hi; cases hi
  | cons k ks ih=>
   cases h with
   | cons a b=>
    intro i hi
    cases i with
    | zero=>exact a
    | succ i=>exact ih b i (Cm hi)
 induction is with
 | nil=>exact .nil
 | cons i is ih=>exact .cons (at_ i (hm i Bf)) (ih fun j hj=>hm j (BK _ hj))
end
end L2.VS
namespace L2
open PySem PySem.Spec PyProof.Rows
section
variable {X:Cx}{C D0:AA}{lx:Str}{lp hp pos:Pos}{b0:AS}{rest:List AS}{tb:TS}
end
theorem FnOk.noX {P:AQ}{w:AL}{K:Fg}{mg:Mg}{base:AH}{k:Nat}{f:AA}{fd:Ag}{ps:List Str}{sp:Sp}(F:FnOk P w K mg base (CX1 P w) k f fd ps sp) :
  FnOk P w K mg base CX0 k f fd ps (fun vs H Q _=>sp vs H Q fun _ _ _=>False):=
 ⟨fun vs H Q E h=>F.len vs H Q _ h,fun A outer s H args us vs Q E hr he hb hv hs=>DF (F.run A outer s H args us vs Q _ hr he hb hv hs) fun r s' hq=>by
  cases r with
  | ok fl=>
   cases fl with
   | ret u=>exact hq
   | next=>exact hq
   | brk=>exact hq
   | cont=>exact hq
  | error e=>
   obtain⟨_,_,_,_,_,_,_,_,_,_,_,z⟩:=hq;exact z.elim⟩
end L2
namespace L2.VS
open PySem PySem.Spec PyProof.Rows
section
variable {P0:AA→Hp→Prop}{S:Type}
section
variable {F:Fra P0}{H H':Hp}{fp:List AA}{l:AA}
theorem vP (hH:∀ b,F.H0 b=if b∈fp then none else H b){b:AA}{o:HO}(z:F.H0 b=some o):b∉fp∧H b=some o:=by
 rw[hH] at z
 split at z
 ·cases z
 ·exact⟨by assumption,z⟩
theorem wL (hH:∀ b,F.H0 b=if b∈fp then none else H b)(rf:Rf F F.G0 H)(hG:∀ b∈fp,F.G0 b=none)(hd:∀ b∈fp,∃ o,H b=some o)(hl:l∈fp)(hX:a0G l H H') :
  Rf F (a7A H H' F.G0) H'∧∀ b∈fp,F.H0 b=none∧a7A H H' F.G0 b=none:=by
 have nl:∀{b},b∉fp→b≠l:=fun h z=>h (z▸hl);refine⟨⟨fun b o z=>?_,fun b o z=>?_,fun b o z hb=>?_,F.stab' H H' (fun b o z=>?_) rf.pn⟩,fun b hb=>⟨by rw[hH,if_pos hb],?_⟩⟩
 ·cases y:H b with
  | none=>rw[wQ y] at z; exact z
  | some u=>
   rw[oV y] at z;exact hX b o (fun w=>by rw[w,hG l hl] at z; cases z) (rf.sub b o z)
 ·obtain⟨h1,h2⟩:=vP hH z;rw[oV h2]
 ·obtain⟨h1,h2⟩:=vP hH z;exact hX b o (nl h1) h2
 ·obtain⟨h1,h2⟩:=vP hH z;rw[hX b o (nl h1) h2,h2]
 ·obtain⟨o,ho⟩:=hd b hb;rw[oV ho];exact hG b hb
end
section
variable {C NK:AA}{pl:List D→D→Nat→Prop}
def a4W (pl:List D→D→Nat→Prop)(C NK:AA):Sp:=fun vs H Q E=>∃(w d l:AA) (us:List V) (ds:List D) (x y:V) (a b:D) (k:Nat),vs=[.ref w,x,y]∧Ins1 C "kept" w d l us H∧Dts H us ds∧Dt H x a∧Dt H y b∧Good (.tuple [a,b])∧(∀ d∈ds,Good d)∧ds.length<1000∧k≤ds.length ∧
 pl ds (.tuple [a,b]) k ∧
 (fQ ds k (.tuple [a,b])=true→∀ ea H',Same H H'→E (.ref NK) (some ea) H') ∧
 (fQ ds k (.tuple [a,b])=false→∀ p H',H p=none→H' p=some (.tup [x,y])→a0G l H H'→Ins1 C "kept" w d l (uK us (k:Int) (.ref p)) H'→Q .non H')
def zR (pl:List D→D→Nat→Prop)(C NK:AA):Sp:=fun vs H Q E=>∃(w d l:AA) (us:List V) (ds:List D) (x y:V) (a b:D) (k:Nat),vs=[.ref w,x,y]∧Ins1 C "kept" w d l us H∧Dts H us ds∧Dt H x a∧Dt H y b∧Good (.tuple [a,b])∧(∀ d∈ds,Good d)∧ds.length<1000∧k≤ds.length ∧
 pl ds (.tuple [a,b]) k ∧
 (fQ ds k (.tuple [a,b])=false→∀ ea H',Same H H'→E (.ref NK) (some ea) H') ∧
 (fQ ds k (.tuple [a,b])=true→∀ H',a0G l H H'→Ins1 C "kept" w d l (us.eraseIdx k) H'→Q .non H')
def a85:Lm (List D):=fun _ s as Q=>as=[]∧Q (.val (.int (s.length:Int))) s
def a3W (pl:List D→D→Nat→Prop):Lm (List D):=fun _ s as Q=>∃ a b k,as=[.val a,.val b]∧Good (.tuple [a,b])∧(∀ d∈s,Good d)∧s.length<1000∧k≤s.length∧pl s (.tuple [a,b]) k∧fQ s k (.tuple [a,b])=false∧Q (.val .none) (uK s (k:Int) (.tuple [a,b]))
def wF (pl:List D→D→Nat→Prop):Lm (List D):=fun _ s as Q=>∃ a b k,as=[.val a,.val b]∧Good (.tuple [a,b])∧(∀ d∈s,Good d)∧s.length<1000∧k≤s.length∧pl s (.tuple [a,b]) k∧fQ s k (.tuple [a,b])=true∧Q (.val .none) (s.eraseIdx k)
theorem aBZ {w d l:AA}{us:List V}{H:Hp}(I:Ins1 C "kept" w d l us H):∀ b∈[w,d,l],∃ o,H b=some o:=fun y hy=>by
 simp only[Aq,CL,or_false] at hy;rcases hy with rfl|rfl|rfl
 ·exact⟨_,I.i⟩
 ·exact⟨_,I.d⟩
 ·exact⟨_,I.l⟩
theorem aAC:∀ vs H Q E,spL P0 (tY C "kept") 1 a85 vs H Q E→a8G C vs H Q E:=by
 rintro vs H Q E ⟨F,p,s,fp,ws,as,Qm,rfl,hH,rf,⟨_,d,l,us,rfl,I,dts⟩,hG,pr,hl,⟨rfl,hf⟩,q⟩
 cases pr
 refine⟨p,d,l,us,rfl,I,?_⟩;rw[dts.len];exact q _ _ _ [] _ F.G0 H hf rf ⟨rfl,.int _⟩ ⟨rfl,d,l,us,rfl,I,dts⟩ (fun b hb=>nomatch hb) fun b (hb:b∈[p,d,l])=>⟨by rw[hH,if_pos hb],hG b hb⟩
theorem w5 {F:Fra P0}{G:Hp}{ws:List V}{a b:D}(h:AX (oF F G) ws [.val a,.val b]):∃ x y,ws=[x,y]∧Dt G x a∧Dt G y b:=by
 cases h with
 | cons h1 h2=>
  cases h2 with
  | cons h3 h4=>
   cases h4
   exact⟨_,_,rfl,h1,h3⟩
theorem a99:∀ vs H Q E,spL P0 (tY C "kept") 3 (a3W pl) vs H Q E→a4W pl C NK vs H Q (fun _ _ _=>False):=by
 rintro vs H Q E ⟨F,p,s,fp,ws,as,Qm,rfl,hH,rf,⟨_,d,l,us,rfl,I,dts⟩,hG,pr,hl,⟨a,b,k,rfl,gp,gs,hz,hk,hpl,ht,hf⟩,q⟩;obtain⟨x,y,rfl,dx,dy⟩:=w5 pr;refine⟨p,d,l,us,s,x,y,a,b,k,rfl,I,Dts.same rf.sub _ _ dts,Dt.same rf.sub _ _ dx,Dt.same rf.sub _ _ dy,gp,gs,hz,hk,hpl,(fun z=>by rw[ht] at z; cases z),fun _ e H' he he' hX I'=>?_⟩;obtain⟨rf',hG'⟩:=wL (l:=l) hH rf hG (aBZ I) (by simp) hX;have gs:=tQ (H':=H') rf.sub;refine q _ _ _ [] _ _ H' hf rf' ⟨rfl,.non⟩ ⟨rfl,d,l,_,rfl,I',(Dts.same gs _ _ dts).ins _ (.tup ((wQ he).trans he') (.cons (Dt.same gs _ _ dx) (.cons (Dt.same gs _ _ dy) .nil)))⟩ (fun b hb=>nomatch hb) fun b hb=>hG' b hb
theorem a66:∀ vs H Q E,spL P0 (tY C "kept") 3 (wF pl) vs H Q E→zR pl C NK vs H Q (fun _ _ _=>False):=by
 rintro vs H Q E ⟨F,p,s,fp,ws,as,Qm,rfl,hH,rf,⟨_,d,l,us,rfl,I,dts⟩,hG,pr,hl,⟨a,b,k,rfl,gp,gs,hz,hk,hpl,ht,hf⟩,q⟩;obtain⟨x,y,rfl,dx,dy⟩:=w5 pr;refine⟨p,d,l,us,s,x,y,a,b,k,rfl,I,Dts.same rf.sub _ _ dts,Dt.same rf.sub _ _ dx,Dt.same rf.sub _ _ dy,gp,gs,hz,hk,hpl,(fun z=>by rw[ht] at z; cases z),fun _ H' hX I'=>?_⟩;obtain⟨rf',hG'⟩:=wL (l:=l) hH rf hG (aBZ I) (by simp) hX;have gs:=tQ (H':=H') rf.sub;exact q _ _ _ [] _ _ H' hf rf' ⟨rfl,.non⟩ ⟨rfl,d,l,_,rfl,I',pG (Dts.same gs _ _ dts)⟩ (fun b hb=>nomatch hb) fun b hb=>hG' b hb
theorem xJ {m:Str}(hm:∀ l:V,([("kept", l)]:List (Str×V)).lookup m=none){p:AA}{s:List D}{v:V}{fp:List AA}{G H:Hp}(h:((tY C "kept").box p s).P v fp G H):∃ dx fs,H p=some (.ins C dx fs)∧fs.lookup m=none:=by
 obtain⟨_,d,l,us,_,I,_⟩:=h;exact⟨_,_,I.i,hm _⟩
def a5P (C:AA):MO:=fun Γ Q=>∀ w,Q (.box ((tY C "kept").box w [])) Γ
theorem a67 {E:XK}:VO P0 (a81 C (rP C) [] E tM) (a5P C):=by
 intro F Γ σ G H Q Qm r hm k;refine a94 (Q:=Q) fun w d l H' g hw hd hl n1 n2 n3 I k1=>?_;have fr:∀ b∈[w,d,l],H b=none:=fun b hb=>by
  simp only[Aq,CL,or_false] at hb;rcases hb with rfl|rfl|rfl
  ·exact hw
  ·exact hd
  ·exact hl
 have hP:((tY C "kept").box w []).P (.ref w) [w,d,l] G H':=⟨rfl,d,l,[],rfl,I,.nil⟩;refine k _ _ _ _ _ (hm w) (Same.refl _) (r.more g) ⟨[w,d,l],hP,fun b hb=>⟨r.fr.fresh (fr b hb),r.fr.gfresh (fr b hb)⟩⟩ (Apart.newB r (fun fp h b hb=>?_) (Same.refl _) fun b o _ gn e=>⟨gn,g b o e⟩);rw[Bx.uniq _ h hP] at hb;exact fr b hb
theorem a9E {Γ:En}{Q:Rv→En→Prop}(h:∀ w,Q (.box ((tY C "kept").box w [])) Γ):a5P C Γ Q:=h
end
end
section
variable {P0:AA→Hp→Prop}{A:Nat→Bool}
end
end L2.VS
namespace L2.Srt
open PySem PyProof.Rows
section
variable {prog:AQ}{w:AL}{A:AR}{E:AB→AC→Prop}{s:AC}
structure Cmp (prog:AQ)(w:AL)(A:AR)(s:AC)(κ:BC)(rk:AE→Int)(a₀:Array AE):Prop where
 ask:∀{x y:AE} {Q:Bool→AC→Prop} {E:AB→AC→Prop},x∈a₀.toList→y∈a₀.toList→Q (decide (rk x<rk y)) s→AK (AF prog w) A (keyLt' κ x.1 y.1) Q E s
structure SB (κ:BC)(a₀:Array AE)(st:AJ):Prop where
 perm:(AD st).Perm a₀
 kind:kindOf st=κ
 failed:Cs st=none
variable {κ:BC}{rk:AE→Int}{a₀:Array AE}
def K (rk:AE→Int)(xs:Array AE)(i:Nat):Int:=match xs[i]? with
 | some p=>rk p
 | none=>0
theorem K_congr {xs ys:Array AE}{i j:Nat}(h:xs[i]?=ys[j]?):K rk xs i=K rk ys j:=by unfold K; rw[h]
theorem SB.size {st:AJ}(h:SB κ a₀ st):(AD st).size=a₀.size:=h.perm.size_eq
theorem SB.mem {st:AJ}(h:SB κ a₀ st){x:AE}(hx:x∈(AD st).toList):x∈a₀.toList:=(EM.mp h.perm).mem_iff.mp hx
theorem SB.at {st:AJ}(h:SB κ a₀ st){i:Nat}(hi:i<a₀.size):∃ x,(AD st)[i]?=some x∧x∈a₀.toList∧rk x=K rk (AD st) i:=by
 have e:=CF (xs:=AD st) (i:=i) (Nat.lt_of_lt_of_eq hi h.size.symm);exact⟨_,e,h.mem (Array.getElem_mem_toList _),by simp only[K,e]⟩
theorem SB.set {st:AJ}(h:SB κ a₀ st){xs:Array AE}(hp:xs.Perm (AD st)):SB κ a₀ (setArr st xs):=⟨hp.trans h.perm,h.kind,h.failed⟩
theorem uM {st:AJ}{x y:AE}{Q:Option Bool→AJ→Prop}(C:Cmp prog w A s κ rk a₀)(hB:SB κ a₀ st)(hx:x∈a₀.toList)(hy:y∈a₀.toList)(h:Q (some (decide (rk x<rk y))) st):wpS (AF prog w) A E s (lt' x y) Q st:=by
 rw[lt'_eq];refine AG (Bc ?_);rw[hB.kind];refine AG (CG (wpAny_attempt (C.ask hx hy ⟨rfl,?_⟩)));exact AI h
theorem wpS_ltAt {st:AJ}{i j:Nat}{Q:Option Bool→AJ→Prop}(C:Cmp prog w A s κ rk a₀)(hB:SB κ a₀ st)(hi:i<a₀.size)(hj:j<a₀.size)(h:Q (some (decide (K rk (AD st) i<K rk (AD st) j))) st):wpS (AF prog w) A E s (ltAt' i j) Q st:=by
 have⟨x,e1,hx,kx⟩:=hB.at (rk:=rk) hi;have⟨y,e2,hy,ky⟩:=hB.at (rk:=rk) hj;have el:∀{k:Nat} {z:AE} {R:AE→AJ→Prop},(AD st)[k]?=some z→R z st→wpS (AF prog w) A E s (elem' (AD st) k) R st:=fun ez hR=>by rw[elem'_eq,ez]; exact AI hR
 rw[ltAt'_eq];exact AG (Bc (AG (el e1 (AG (el e2 (uM C hB hx hy (by rw[kx,ky]; exact h)))))))
theorem wpS_reverse {st:AJ}{i j:Nat}{Q:Unit→AJ→Prop}(h:Q () (setArr st (Ao (AD st) i j ((j-i)/2)))):wpS (AF prog w) A E s (reverseSlice' i j) Q st:=by
 rw[reverseSlice'_eq];exact Bp h
theorem K_mirror {xs:Array AE}{i j:Nat}(hj:j≤xs.size)(k:Nat):K rk (Ao xs i j ((j-i)/2)) k=if i≤k∧k<j then K rk xs (i+j-1-k) else K rk xs k:=by
 unfold K;rw[Ew hj]
 by_cases c:i≤k∧k<j<;>simp only[c,and_self,if_true,if_false]
theorem K_bubble {xs:Array AE}{src d:Nat}(hs:src<xs.size)(hd:d≤src)(k:Nat):K rk (bubble xs src d) k=if k=src-d then K rk xs src else if src-d<k∧k≤src then K rk xs (k-1) else K rk xs k:=by
 unfold K;rw[getElem?_bubble hs d hd]
 by_cases c:k=src-d
 ·rw[if_pos c,if_pos c]
 by_cases z:src-d<k∧k≤src<;>simp only[c,z,and_self,if_true,if_false]
def Up (rk:AE→Int)(xs:Array AE)(i j:Nat):Prop:=∀ p q,i≤p→p≤q→q<j→K rk xs p≤K rk xs q
def Dn (rk:AE→Int)(xs:Array AE)(i j:Nat):Prop:=∀ p q,i≤p→p≤q→q<j→K rk xs q≤K rk xs p
structure Fx (i j:Nat)(st st':AJ):Prop where
 out:∀ k,k<i∨j≤k→(AD st')[k]?=(AD st)[k]?
 pend:Ae st'=Ae st
theorem Fx.refl (i j:Nat)(st:AJ):Fx i j st st:=⟨fun _ _=>rfl,rfl⟩
theorem Fx.trans {i j:Nat}{st st' st'':AJ}(h:Fx i j st st')(g:Fx i j st' st''):Fx i j st st'':=⟨fun k hk=>(g.out k hk).trans (h.out k hk),g.pend.trans h.pend⟩
theorem Fx.wide {i j i' j':Nat}{st st':AJ}(h:Fx i j st st')(hi:i'≤i)(hj:j≤j'):Fx i' j' st st':=⟨fun k hk=>h.out k (by omega),h.pend⟩
theorem fM {st:AJ}{i j:Nat}(hj:j≤(AD st).size):Fx i j st (setArr st (Ao (AD st) i j ((j-i)/2))):=⟨fun k hk=>(Ew hj k).trans (if_neg (by omega)),rfl⟩
theorem zT {st:AJ}{src d:Nat}(hs:src<(AD st).size)(hd:d≤src):Fx (src-d) (src+1) st (setArr st (bubble (AD st) src d)):=⟨fun k hk=>(getElem?_bubble hs d hd k).trans ((if_neg (by omega)).trans (if_neg (by omega))),rfl⟩
theorem tW {xs:Array AE}{i j:Nat}(hj:j≤xs.size)(heq:∀ k,i≤k→k<j→K rk xs k=K rk xs (j-1))(k:Nat):K rk (Ao xs i j ((j-i)/2)) k=K rk xs k:=by
 rw[K_mirror hj]
 split
 ·exact(heq _ (by omega) (by omega)).trans (heq k (by omega) (by omega)).symm
 ·rfl
def CR (κ:BC)(rk:AE→Int)(a₀:Array AE)(lo nrem:Nat)(st:AJ)(r:Option Nat)(st':AJ):Prop:=∃ n,r=some n∧1≤n∧n≤nrem∧SB κ a₀ st'∧Fx lo (lo+nrem) st st'∧Up rk (AD st') lo (lo+n)
abbrev As:=Option (Option Nat)×Nat
theorem pJ {st:AJ}{lo n₀ nrem:Nat}{f:Nat→As→StateT AJ Sem (ForInStep As)}{Q:As→AJ→Prop}(h1:1≤n₀)(h2:n₀≤nrem)(hu:Up rk (AD st) lo (lo+n₀))
  (hf:∀(i n:Nat) (Q':ForInStep As→AJ→Prop),1≤n→n<nrem→(K rk (AD st) (lo+n)<K rk (AD st) (lo+n-1)→Q' (.done (none,n)) st)→(¬K rk (AD st) (lo+n)<K rk (AD st) (lo+n-1)→Q' (.yield (none,n+1)) st)→wpS (AF prog w) A E s (f i (none,n)) Q' st)
  (h:∀ n,n₀≤n→n≤nrem→Up rk (AD st) lo (lo+n)→(n<nrem→K rk (AD st) (lo+n)<K rk (AD st) (lo+n-1))→Q (none,n) st):wpS (AF prog w) A E s (forIn [n₀:nrem] ((none,n₀):As) f) Q st:=by
 refine A8 (I:=fun i c st'=>c=(none,i)∧st'=st∧Up rk (AD st) lo (lo+i)) ?_ ?_ ⟨rfl,rfl,hu⟩
 ·rintro i c st' hi1 hi2 ⟨rfl,rfl,hu⟩;refine hf i i _ (by omega) hi2 (fun hlt=>h i hi1 (by omega) hu fun _=>hlt) fun hlt=>⟨rfl,rfl,fun p q hp hpq hq=>?_⟩
  by_cases c:q<lo+i
  ·exact hu p q hp hpq c
  ·have eq:q=lo+i:=by omega
   subst eq
   by_cases d:p=lo+i
   ·rw[d]; exact CH _
   ·have:=hu p (lo+i-1) hp (by omega) (by omega);omega
 ·rintro c st' ⟨rfl,rfl,hu⟩;rw[EN h2] at hu ⊢;exact h nrem h2 (AT _) hu fun z=>absurd z (B8 _)
theorem xP {st1:AJ}{lo n:Nat}(hz:lo+n≤(AD st1).size)(hd:Dn rk (AD st1) lo (lo+n)):Up rk (AD (setArr st1 (Ao (AD st1) lo (lo+n) ((lo+n-lo)/2)))) lo (lo+n):=fun p q hp hpq hq=>by
 show K rk (Ao (AD st1) lo (lo+n) ((lo+n-lo)/2)) p≤K rk (Ao (AD st1) lo (lo+n) ((lo+n-lo)/2)) q;rw[K_mirror hz,K_mirror hz,if_pos (by omega),if_pos (by omega)];exact hd _ _ (by omega) (by omega) (by omega)
theorem nM {ys xs:Array AE}{lo i:Nat}(hd:Dn rk ys lo (lo+i))(hxs:∀ k,K rk xs k=K rk ys k)(hle:K rk ys (lo+i)≤K rk ys (lo+i-1)):Dn rk xs lo (lo+(i+1)):=fun p q hp hpq hq=>by
 rw[hxs,hxs]
 by_cases c:q<lo+i
 ·exact hd p q hp hpq c
 ·have eq:q=lo+i:=by omega
  subst eq
  by_cases d:p=lo+i
  ·rw[d]; exact CH _
  ·have:=hd p (lo+i-1) hp (by omega) (by omega);omega
theorem wpS_countRun {st:AJ}{lo nrem:Nat}{Q:Option Nat→AJ→Prop}(C:Cmp prog w A s κ rk a₀)(h1:1≤nrem)(hn:lo+nrem≤a₀.size)(hB:SB κ a₀ st)
  (h:∀ r st',CR κ rk a₀ lo nrem st r st'→Q r st'):wpS (AF prog w) A E s (countRun' lo nrem) Q st:=by
 refine A2 ?_ h;refine AG (pJ (rk:=rk) (n₀:=1) (AT _) h1 (fun p q hp hpq hq=>by rw[show p=q by omega]; exact CH _) (fun i m Q' a1 a2 y1 y2=>by
  refine AG (wpS_ltAt C hB (by omega) (by omega) ?_);dsimp only
  by_cases hlt:K rk (AD st) (lo+m)<K rk (AD st) (lo+m-1)
  ·rw[decide_eq_true hlt,if_pos rfl];exact AI (y1 hlt)
  ·rw[decide_eq_false hlt,if_neg (by decide)];exact AI (y2 hlt)) fun n n1 n2 hu hb=>?_)
 dsimp only
 by_cases c0:n=nrem
 ·rw[if_pos (by simpa using c0)];exact AI ⟨n,rfl,n1,n2,hB,Fx.refl _ _ _,hu⟩
 ·rw[if_neg (by simpa using c0)];have hb:=hb (by omega)
  by_cases c1:n>1
  ·rw[if_pos c1];refine AG (wpS_ltAt C hB (by omega) (by omega) ?_);dsimp only
   by_cases hr:K rk (AD st) lo<K rk (AD st) (lo+n-1)
   ·rw[decide_eq_true hr,if_pos rfl];exact AI ⟨n,rfl,n1,n2,hB,Fx.refl _ _ _,hu⟩
   ·rw[decide_eq_false hr,if_neg (by decide)];have hz:lo+n≤(AD st).size:=by rw[hB.size]; omega
    have same:∀ p,lo≤p→p<lo+n→K rk (AD st) p=K rk (AD st) (lo+n-1):=fun p p1 p2=>by
     have a:=hu lo p (AT _) p1 p2;have b:=hu p (lo+n-1) p1 (by omega) (by omega);omega
    have ks:=tW (rk:=rk) (xs:=AD st) (i:=lo) (j:=lo+n) hz same;refine AG (wpS_reverse ?_);have hB7:=hB.set (B3 (AD st) lo (lo+n) ((lo+n-lo)/2));have fx7:=(fM (st:=st) (i:=lo) hz).wide (i':=lo) (j':=lo+nrem) (AT _) (by omega);have hd7:Dn rk (AD (setArr st (Ao (AD st) lo (lo+n) ((lo+n-lo)/2)))) lo (lo+(n+1)):=fun p q hp hpq hq=>by
     show K rk (Ao (AD st) _ _ _) q≤K rk (Ao (AD st) _ _ _) p;rw[ks,ks]
     by_cases d1:q<lo+n
     ·rw[same q (by omega) d1,same p hp (by omega)]; exact CH _
     ·have eq:q=lo+n:=by omega
      subst eq
      by_cases d2:p=lo+n
      ·rw[d2]; exact CH _
      ·rw[same p hp (by omega)];omega
    generalize setArr st (Ao (AD st) lo (lo+n) ((lo+n-lo)/2))=st7 at *;refine AG (CG (CC ⟨rfl,?_⟩));refine AG (A2 (A8 (I:=fun i c st'=>∃ neq,c=(none,i,neq)∧SB κ a₀ st'∧Fx lo (lo+nrem) st st'∧Dn rk (AD st') lo (lo+i)∧neq+1≤i∧∀ p,lo+i-(neq+1)≤p→p<lo+i→K rk (AD st') p=K rk (AD st') (lo+i-1))
     (Q:=fun c st'=>∃ n neq,c=(none,n,neq)∧1≤n∧n≤nrem∧SB κ a₀ st'∧Fx lo (lo+nrem) st st'∧Dn rk (AD st') lo (lo+n)∧neq+1≤n∧∀ p,lo+n-(neq+1)≤p→p<lo+n→K rk (AD st') p=K rk (AD st') (lo+n-1)) ?_ ?_
     ⟨0,rfl,hB7,fx7,hd7,by omega,fun p p1 p2=>by rw[show p=lo+(n+1)-1 by omega]⟩) fun c st' hc=>?_)
    ·rintro i c st' hi1 hi2 ⟨neq,rfl,hB,fx,hd,hq,he⟩;have hz:lo+i≤(AD st').size:=by rw[hB.size]; omega
     dsimp only;refine AG (wpS_ltAt C hB (by omega) (by omega) ?_);dsimp only
     by_cases hlt:K rk (AD st') (lo+i)<K rk (AD st') (lo+i-1)
     ·rw[decide_eq_true hlt,if_pos rfl]
      by_cases c0:neq>0
      ·rw[if_pos c0];have ks:=tW (rk:=rk) (xs:=AD st') (i:=lo+i-(neq+1)) (j:=lo+i) hz fun k k1 k2=>he k k1 k2;exact AG (wpS_reverse (AI ⟨0,rfl,hB.set (B3 _ _ _ _),fx.trans ((fM hz).wide (by omega) (by omega)),nM hd ks (by omega),by omega,fun p p1 p2=>by rw[show p=lo+(i+1)-1 by omega]⟩))
      ·rw[if_neg c0];exact AI ⟨0,rfl,hB,fx,nM hd (fun _=>rfl) (by omega),by omega,fun p p1 p2=>by rw[show p=lo+(i+1)-1 by omega]⟩
     ·rw[decide_eq_false hlt,if_neg (by decide)];refine AG (wpS_ltAt C hB (by omega) (by omega) ?_);dsimp only
      by_cases hgt:K rk (AD st') (lo+i-1)<K rk (AD st') (lo+i)
      ·rw[decide_eq_true hgt,if_pos rfl];exact AI ⟨i,neq,rfl,by omega,by omega,hB,fx,hd,hq,he⟩
      ·rw[decide_eq_false hgt,if_neg (by decide)];refine AI ⟨neq+1,rfl,hB,fx,nM hd (fun _=>rfl) (by omega),by omega,fun p p1 p2=>?_⟩;rw[show lo+(i+1)-1=lo+i by omega]
       by_cases c:p=lo+i
       ·rw[c]
       ·have:=he p (by omega) (by omega);omega
    ·rintro c st' ⟨neq,rfl,hB,fx,hd,hq,he⟩;rw[EN (show n+1≤nrem by omega)] at *;exact⟨nrem,neq,rfl,by omega,AT _,hB,fx,hd,hq,he⟩
    ·obtain⟨n5,neq,rfl,n51,n52,hB,fx,hd,hq,he⟩:=hc;have hz:lo+n5≤(AD st').size:=by rw[hB.size]; omega
     dsimp only
     by_cases c0:neq>0
     ·rw[if_pos c0];have ks:=tW (rk:=rk) (xs:=AD st') (i:=lo+n5-(neq+1)) (j:=lo+n5) hz fun k k1 k2=>he k k1 k2;refine AG (wpS_reverse ?_);have hB8:=hB.set (B3 (AD st') (lo+n5-(neq+1)) (lo+n5) ((lo+n5-(lo+n5-(neq+1)))/2));have fx8:=fx.trans ((fM (i:=lo+n5-(neq+1)) hz).wide (by omega) (by omega));have hd8:Dn rk (AD (setArr st' (Ao (AD st') (lo+n5-(neq+1)) (lo+n5) ((lo+n5-(lo+n5-(neq+1)))/2)))) lo (lo+n5):=fun p q hp hpq hq=>by
       show K rk (Ao (AD st') _ _ _) q≤K rk (Ao (AD st') _ _ _) p;rw[ks,ks];exact hd p q hp hpq hq
      generalize setArr st' (Ao (AD st') (lo+n5-(neq+1)) (lo+n5) ((lo+n5-(lo+n5-(neq+1)))/2))=st8 at *;have hz9:lo+n5≤(AD st8).size:=by rw[(hB8).size]; omega
      refine AG (wpS_reverse ?_);have hB9:=(hB8).set (B3 (AD st8) lo (lo+n5) ((lo+n5-lo)/2));have fx9:=(fx8).trans ((fM (st:=st8) (i:=lo) hz9).wide (AT _) (by omega));refine AG (pJ n51 n52 (xP hz9 hd8) (fun i m Q' a1 a2 y1 y2=>by
       refine AG (wpS_ltAt C hB9 (by omega) (by omega) ?_);dsimp only
       by_cases hlt:K rk (AD (setArr st8 (Ao (AD st8) lo (lo+n5) ((lo+n5-lo)/2)))) (lo+m)<K rk (AD (setArr st8 (Ao (AD st8) lo (lo+n5) ((lo+n5-lo)/2)))) (lo+m-1)
       ·rw[decide_eq_true hlt,if_pos rfl];exact AI (y1 hlt)
       ·rw[decide_eq_false hlt,if_neg (by decide)];exact AI (y2 hlt)) fun m m1 m2 hm _=>?_)
      exact AI ⟨m,rfl,by omega,m2,hB9,fx9,hm⟩
     ·rw[if_neg c0];have hz9:lo+n5≤(AD st').size:=by rw[(hB).size]; omega
      refine AG (wpS_reverse ?_);have hB9:=(hB).set (B3 (AD st') lo (lo+n5) ((lo+n5-lo)/2));have fx9:=(fx).trans ((fM (st:=st') (i:=lo) hz9).wide (AT _) (by omega));refine AG (pJ n51 n52 (xP hz9 hd) (fun i m Q' a1 a2 y1 y2=>by
       refine AG (wpS_ltAt C hB9 (by omega) (by omega) ?_);dsimp only
       by_cases hlt:K rk (AD (setArr st' (Ao (AD st') lo (lo+n5) ((lo+n5-lo)/2)))) (lo+m)<K rk (AD (setArr st' (Ao (AD st') lo (lo+n5) ((lo+n5-lo)/2)))) (lo+m-1)
       ·rw[decide_eq_true hlt,if_pos rfl];exact AI (y1 hlt)
       ·rw[decide_eq_false hlt,if_neg (by decide)];exact AI (y2 hlt)) fun m m1 m2 hm _=>?_)
      exact AI ⟨m,rfl,by omega,m2,hB9,fx9,hm⟩
  ·rw[if_neg c1];have e1:n=1:=by omega
   subst e1;have hd7:Dn rk (AD st) lo (lo+(1+1)):=fun p q hp hpq hq=>by
    by_cases d1:p=q
    ·rw[d1]; exact CH _
    ·have e2:p=lo:=by omega
     have e3:q=lo+1:=by omega
     subst e2 e3;rw[show p+1-1=p by omega] at hb;omega
   refine AG (CG (CC ⟨rfl,?_⟩));refine AG (A2 (A8 (I:=fun i c st'=>∃ neq,c=(none,i,neq)∧SB κ a₀ st'∧Fx lo (lo+nrem) st st'∧Dn rk (AD st') lo (lo+i)∧neq+1≤i∧∀ p,lo+i-(neq+1)≤p→p<lo+i→K rk (AD st') p=K rk (AD st') (lo+i-1))
    (Q:=fun c st'=>∃ n neq,c=(none,n,neq)∧1≤n∧n≤nrem∧SB κ a₀ st'∧Fx lo (lo+nrem) st st'∧Dn rk (AD st') lo (lo+n)∧neq+1≤n∧∀ p,lo+n-(neq+1)≤p→p<lo+n→K rk (AD st') p=K rk (AD st') (lo+n-1)) ?_ ?_
    ⟨0,rfl,hB,Fx.refl _ _ _,hd7,by omega,fun p p1 p2=>by rw[show p=lo+(1+1)-1 by omega]⟩) fun c st' hc=>?_)
   ·rintro i c st' hi1 hi2 ⟨neq,rfl,hB,fx,hd,hq,he⟩;have hz:lo+i≤(AD st').size:=by rw[hB.size]; omega
    dsimp only;refine AG (wpS_ltAt C hB (by omega) (by omega) ?_);dsimp only
    by_cases hlt:K rk (AD st') (lo+i)<K rk (AD st') (lo+i-1)
    ·rw[decide_eq_true hlt,if_pos rfl]
     by_cases c0:neq>0
     ·rw[if_pos c0];have ks:=tW (rk:=rk) (xs:=AD st') (i:=lo+i-(neq+1)) (j:=lo+i) hz fun k k1 k2=>he k k1 k2;exact AG (wpS_reverse (AI ⟨0,rfl,hB.set (B3 _ _ _ _),fx.trans ((fM hz).wide (by omega) (by omega)),nM hd ks (by omega),by omega,fun p p1 p2=>by rw[show p=lo+(i+1)-1 by omega]⟩))
     ·rw[if_neg c0];exact AI ⟨0,rfl,hB,fx,nM hd (fun _=>rfl) (by omega),by omega,fun p p1 p2=>by rw[show p=lo+(i+1)-1 by omega]⟩
    ·rw[decide_eq_false hlt,if_neg (by decide)];refine AG (wpS_ltAt C hB (by omega) (by omega) ?_);dsimp only
     by_cases hgt:K rk (AD st') (lo+i-1)<K rk (AD st') (lo+i)
     ·rw[decide_eq_true hgt,if_pos rfl];exact AI ⟨i,neq,rfl,by omega,by omega,hB,fx,hd,hq,he⟩
     ·rw[decide_eq_false hgt,if_neg (by decide)];refine AI ⟨neq+1,rfl,hB,fx,nM hd (fun _=>rfl) (by omega),by omega,fun p p1 p2=>?_⟩;rw[show lo+(i+1)-1=lo+i by omega]
      by_cases c:p=lo+i
      ·rw[c]
      ·have:=he p (by omega) (by omega);omega
   ·rintro c st' ⟨neq,rfl,hB,fx,hd,hq,he⟩;rw[EN (show 1+1≤nrem by omega)] at *;exact⟨nrem,neq,rfl,by omega,AT _,hB,fx,hd,hq,he⟩
   ·obtain⟨n5,neq,rfl,n51,n52,hB,fx,hd,hq,he⟩:=hc;have hz:lo+n5≤(AD st').size:=by rw[hB.size]; omega
    dsimp only
    by_cases c0:neq>0
    ·rw[if_pos c0];have ks:=tW (rk:=rk) (xs:=AD st') (i:=lo+n5-(neq+1)) (j:=lo+n5) hz fun k k1 k2=>he k k1 k2;refine AG (wpS_reverse ?_);have hB8:=hB.set (B3 (AD st') (lo+n5-(neq+1)) (lo+n5) ((lo+n5-(lo+n5-(neq+1)))/2));have fx8:=fx.trans ((fM (i:=lo+n5-(neq+1)) hz).wide (by omega) (by omega));have hd8:Dn rk (AD (setArr st' (Ao (AD st') (lo+n5-(neq+1)) (lo+n5) ((lo+n5-(lo+n5-(neq+1)))/2)))) lo (lo+n5):=fun p q hp hpq hq=>by
      show K rk (Ao (AD st') _ _ _) q≤K rk (Ao (AD st') _ _ _) p;rw[ks,ks];exact hd p q hp hpq hq
     generalize setArr st' (Ao (AD st') (lo+n5-(neq+1)) (lo+n5) ((lo+n5-(lo+n5-(neq+1)))/2))=st8 at *;have hz9:lo+n5≤(AD st8).size:=by rw[(hB8).size]; omega
     refine AG (wpS_reverse ?_);have hB9:=(hB8).set (B3 (AD st8) lo (lo+n5) ((lo+n5-lo)/2));have fx9:=(fx8).trans ((fM (st:=st8) (i:=lo) hz9).wide (AT _) (by omega));refine AG (pJ n51 n52 (xP hz9 hd8) (fun i m Q' a1 a2 y1 y2=>by
      refine AG (wpS_ltAt C hB9 (by omega) (by omega) ?_);dsimp only
      by_cases hlt:K rk (AD (setArr st8 (Ao (AD st8) lo (lo+n5) ((lo+n5-lo)/2)))) (lo+m)<K rk (AD (setArr st8 (Ao (AD st8) lo (lo+n5) ((lo+n5-lo)/2)))) (lo+m-1)
      ·rw[decide_eq_true hlt,if_pos rfl];exact AI (y1 hlt)
      ·rw[decide_eq_false hlt,if_neg (by decide)];exact AI (y2 hlt)) fun m m1 m2 hm _=>?_)
     exact AI ⟨m,rfl,by omega,m2,hB9,fx9,hm⟩
    ·rw[if_neg c0];have hz9:lo+n5≤(AD st').size:=by rw[(hB).size]; omega
     refine AG (wpS_reverse ?_);have hB9:=(hB).set (B3 (AD st') lo (lo+n5) ((lo+n5-lo)/2));have fx9:=(fx).trans ((fM (st:=st') (i:=lo) hz9).wide (AT _) (by omega));refine AG (pJ n51 n52 (xP hz9 hd) (fun i m Q' a1 a2 y1 y2=>by
      refine AG (wpS_ltAt C hB9 (by omega) (by omega) ?_);dsimp only
      by_cases hlt:K rk (AD (setArr st' (Ao (AD st') lo (lo+n5) ((lo+n5-lo)/2)))) (lo+m)<K rk (AD (setArr st' (Ao (AD st') lo (lo+n5) ((lo+n5-lo)/2)))) (lo+m-1)
      ·rw[decide_eq_true hlt,if_pos rfl];exact AI (y1 hlt)
      ·rw[decide_eq_false hlt,if_neg (by decide)];exact AI (y2 hlt)) fun m m1 m2 hm _=>?_)
     exact AI ⟨m,rfl,by omega,m2,hB9,fx9,hm⟩
end
end L2.Srt
namespace L2.Srt
open PySem PyProof.Rows
section
variable {prog:AQ}{w:AL}{A:AR}{E:AB→AC→Prop}{s:AC}{κ:BC}{rk:AE→Int}{a₀:Array AE}
structure Cut (rk:AE→Int)(xs:Array AE)(lo k l r:Nat):Prop where
 le:l≤r
 ke:r≤k
 low:∀ p,lo≤p→p<lo+l→K rk xs p≤K rk xs (lo+k)
 high:∀ p,lo+r≤p→p<lo+k→K rk xs (lo+k)<K rk xs p
variable {xs:Array AE}{lo k l r:Nat}
theorem Cut.all (rk:AE→Int)(xs:Array AE)(lo k:Nat):Cut rk xs lo k 0 k:=⟨Ah _,AT _,fun p a b=>absurd b (by omega),fun p a b=>absurd b (by omega)⟩
theorem Cut.left (c:Cut rk xs lo k l r)(hu:Up rk xs lo (lo+k))(hl:l<r)(h:K rk xs (lo+k)<K rk xs (lo+(l+r)/2)):Cut rk xs lo k l ((l+r)/2):=
 have:=c.ke
 ⟨by omega,by omega,c.low,fun p a b=>Int.lt_of_lt_of_le h (hu _ p (by omega) a b)⟩
theorem Cut.right (c:Cut rk xs lo k l r)(hu:Up rk xs lo (lo+k))(hl:l<r)(h:¬K rk xs (lo+k)<K rk xs (lo+(l+r)/2)):Cut rk xs lo k ((l+r)/2+1) r:=
 have:=c.ke
 ⟨by omega,c.ke,fun p a b=>Int.le_trans (hu p (lo+(l+r)/2) a (by omega) (by omega)) (Int.not_lt.mp h),c.high⟩
theorem Cut.put (c:Cut rk xs lo k l l)(hu:Up rk xs lo (lo+k))(hk:lo+k<xs.size):Up rk (bubble xs (lo+k) (lo+k-(lo+l))) lo (lo+(k+1)):=fun p q hp hpq hq=>by
 have:=c.ke;rw[K_bubble hk (by omega),K_bubble hk (by omega),show lo+k-(lo+k-(lo+l))=lo+l by omega];have hh:∀ p,lo+l≤p→p<lo+k→K rk xs (lo+k)≤K rk xs p:=fun p a b=>Int.le_of_lt (c.high p a b)
 repeat' split
 all_goals first
  | (exfalso; omega)
  | exact CH _
  | exact c.low _ (by omega) (by omega)
  | exact hh _ (by omega) (by omega)
  | exact hu _ _ (by omega) (by omega) (by omega)
theorem tR {st:AJ}{i j:Nat}{Q:Unit→AJ→Prop}(h:Q () (setArr st (bubble (AD st) i (i-j)))):wpS (AF prog w) A E s (moveDown' i j) Q st:=by
 rw[moveDown'_eq]; exact Bp h
theorem wpS_binarySort {st:AJ}{lo n ok:Nat}{Q:Bool→AJ→Prop}(C:Cmp prog w A s κ rk a₀)(hn:lo+n≤a₀.size)(h1:1≤ok)(hok:ok≤n)(hB:SB κ a₀ st)(hs:Up rk (AD st) lo (lo+ok))
  (h:∀ st',SB κ a₀ st'→Fx lo (lo+n) st st'→Up rk (AD st') lo (lo+n)→Q true st'):wpS (AF prog w) A E s (binarySort' lo n ok) Q st:=by
 rw[binarySort'_eq];refine AG (A2 (A8 (I:=fun k o z=>o=(none,())∧SB κ a₀ z∧Fx lo (lo+n) st z∧Up rk (AD z) lo (lo+k))
  (Q:=fun o z=>o=(none,())∧SB κ a₀ z∧Fx lo (lo+n) st z∧Up rk (AD z) lo (lo+n)) (fun k o z _ hkn hI=>?_) (fun o z hI=>?_) ?_) fun o z hI=>?_)
 ·obtain⟨rfl,bz,fz,uz⟩:=hI;have zk:lo+k<(AD z).size:=by have:=bz.size; omega
  refine AG (A2 (A8 (I:=fun x o y=>y=z∧∃ l r,o=(none,l,r)∧Cut rk (AD z) lo k l r∧r-l≤k-x)
   (Q:=fun o y=>y=z∧∃ l,o=(none,l,l)∧Cut rk (AD z) lo k l l) (fun x o y _ hx hJ=>?_) (fun o y hJ=>?_) ?_) fun o y hJ=>?_)
  ·obtain⟨rfl,l,r,rfl,c,m⟩:=hJ;have:=c.le;have:=c.ke;dsimp only
   by_cases g:l<r
   ·rw[if_neg (by omega)];refine AG (wpS_ltAt C bz (by omega) (by omega) ?_)
    by_cases d:K rk (AD y) (lo+k)<K rk (AD y) (lo+(l+r)/2)
    ·rw[decide_eq_true d];exact AI ⟨rfl,_,_,rfl,c.left uz g d,by omega⟩
    ·rw[decide_eq_false d];exact AI ⟨rfl,_,_,rfl,c.right uz g d,by omega⟩
   ·have e:r=l:=by omega
    rw[e] at c ⊢;rw[if_pos (AT l)];exact AI ⟨rfl,l,rfl,c⟩
  ·obtain⟨rfl,l,r,rfl,c,m⟩:=hJ;have e:r=l:=by have:=c.le; omega
   rw[e] at c ⊢;exact⟨rfl,l,rfl,c⟩
  ·exact⟨rfl,0,k,rfl,Cut.all rk _ lo k,AT _⟩
  ·obtain⟨rfl,l,rfl,c⟩:=hJ;have:=c.ke;exact AG (tR (AI ⟨rfl,bz.set (bubble_perm _ _ _),fz.trans ((zT zk (by omega)).wide (by omega) (by omega)),c.put uz zk⟩))
 ·rw[show max (max ok 1) n=n by omega] at hI;exact hI
 ·rw[Nat.max_eq_left h1];exact⟨rfl,hB,Fx.refl _ _ _,hs⟩
 ·obtain⟨rfl,bz,fz,uz⟩:=hI;exact AI (h z bz fz uz)
end
section
variable {prog:AQ}{w:AL}{A:AR}{E:AB→AC→Prop}{s:AC}{κ:BC}{rk:AE→Int}{a₀:Array AE}
def pY:Bool→AE→Array AE→Nat→Nat→Nat→StateT AJ Sem (Option Nat):=sortPriv% PySem.Builtin.gallop
def byd (rk:AE→Int)(left:Bool)(key:AE)(arr:Array AE)(base i:Nat):Bool:=if left then decide (K rk arr (base+i)<rk key) else !decide (rk key<K rk arr (base+i))
def aA5 (left:Bool)(key x:AE):StateT AJ Sem (Option Bool):=if left=true then lt' x key else lt' key x >>= fun z=>pure (z.map fun y => !y)
theorem a6A {st:AJ}{left:Bool}{key:AE}{arr:Array AE}{base i:Nat}{Q:Option Bool→AJ→Prop}(C:Cmp prog w A s κ rk a₀)(hB:SB κ a₀ st)(hk:key∈a₀.toList)(ha:∀ x∈arr.toList,x∈a₀.toList)(hi:base+i<arr.size)
  (h:Q (some (byd rk left key arr base i)) st):wpS (AF prog w) A E s (elem' arr (base+i) >>= aA5 left key) Q st:=by
 have e:arr[base+i]?=some (arr[base+i]'hi):=CF hi;have hm:(arr[base+i]'hi)∈a₀.toList:=ha _ (by simp);have hK:K rk arr (base+i)=rk (arr[base+i]'hi):=by unfold K; rw[e]
 unfold byd at h;rw[hK] at h;rw[elem'_eq,e];refine AG (AI ?_);unfold aA5
 cases left with
 | true=>
  rw[if_pos rfl] at h ⊢;exact uM C hB hm hk h
 | false=>
  rw[if_neg (by decide)] at h ⊢;exact AG (uM C hB hk hm (AI h))
theorem gM {st:AJ}{left:Bool}{key:AE}{arr:Array AE}{base n hint:Nat}{Q:Option Nat→AJ→Prop}(C:Cmp prog w A s κ rk a₀)(hB:SB κ a₀ st)(hk:key∈a₀.toList)(ha:∀ x∈arr.toList,x∈a₀.toList)
  (hn:base+n≤arr.size) (hh:hint<n) (hs:Up rk arr base (base+n))
  (h:∀ k,k≤n→(∀ i,i<k→byd rk left key arr base i=true)→(∀ i,k≤i→i<n→byd rk left key arr base i=false)→Q (some k) st):wpS (AF prog w) A E s (pY left key arr base n hint) Q st:=by
 have mono:∀ i j,i≤j→j<n→byd rk left key arr base j=true→byd rk left key arr base i=true:=fun i j hij hj hb=>by
  have:=hs (base+i) (base+j) (by omega) (by omega) (by omega);unfold byd at hb ⊢
  cases left with
  | true=>
   rw[if_pos rfl,decide_eq_true_eq] at hb ⊢;omega
  | false=>
   rw[if_neg (by decide),CT,decide_eq_false_iff_not] at hb ⊢;omega
 have monoF:∀ i j,i≤j→j<n→byd rk left key arr base i=false→byd rk left key arr base j=false:=fun i j hij hj hb=>by
  cases c:byd rk left key arr base j with
  | false=>rfl
  | true=>rw[mono i j hij hj c] at hb; cases hb
 generalize hP:byd rk left key arr base=P at *;have ask:∀{i:Nat} {Q:Option Bool→AJ→Prop},i<n→Q (some (P i)) st→wpS (AF prog w) A E s (elem' arr (base+i) >>= aA5 left key) Q st:=fun{i Q} hi h=>a6A C hB hk ha (by omega) (by rw[hP]; exact h);refine AG (ask hh ?_);dsimp only;have fin:∀{f:Option (Option Nat)×Nat×Nat→StateT AJ Sem (Option Nat)} {b:Nat→Option (Option Nat)×Nat×Nat→StateT AJ Sem (ForInStep (Option (Option Nat)×Nat×Nat))} lo hi,(∀ l r,f (none,l,r)=pure (some r)) →
   (∀ x l r (Q':ForInStep (Option (Option Nat)×Nat×Nat)→AJ→Prop),r≤n→(l≥r→Q' (.done (none,l,r)) st)→(l<r→P (l+(r-l)/2)=true→Q' (.yield (none,l+(r-l)/2+1,r)) st)→(l<r→P (l+(r-l)/2)=false→Q' (.yield (none,l,l+(r-l)/2)) st)→wpS (AF prog w) A E s (b x (none,l,r)) Q' st) →
   lo≤hi→hi≤n→(∀ i,i<lo→P i=true)→(∀ i,hi≤i→i<n→P i=false)→wpS (AF prog w) A E s (forIn [0:n] ((none,lo,hi):Option (Option Nat)×Nat×Nat) b >>= f) Q st:=by
  intro f b lo hi hf hb hlh hhn hT hF;refine AG (A2 (A8 (I:=fun x c st'=>st'=st∧∃ l r,c=(none,l,r)∧l≤r∧r≤n∧r-l≤n-x∧(∀ i,i<l→P i=true)∧(∀ i,r≤i→i<n→P i=false))
   (Q:=fun c st'=>st'=st∧∃ r,c.1=none∧c.2.2=r∧r≤n∧(∀ i,i<r→P i=true)∧(∀ i,r≤i→i<n→P i=false)) ?_ ?_ ⟨rfl,lo,hi,rfl,hlh,hhn,by omega,hT,hF⟩) fun c st' hc=>?_)
  ·rintro x c st' _ hx ⟨rfl,l,r,rfl,h1,h2,h3,hT,hF⟩;refine hb x l r _ h2 (fun hge=>⟨rfl,r,rfl,rfl,h2,fun i hi=>hT i (by omega),hF⟩) (fun hge hp=>⟨rfl,_,r,rfl,by omega,h2,by omega,fun i hi=>mono i (l+(r-l)/2) (by omega) (by omega) hp,hF⟩) fun hge hp=>⟨rfl,l,_,rfl,by omega,by omega,by omega,hT,fun i hi hi2=>monoF (l+(r-l)/2) i hi hi2 hp⟩
  ·rintro c st' ⟨rfl,l,r,rfl,h1,h2,h3,hT,hF⟩;exact⟨rfl,r,rfl,rfl,h2,fun i hi=>hT i (by omega),hF⟩
  ·obtain⟨rfl,r,c1,c2,h2,hT,hF⟩:=hc;obtain⟨c0,l,r'⟩:=c;dsimp only at c1 c2;subst c1 c2;rw[hf];exact AI (h r' h2 hT hF)
 cases hb:P hint with
 | true=>
  rw[if_pos rfl];refine AG (A2 (A8 (I:=fun x c st'=>st'=st∧∃ la o,c=(none,la,o)∧la<o∧x+1≤o∧hint+la<n∧P (hint+la)=true)
   (Q:=fun c st'=>st'=st∧∃ la o,c=(none,la,o)∧la<o∧hint+la<n∧P (hint+la)=true∧(hint+o<n→P (hint+o)=false)) ?_ ?_ ⟨rfl,0,1,rfl,by omega,by omega,hh,hb⟩) fun c st' hc=>?_)
  ·rintro x c st' _ hx ⟨rfl,la,o,rfl,h1,h2,h3,h4⟩;dsimp only
   by_cases hge:o≥n-hint
   ·rw[if_pos hge];exact AI ⟨rfl,la,o,rfl,h1,h3,h4,fun z=>by omega⟩
   ·rw[if_neg hge];refine AG (ask (by omega) ?_);dsimp only
    cases hb2:P (hint+o) with
    | false=>
     rw[if_pos (show(!false)=true from rfl)];exact AI ⟨rfl,la,o,rfl,h1,h3,h4,fun _=>hb2⟩
    | true=>
     rw[if_neg (show ¬(!true)=true by decide)];exact AI ⟨rfl,o,_,rfl,by omega,by omega,by omega,hb2⟩
  ·rintro c st' ⟨rfl,la,o,rfl,h1,h2,h3,h4⟩;exact⟨rfl,la,o,rfl,h1,h3,h4,fun z=>by omega⟩
  ·obtain⟨rfl,la,o,rfl,h1,h3,h4,h5⟩:=hc;dsimp only;refine fin (hint+la+1) (hint+min o (n-hint)) (fun _ _=>rfl) (fun x l r Q' h2 q1 q2 q3=>by
    dsimp only
    by_cases hge:l≥r
    ·rw[if_pos hge];exact AI (q1 hge)
    ·rw[if_neg hge];refine AG (ask (by omega) ?_);dsimp only
     cases hb:P (l+(r-l)/2) with
     | true=>
      rw[if_pos rfl];exact AI (q2 (by omega) hb)
     | false=>
      rw[if_neg (by decide)];exact AI (q3 (by omega) hb)) (by omega) (by omega) (fun i hi=>mono i (hint+la) (by omega) h3 h4) fun i hi hi2=>?_
   exact monoF (hint+o) i (by omega) hi2 (h5 (by omega))
 | false=>
  rw[if_neg (by decide)];refine AG (A2 (A8 (I:=fun x c st'=>st'=st∧∃ la o,c=(none,la,o)∧la<o∧x+1≤o∧la≤hint∧P (hint-la)=false)
   (Q:=fun c st'=>st'=st∧∃ la o,c=(none,la,o)∧la<o∧la≤hint∧P (hint-la)=false∧(o≤hint→P (hint-o)=true)) ?_ ?_ ⟨rfl,0,1,rfl,by omega,by omega,by omega,hb⟩) fun c st' hc=>?_)
  ·rintro x c st' _ hx ⟨rfl,la,o,rfl,h1,h2,h3,h4⟩;dsimp only
   by_cases hge:o≥hint+1
   ·rw[if_pos hge];exact AI ⟨rfl,la,o,rfl,h1,h3,h4,fun z=>by omega⟩
   ·rw[if_neg hge];refine AG (ask (by omega) ?_);dsimp only
    cases hb2:P (hint-o) with
    | true=>
     rw[if_pos rfl];exact AI ⟨rfl,la,o,rfl,h1,h3,h4,fun _=>hb2⟩
    | false=>
     rw[if_neg (by decide)];exact AI ⟨rfl,o,_,rfl,by omega,by omega,by omega,hb2⟩
  ·rintro c st' ⟨rfl,la,o,rfl,h1,h2,h3,h4⟩;exact⟨rfl,la,o,rfl,h1,h3,h4,fun z=>by omega⟩
  ·obtain⟨rfl,la,o,rfl,h1,h3,h4,h5⟩:=hc;dsimp only;refine fin (hint+1-min o (hint+1)) (hint-la) (fun _ _=>rfl) (fun x l r Q' h2 q1 q2 q3=>by
    dsimp only
    by_cases hge:l≥r
    ·rw[if_pos hge];exact AI (q1 hge)
    ·rw[if_neg hge];refine AG (ask (by omega) ?_);dsimp only
     cases hb:P (l+(r-l)/2) with
     | true=>
      rw[if_pos rfl];exact AI (q2 (by omega) hb)
     | false=>
      rw[if_neg (by decide)];exact AI (q3 (by omega) hb)) (by omega) (by omega) (fun i hi=>?_) fun i hi hi2=>monoF (hint-la) i hi hi2 h4
   exact mono i (hint-o) (by omega) (by omega) (h5 (by omega))
end
end L2.Srt
namespace L2.Srt
structure MI {α:Type}(R:α→α→Prop)(A B L:List α)(i j:Nat):Prop where
 ia:i≤A.length
 jb:j≤B.length
 perm:L.Perm (A.take i++B.take j)
 srt:L.Pairwise R
 la:∀ x∈L,∀ y∈A.drop i,R x y
 lb:∀ x∈L,∀ y∈B.drop j,R x y
section
variable {α:Type}{R:α→α→Prop}{A B L:List α}{i j:Nat}
theorem MI.symm (h:MI R A B L i j):MI R B A L j i:=⟨h.jb,h.ia,h.perm.trans Ck,h.srt,h.lb,h.la⟩
theorem MI.more (hA:A.Pairwise R)(h:MI R A B L i j)(k:Nat)(hk:i+k≤A.length)(hc:∀ x∈(A.drop i).take k,∀ y∈B.drop j,R x y):MI R A B (L++(A.drop i).take k) (i+k) j:=by
 have hd:=Dw (DM i A) hA;have e:A.drop i=(A.drop i).take k++A.drop (i+k):=by rw[← DL,Bk]
 have et:A.take (i+k)=A.take i++(A.drop i).take k:=List.take_add;refine⟨hk,h.jb,?_,?_,fun x hx y hy=>?_,fun x hx y hy=>?_⟩
 ·rw[et,BI];refine(DJ _ h.perm).trans ?_;rw[BI];exact EO _ Ck
 ·refine Cj.mpr ⟨h.srt,Dw (List.take_sublist _ _) hd,fun x hx y hy=>h.la x hx y (Ex hy)⟩
 ·rcases A7.mp hx with hx|hx
  ·exact h.la x hx y (by rw[e]; exact BE _ hy)
  ·rw[e] at hd;exact(Cj.mp hd).2.2 x hx y hy
 ·rcases A7.mp hx with hx|hx
  ·exact h.lb x hx y hy
  ·exact hc x hx y hy
theorem MI.fin (hA:A.Pairwise R)(hB:B.Pairwise R)(h:MI R A B L i j)(hc:∀ x∈A.drop i,∀ y∈B.drop j,R x y):(L++A.drop i++B.drop j).Perm (A++B)∧(L++A.drop i++B.drop j).Pairwise R:=by
 constructor
 ·have e:A++B=(A.take i++A.drop i)++(B.take j++B.drop j):=by rw[Bk,Bk]
  rw[e];refine(DJ _ (DJ _ h.perm)).trans ?_;rw[BI,BI,BI];refine EO _ ?_;rw[← BI,←BI];exact DJ _ Ck
 ·refine Cj.mpr ⟨Cj.mpr ⟨h.srt,Dw (DM _ _) hA,h.la⟩,Dw (DM _ _) hB,fun x hx y hy=>?_⟩;rcases A7.mp hx with hx|hx
  ·exact h.lb x hx y hy
  ·exact hc x hx y hy
end
open PySem PyProof.Rows
section
variable {prog:AQ}{w:AL}{A:AR}{E:AB→AC→Prop}{s:AC}{κ:BC}{rk:AE→Int}{a₀:Array AE}
def rO:Nat→StateT AJ Sem Unit:=sortPriv% PySem.Builtin.setMinGallop
theorem lK {st:AJ}{g:Nat}{Q:Unit→AJ→Prop}(h:Q () (AJ.mk' (kindOf st) (AD st) (Ae st) g (Cs st))):wpS (AF prog w) A E s (rO g) Q st:=Bp h
def a4A:Array AE→Array AE→StateT AJ Sem (Array AE):=sortPriv% PySem.Builtin.mergeLo
structure Sm (κ:BC)(a₀:Array AE)(st st':AJ):Prop where
 sb:SB κ a₀ st'
 arr:AD st'=AD st
 pend:Ae st'=Ae st
theorem Sm.gal {st st':AJ}(h:Sm κ a₀ st st')(g:Nat):Sm κ a₀ st (AJ.mk' (kindOf st') (AD st') (Ae st') g (Cs st')):=⟨⟨h.sb.perm,h.sb.kind,h.sb.failed⟩,h.arr,h.pend⟩
theorem cM {st:AJ}{arr:Array AE}{i:Nat}{Q:AE→AJ→Prop}(hi:i<arr.size)(h:Q (arr[i]'hi) st):wpS (AF prog w) A E s (elem' arr i) Q st:=by
 rw[elem'_eq,CF hi];exact AI h
theorem lM {arr:Array AE}{i:Nat}(hi:i<arr.size):K rk arr i=rk (arr[i]'hi):=by unfold K; rw[CF hi]
def Le (rk:AE→Int)(x y:AE):Prop:=rk x≤rk y
theorem up_pw {arr:Array AE}(h:Up rk arr 0 arr.size):arr.toList.Pairwise (Le rk):=by
 rw[EQ];intro i j hi hj hij;rw[Aj] at hi hj;have:=h i j (Ah _) (CP hij) hj;rw[lM hi,lM hj] at this;exact this
theorem aAJ {arr:Array AE}(h:arr.toList.Pairwise (Le rk)):Up rk arr 0 arr.size:=fun i j _ hij hj=>by
 by_cases c:i=j
 ·rw[c]; exact CH _
 ·rw[lM (by omega),lM hj];exact(EQ.mp h) i j (by rw[Aj]; omega) (by rw[Aj]; omega) (by omega)
theorem oW {arr:Array AE}{i k:Nat}{x:AE}(h:x∈(arr.toList.drop i).take k):∃ t,t<k∧∃ hi:i+t<arr.size,x=arr[i+t]'hi:=by
 obtain⟨t,ht,rfl⟩:=ER.mp h;rw[BU,Bs,Aj] at ht;exact⟨t,by omega,by omega,by rw[List.getElem_take,DN,Db]⟩
theorem lO {arr:Array AE}{i:Nat}{x:AE}(h:x∈arr.toList.drop i):∃ t,i≤t∧∃ hi:t<arr.size,x=arr[t]'hi:=by
 obtain⟨t,ht,rfl⟩:=ER.mp h;rw[Bs,Aj] at ht;exact⟨i+t,by omega,by omega,by rw[DN,Db]⟩
theorem xQ {arr:Array AE}{i:Nat}(hi:i<arr.size):(arr.toList.drop i).take 1=[arr[i]'hi]:=by
 rw[Dp (by rw[Aj]; exact hi)];rfl
theorem oO (arr:Array AE)(i k:Nat):(arr.extract i (i+k)).toList=(arr.toList.drop i).take k:=by
 rw[By,Bq,show i+k-i=k by omega]
theorem oM (arr:Array AE)(i:Nat):(arr.extract i arr.size).toList=arr.toList.drop i:=by
 rw[By,Bq,Es (by rw[Bs,Aj]; exact AT _)]
def iZ (rk:AE→Int)(a b R:Array AE):Prop:=R.toList.Perm (a.toList++b.toList)∧R.toList.Pairwise (Le rk)
section
variable {a b:Array AE}
structure Pre (rk:AE→Int)(a₀ a b:Array AE):Prop where
 ma:∀ x∈a.toList,x∈a₀.toList
 mb:∀ x∈b.toList,x∈a₀.toList
 ua:Up rk a 0 a.size
 ub:Up rk b 0 b.size
 sa:0<a.size
 sb:0<b.size
 lo:K rk b 0≤K rk a 0
 hi:K rk b (b.size-1)≤K rk a (a.size-1)
abbrev Ml (rk:AE→Int)(a b out:Array AE)(i j:Nat):Prop:=MI (Le rk) a.toList b.toList out.toList i j
theorem Ml.done {out:Array AE}{i j:Nat}(P:Pre rk a₀ a b)(m:Ml rk a b out i j)(h:i=a.size∨j=b.size):iZ rk a b (out++a.extract i a.size++b.extract j b.size):=by
 unfold iZ;rw[BG,BG,oM,oM];refine m.fin (up_pw P.ua) (up_pw P.ub) fun x hx y hy=>?_;obtain⟨t,h1,h2,_⟩:=lO hx;obtain⟨u,h3,h4,_⟩:=lO hy;omega
theorem Ml.last {out:Array AE}{i j:Nat}(P:Pre rk a₀ a b)(m:Ml rk a b out i j)(h:i+1=a.size):iZ rk a b (out++b.extract j b.size++a.extract i a.size):=by
 unfold iZ;rw[BG,BG,oM,oM];have f:=m.symm.fin (up_pw P.ub) (up_pw P.ua) fun x hx y hy=>?_
 ·exact⟨f.1.trans Ck,f.2⟩
 ·obtain⟨t,h1,h2,rfl⟩:=lO hx;obtain⟨u,h3,h4,rfl⟩:=lO hy;have:=P.ub t (b.size-1) (Ah _) (by omega) (by have:=P.sb; omega);have:=P.hi;rw[lM h2] at *;rw[show a.size-1=u by omega,lM h4] at *;show rk _≤rk _;omega
theorem Ml.addA {out:Array AE}{i j k:Nat}(P:Pre rk a₀ a b)(m:Ml rk a b out i j)(hk:i+k≤a.size)(hj:j<b.size)(h:∀ t,t<k→K rk a (i+t)≤K rk b j):Ml rk a b (out++a.extract i (i+k)) (i+k) j:=by
 unfold Ml;rw[BG,oO];refine MI.more (up_pw P.ua) m k (by rw[Aj]; exact hk) fun x hx y hy=>?_;obtain⟨t,h1,h2,rfl⟩:=oW hx;obtain⟨u,h3,h4,rfl⟩:=lO hy;have e1:=h t h1;have e2:=P.ub j u (Ah _) h3 h4;rw[lM h2] at e1;rw[lM h4] at e2;show rk _≤rk _;omega
theorem Ml.addB {out:Array AE}{i j k:Nat}(P:Pre rk a₀ a b)(m:Ml rk a b out i j)(hk:j+k≤b.size)(hi:i<a.size)(h:∀ t,t<k→K rk b (j+t)≤K rk a i):Ml rk a b (out++b.extract j (j+k)) i (j+k):=by
 unfold Ml;rw[BG,oO];refine(MI.more (up_pw P.ub) m.symm k (by rw[Aj]; exact hk) fun x hx y hy=>?_).symm;obtain⟨t,h1,h2,rfl⟩:=oW hx;obtain⟨u,h3,h4,rfl⟩:=lO hy;have e1:=h t h1;have e2:=P.ua i u (Ah _) h3 h4;rw[lM h2] at e1;rw[lM h4] at e2;show rk _≤rk _;omega
theorem wJ {out arr:Array AE}{i:Nat}(hi:i<arr.size):(out.push (arr[i]'hi)).toList=(out++arr.extract i (i+1)).toList:=by
 rw[BG,oO,xQ hi,C3]
theorem Ml.pushA {out:Array AE}{i j:Nat}(P:Pre rk a₀ a b)(m:Ml rk a b out i j)(hi:i<a.size)(hj:j<b.size)(h:K rk a i≤K rk b j):Ml rk a b (out.push (a[i]'hi)) (i+1) j:=by
 unfold Ml;rw[wJ hi];exact m.addA P (by omega) hj fun t ht=>by rw[show i+t=i by omega]; exact h
theorem Ml.pushB {out:Array AE}{i j:Nat}(P:Pre rk a₀ a b)(m:Ml rk a b out i j)(hi:i<a.size)(hj:j<b.size)(h:K rk b j≤K rk a i):Ml rk a b (out.push (b[j]'hj)) i (j+1):=by
 unfold Ml;rw[wJ hj];exact m.addB P (by omega) hi fun t ht=>by rw[show j+t=j by omega]; exact h
end
end
end L2.Srt
namespace L2.Srt
open PySem PyProof.Rows
section
variable {prog:AQ}{w:AL}{A:AR}{E:AB→AC→Prop}{s:AC}{κ:BC}{rk:AE→Int}{a₀ a b:Array AE}
structure LoI (rk:AE→Int)(a b:Array AE)(n₀:Nat)(out:Array AE)(ia ib:Nat):Prop where
 ml:Ml rk a b out ia ib
 la:ia+1<a.size
 lb:ib<b.size
 far:n₀≤ia+ib
abbrev Gs:=Option (Array AE)×Array AE×Nat×Nat×Nat×Nat×Nat
def GsR (κ:BC)(rk:AE→Int)(a₀ a b:Array AE)(n₀:Nat)(st:AJ)(r:ForInStep Gs)(st':AJ):Prop:=Sm κ a₀ st st'∧match r with
 | .done c=>(∃ R,c.1=some R∧iZ rk a b R)∨(c.1=none∧LoI rk a b n₀ c.2.1 c.2.2.1 c.2.2.2.1)
 | .yield c=>c.1=none∧LoI rk a b n₀ c.2.1 c.2.2.1 c.2.2.2.1
variable {out:Array AE}{ia ib mg ac bc n₀:Nat}{st st':AJ}
theorem a3N {β:Type}{f:Option Nat→StateT AJ Sem β}{Q:β→AJ→Prop}(C:Cmp prog w A s κ rk a₀)(P:Pre rk a₀ a b)(sm:Sm κ a₀ st st')(ha:ia<a.size)(hb:ib<b.size)
  (hf:∀ k,ia+k≤a.size→(∀ t,t<k→K rk a (ia+t)≤K rk b ib)→(ia+k<a.size→K rk b ib≤K rk a (ia+k))→wpS (AF prog w) A E s (f (some k)) Q st'):wpS (AF prog w) A E s (pY false (b[ib]'hb) a ia (a.size-ia) 0 >>= f) Q st':=by
 refine AG (gM C sm.sb (P.mb _ (by simp)) P.ma (by omega) (by omega) (fun p q hp hpq hq=>P.ua p q (Ah _) hpq (by omega)) fun k k1 k2 k3=>hf k (by omega) (fun t ht=>?_) fun hk=>?_)
 ·have:=k2 t ht;unfold byd at this;rw[if_neg (by decide),CT,decide_eq_false_iff_not,←lM (rk:=rk)] at this;omega
 ·have:=k3 k (AT _) (by omega);unfold byd at this;rw[if_neg (by decide),Da,decide_eq_true_eq,←lM (rk:=rk)] at this;omega
theorem a3Z {β:Type}{f:Option Nat→StateT AJ Sem β}{Q:β→AJ→Prop}(C:Cmp prog w A s κ rk a₀)(P:Pre rk a₀ a b)(sm:Sm κ a₀ st st')(ha:ia<a.size)(hb:ib<b.size)
  (hf:∀ k,ib+k≤b.size→(∀ t,t<k→K rk b (ib+t)≤K rk a ia)→(ib+k<b.size→K rk a ia≤K rk b (ib+k))→wpS (AF prog w) A E s (f (some k)) Q st'):wpS (AF prog w) A E s (pY true (a[ia]'ha) b ib (b.size-ib) 0 >>= f) Q st':=by
 refine AG (gM C sm.sb (P.ma _ (by simp)) P.mb (by omega) (by omega) (fun p q hp hpq hq=>P.ub p q (Ah _) hpq (by omega)) fun k k1 k2 k3=>hf k (by omega) (fun t ht=>?_) fun hk=>?_)
 ·have:=k2 t ht;unfold byd at this;rw[if_pos rfl,decide_eq_true_eq,←lM (rk:=rk)] at this;omega
 ·have:=k3 k (AT _) (by omega);unfold byd at this;rw[if_pos rfl,decide_eq_false_iff_not,←lM (rk:=rk)] at this;omega
theorem lX {β:Type}{c:Prop}[Decidable c]{r:β}{m:StateT AJ Sem β}{Q:β→AJ→Prop}(h1:c→Q r st)(h2:¬c→wpS (AF prog w) A E s m Q st):wpS (AF prog w) A E s (if c then pure r else m) Q st:=by
 by_cases d:c
 ·rw[if_pos d]; exact AI (h1 d)
 ·rw[if_neg d]; exact h2 d
theorem a1Z {β:Type}{c d:Prop}[Decidable c][Decidable d]{r r' r'':β}{Q:β→AJ→Prop}(h1:c→Q r st)(h2:¬c→Q r' st∧Q r'' st):wpS (AF prog w) A E s (if c then pure r else if d then pure r' else pure r'') Q st:=lX h1 fun g=>lX (fun _=>(h2 g).1) fun _=>AI (h2 g).2
theorem w6 {β:Type}{f:AE→StateT AJ Sem β}{Q:β→AJ→Prop}(P:Pre rk a₀ a b)(h:LoI rk a b n₀ out ia ib)(hc:K rk b ib≤K rk a ia)
  (hf:∀ x,Ml rk a b (out.push x) ia (ib+1)→ia+1<a.size→n₀≤ia+ib→wpS (AF prog w) A E s (f x) Q st):wpS (AF prog w) A E s (elem' b ib >>= f) Q st:=AG (cM h.lb (hf _ (h.ml.pushB P (Nat.lt_of_succ_lt h.la) h.lb hc) h.la h.far))
theorem xH {β:Type}{f:AE→StateT AJ Sem β}{Q:β→AJ→Prop}(P:Pre rk a₀ a b)(m:Ml rk a b out ia ib)(h1:ia<a.size)(h2:ib<b.size)(hc:K rk a ia≤K rk b ib)
  (hf:∀ x,Ml rk a b (out.push x) (ia+1) ib→wpS (AF prog w) A E s (f x) Q st):wpS (AF prog w) A E s (elem' a ia >>= f) Q st:=AG (cM h1 (hf _ (m.pushA P h1 h2 hc)))
theorem vI {Q:Array AE→AJ→Prop}(C:Cmp prog w A s κ rk a₀)(P:Pre rk a₀ a b)(hB:SB κ a₀ st)(h:∀ R st',Sm κ a₀ st st'→iZ rk a b R→Q R st'):wpS (AF prog w) A E s (a4A a b) Q st:=by
 have sa:=P.sa;have sb:=P.sb;have m0:Ml rk a b #[b[0]'sb] 0 1:=by
  have m:Ml rk a b #[] 0 0:=⟨Ah _,Ah _,BN.refl _,EG,(fun x hx=>nomatch hx),(fun x hx=>nomatch hx)⟩;exact m.pushB P sa sb P.lo
 have sm0:Sm κ a₀ st st:=⟨hB,rfl,rfl⟩;refine AG (CG (CC ⟨rfl,?_⟩));refine AG (cM sb ?_)
 by_cases c1:1=b.size
 ·rw[if_pos (by simpa using c1)];exact AI (h _ _ sm0 (m0.done P (.inr c1)))
 rw[if_neg (by simpa using c1)]
 by_cases c2:0+1=a.size
 ·rw[if_pos (by simpa using c2)];exact AI (h _ _ sm0 (m0.last P c2))
 rw[if_neg (by simpa using c2)];refine AG (Bc ?_);refine AG (A2 (A8 (I:=fun x c st'=>Sm κ a₀ st st'∧c.1=none∧LoI rk a b (x+1) c.2.1 c.2.2.1 c.2.2.2.1)
  (Q:=fun c st'=>Sm κ a₀ st st'∧∃ R,c.1=some R∧iZ rk a b R) ?_ ?_ ⟨sm0,rfl,(⟨m0,by omega,by omega,by omega⟩:LoI rk a b (0+1) _ 0 1)⟩) ?_)
 ·rintro x ⟨r,out,ia,ib,mg⟩ st' _ hx ⟨sm,hr,hI⟩;dsimp only at hr hI;subst hr;refine AG (A2 (A8 (I:=fun y c st'=>Sm κ a₀ st st'∧c.1=none∧LoI rk a b (x+1+y) c.2.1 c.2.2.1 c.2.2.2.1)
   (Q:=fun c st'=>Sm κ a₀ st st'∧((∃ R,c.1=some R∧iZ rk a b R)∨(c.1=none∧LoI rk a b (x+1+1) c.2.1 c.2.2.1 c.2.2.2.1))) ?_ ?_ ⟨sm,rfl,hI⟩) ?_)
  ·rintro y ⟨r,out,ia,ib,ac,bc⟩ st' _ hy ⟨sm,hr,hI⟩;dsimp only at hr hI;subst hr;have h1:=hI.la;have h2:=hI.far;have h3:=hI.lb;dsimp only;refine AG (cM h3 ?_);refine AG (cM (by omega) ?_);refine AG (uM C sm.sb (P.mb _ (by simp)) (P.ma _ (by simp)) ?_);dsimp only;rw[← lM (rk:=rk),←lM (rk:=rk)]
   by_cases cw:K rk b ib<K rk a ia
   ·rw[decide_eq_true cw,if_pos rfl];have m:=hI.ml.pushB P (by omega) h3 (by omega);refine AG (cM h3 ?_)
    by_cases c3:ib+1=b.size
    ·rw[if_pos (by simpa using c3)];exact AI ⟨sm,.inl ⟨_,rfl,m.done P (.inr c3)⟩⟩
    ·rw[if_neg (by simpa using c3)]
     split
     ·exact AI ⟨sm,.inr ⟨rfl,(⟨m,h1,by omega,by omega⟩:LoI rk a b (x+1+1) _ ia (ib+1))⟩⟩
     ·exact AI ⟨sm,rfl,(⟨m,h1,by omega,by omega⟩:LoI rk a b (x+1+(y+1)) _ ia (ib+1))⟩
   ·rw[decide_eq_false cw,if_neg (by decide)];have m:=hI.ml.pushA P (by omega) h3 (by omega);refine AG (cM (by omega) ?_)
    by_cases c3:ia+1+1=a.size
    ·rw[if_pos (by simpa using c3)];exact AI ⟨sm,.inl ⟨_,rfl,m.last P c3⟩⟩
    ·rw[if_neg (by simpa using c3)]
     split
     ·exact AI ⟨sm,.inr ⟨rfl,(⟨m,by omega,h3,by omega⟩:LoI rk a b (x+1+1) _ (ia+1) ib)⟩⟩
     ·exact AI ⟨sm,rfl,(⟨m,by omega,h3,by omega⟩:LoI rk a b (x+1+(y+1)) _ (ia+1) ib)⟩
  ·rintro⟨r,out,ia,ib,ac,bc⟩ st' ⟨sm,hr,hI⟩
   have h2:=hI.far;exact⟨sm,.inr ⟨hr,hI.ml,hI.la,hI.lb,by omega⟩⟩
  ·rintro⟨r,out,ia,ib,ac,bc⟩ st' ⟨sm,hc⟩
   rcases hc with⟨R,hr,hR⟩|⟨hr,hI⟩
   ·dsimp only at hr;subst hr;exact AI ⟨sm,R,rfl,hR⟩
   ·dsimp only at hr hI;subst hr;refine AG (CG (CC ⟨rfl,?_⟩));refine AG (A2 (A8 (I:=fun y c st'=>Sm κ a₀ st st'∧c.1=none∧LoI rk a b (x+1+1) c.2.1 c.2.2.1 c.2.2.2.1)
     (Q:=fun c st'=>Sm κ a₀ st st'∧((∃ R,c.1=some R∧iZ rk a b R)∨(c.1=none∧LoI rk a b (x+1+1) c.2.1 c.2.2.1 c.2.2.2.1))) ?_ ?_ ⟨sm,rfl,hI⟩) ?_)
    ·rintro y ⟨r,out,ia,ib,mg,ac,bc⟩ st' _ hy ⟨sm,hr,hI⟩;dsimp only at hr hI;subst hr;refine A2 (Q:=GsR κ rk a₀ a b (x+1+1) st) ?_ fun r st' hr=>?_
     ·dsimp only;have h1:=hI.la;have h2:=hI.far;have h3:=hI.lb
      by_cases cg:mg>1
      all_goals first|rw[if_pos cg]|rw[if_neg cg]
      all_goals refine AG (lK (AG (cM h3 (a3N C P (sm.gal _) (by omega) h3 fun k k1 yes no=>?_))))
      all_goals dsimp only
      all_goals by_cases c0:k>0
      all_goals first|rw[if_pos c0]|rw[if_neg c0]
      all_goals try refine lX (fun c=>⟨sm.gal _,.inl ⟨_,rfl,(hI.ml.addA P k1 h3 yes).last P (by simpa using c)⟩⟩) fun c=>lX (fun d=>⟨sm.gal _,.inl ⟨_,rfl,(hI.ml.addA P k1 h3 yes).done P (.inl (by simpa using d))⟩⟩) fun d=>?_
      all_goals try simp only[beq_iff_eq] at c d
      all_goals first|(have e:k=0:=(by omega); subst e; refine w6 P hI (no (by omega)) fun x m h1 h2=>?_)|refine w6 P (n₀:=x+1+1) ⟨hI.ml.addA P k1 h3 yes,by omega,h3,by omega⟩ (no (by omega)) fun x m h1 h2=>?_
      all_goals refine lX (fun c=>⟨sm.gal _,.inl ⟨_,rfl,m.done P (.inr (by simpa using c))⟩⟩) fun c=>?_
      all_goals simp only[beq_iff_eq] at c
      all_goals refine AG (cM (by omega) (a3Z C P (sm.gal _) (by omega) (by omega) fun j j1 yes no=>?_))
      all_goals dsimp only
      all_goals by_cases d0:j>0
      all_goals first|rw[if_pos d0]|rw[if_neg d0]
      all_goals try refine lX (fun g=>⟨sm.gal _,.inl ⟨_,rfl,(m.addB P j1 (by omega) yes).done P (.inr (by simpa using g))⟩⟩) fun g=>?_
      all_goals try simp only[beq_iff_eq] at g
      all_goals first|(have e:j=0:=(by omega); subst e; refine xH P m (by omega) (by omega) (no (by omega)) fun z n=>?_)|refine xH P (m.addB P j1 (by omega) yes) (by omega) (by omega) (no (by omega)) fun z n=>?_
      all_goals exact a1Z (fun g=>⟨sm.gal _,.inl ⟨_,rfl,n.last P (by simpa using g)⟩⟩) fun g=>by simp only[beq_iff_eq] at g; exact⟨⟨sm.gal _,.inr ⟨rfl,n,by dsimp only; omega,by dsimp only; omega,by dsimp only; omega⟩⟩,sm.gal _,rfl,n,by dsimp only; omega,by dsimp only; omega,by dsimp only; omega⟩
     ·obtain⟨sm,hr⟩:=hr
      cases r with
      | done c=>exact⟨sm,hr⟩
      | yield c=>exact⟨sm,hr⟩
    ·rintro⟨r,out,ia,ib,mg,ac,bc⟩ st' ⟨sm,hr,hI⟩
     exact⟨sm,.inr ⟨hr,hI⟩⟩
    ·rintro⟨r,out,ia,ib,mg,ac,bc⟩ st' ⟨sm,hc⟩
     rcases hc with⟨R,hr,hR⟩|⟨hr,hI⟩
     ·dsimp only at hr;subst hr;exact AI ⟨sm,R,rfl,hR⟩
     ·dsimp only at hr hI;subst hr;dsimp only;refine AG (lK (AI ⟨sm.gal _,rfl,hI⟩))
 ·rintro⟨r,out,ia,ib,mg⟩ st' ⟨sm,hr,hI⟩
  have h1:=hI.la;have h2:=hI.far;have h3:=hI.lb;dsimp only at h1 h2 h3;omega
 ·rintro⟨r,out,ia,ib,mg⟩ st' ⟨sm,R,hr,hR⟩
  dsimp only at hr;subst hr;exact AI (h R st' sm hR)
end
end L2.Srt
namespace L2.Srt
open PySem PyProof.Rows
section
variable {prog:AQ}{w:AL}{A:AR}{E:AB→AC→Prop}{s:AC}{κ:BC}{rk:AE→Int}{a₀ a b:Array AE}
def a4I:Array AE→Array AE→StateT AJ Sem (Array AE):=sortPriv% PySem.Builtin.mergeHi
def Ge (rk:AE→Int)(x y:AE):Prop:=rk y≤rk x
structure Mh (rk:AE→Int)(a b out:Array AE)(na nb:Nat):Prop where
 ha:na≤a.size
 hb:nb≤b.size
 mi:MI (Ge rk) a.toList.reverse b.toList.reverse out.toList (a.size-na) (b.size-nb)
theorem rB {arr:Array AE}(h:Up rk arr 0 arr.size):arr.toList.reverse.Pairwise (Ge rk):=ES.mpr (up_pw h)
theorem fL {arr:Array AE}{n:Nat}(h:n≤arr.size):arr.toList.reverse.drop (arr.size-n)=(arr.toList.take n).reverse:=by
 rw[List.drop_reverse,Aj,show arr.size-(arr.size-n)=n by omega]
theorem oU {arr:Array AE}{n m:Nat}(h:n≤arr.size)(hm:m≤n):(arr.toList.reverse.drop (arr.size-n)).take (n-m)=((arr.toList.take n).drop m).reverse:=by
 rw[fL h,List.take_reverse,BU,Aj,show min n arr.size-(n-m)=m by omega]
theorem a9Q (arr:Array AE)(n:Nat):(arr.extract 0 n).toList=arr.toList.take n:=by
 rw[By,Bq,List.drop_zero,Nat.sub_zero]
theorem a0Q (arr:Array AE)(m n:Nat):(arr.extract m n).reverse.toList=((arr.toList.take n).drop m).reverse:=by
 rw[C4,By,Bq,List.drop_take]
theorem lF {arr:Array AE}{n:Nat}{x:AE}(h:x∈arr.toList.take n):∃ t,t<n∧∃ hi:t<arr.size,x=arr[t]'hi:=by
 have:=oW (i:=0) (k:=n) (x:=x) (arr:=arr) (by rwa[List.drop_zero]);obtain⟨t,h1,h2,h3⟩:=this;simp only[B9] at h2 h3;exact⟨t,h1,h2,h3⟩
theorem mem_mid {arr:Array AE}{m n:Nat}{x:AE}(h:x∈(arr.toList.take n).drop m):∃ t,m≤t∧t<n∧∃ hi:t<arr.size,x=arr[t]'hi:=by
 obtain⟨t,ht,rfl⟩:=ER.mp h;rw[Bs,BU,Aj] at ht;exact⟨m+t,by omega,by omega,by omega,by rw[DN,List.getElem_take,Db]⟩
variable {out:Array AE}{na nb:Nat}
theorem uH {α:Type}(x y z:List α):(x++y++z.reverse).reverse=z++y.reverse++x.reverse:=by
 rw[Ey,Ey,List.reverse_reverse,BI]
theorem Mh.done (P:Pre rk a₀ a b)(m:Mh rk a b out na nb)(h:na=0∨nb=0):iZ rk a b (a.extract 0 na++b.extract 0 nb++out.reverse):=by
 unfold iZ;rw[BG,BG,a9Q,a9Q,C4];have f:=m.mi.symm.fin (rB P.ub) (rB P.ua) fun x hx y hy=>by
  rw[fL m.hb,Bv] at hx;rw[fL m.ha,Bv] at hy;obtain⟨t,h1,_⟩:=lF hx;obtain⟨u,h2,_⟩:=lF hy;omega
 rw[fL m.hb,fL m.ha,←uH] at f;refine⟨?_,ES.mp f.2⟩;refine(CM _).symm.trans (f.1.trans ?_);exact((CM _).append (CM _)).trans Ck
theorem Mh.first (P:Pre rk a₀ a b)(m:Mh rk a b out na nb)(h:nb=1):iZ rk a b (b.extract 0 nb++a.extract 0 na++out.reverse):=by
 unfold iZ;rw[BG,BG,a9Q,a9Q,C4];have f:=m.mi.fin (rB P.ua) (rB P.ub) fun x hx y hy=>by
  rw[fL m.ha,Bv] at hx;rw[fL m.hb,Bv] at hy;obtain⟨t,h1,h2,rfl⟩:=lF hx;obtain⟨u,h3,h4,rfl⟩:=lF hy;have e:u=0:=by omega
  subst e;have e1:=P.lo;have e2:=P.ua 0 t (Ah _) (Ah _) h2;rw[lM h4] at e1;rw[lM h2] at e2;show rk _≤rk _;omega
 rw[fL m.hb,fL m.ha,←uH] at f;refine⟨?_,ES.mp f.2⟩;exact(CM _).symm.trans (f.1.trans ((CM _).append (CM _)))
theorem Mh.addA (P:Pre rk a₀ a b)(m:Mh rk a b out na nb){p:Nat}(hp:p≤na)(h1:1≤nb)(h:∀ t,p≤t→t<na→K rk b (nb-1)≤K rk a t):Mh rk a b (out++(a.extract p na).reverse) p nb:=by
 have ha:=m.ha;have hb:=m.hb;refine⟨by omega,hb,?_⟩;rw[BG,a0Q,←oU ha hp,show a.size-p=a.size-na+(na-p) by omega];refine MI.more (rB P.ua) m.mi (na-p) (by rw[Ez,Aj]; omega) fun x hx y hy=>?_;rw[oU ha hp,Bv] at hx;rw[fL hb,Bv] at hy;obtain⟨t,h2,h3,h4,rfl⟩:=mem_mid hx;obtain⟨u,h5,h6,rfl⟩:=lF hy;have e1:=h t h2 h3;have e2:=P.ub u (nb-1) (Ah _) (by omega) (by omega);rw[lM h4] at e1;rw[lM h6] at e2;show rk _≤rk _;omega
theorem Mh.addB (P:Pre rk a₀ a b)(m:Mh rk a b out na nb){p:Nat}(hp:p≤nb)(h1:1≤na)(h:∀ t,p≤t→t<nb→K rk a (na-1)≤K rk b t):Mh rk a b (out++(b.extract p nb).reverse) na p:=by
 have ha:=m.ha;have hb:=m.hb;refine⟨ha,by omega,?_⟩;rw[BG,a0Q,←oU hb hp,show b.size-p=b.size-nb+(nb-p) by omega];refine(MI.more (rB P.ub) m.mi.symm (nb-p) (by rw[Ez,Aj]; omega) fun x hx y hy=>?_).symm;rw[oU hb hp,Bv] at hx;rw[fL ha,Bv] at hy;obtain⟨t,h2,h3,h4,rfl⟩:=mem_mid hx;obtain⟨u,h5,h6,rfl⟩:=lF hy;have e1:=h t h2 h3;have e2:=P.ua u (na-1) (Ah _) (by omega) (by omega);rw[lM h4] at e1;rw[lM h6] at e2;show rk _≤rk _;omega
theorem wH {arr:Array AE}{n:Nat}(hn:n<arr.size):(out.push (arr[n]'hn)).toList=(out++(arr.extract n (n+1)).reverse).toList:=by
 rw[BG,C4,oO,xQ hn,C3];rfl
theorem Mh.of {out':Array AE}(m:Mh rk a b out na nb)(e:out'.toList=out.toList):Mh rk a b out' na nb:=⟨m.ha,m.hb,e▸m.mi⟩
theorem Mh.pushA (P:Pre rk a₀ a b)(m:Mh rk a b out na nb)(h0:1≤na)(h1:1≤nb)(h:K rk b (nb-1)≤K rk a (na-1)):Mh rk a b (out.push (a[na-1]'(by have:=m.ha; omega))) (na-1) nb:=by
 have m2:=m.addA P (p:=na-1) (by omega) h1 fun t h2 h3=>by rw[show t=na-1 by omega]; exact h
 refine m2.of ?_;rw[wH,show na-1+1=na by omega]
theorem Mh.pushB (P:Pre rk a₀ a b)(m:Mh rk a b out na nb)(h0:1≤na)(h1:1≤nb)(h:K rk a (na-1)≤K rk b (nb-1)):Mh rk a b (out.push (b[nb-1]'(by have:=m.hb; omega))) na (nb-1):=by
 have m2:=m.addB P (p:=nb-1) (by omega) h0 fun t h2 h3=>by rw[show t=nb-1 by omega]; exact h
 refine m2.of ?_;rw[wH,show nb-1+1=nb by omega]
structure HiI (rk:AE→Int)(a b:Array AE)(n₀ na nb:Nat)(out:Array AE):Prop where
 mh:Mh rk a b out na nb
 la:1≤na
 lb:2≤nb
 far:na+nb+n₀≤a.size+b.size
abbrev Hs:=Option (Array AE)×Nat×Nat×Array AE×Nat×Nat×Nat
def HsR (κ:BC)(rk:AE→Int)(a₀ a b:Array AE)(n₀:Nat)(st:AJ)(r:ForInStep Hs)(st':AJ):Prop:=Sm κ a₀ st st'∧match r with
 | .done c=>(∃ R,c.1=some R∧iZ rk a b R)∨(c.1=none∧HiI rk a b n₀ c.2.1 c.2.2.1 c.2.2.2.1)
 | .yield c=>c.1=none∧HiI rk a b n₀ c.2.1 c.2.2.1 c.2.2.2.1
variable {mg ac bc n₀:Nat}{st st':AJ}
theorem a0C {β:Type}{f:Option Nat→StateT AJ Sem β}{Q:β→AJ→Prop}(C:Cmp prog w A s κ rk a₀)(P:Pre rk a₀ a b)(sm:Sm κ a₀ st st')(ha:na≤a.size)(h1:1≤na)(hb:nb-1<b.size)
  (hf:∀ p,p≤na→(∀ t,t<p→K rk a t≤K rk b (nb-1))→(∀ t,p≤t→t<na→K rk b (nb-1)≤K rk a t)→wpS (AF prog w) A E s (f (some p)) Q st'):wpS (AF prog w) A E s (pY false (b[nb-1]'hb) a 0 na (na-1) >>= f) Q st':=by
 refine AG (gM C sm.sb (P.mb _ (by simp)) P.ma (by omega) (by omega) (fun p q hp hpq hq=>P.ua p q (Ah _) hpq (by omega)) fun p k1 k2 k3=>hf p k1 (fun t ht=>?_) fun t ht ht2=>?_)
 ·have:=k2 t ht;unfold byd at this;rw[if_neg (by decide),CT,decide_eq_false_iff_not,←lM (rk:=rk),B9] at this;omega
 ·have:=k3 t ht ht2;unfold byd at this;rw[if_neg (by decide),Da,decide_eq_true_eq,←lM (rk:=rk),B9] at this;omega
theorem a1M {β:Type}{f:Option Nat→StateT AJ Sem β}{Q:β→AJ→Prop}(C:Cmp prog w A s κ rk a₀)(P:Pre rk a₀ a b)(sm:Sm κ a₀ st st')(hb:nb≤b.size)(h1:1≤nb)(ha:na-1<a.size)
  (hf:∀ p,p≤nb→(∀ t,t<p→K rk b t≤K rk a (na-1))→(∀ t,p≤t→t<nb→K rk a (na-1)≤K rk b t)→wpS (AF prog w) A E s (f (some p)) Q st'):wpS (AF prog w) A E s (pY true (a[na-1]'ha) b 0 nb (nb-1) >>= f) Q st':=by
 refine AG (gM C sm.sb (P.ma _ (by simp)) P.mb (by omega) (by omega) (fun p q hp hpq hq=>P.ub p q (Ah _) hpq (by omega)) fun p k1 k2 k3=>hf p k1 (fun t ht=>?_) fun t ht ht2=>?_)
 ·have:=k2 t ht;unfold byd at this;rw[if_pos rfl,decide_eq_true_eq,←lM (rk:=rk),B9] at this;omega
 ·have:=k3 t ht ht2;unfold byd at this;rw[if_pos rfl,decide_eq_false_iff_not,←lM (rk:=rk),B9] at this;omega
theorem tX {β:Type}{f:AE→StateT AJ Sem β}{Q:β→AJ→Prop}(P:Pre rk a₀ a b)(h:HiI rk a b n₀ na nb out)(hc:K rk a (na-1)≤K rk b (nb-1))
  (hf:∀ x,Mh rk a b (out.push x) na (nb-1)→HiI rk a b n₀ na nb out→wpS (AF prog w) A E s (f x) Q st):wpS (AF prog w) A E s (elem' b (nb-1) >>= f) Q st:=by
 have h1:=h.lb;have h2:=h.mh.hb;exact AG (cM (by omega) (hf _ (h.mh.pushB P h.la (by omega) hc) h))
theorem tU {β:Type}{f:AE→StateT AJ Sem β}{Q:β→AJ→Prop}(P:Pre rk a₀ a b)(m:Mh rk a b out na nb)(h1:1≤na)(h2:1≤nb)(hc:K rk b (nb-1)≤K rk a (na-1))
  (hf:∀ x,Mh rk a b (out.push x) (na-1) nb→wpS (AF prog w) A E s (f x) Q st):wpS (AF prog w) A E s (elem' a (na-1) >>= f) Q st:=by
 have h3:=m.ha;exact AG (cM (by omega) (hf _ (m.pushA P h1 h2 hc)))
theorem vH {Q:Array AE→AJ→Prop}(C:Cmp prog w A s κ rk a₀)(P:Pre rk a₀ a b)(hB:SB κ a₀ st)(h:∀ R st',Sm κ a₀ st st'→iZ rk a b R→Q R st'):wpS (AF prog w) A E s (a4I a b) Q st:=by
 have sa:=P.sa;have sb:=P.sb;have m0:Mh rk a b #[a[a.size-1]'(by omega)] (a.size-1) b.size:=by
  have m:Mh rk a b #[] a.size b.size:=⟨AT _,AT _,by rw[sub_self,sub_self]; exact⟨Ah _,Ah _,BN.refl _,EG,(fun x hx=>nomatch hx),(fun x hx=>nomatch hx)⟩⟩;exact m.pushA P sa sb P.hi
 have sm0:Sm κ a₀ st st:=⟨hB,rfl,rfl⟩;refine AG (CG (CC ⟨rfl,?_⟩));refine AG (cM (by omega) ?_)
 by_cases c1:a.size-1=0
 ·rw[if_pos (by simpa using c1)];exact AI (h _ _ sm0 (m0.done P (.inl c1)))
 rw[if_neg (by simpa using c1)]
 by_cases c2:b.size=1
 ·rw[if_pos (by simpa using c2)];exact AI (h _ _ sm0 (m0.first P c2))
 rw[if_neg (by simpa using c2)];refine AG (Bc ?_);refine AG (A2 (A8 (I:=fun x c st'=>Sm κ a₀ st st'∧c.1=none∧HiI rk a b (x+1) c.2.1 c.2.2.1 c.2.2.2.1)
  (Q:=fun c st'=>Sm κ a₀ st st'∧∃ R,c.1=some R∧iZ rk a b R) ?_ ?_ ⟨sm0,rfl,(⟨m0,by omega,by omega,by omega⟩:HiI rk a b (0+1) (a.size-1) b.size _)⟩) ?_)
 ·rintro x ⟨r,na,nb,out,mg⟩ st' _ hx ⟨sm,hr,hI⟩;dsimp only at hr hI;subst hr;refine AG (A2 (A8 (I:=fun y c st'=>Sm κ a₀ st st'∧c.1=none∧HiI rk a b (x+1+y) c.2.1 c.2.2.1 c.2.2.2.1)
   (Q:=fun c st'=>Sm κ a₀ st st'∧((∃ R,c.1=some R∧iZ rk a b R)∨(c.1=none∧HiI rk a b (x+1+1) c.2.1 c.2.2.1 c.2.2.2.1))) ?_ ?_ ⟨sm,rfl,hI⟩) ?_)
  ·rintro y ⟨r,na,nb,out,ac,bc⟩ st' _ hy ⟨sm,hr,hI⟩;dsimp only at hr hI;subst hr;have h1:=hI.la;have h2:=hI.far;have h3:=hI.lb;have h4:=hI.mh.ha;have h5:=hI.mh.hb;dsimp only;refine AG (cM (by omega) ?_);refine AG (cM (by omega) ?_);refine AG (uM C sm.sb (P.mb _ (by simp)) (P.ma _ (by simp)) ?_);dsimp only;rw[← lM (rk:=rk),←lM (rk:=rk)]
   by_cases cw:K rk b (nb-1)<K rk a (na-1)
   ·rw[decide_eq_true cw,if_pos rfl];have m:=hI.mh.pushA P h1 (by omega) (by omega);refine AG (cM (by omega) ?_)
    by_cases c3:na-1=0
    ·rw[if_pos (by simpa using c3)];exact AI ⟨sm,.inl ⟨_,rfl,m.done P (.inl c3)⟩⟩
    ·rw[if_neg (by simpa using c3)]
     split
     ·exact AI ⟨sm,.inr ⟨rfl,(⟨m,by omega,h3,by omega⟩:HiI rk a b (x+1+1) (na-1) nb _)⟩⟩
     ·exact AI ⟨sm,rfl,(⟨m,by omega,h3,by omega⟩:HiI rk a b (x+1+(y+1)) (na-1) nb _)⟩
   ·rw[decide_eq_false cw,if_neg (by decide)];have m:=hI.mh.pushB P h1 (by omega) (by omega);refine AG (cM (by omega) ?_)
    by_cases c3:nb-1=1
    ·rw[if_pos (by simpa using c3)];exact AI ⟨sm,.inl ⟨_,rfl,m.first P c3⟩⟩
    ·rw[if_neg (by simpa using c3)]
     split
     ·exact AI ⟨sm,.inr ⟨rfl,(⟨m,h1,by omega,by omega⟩:HiI rk a b (x+1+1) na (nb-1) _)⟩⟩
     ·exact AI ⟨sm,rfl,(⟨m,h1,by omega,by omega⟩:HiI rk a b (x+1+(y+1)) na (nb-1) _)⟩
  ·rintro⟨r,na,nb,out,ac,bc⟩ st' ⟨sm,hr,hI⟩
   have h2:=hI.far;exact⟨sm,.inr ⟨hr,hI.mh,hI.la,hI.lb,by omega⟩⟩
  ·rintro⟨r,na,nb,out,ac,bc⟩ st' ⟨sm,hc⟩
   rcases hc with⟨R,hr,hR⟩|⟨hr,hI⟩
   ·dsimp only at hr;subst hr;exact AI ⟨sm,R,rfl,hR⟩
   ·dsimp only at hr hI;subst hr;refine AG (CG (CC ⟨rfl,?_⟩));refine AG (A2 (A8 (I:=fun y c st'=>Sm κ a₀ st st'∧c.1=none∧HiI rk a b (x+1+1) c.2.1 c.2.2.1 c.2.2.2.1)
     (Q:=fun c st'=>Sm κ a₀ st st'∧((∃ R,c.1=some R∧iZ rk a b R)∨(c.1=none∧HiI rk a b (x+1+1) c.2.1 c.2.2.1 c.2.2.2.1))) ?_ ?_ ⟨sm,rfl,hI⟩) ?_)
    ·rintro y ⟨r,na,nb,out,mg,ac,bc⟩ st' _ hy ⟨sm,hr,hI⟩;dsimp only at hr hI;subst hr;refine A2 (Q:=HsR κ rk a₀ a b (x+1+1) st) ?_ fun r st' hr=>?_
     ·dsimp only;have h1:=hI.la;have h2:=hI.far;have h3:=hI.lb;have h4:=hI.mh.ha;have h5:=hI.mh.hb
      by_cases cg:mg>1
      all_goals first|rw[if_pos cg]|rw[if_neg cg]
      all_goals refine AG (lK (AG (cM (by omega) (a0C C P (sm.gal _) h4 h1 (by omega) fun p p1 yes no=>?_))))
      all_goals dsimp only
      all_goals by_cases c0:na-p>0
      all_goals first|rw[if_pos c0]|rw[if_neg c0]
      all_goals try refine lX (fun c=>⟨sm.gal _,.inl ⟨_,rfl,(hI.mh.addA P (by omega) (by omega) no).done P (.inl (by simpa using c))⟩⟩) fun c=>?_
      all_goals try simp only[beq_iff_eq] at c
      all_goals first|(have e:p=na:=(by omega); refine tX P hI (yes _ (by omega)) fun x m i=>?_)|refine tX P (n₀:=x+1+1) ⟨hI.mh.addA P (by omega) (by omega) no,by omega,h3,by omega⟩ (yes _ (by omega)) fun x m i=>?_
      all_goals have i1:=i.la
      all_goals have i2:=i.far
      all_goals have i4:=i.mh.ha
      all_goals refine lX (fun c=>⟨sm.gal _,.inl ⟨_,rfl,m.first P (by simpa using c)⟩⟩) fun c=>?_
      all_goals simp only[beq_iff_eq] at c
      all_goals refine AG (cM (by omega) (a1M C P (sm.gal _) (by omega) (by omega) (by omega) fun q q1 yes no=>?_))
      all_goals dsimp only
      all_goals by_cases d0:nb-1-q>0
      all_goals first|rw[if_pos d0]|rw[if_neg d0]
      all_goals try refine lX (fun g=>⟨sm.gal _,.inl ⟨_,rfl,(m.addB P (by omega) (by omega) no).first P (by simpa using g)⟩⟩) fun g=>lX (fun g=>⟨sm.gal _,.inl ⟨_,rfl,(m.addB P (by omega) (by omega) no).done P (.inr (by simpa using g))⟩⟩) fun d=>?_
      all_goals try simp only[beq_iff_eq] at g d
      all_goals first|(have e:q=nb-1:=(by omega); refine tU P m (by omega) (by omega) (yes _ (by omega)) fun z n=>?_)|refine tU P (m.addB P (by omega) (by omega) no) (by omega) (by omega) (yes _ (by omega)) fun z n=>?_
      all_goals exact a1Z (fun g=>⟨sm.gal _,.inl ⟨_,rfl,n.done P (.inl (by simpa using g))⟩⟩) fun g=>by simp only[beq_iff_eq] at g; exact⟨⟨sm.gal _,.inr ⟨rfl,n,by dsimp only; omega,by dsimp only; omega,by dsimp only; omega⟩⟩,sm.gal _,rfl,n,by dsimp only; omega,by dsimp only; omega,by dsimp only; omega⟩
     ·obtain⟨sm,hr⟩:=hr
      cases r with
      | done c=>exact⟨sm,hr⟩
      | yield c=>exact⟨sm,hr⟩
    ·rintro⟨r,na,nb,out,mg,ac,bc⟩ st' ⟨sm,hr,hI⟩
     exact⟨sm,.inr ⟨hr,hI⟩⟩
    ·rintro⟨r,na,nb,out,mg,ac,bc⟩ st' ⟨sm,hc⟩
     rcases hc with⟨R,hr,hR⟩|⟨hr,hI⟩
     ·dsimp only at hr;subst hr;exact AI ⟨sm,R,rfl,hR⟩
     ·dsimp only at hr hI;subst hr;dsimp only;refine AG (lK (AI ⟨sm.gal _,rfl,hI⟩))
 ·rintro⟨r,na,nb,out,mg⟩ st' ⟨sm,hr,hI⟩
  have h1:=hI.la;have h2:=hI.far;have h3:=hI.lb;dsimp only at h1 h2 h3;omega
 ·rintro⟨r,na,nb,out,mg⟩ st' ⟨sm,R,hr,hR⟩
  dsimp only at hr;subst hr;exact AI (h R st' sm hR)
end
end L2.Srt
namespace L2.Srt
open PySem PyProof.Rows
section
variable {prog:AQ}{w:AL}{A:AR}{E:AB→AC→Prop}{s:AC}{κ:BC}{rk:AE→Int}{a₀:Array AE}
theorem a75 {σ:Type}{M:Model}{x st:σ}{Q:PUnit→σ→Prop}(h:Q ⟨⟩ x):wpS M A E s (set x:StateT σ Sem PUnit) Q st:=by
 unfold wpS;rw[StateT.run_set];exact Ab ⟨rfl,h⟩
def putAll (arr:Array AE)(o:Nat)(R:List AE)(m:Nat):Array AE:=(R.zipIdx m).foldl (fun a (p,j)=>a.setIfInBounds (o+j) p) arr
theorem qG:∀(R:List AE) (arr:Array AE) (o m:Nat),o+m+R.length≤arr.size→(putAll arr o R m).toList=arr.toList.take (o+m)++R++arr.toList.drop (o+m+R.length)
 | [],arr,o,m,_=>by
  show arr.toList=_;rw[Cg,Nat.add_zero,Cd,Bk]
 | p::R,arr,o,m,h=>by
  rw[Aw] at h
  show(putAll (arr.setIfInBounds (o+m) p) o R (m+1)).toList=_
  rw[qG R _ o (m+1) (by rw[Array.size_setIfInBounds]; omega),ET];have hl:o+m<arr.toList.length:=by rw[Aj]; omega
  rw[show o+(m+1)=o+m+1 by omega,List.drop_set_of_lt (by omega),Aw,show o+m+1+R.length=o+m+(R.length+1) by omega]
  congr 1
  have e:(arr.toList.set (o+m) p).take (o+m+1)=arr.toList.take (o+m)++[p]:=by
   rw[List.take_succ,List.take_set_of_le (AT _),BJ hl];rfl
  rw[e,BI];rfl
theorem a96 {xs:Array AE}{l:List AE}(e:xs.toList=l)(i:Nat):K rk xs i=match l[i]? with|some p=>rk p|none=>0:=by
 unfold K;rw[← e,Bi]
 all_goals (cases xs[i]?<;>rfl)
theorem wR {arr:Array AE}{i j:Nat}(hj:j≤arr.size):(arr.extract i j).size=j-i:=by
 rw[Array.size_extract];omega
theorem uN {arr:Array AE}{i j t:Nat}(hj:j≤arr.size)(ht:i+t<j):K rk (arr.extract i j) t=K rk arr (i+t):=by
 refine K_congr ?_;rw[Array.getElem?_extract_of_lt (by omega),CF (by omega)]
theorem a0P {arr:Array AE}{i j:Nat}{x:AE}(h:x∈(arr.extract i j).toList):x∈arr.toList:=by
 rw[By,Bq] at h;exact List.mem_of_mem_drop (Ex h)
theorem rA {arr:Array AE}{i j:Nat}{x:AE}(h:x∈(arr.extract i j).toList):∃ t,i≤t∧t<j∧rk x=K rk arr t:=by
 rw[By,Bq] at h;obtain⟨t,h1,h2,rfl⟩:=oW h;exact⟨i+t,by omega,by omega,(lM h2).symm⟩
structure Mg (κ:BC)(rk:AE→Int)(a₀:Array AE)(st:AJ)(p:Array (Nat×Nat×Nat))(i j:Nat)(st':AJ):Prop where
 sb:SB κ a₀ st'
 pend:Ae st'=p
 out:∀ k,k<i∨j≤k→(AD st')[k]?=(AD st)[k]?
 up:Up rk (AD st') i j
theorem vD {st:AJ}{i sa na pa sb nb pb:Nat}{Q:Bool→AJ→Prop}(C:Cmp prog w A s κ rk a₀)(hB:SB κ a₀ st)(e1:(Ae st)[i]?=some (sa,na,pa))(e2:(Ae st)[i+1]?=some (sb,nb,pb))(hs:sb=sa+na)(h1:1≤na)(h2:1≤nb)(hz:sb+nb≤a₀.size)
  (ua:Up rk (AD st) sa sb) (ub:Up rk (AD st) sb (sb+nb))
  (h:∀ st',Mg κ rk a₀ st (((Ae st).setIfInBounds i (sa,na+nb,pa)).eraseIdxIfInBounds (i+1)) sa (sb+nb) st'→Q true st'):wpS (AF prog w) A E s (mergeAt' i) Q st:=by
 have hsz:=hB.size;refine AG (Bc ?_);rw[e1,e2];dsimp only;refine AG (a75 ?_);generalize ((Ae st).setIfInBounds i (sa,na+nb,pa)).eraseIdxIfInBounds (i+1)=p' at *;have hB1:SB κ a₀ (Dx st p'):=⟨hB.perm,hB.kind,hB.failed⟩;have mem:∀ x∈(AD st).toList,x∈a₀.toList:=fun x hx=>hB.mem hx;refine AG (cM (arr:=AD st) (by omega) ?_);refine AG (gM (arr:=AD st) C hB1 (mem _ (by simp)) mem (by omega) (by omega) (fun p q hp hpq hq=>ua p q hp hpq (by omega)) fun k k1 k2 k3=>?_);dsimp only;have yes:∀ t,sa≤t→t<sa+k→K rk (AD st) t≤K rk (AD st) sb:=fun t ht ht2=>by
  have:=k2 (t-sa) (by omega);unfold byd at this;rw[if_neg (by decide),CT,decide_eq_false_iff_not,←lM (rk:=rk),show sa+(t-sa)=t by omega] at this;omega
 have no:k<na→K rk (AD st) sb≤K rk (AD st) (sa+k):=fun hk=>by
  have:=k3 k (AT _) hk;unfold byd at this;rw[if_neg (by decide),Da,decide_eq_true_eq,←lM (rk:=rk)] at this;omega
 by_cases c0:na-k=0
 ·rw[if_pos (by simpa using c0)];refine AI (h _ ⟨hB1,rfl,fun _ _=>rfl,fun p q hp hpq hq=>?_⟩);show K rk (AD st) p≤K rk (AD st) q
  by_cases d1:q<sb
  ·exact ua p q hp hpq d1
  ·by_cases d2:sb≤p
   ·exact ub p q d2 hpq hq
   ·have z1:=yes p hp (by omega);have z2:=ub sb q (AT _) (by omega) hq;omega
 rw[if_neg (by simpa using c0)];refine AG (cM (arr:=AD st) (by omega) ?_);refine AG (gM (arr:=AD st) C hB1 (mem _ (by simp)) mem (by omega) (by omega) (fun p q hp hpq hq=>ub p q hp hpq (by omega)) fun m m1 m2 m3=>?_);dsimp only;have el:sa+k+(na-k)-1=sb-1:=by omega
 have yes2:∀ t,sb≤t→t<sb+m→K rk (AD st) t≤K rk (AD st) (sb-1):=fun t ht ht2=>by
  have:=m2 (t-sb) (by omega);unfold byd at this;rw[if_pos rfl,decide_eq_true_eq,←lM (rk:=rk),el,show sb+(t-sb)=t by omega] at this;omega
 have no2:∀ t,sb+m≤t→t<sb+nb→K rk (AD st) (sb-1)≤K rk (AD st) t:=fun t ht ht2=>by
  have:=m3 (t-sb) (by omega) (by omega);unfold byd at this;rw[if_pos rfl,decide_eq_false_iff_not,←lM (rk:=rk),el,show sb+(t-sb)=t by omega] at this;omega
 by_cases c1:m=0
 ·rw[if_pos (by simpa using c1)];refine AI (h _ ⟨hB1,rfl,fun _ _=>rfl,fun p q hp hpq hq=>?_⟩);show K rk (AD st) p≤K rk (AD st) q
  by_cases d1:q<sb
  ·exact ua p q hp hpq d1
  ·by_cases d2:sb≤p
   ·exact ub p q d2 hpq hq
   ·have z1:=ua p (sb-1) hp (by omega) (by omega);have z2:=no2 q (by omega) hq;omega
 rw[if_neg (by simpa using c1)];have sx:((AD st).extract (sa+k) sb).size=sb-(sa+k):=wR (by omega);have sy:((AD st).extract sb (sb+m)).size=m:=by rw[wR (by omega)]; omega
 have P:Pre rk a₀ ((AD st).extract (sa+k) sb) ((AD st).extract sb (sb+m)):=by
  refine⟨fun x hx=>mem x (a0P hx),fun x hx=>mem x (a0P hx),fun p q _ hpq hq=>?_,fun p q _ hpq hq=>?_,by omega,by omega,?_,?_⟩
  ·rw[sx] at hq;rw[uN (by omega) (by omega),uN (by omega) (by omega)];exact ua _ _ (by omega) (by omega) (by omega)
  ·rw[sy] at hq;rw[uN (by omega) (by omega),uN (by omega) (by omega)];exact ub _ _ (by omega) (by omega) (by omega)
  ·rw[uN (by omega) (by omega),uN (by omega) (by omega)];exact no (by omega)
  ·rw[uN (by omega) (by omega),uN (by omega) (by omega),sx,sy,show sa+k+(sb-(sa+k)-1)=sb-1 by omega];exact yes2 _ (by omega) (by omega)
 have key:∀ R st',Sm κ a₀ (Dx st p') st'→iZ rk ((AD st).extract (sa+k) sb) ((AD st).extract sb (sb+m)) R→wpS (AF prog w) A E s (do
   modify fun s=>setArr s (putAll (AD s) (sa+k) R.toList 0)
   return (Cs (← get)).isNone) Q st':=by
  rintro R st' sm ⟨g1,g2⟩;refine AG (Bp ?_);refine AG (Bc ?_);have ea:AD st'=AD st:=sm.arr;have hrl:R.toList.length=(sb-(sa+k))+m:=by
   rw[g1.length_eq,A6,Aj,Aj,sx,sy]
  have hpl:=qG R.toList (AD st) (sa+k) 0 (by omega);rw[hrl,Nat.add_zero] at hpl;have et:(AD st).toList.take (sa+k)++(((AD st).extract (sa+k) sb).toList++((AD st).extract sb (sb+m)).toList)++(AD st).toList.drop (sa+k+(sb-(sa+k)+m))=(AD st).toList:=by
   rw[By,Bq,By,Bq];have x1:(AD st).toList.drop sb=((AD st).toList.drop (sa+k)).drop (sb-(sa+k)):=by rw[DL]; congr 1; omega
   have x2:(AD st).toList.drop (sa+k+(sb-(sa+k)+m))=((AD st).toList.drop sb).drop m:=by rw[DL]; congr 1; omega
   rw[show sb+m-sb=m by omega,x2,BI,BI,Bk,x1,Bk,Bk]
  have hperm:(putAll (AD st) (sa+k) R.toList 0).toList.Perm (AD st).toList:=by
   rw[hpl];refine(DJ _ (EO _ g1)).trans ?_;rw[et]
  have eK:∀ j,K rk (putAll (AD st) (sa+k) R.toList 0) j=if sa+k≤j∧j<sb+m then K rk R (j-(sa+k)) else K rk (AD st) j:=fun j=>by
   rw[a96 hpl];have ht:((AD st).toList.take (sa+k)).length=sa+k:=by rw[BU,Aj]; omega
   by_cases c2:j<sa+k
   ·rw[if_neg (by omega),BI,CI (by omega),D8 c2,Bi];rfl
   ·by_cases c3:j<sb+m
    ·rw[if_pos (by omega),CI (by rw[A6]; omega),Cf (by omega),ht,Bi];rfl
    ·rw[if_neg (by omega),Cf (by rw[A6]; omega),A6,ht,List.getElem?_drop,Bi,hrl,show sa+k+(sb-(sa+k)+m)+(j-(sa+k+(sb-(sa+k)+m)))=j by omega];rfl
  have eO:∀ j,j<sa+k∨sb+m≤j→(putAll (AD st) (sa+k) R.toList 0)[j]?=(AD st)[j]?:=fun j hj=>by
   have ht:((AD st).toList.take (sa+k)).length=sa+k:=by rw[BU,Aj]; omega
   rw[← Bi,hpl]
   by_cases c2:j<sa+k
   ·rw[BI,CI (by omega),D8 c2,Bi]
   ·rw[Cf (by rw[A6]; omega),A6,ht,List.getElem?_drop,Bi,hrl,show sa+k+(sb-(sa+k)+m)+(j-(sa+k+(sb-(sa+k)+m)))=j by omega]
  have hfin:Mg κ rk a₀ st p' sa (sb+nb) (setArr st' (putAll (AD st') (sa+k) R.toList 0)):=by
   rw[ea];refine⟨⟨(EM.mpr hperm).trans hB.perm,sm.sb.kind,sm.sb.failed⟩,sm.pend,fun j hj=>eO j (by omega),fun p q hp hpq hq=>?_⟩;show K rk (putAll (AD st) (sa+k) R.toList 0) p≤K rk (putAll (AD st) (sa+k) R.toList 0) q;have rs:R.size=(sb-(sa+k))+m:=by rw[← Aj]; exact hrl
   have inR:∀ t,t<R.size→∃ u,sa+k≤u∧u<sb+m∧K rk R t=K rk (AD st) u:=fun t ht=>by
    have hm:=g1.mem_iff.mp (show R[t]∈R.toList by simp);rw[lM ht];rcases A7.mp hm with hm|hm
    ·obtain⟨u,u1,u2,u3⟩:=rA (rk:=rk) hm;exact⟨u,u1,by omega,u3⟩
    ·obtain⟨u,u1,u2,u3⟩:=rA (rk:=rk) hm;exact⟨u,by omega,u2,u3⟩
   have left:∀ p u,sa≤p→p<sa+k→sa+k≤u→u<sb+nb→K rk (AD st) p≤K rk (AD st) u:=fun p u a1 a2 a3 a4=>by
    by_cases d:u<sb
    ·exact ua p u a1 (by omega) d
    ·have z1:=yes p a1 a2;have z2:=ub sb u (AT _) (by omega) a4;omega
   have right:∀ u q,sa≤u→u<sb+m→sb+m≤q→q<sb+nb→K rk (AD st) u≤K rk (AD st) q:=fun u q a1 a2 a3 a4=>by
    by_cases d:u<sb
    ·have z1:=ua u (sb-1) a1 (by omega) (by omega);have z2:=no2 q a3 a4;omega
    ·exact ub u q (by omega) (by omega) a4
   rw[eK,eK]
   by_cases c2:sa+k≤p∧p<sb+m
   ·rw[if_pos c2]
    by_cases c3:sa+k≤q∧q<sb+m
    ·rw[if_pos c3];exact aAJ g2 _ _ (Ah _) (by omega) (by omega)
    ·rw[if_neg c3];obtain⟨u,u1,u2,u3⟩:=inR (p-(sa+k)) (by omega);rw[u3];exact right u q (by omega) u2 (by omega) hq
   ·rw[if_neg c2]
    by_cases c3:sa+k≤q∧q<sb+m
    ·rw[if_pos c3];obtain⟨u,u1,u2,u3⟩:=inR (q-(sa+k)) (by omega);rw[u3];exact left p u hp (by omega) u1 (by omega)
    ·rw[if_neg c3]
     by_cases d1:q<sa+k
     ·exact ua p q hp hpq (by omega)
     ·by_cases d2:p<sa+k
      ·exact left p q hp d2 (by omega) hq
      ·exact ub p q (by omega) hpq hq
  have hf:Cs (setArr st' (putAll (AD st') (sa+k) R.toList 0))=none:=hfin.sb.failed;refine AI ?_;show Q (Cs (setArr st' (putAll (AD st') (sa+k) R.toList 0))).isNone _;rw[hf];exact h _ hfin
 split
 ·exact AG (vI C P hB1 key)
 ·exact AG (vH C P hB1 key)
end
end L2.Srt
namespace L2.Srt
open PySem PyProof.Rows
abbrev Rn3:=Nat×Nat×Nat
section
variable {prog:AQ}{w:AL}{A:AR}{E:AB→AC→Prop}{s:AC}{κ:BC}{rk:AE→Int}{a₀:Array AE}
def Ch (rk:AE→Int)(arr:Array AE):Nat→List Rn3→Nat→Prop
 | b,[],e=>b=e
 | b,r::rs,e=>r.1=b∧1≤r.2.1∧Up rk arr b (b+r.2.1)∧Ch rk arr (b+r.2.1) rs e
theorem Ch.le {arr:Array AE}:∀{rs:List Rn3} {b e:Nat},Ch rk arr b rs e→b+rs.length≤e
 | [],b,e,h=>by rw[show b=e from h]; exact AT _
 | r::rs,b,e,h=>by
  have:=Ch.le h.2.2.2;have:=h.2.1;rw[Aw];omega
theorem Ch.same {arr arr':Array AE}:∀{rs:List Rn3} {b e:Nat},(∀ j,b≤j→j<e→arr'[j]?=arr[j]?)→Ch rk arr b rs e→Ch rk arr' b rs e
 | [],b,e,_,h=>h
 | r::rs,b,e,hs,h=>by
  have hl:=Ch.le h.2.2.2;refine⟨h.1,h.2.1,fun p q hp hpq hq=>?_,Ch.same (fun j h1 h2=>hs j (by omega) h2) h.2.2.2⟩;rw[K_congr (rk:=rk) (hs p hp (by omega)),K_congr (rk:=rk) (hs q (by omega) (by omega))];exact h.2.2.1 p q hp hpq hq
theorem Ch.app {arr:Array AE}:∀{l1 l2:List Rn3} {b e:Nat},Ch rk arr b (l1++l2) e↔∃ m,Ch rk arr b l1 m∧Ch rk arr m l2 e
 | [],l2,b,e=>⟨fun h=>⟨b,rfl,h⟩,fun⟨m,h1,h2⟩=>by rw[show b=m from h1]; exact h2⟩
 | r::l1,l2,b,e=>by
  constructor
  ·rintro⟨h1,h2,h3,h4⟩
   obtain⟨m,m1,m2⟩:=Ch.app.mp h4;exact⟨m,⟨h1,h2,h3,m1⟩,m2⟩
  ·rintro⟨m,⟨h1,h2,h3,h4⟩,m2⟩
   exact⟨h1,h2,h3,Ch.app.mpr ⟨m,h4,m2⟩⟩
theorem Ch.pow {arr:Array AE}{pw:Nat}:∀{rs:List Rn3} {i b e:Nat},Ch rk arr b rs e→Ch rk arr b (rs.modify i fun(x:Rn3)=>(x.1,x.2.1,pw)) e
 | [],i,b,e,h=>by
  cases i<;>exact h
 | r::rs,0,b,e,h=>h
 | r::rs,i+1,b,e,h=>⟨h.1,h.2.1,h.2.2.1,Ch.pow h.2.2.2⟩
theorem a88 {l:List Rn3}{i:Nat}(h:i+1<l.length):∃ l1 x y l2,l=l1++x::y::l2∧l1.length=i∧l[i]?=some x∧l[i+1]?=some y:=by
 refine⟨l.take i,l[i],l[i+1],l.drop (i+2),?_,by rw[BU]; omega,Av _,Av _⟩
 conv=>lhs; rw[← Bk i l]
 rw[Dp (by omega),Dp (by omega)]
structure Rs (κ:BC)(rk:AE→Int)(a₀:Array AE)(lo:Nat)(st:AJ):Prop where
 sb:SB κ a₀ st
 ch:Ch rk (AD st) 0 (Ae st).toList lo
theorem v6 {st:AJ}{i lo:Nat}{Q:Bool→AJ→Prop}(C:Cmp prog w A s κ rk a₀)(R:Rs κ rk a₀ lo st)(hlo:lo≤a₀.size)(hi:i+1<(Ae st).size)
  (h:∀ st',Rs κ rk a₀ lo st'→(Ae st').size+1=(Ae st).size→(∀ k,lo≤k→(AD st')[k]?=(AD st)[k]?)→Q true st'):wpS (AF prog w) A E s (mergeAt' i) Q st:=by
 obtain⟨l1,x,y,l2,el,hl,e1,e2⟩:=a88 (l:=(Ae st).toList) (i:=i) (by rw[Aj]; exact hi);have hch:=R.ch;rw[el] at hch;obtain⟨m,c1,c2⟩:=Ch.app.mp hch;obtain⟨x1,x2,x3,y1,y2,y3,c3⟩:=c2;obtain⟨sa,na,pa⟩:=x;obtain⟨sb,nb,pb⟩:=y;dsimp only at x1 x2 x3 y1 y2 y3 c3;subst x1;have hle:=Ch.le c3;rw[Bi] at e1 e2;subst y1;refine vD C R.sb e1 e2 rfl x2 y2 (by omega) x3 y3 fun st' g=>h st' ⟨g.sb,?_⟩ ?_ fun k hk=>g.out k (by omega)
 ·rw[g.pend,E1,ET,el];have ee:((l1++(sa,na,pa)::(sa+na,nb,pb)::l2).set i (sa,na+nb,pa)).eraseIdx (i+1)=l1++(sa,na+nb,pa)::l2:=by
   rw[← hl,List.set_append_right _ _ (AT _),sub_self,List.eraseIdx_append_of_length_le (by omega),show l1.length+1-l1.length=1 by omega];rfl
  rw[ee];refine Ch.app.mpr ⟨sa,Ch.same (fun j _ h2=>g.out j (.inl h2)) c1,rfl,(by omega:1≤na+nb),?_,?_⟩
  ·have:=g.up;rwa[show sa+na+nb=sa+(na+nb) by omega] at this
  ·have:=Ch.same (arr':=AD st') (fun j h1 _=>g.out j (.inr h1)) c3;rwa[show sa+na+nb=sa+(na+nb) by omega] at this
 ·rw[g.pend,←Aj,E1,ET,List.length_eraseIdx,Bu,Aj,if_pos hi];omega
theorem wpS_sortRuns {st:AJ}{Q:Unit→AJ→Prop}(C:Cmp prog w A s κ rk a₀)(hB:SB κ a₀ st)(hp:Ae st=#[])(h1:1≤a₀.size)
  (h:∀ st',SB κ a₀ st'→Up rk (AD st') 0 a₀.size→Q () st'):wpS (AF prog w) A E s sortRuns' Q st:=by
 have hz:=hB.size;rw[sortRuns'_eq];refine AG (Bc ?_);dsimp only;rw[hz];generalize minRun' a₀.size a₀.size 0=minrun;refine AG (A2 (A8 (I:=fun x c st'=>c.1=none∧x≤c.2∧c.2≤a₀.size∧Rs κ rk a₀ c.2 st')
  (Q:=fun c st'=>c.1=none∧c.2=a₀.size∧Rs κ rk a₀ a₀.size st') ?_ ?_ ⟨rfl,AT _,Ah _,hB,by rw[hp]; rfl⟩) ?_)
 ·rintro x ⟨r,lo⟩ st' _ hx ⟨hr,hxl,hlo,R⟩;dsimp only at hr hxl hlo R;subst hr;dsimp only
  by_cases c0:lo≥a₀.size
  ·rw[if_pos c0];have e:lo=a₀.size:=by omega
   subst e;exact AI ⟨rfl,rfl,R⟩
  rw[if_neg c0];refine AG (wpS_countRun C (by omega) (by omega) R.sb fun r1 st1 cr=>?_);obtain⟨n,rfl,n1,n2,hB1,fx,hu⟩:=cr;dsimp only;have R1:Rs κ rk a₀ lo st1:=⟨hB1,by rw[fx.pend]; exact Ch.same (fun j _ h2=>fx.out j (.inl h2)) R.ch⟩
  by_cases c1:n<minrun
  ·rw[if_pos c1];refine AG (CG (CC ⟨rfl,?_⟩));refine AG (wpS_binarySort C (by omega) n1 (by omega) hB1 hu fun st4 hB4 fx4 hu4=>?_);rw[if_neg (by decide)];have R4:Rs κ rk a₀ lo st4:=⟨hB4,by rw[fx4.pend]; exact Ch.same (fun j _ h2=>fx4.out j (.inl h2)) R1.ch⟩;generalize hm:min (a₀.size-lo) minrun=n4 at *;refine AG (Bc ?_);have fin:∀ st2,Rs κ rk a₀ lo st2→Up rk (AD st2) lo (lo+n4)→Rs κ rk a₀ (lo+n4) (Dx st2 ((Ae st2).push (lo,n4,0))):=fun st2 R2 hu2=>⟨⟨R2.sb.perm,R2.sb.kind,R2.sb.failed⟩,by
    show Ch rk (AD st2) 0 ((Ae st2).push (lo,n4,0)).toList (lo+n4);rw[C3];exact Ch.app.mpr ⟨lo,R2.ch,rfl,(by omega:1≤n4),hu2,rfl⟩⟩
   cases hb:(Ae st4).back? with
   | none=>
    dsimp only;exact AG (Bp (AI ⟨rfl,(by omega:x+1≤lo+n4),(by omega:lo+n4≤a₀.size),fin _ R4 hu4⟩))
   | some t=>
    obtain⟨t1,t2,t3⟩:=t;dsimp only;refine AG (A2 (A8 (I:=fun _ c st2=>c=(none,())∧Rs κ rk a₀ lo st2∧Up rk (AD st2) lo (lo+n4)) (Q:=fun c st2=>c=(none,())∧Rs κ rk a₀ lo st2∧Up rk (AD st2) lo (lo+n4)) ?_ ?_ ⟨rfl,R4,hu4⟩) ?_)
    ·rintro y c st2 _ hy ⟨rfl,R2,hu2⟩;refine AG (Bc ?_)
     by_cases c2:(Ae st2).size>1
     ·obtain⟨u,hu3⟩:∃ u,(Ae st2)[(Ae st2).size-2]?=some u:=⟨_,CF (by omega)⟩;obtain⟨u1,u2,u3⟩:=u;rw[if_pos c2,hu3];dsimp only
      split
      ·exact AI ⟨rfl,R2,hu2⟩
      ·refine AG (v6 C R2 hlo (by omega) fun st3 R3 _ ho=>?_);rw[if_neg (by decide)];refine AI ⟨rfl,R3,fun p q hp hpq hq=>?_⟩;rw[K_congr (rk:=rk) (ho p hp),K_congr (rk:=rk) (ho q (by omega))];exact hu2 p q hp hpq hq
     ·rw[if_neg c2];exact AI ⟨rfl,R2,hu2⟩
    ·rintro c st2 h2;exact h2
    ·rintro c st2 ⟨rfl,R2,hu2⟩;dsimp only;refine AG (Bp ?_);refine AG (Bp (AI ⟨rfl,(by omega:x+1≤lo+n4),(by omega:lo+n4≤a₀.size),fin _ ⟨⟨R2.sb.perm,R2.sb.kind,R2.sb.failed⟩,?_⟩ hu2⟩));show Ch rk (AD st2) 0 (Array.modify _ _ _).toList lo;rw[E2];exact Ch.pow R2.ch
  ·rw[if_neg c1];refine AG (Bc ?_);have fin:∀ st2,Rs κ rk a₀ lo st2→Up rk (AD st2) lo (lo+n)→Rs κ rk a₀ (lo+n) (Dx st2 ((Ae st2).push (lo,n,0))):=fun st2 R2 hu2=>⟨⟨R2.sb.perm,R2.sb.kind,R2.sb.failed⟩,by
    show Ch rk (AD st2) 0 ((Ae st2).push (lo,n,0)).toList (lo+n);rw[C3];exact Ch.app.mpr ⟨lo,R2.ch,rfl,(by omega:1≤n),hu2,rfl⟩⟩
   cases hb:(Ae st1).back? with
   | none=>
    dsimp only;exact AG (Bp (AI ⟨rfl,(by omega:x+1≤lo+n),(by omega:lo+n≤a₀.size),fin _ R1 hu⟩))
   | some t=>
    obtain⟨t1,t2,t3⟩:=t;dsimp only;refine AG (A2 (A8 (I:=fun _ c st2=>c=(none,())∧Rs κ rk a₀ lo st2∧Up rk (AD st2) lo (lo+n)) (Q:=fun c st2=>c=(none,())∧Rs κ rk a₀ lo st2∧Up rk (AD st2) lo (lo+n)) ?_ ?_ ⟨rfl,R1,hu⟩) ?_)
    ·rintro y c st2 _ hy ⟨rfl,R2,hu2⟩;refine AG (Bc ?_)
     by_cases c2:(Ae st2).size>1
     ·obtain⟨u,hu3⟩:∃ u,(Ae st2)[(Ae st2).size-2]?=some u:=⟨_,CF (by omega)⟩;obtain⟨u1,u2,u3⟩:=u;rw[if_pos c2,hu3];dsimp only
      split
      ·exact AI ⟨rfl,R2,hu2⟩
      ·refine AG (v6 C R2 hlo (by omega) fun st3 R3 _ ho=>?_);rw[if_neg (by decide)];refine AI ⟨rfl,R3,fun p q hp hpq hq=>?_⟩;rw[K_congr (rk:=rk) (ho p hp),K_congr (rk:=rk) (ho q (by omega))];exact hu2 p q hp hpq hq
     ·rw[if_neg c2];exact AI ⟨rfl,R2,hu2⟩
    ·rintro c st2 h2;exact h2
    ·rintro c st2 ⟨rfl,R2,hu2⟩;dsimp only;refine AG (Bp ?_);refine AG (Bp (AI ⟨rfl,(by omega:x+1≤lo+n),(by omega:lo+n≤a₀.size),fin _ ⟨⟨R2.sb.perm,R2.sb.kind,R2.sb.failed⟩,?_⟩ hu2⟩));show Ch rk (AD st2) 0 (Array.modify _ _ _).toList lo;rw[E2];exact Ch.pow R2.ch
 ·rintro⟨r,lo⟩ st' ⟨hr,hxl,hlo,R⟩
  dsimp only at hr hxl hlo R;have e:lo=a₀.size:=by omega
  subst e;exact⟨hr,rfl,R⟩
 ·rintro⟨r,lo⟩ st' ⟨hr,hlo,R⟩
  dsimp only at hr hlo R;subst hr hlo;dsimp only;refine AG (A2 (A8 (I:=fun x c st2=>c=(none,())∧Rs κ rk a₀ a₀.size st2∧(Ae st2).size+x≤a₀.size) (Q:=fun c st2=>c=(none,())∧Rs κ rk a₀ a₀.size st2∧(Ae st2).size≤1) ?_ ?_ ⟨rfl,R,?_⟩) ?_)
  ·rintro x c st2 _ hx ⟨rfl,R2,hs2⟩;refine AG (Bc ?_)
   by_cases c2:(Ae st2).size≤1
   ·rw[if_pos c2];exact AI ⟨rfl,R2,c2⟩
   ·rw[if_neg c2];refine AG (v6 C R2 (AT _) ?_ fun st3 R3 hs3 _=>?_)
    ·(repeat' split)<;>omega
    ·rw[if_neg (by decide)];exact AI ⟨rfl,R3,by omega⟩
  ·rintro c st2 ⟨rfl,R2,hs2⟩;exact⟨rfl,R2,by omega⟩
  ·have:=Ch.le R.ch;rw[Aj] at this;omega
  ·rintro c st2 ⟨rfl,R2,hs2⟩;dsimp only;refine AI (h st2 R2.sb ?_);have hc:=R2.ch;rw[← Aj] at hs2
   match hl:(Ae st2).toList,hc,hs2 with
   | [],hc,_=>exact absurd (show 0=a₀.size from hc) (by omega)
   | [r],hc,_=>
    obtain⟨_,_,h3,h4⟩:=hc;have h4:0+r.2.1=a₀.size:=h4;rwa[h4] at h3
   | _::_::_,_,hs2=>exact absurd hs2 (by simp)
end
end L2.Srt
namespace L2
open PySem PySem.Calls PyProof.Rows PySem.W
theorem a4Z {α:Type}{p q:α→Bool}:∀(l:List α),(∀ x∈l,p x=true→q x=true)→(∃ x∈l,q x=true∧p x=false)→l.countP p<l.countP q
 | [],_,⟨_,h,_⟩=>nomatch h
 | y::l,h,⟨x,hx,h1,h2⟩=>by
  have le:l.countP p≤l.countP q:=List.countP_mono_left fun z hz=>h z (BK _ hz);rw[List.countP_cons,List.countP_cons];rcases Aq.mp hx with rfl|hx
  ·rw[h1,h2];simp;omega
  ·have:=a4Z l (fun z hz=>h z (BK _ hz)) ⟨x,hx,h1,h2⟩;have:=h y Bf
   cases c1:p y with
   | false=>cases c2:q y<;>simp<;>omega
   | true=>rw[this c1]; simp; omega
def rkn (ks:List NK2)(k:NK2):Int:=(ks.countP fun j=>nH j k:Nat)
theorem a5L {ks:List NK2}{p q:NK2}(hp:p∈ks)(hq:q∈ks):decide (rkn ks p<rkn ks q)=nH p q:=by
 have one:∀{p q:NK2},p∈ks→nH p q=true→rkn ks p<rkn ks q:=fun{p q} hp h=>by
  unfold rkn;have:=a4Z (p:=fun j=>nH j p) (q:=fun j=>nH j q) ks (fun x _ hx=>z8 hx h) ⟨p,hp,h,by
   cases c:nH p p with
   | false=>rfl
   | true=>exact absurd rfl (a2C c)⟩
  omega
 cases c:nH p q with
 | true=>exact decide_eq_true (one hp c)
 | false=>
  refine decide_eq_false fun h=>?_
  by_cases e:p=q
  ·rw[e] at h; omega
  ·rcases oN e with z|z
   ·rw[z] at c; cases c
   ·have:=one hq z; omega
theorem NpAt.one {h:AH}{L:AA}{v:AB}{k l:NK2}(z:NpAt h L v k)(y:NpAt h L v l):k=l:=by
 have tu:∀{x:AA} {k l:Int×Int},TupI h k x→TupI h l x→k=l:=fun{x k l} a b=>by
  obtain⟨o,n,t,u,h1,h2,h3⟩:=a;obtain⟨o',n',t',u',g1,g2,g3⟩:=b;rw[h1] at g1
  cases g1
  rw[h3] at g3;injection g3 with g3 _;injection g3 with g3;injection g3 with e1 e2;injection e2 with e2 _;injection e1 with e1;injection e2 with e2;exact Prod.ext e1 e2
 obtain⟨a,o,n,x,y',r1,_,r3,_,r5,_,_,t1,t2⟩:=z;obtain⟨a',o',n',x',y'',q1,_,q3,_,q5,_,_,u1,u2⟩:=y;rw[r1] at q1
 cases q1
 rw[r3] at q3
 cases q3
 rw[r5] at q5;injection q5 with q5 _;injection q5 with q5;injection q5 with e1 e2;injection e2 with e2 _
 cases e1
 cases e2
 exact Prod.ext (tu t1 u1) (tu t2 u2)
theorem wG (vs:List AB):(vs.toArray.zip vs.toArray).toList=(BY vs.length).map fun i=>(vs.getD i A9,vs.getD i A9):=by
 have e:=congrArg D4 (kas_range (vs.toArray.zip vs.toArray));rw[toList_map] at e;rw[← e];have hs:(vs.toArray.zip vs.toArray).size=vs.length:=by simp
 rw[hs];refine List.map_congr_left fun i _=>?_;exact kat_item rfl i
theorem yP {α β:Type}{R:α→β→Prop}{xs xs':List α}(p:xs'.Perm xs):∀{ys:List β},AX R xs ys→∃ ys',AX R xs' ys'∧ys'.Perm ys:=by
 induction p with
 | nil=>intro ys h; exact⟨ys,h,.refl _⟩
 | cons x _ ih=>
  intro ys h
  cases h with
  | cons a b=>
   obtain⟨ys',h1,h2⟩:=ih b;exact⟨_::ys',.cons a h1,h2.cons _⟩
 | swap x y l=>
  intro ys h
  cases h with
  | cons a b=>
   cases b with
   | cons b c=>exact⟨_,.cons b (.cons a c),.swap _ _ _⟩
 | trans _ _ ih1 ih2=>
  intro ys h;obtain⟨y1,a1,a2⟩:=ih2 h;obtain⟨y2,b1,b2⟩:=ih1 a1;exact⟨y2,b1,b2.trans a2⟩
theorem a6K {α β:Type}(f:β→α){xs:List α}{ys:List β}(p:xs.Perm (ys.map f)):∃ zs:List β,xs=zs.map f∧zs.Perm ys:=by
 have h:AX (fun(x:α) (y:β)=>x=f y) (ys.map f) ys:=by
  clear p
  induction ys with
  | nil=>exact .nil
  | cons y ys ih=>exact .cons rfl ih
 obtain⟨zs,h1,h2⟩:=yP p h;refine⟨zs,?_,h2⟩;clear h2 p h
 induction h1 with
 | nil=>rfl
 | cons a _ ih=>rw[B6,a,ih]
section
variable {prog:AQ}{w:AL}{A:AR}{E:AB→AC→Prop}{s:AC}
theorem NpAt.goD {h h':AH}{L D:AA}{v:AB}{k:NK2}(hD:∀ o,h.get? D=some o→o.cls≠.type "tuple")(keep:∀ b o,b≠D→h.get? b=some o→h'.get? b=some o)(z:NpAt h L v k):NpAt h' L v k:=by
 have kp:∀ b o,o.cls=.type "tuple" → h.get? b=some o→h'.get? b=some o:=fun b o hc e=>keep b o (fun y=>hD o (y▸e) hc) e;obtain⟨a,o,n,x,y,r1,r2,r3,r4,r5,r6,r7,⟨o1,n1,t1,u1,a1,a2,a3⟩,o2,n2,t2,u2,b1,b2,b3⟩:=z;exact⟨a,o,n,x,y,r1,r2,kp a o r4 r3,r4,r5,r6,r7,⟨o1,n1,t1,u1,kp _ _ a2 a1,a2,a3⟩,o2,n2,t2,u2,kp _ _ b2 b1,b2,b3⟩
open Classical in
noncomputable def keyOf (h:AH)(L:AA)(v:AB):NK2:=if z:∃ k,NpAt h L v k then Classical.choose z else nk0
theorem a4Q {h:AH}{L:AA}{v:AB}{k:NK2}(z:NpAt h L v k):keyOf h L v=k:=by
 unfold keyOf;rw[dif_pos ⟨k,z⟩];exact(Classical.choose_spec (⟨k,z⟩:∃ k,NpAt h L v k)).one z
theorem a8D {D L:AA}{vs:List AB}{ks:List NK2}{n:Nat}{P:PySem.Fin→AC→Prop}(hu:A.units+60<A5)(ho:s.heap.get? D=some (AY "list" vs.toArray n))(h2:2≤vs.length)(hz:vs.length≤1000)(hp:AX (NpAt s.heap L) vs ks)(nd:ks.Nodup)
  (q:∀(is:List Nat) (h':AH) (c:Nat),is.Perm (BY vs.length)→(is.map fun i=>ks.getD i nk0).Pairwise (fun a b=>nH a b=true)→(∀ b o,b≠D→s.heap.get? b=some o→h'.get? b=some o)→h'.get? D=some (listOf (is.map fun i=>vs.getD i .none).toArray c)→P (.done (.ret .none)) { s with heap:=h' }) :
  AK (AF prog w) A (Al.«list.sort» ⟨[.ref D],[]⟩) P E s:=by
 have s1:=Dr s.heap D (Am fun _=>(#[]:Array AB));obtain⟨e1,ho1⟩:∃ e1,(s.heap.update D (Am fun _=>(#[]:Array AB))).get? D=some (AY "list" #[] e1):=⟨_,Dq ho fun _=>#[]⟩;have ho2:(((s.heap.update D (Am fun _=>(#[]:Array AB))).push (AY "tuple" vs.toArray 0)).push (AY "list" #[] 0)).get? D=some (AY "list" #[] e1):=An _ (An _ ho1);have kp:∀ b o,b≠D→s.heap.get? b=some o→(((s.heap.update D (Am fun _=>(#[]:Array AB))).push (AY "tuple" vs.toArray 0)).push (AY "list" #[] 0)).get? b=some o:=fun b o hb e=>An _ (An _ ((s1.2 b hb).trans e));have hD:∀ o,s.heap.get? D=some o→o.cls≠.type "tuple" := fun o e hc=>by
  rw[ho] at e
  cases e
  exact absurd (CU.inj hc) (by decide)
 have z1:vs.toArray.size≤sizeLine:=by rw[Ap,Bj]; omega
 rw[list_sort_plain];refine AO (listItems_at ho rfl (AO (Ds ho rfl (AO (Du ho1 rfl (AO (wpAny_newTuple (AO (Dv (CB ?_) (Ah _))) z1)))) z1 (Ah _))));show AK (AF prog w) A _ P E { s with heap:=((s.heap.update D (Am fun _=>(#[]:Array AB))).push (AY "tuple" vs.toArray 0)).push (AY "list" #[] 0) };dsimp only;generalize ((s.heap.update D (Am fun _=>(#[]:Array AB))).push (AY "tuple" vs.toArray 0)).push (AY "list" #[] 0)=h3 at *;have hn2:¬vs.toArray.size<2:=by rw[Ap]; omega
 rw[if_neg hn2,if_neg hn2];have hp':AX (NpAt h3 L) vs ks:=AX.mapP hp fun v k h=>h.goD hD kp;have hlen:vs.length=ks.length:=hp.length;obtain⟨fs,f1,f2,f3⟩:=yE (prog:=prog) (w:=w) hp';refine AO (kat_kind (T:=.type "tuple") (s:={ s with heap:=h3 }) f1 (by rw[f2]; omega) (fun v hv=>f3 v hv) rfl ?_);have hkey:∀ i,i<vs.length→keyOf h3 L (vs.getD i A9)=ks.getD i nk0:=fun i hi=>a4Q (zF hp' hi);have kmem:∀ i,i<vs.length→ks.getD i nk0∈ks:=fun i hi=>by
  rw[Ce,Av (by omega)];exact Br _
 have mem:∀ x∈(vs.toArray.zip vs.toArray).toList,∃ i,i<vs.length∧x=(vs.getD i A9,vs.getD i A9):=fun x hx=>by
  rw[wG] at hx;obtain⟨i,hi,rfl⟩:=Ci.mp hx;exact⟨i,B7.mp hi,rfl⟩
 have C:Srt.Cmp prog w A { s with heap:=h3 } (tuples' (CU "tuple" != CU "tuple")) (fun x=>rkn ks (keyOf h3 L x.1)) (vs.toArray.zip vs.toArray):=⟨fun{x y Q E} hx hy hQ=>by
  obtain⟨i,hi,rfl⟩:=mem x hx;obtain⟨j,hj,rfl⟩:=mem y hy;dsimp only at hQ ⊢;rw[hkey i hi,hkey j hj,a5L (kmem i hi) (kmem j hj)] at hQ;obtain⟨a,o,n,x,y,ra,_,r3,_,r5,_,_,tx,ty⟩:=zF hp' hi;obtain⟨a',o',n',x',y',ra',_,r3',_,r5',_,_,tx',ty'⟩:=zF hp' hj;rw[ra,ra'];exact aB9 (s:={ s with heap:=h3 }) r3 r5 r3' r5' tx ty tx' ty' (by omega) hQ⟩
 refine AO (C7 (Srt.wpS_sortRuns (Q:=fun _ st'=>Srt.SB (tuples' (CU "tuple" != CU "tuple")) (vs.toArray.zip vs.toArray) st'∧Srt.Up (fun x=>rkn ks (keyOf h3 L x.1)) (AD st') 0 (vs.toArray.zip vs.toArray).size) C ⟨.refl _,rfl,rfl⟩ rfl (by simp; omega) fun st' a b=>⟨a,b⟩) ?_ fun _ _ e=>e)
 rintro⟨⟨⟩,st'⟩ s' ⟨rfl,hB,hUp⟩
 dsimp only at hB hUp ⊢;have hpm:=EM.mp hB.perm;rw[wG] at hpm;obtain⟨is,eis,his⟩:=a6K _ hpm;have hil:∀ i∈is,i<vs.length:=fun i hi=>B7.mp (his.mem_iff.mp hi);have hsz:=hB.size;rw[← hsz] at hUp;have hpw:=Srt.up_pw hUp;rw[eis,DT] at hpw;have hnd:is.Nodup:=his.nodup_iff.mpr List.nodup_range;have hup:(is.map fun i=>ks.getD i nk0).Pairwise (fun a b=>nH a b=true):=by
  rw[DT];refine(hpw.and hnd).imp_of_mem fun{i j} hi hj hij=>?_;obtain⟨h5,h6⟩:=hij;have h5:rkn ks (keyOf h3 L (vs.getD i A9))≤rkn ks (keyOf h3 L (vs.getD j A9)):=h5;rw[hkey i (hil i hi),hkey j (hil j hj)] at h5;have hne:ks.getD i nk0≠ks.getD j nk0:=fun e=>by
   rw[Ce,Ce,Av (by have:=hil i hi; omega),Av (by have:=hil j hj; omega)] at e;exact h6 ((DO nd).mp e)
  rcases oN hne with z|z
  ·exact z
  ·have:=a5L (ks:=ks) (kmem j (hil j hj)) (kmem i (hil i hi));rw[z,decide_eq_true_eq] at this;omega
 have hout:(AD st').map (·.2)=(is.map fun i=>vs.getD i A9).toArray:=by
  apply toList_inj.mp;rw[toList_map,eis,map_map];rfl
 rw[hout];have s2:=Dr h3 D (Am fun _=>(is.map fun i=>vs.getD i A9).toArray);obtain⟨c2,hc2⟩:∃ c2,(h3.update D (Am fun _=>(is.map fun i=>vs.getD i A9).toArray)).get? D=some (AY "list" (is.map fun i=>vs.getD i A9).toArray c2):=⟨_,Dq ho2 fun _=>(is.map fun i=>vs.getD i A9).toArray⟩;refine AO (Du ho2 rfl ?_);have hol:(is.map fun i=>vs.getD i A9).toArray.size≤sizeLine:=by
  rw[Ap,A3,his.length_eq,DP,Bj];omega
 refine AO (Ds ho2 rfl ?_ (Ah _) (Nat.le_succ_of_le hol));rw[hB.failed];simp only[bne_self_eq_false,Bool.false_eq_true,if_false];exact Ab (q is _ c2 his hup (fun b o hb e=>(s2.2 b hb).trans (kp b o hb e)) hc2)
theorem a4F {l L:AA}{vs:List AB}{ks:List NK2}{Q:AB→AC→Prop}(hu:A.units+64<A5)(hl:s.heap.IsList l vs.toArray)(h2:2≤vs.length)(hz:vs.length≤1000)(hp:AX (NpAt s.heap L) vs ks)(nd:ks.Nodup)
  (q:∀(is:List Nat) (D:AA) (h':AH) (c:Nat),is.Perm (BY vs.length)→(is.map fun i=>ks.getD i nk0).Pairwise (fun a b=>nH a b=true)→s.heap.objs.size≤D→(∀ b o,s.heap.get? b=some o→h'.get? b=some o)→h'.get? D=some (listOf (is.map fun i=>vs.getD i .none).toArray c)→Q (.ref D) { s with heap:=h' }) :
  AK (AF prog w) A (call (.builtin "sorted") [.ref l]) Q E s:=by
 refine Et kind_sorted plain_sorted entry_sorted (args_sorted1 _) ?_;unfold Al.«sorted»;have z1:vs.length≤sizeLine:=by rw[Bj]; omega
 refine AO (m:=checkCount "sorted" 1 1 _) (Ab (AO (collect_list (vs:=vs) hl (AO (Dv ?_ z1)) z1)));have kU:∀ b o,s.heap.get? b=some o→((s.heap.push (AY "list" #[] 0)).update s.heap.objs.size (Am fun x=>x++vs.toArray)).get? b=some o:=fun b o e=>by
  rw[Eu _ _ _ _ (BB (Ai e))];exact An _ e
 have zU:s.heap.objs.size≤((s.heap.push (AY "list" #[] 0)).update s.heap.objs.size (Am fun x=>x++vs.toArray)).objs.size:=by
  rw[AH.size_update,C2];exact C1 _
 show AK _ _ _ _ _ { s with heap:=((s.heap.push (AY "list" #[] 0)).update s.heap.objs.size (Am fun x=>x++vs.toArray)).push (AY "list" vs.toArray 0) };dsimp only;generalize (s.heap.push (AY "list" #[] 0)).update s.heap.objs.size (Am fun x=>x++vs.toArray)=U at *;have hoL:(U.push (AY "list" vs.toArray 0)).get? U.objs.size=some (AY "list" vs.toArray 0):=Bh _ rfl;refine AO (CB (ED slot_list_sort ⟨_,hoL,rfl⟩ entry_list_sort ?body (args_list_sort _)))
 case body=>
  refine a8D (s:={ s with heap:=U.push (AY "list" vs.toArray 0) }) (L:=L) (by show A.units+1+1+60<A5; omega) hoL h2 hz (AX.mapP hp fun v k h=>h.go fun b o _ e=>An _ (kU b o e)) nd fun is h' c his hup kp hd=>⟨_,rfl,Ab ⟨_,rfl,q is _ h' c his hup zU (fun b o e=>kp b o ?_ (An _ (kU b o e))) hd⟩⟩;exact BB (Az (Ai e) zU)
end
end L2
namespace L2
open PySem PySem.Spec PyProof.Rows
def a5H (K:Fg):List V→Hp→VK→Prop:=fun xs H Q=>∃ l qs ks,xs=[.ref l]∧SqL K H l qs∧wO H qs ks∧2≤qs.length∧qs.length≤1000∧ks.Nodup ∧
 ∀(is:List Nat) p,is.Perm (BY qs.length)→(is.map fun i=>ks.getD i nk0).Pairwise (fun a b=>nH a b=true)→H p=none→Q (.ref p) (upd H p (.lst (is.map fun i=>qs.getD i .non)))
section
variable {X:Cx}
theorem a73 {pins:List (AA×Obj)}{s:AC}{σ:List (Option V)}{H:Hp}(I:Inv X pins σ H s){qs:List V}{its:List AB}{ks:List NK2}(hp:wO H qs ks)(rv:AX RelV qs its):AX (NpAt s.heap X.env.locals) its ks:=by
 unfold wO at hp
 induction hp generalizing its with
 | nil=>cases rv; exact .nil
 | @cons v k qs ks a t ih=>
  cases rv with
  | cons b c=>
   refine .cons ?_ (ih c);obtain⟨bk,x,y,rfl,hb,hx,hy⟩:=a
   cases b
   obtain⟨_,items,ri,o,h1,h2,n,h3⟩:=(show ObjOk X.prog X.w H s.heap bk (.tup [.ref x,.ref y]) from I.hok bk _ hb);obtain⟨u1,u2,rfl,r1,r2⟩:=ri.two
   cases r1
   cases r2
   exact⟨bk,o,n,x,y,rfl,(fun z=>by rw[z,I.free] at hb; cases hb),h1,h2,h3,(fun z=>by rw[z,I.free] at hx; cases hx),(fun z=>by rw[z,I.free] at hy; cases hy),zW I.hok hx,zW I.hok hy⟩
theorem xU (hu:X.A.units+64<A5):CallR X (.builtin "sorted") (a5H X.K):=by
 intro pins s σ H xs us Q I r h;obtain⟨l,qs,ks,rfl,hq,hp,h2,hz,nd,q⟩:=h;obtain⟨u,rfl,rx⟩:=vals1 r
 cases rx
 obtain⟨its,rv,pl,hz2⟩:=I.list hq;have hlen:qs.length=its.length:=rv.length;refine a4F hu pl.isList (by omega) (by omega) (a73 I hp rv) nd fun is D h' c his hup hD keep hd=>?_;have his2:is.Perm (BY qs.length):=hlen▸his;have hmem:∀ i∈is,i<qs.length:=fun i hi=>B7.mp (his2.mem_iff.mp hi);have rv2:=zJ rv hmem;have hil:(is.map fun i=>qs.getD i .non).length=qs.length:=by rw[A3,his2.length_eq,DP]
 exact⟨.ref D,_,I.laid (t':=s.toks) keep hD (show ObjOk X.prog X.w _ h' D (.lst (is.map fun i=>qs.getD i .non)) from⟨by rw[hil]; exact hz2,_,c,rv2,hd⟩),rfl,q is D his2 hup (I.hok.fresh hD)⟩
def a5K (K:Fg):List V→Hp→VK→Prop:=fun xs H Q=>a5H K xs H Q∨a4X K xs H Q
theorem rG (hu:X.A.units+64<A5):CallR X (.builtin "sorted") (a5K X.K):=CallR.or (xU hu) yL
end
end L2
namespace L2.VS
open PySem PySem.Spec PyProof.Rows
section
variable {P0:AA→Hp→Prop}{ta:TE}{ma:ME}{K:Fg}
def wB (ma:ME):MO:=fun Γ Q=>ma Γ fun x Γ1=>∃ ks:List NK2,x=.list (a0X ks)∧ks.length≤1000∧ks.Nodup∧Q (.own (a0X (a0L ks))) Γ1
theorem xO (ha:VT P0 ta ma):VO P0 (tCB (a5K K) (jX ta tM)) (wB ma):=by
 intro F Γ σ G H Q Qm r m k;refine ha F Γ σ G H _ _ r m fun x Γ1 v G1 H1 m1 s1 r1 d1=>?_;obtain⟨ks,rfl,h64,nd,m1⟩:=m1
 cases d1 with
 | @lst p qs _ hp rs=>
  have hl:qs.length=ks.length:=by rw[rs.len]; unfold a0X; rw[A3]
  by_cases h1:2≤ks.length
  ·refine .inl ⟨p,qs,ks,rfl,SqL.of (r1.fr.sub _ _ hp),a6S (fun b o e=>r1.fr.sub b o e) rs,by omega,by omega,nd,fun is l his hup hl2=>?_⟩;have hmem:∀ i∈is,i<qs.length:=fun i hi=>B7.mp (his.mem_iff.mp hi);obtain⟨a,b,c⟩:=sO r1 hl2 (a5T rs hmem);have e:a0L ks=is.map fun i=>ks.getD i nk0:=by
    refine uT ?_ hup;have e1:((BY qs.length).map fun i=>ks.getD i nk0)=ks:=by
     refine List.ext_getElem? fun i=>?_;rw[BD,hl]
     by_cases hi:i<ks.length
     ·simp[hi]
     ·simp[hi]
    have:=his.map fun i=>ks.getD i nk0;rw[e1] at this;exact this
   rw[e] at m1;exact k _ _ _ _ _ m1 s1 a b c
  ·refine .inr ⟨p,qs,rfl,SqL.of (r1.fr.sub _ _ hp),by omega,fun l hl2=>?_⟩;obtain⟨a,b,c⟩:=sO r1 hl2 rs;have e:a0L ks=ks:=uT (BN.refl _) (by
    match ks,h1 with
    | [],_=>exact .nil
    | [x],_=>exact List.pairwise_singleton _ _
    | x::y::r,h=>exact absurd (show 2≤(x::y::r).length from by simp) h)
   rw[e] at m1;exact k _ _ _ _ _ m1 s1 a b c
theorem a2M {ma:ME}{Γ:En}{Q:Rv→En→Prop}(h:ma Γ fun x Γ1=>∃ ks:List NK2,x=.list (a0X ks)∧ks.length≤1000∧ks.Nodup∧Q (.own (a0X (a0L ks))) Γ1):wB ma Γ Q:=h
end
end L2.VS
namespace L2.Rem
open PySem PySem.MeetsSeq
section
variable {l:AA}{its:Array AB}{c:Nat}{y:AB}{p:AB→Bool}{j:Nat}
def Rdy (l:AA)(its:Array AB)(c:Nat)(y:AB)(p:AB→Bool)(j:Nat)(A:AR)(R:Result→AC→Prop)(s:AC):Prop:=
 s.heap.get? l=some { cls:=.type "list", dict:=none,data:=.seq its c,slots:=#[] }∧(∀ z,z∈its→C5 A.in1 s z y (p z))∧R (.ok (.ret .none)) { s with heap:=s.heap.update l (Am fun xs=>xs.eraseIdxIfInBounds j) }
theorem a4O (hj:j<its.size)(yes:p its[j]=true)(hz:its.size≤sizeLine):∀ d i:Nat,i+d=j→(∀ m (hm:m<its.size),i≤m→m<j→p its[m]=false)→Meets (Al.«list.remove.loop» ⟨[.ref l,y,rawInt i],[]⟩) (Rdy l its c y p j):=by
 intro d
 induction d with
 | zero=>
  rintro i rfl _ prog w A R ⟨hp,g,dr,tk,os⟩ ⟨hl,ask,fin⟩;have z1:(its.eraseIdxIfInBounds (i+0)).size≤sizeLine+1:=Nat.le_succ_of_le (BF (size_erased its _) hz)
  wp_walk using Cb hl
  rw[show its[((i:Nat):Int).toNat]?=some (its[i+0]'hj) by simpa using hj];refine AO (ask _ (Array.getElem_mem hj) prog w _ _ ?_); rw[yes]
  wp_walk using(wpAny_updateSeq hl rfl (hz:=hz) (_hz':=z1)),Cb hl
  exact fin
 | succ d ih=>
  rintro i e no prog w A R ⟨hp,g,dr,tk,os⟩ ⟨hl,ask,fin⟩;have hi:i<its.size:=by omega
  wp_walk using Cb hl
  rw[show its[((i:Nat):Int).toNat]?=some (its[i]'hi) by simpa using hi];refine AO (ask _ (Array.getElem_mem hi) prog w _ _ ?_); rw[no i hi (AT _) (by omega)]
  wp_walk
  rw[show(i:Int)+1=((i+1:Nat):Int) from rfl];refine⟨plainId_quiet Dy _,codeAny_builtin entry_remove_loop ?_⟩; rw[E3 Dy _];exact ih (i+1) (by omega) (fun m hm h1 h2=>no m hm (by omega) h2) prog w A R _ ⟨hl,ask,fin⟩
theorem rem_all (hj:j<its.size)(yes:p its[j]=true)(no:∀ m (hm:m<its.size),m<j→p its[m]=false)(hz:its.size≤sizeLine):Meets (Al.«list.remove» ⟨[.ref l,y],[]⟩) (Rdy l its c y p j):=by
 rintro prog w A R ⟨hp,g,dr,tk,os⟩ ⟨hl,ask,fin⟩
 wp_walk using Cb hl
 refine⟨plainId_quiet Dy _,codeAny_builtin entry_remove_loop ?_⟩; rw[E3 Dy _];exact a4O hj yes hz j 0 (B9 _) (fun m hm _ h2=>no m hm h2) prog w A R _ ⟨hl,ask,fin⟩
end
end L2.Rem
namespace L2
open PySem PySem.Spec PyProof.Rows VS
section
variable {X:Cx}
def a1F:V→List V→Hp→VK→Prop:=fun x vs H Q=>∃(l:AA) (xs:List V) (y:V) (dx:AM) (ds:List AM) (j:Nat),x=.ref l∧vs=[y]∧H l=some (.lst xs)∧Dt H y dx∧Dts H xs ds∧Good dx∧Goods ds∧j<ds.length∧ds.length≤1000∧Au (ds.getD j .none) dx=true∧(∀ m,m<j→Au (ds.getD m .none) dx=false)∧Q .non (upd H l (.lst (xs.eraseIdx j)))
theorem a1A (hu:X.A.units+64<A5):MtM X "list.remove" a1F:=by
 intro pins s σ H x vs v us Q I rx rv h;obtain⟨l,xs,y,dx,ds,j,rfl,rfl,hH,ey,ex,gx,gs,hj,hz,hit,hno,q⟩:=h
 cases rx
 obtain⟨u,rfl,ru⟩:=rv.one;obtain⟨as,r1⟩:=Dt.reads I.hok dx y u ey ru;obtain⟨bs,r2⟩:=Dt.reads I.hok _ (.ref l) (.ref l) (.lst hH ex) rfl;obtain⟨z,its,n,r,hl,e⟩:=I.lstM hH
 cases r2 with
 | @list _ o items n' _ _ h1 h2 h3 h4=>
  have em:=SeqAt.readsAll_map ds _ _ gs.lay h4;have hsz:items.size=ds.length:=by rw[← em,A3,Aj]
  have at_:∀ m (hm:m<items.size),SeqAt.readOf s.heap items[m]=ds.getD m .none:=fun m hm=>by
   rw[← em,Ce,BD,Bi,CF hm];rfl
  have ei:items=its.toArray∧n'=n:=by
   rw[e] at h1
   cases h1
   injection h3 with a b;exact⟨a.symm,b.symm⟩
  obtain⟨rfl,rfl⟩:=ei;have h64:=SeqAt.items_eqAt h4 r1 gs.lay gx.lay (aBP hu gs.dep);refine Do F.slot_list_remove ⟨_,e,rfl⟩ F.entry_list_remove (F.args_list_remove_2 _ _) (Rem.rem_all (p:=fun y=>Au (SeqAt.readOf s.heap y) dx) (j:=j) (by omega) ?_ ?_ (by rw[hsz,Bj]; omega)) ⟨e,h64,?_⟩
  ·rw[at_ j (by omega)];exact hit
  ·intro m hm hmj;rw[at_ m hm];exact hno m hmj
  ·refine⟨.non,_,I.lset (its':=its.eraseIdx j) hH e ?_ (r.eraseIdx j) ?_,rfl,q⟩
   ·show its.toArray.eraseIdxIfInBounds j=(its.eraseIdx j).toArray;rw[Ej]
   ·have:=pP xs j;omega
end
end L2
namespace L2.VS
open PySem PySem.Spec PyProof.Rows
section
variable {P0:AA→Hp→Prop}{ta tb:TE}{ma mb:ME}{K:Fg}
abbrev aC9:=mI a7Q fun i j=>Bo (i*2^j.toNat)
theorem lW (ha:VT P0 ta ma)(hb:VT P0 tb mb):VT P0 (tOp (rI a7Q fun i j=>.int (i*2^j.toNat)) ta tb) (aC9 ma mb):=a7N (fun _ _ _=>.int _) ha hb
def aCG (i:Nat)(d:D)(Γ1:En)(Q:Fl→Prop):Prop:=∃(ds:List D) (j:Nat),Γ1[i]?=some (.own ds)∧Good d∧Goods ds∧j<ds.length∧ds.length≤1000∧Au (ds.getD j .none) d=true∧(∀ m,m<j→Au (ds.getD m .none) d=false)∧Q (.nx (Γ1.set i (.own (ds.eraseIdx j))))
def vG (i:Nat)(mb:ME):MS:=fun Γ Q=>(∃ ds,Γ[i]?=some (.own ds))∧mb Γ fun d Γ2=>aCG i d Γ2 Q
theorem zO {i:Nat}(hb:VT P0 tb mb){A:Nat→Bool}:VSA P0 A (a3C (tBM K "list" a1F (yC i) (jX tb tM))) (vG i mb):=by
 intro F Γ σ G H E Qm r hm k;obtain⟨⟨ds0,e0⟩,hm⟩:=hm;obtain⟨p,vs,e1,e2,e3,e4,e5⟩:=r.sl i _ e0;refine⟨_,e1,.inl ⟨rfl,_,SqL.of e4⟩,?_⟩;refine hb F Γ σ G H _ _ r hm fun d Γ2 x G2 H2 m2 s2 r2 d2=>?_;obtain⟨ds,j,e,gx,gs,hj,hz,hit,hno,q⟩:=m2;obtain⟨p',ws,f1,f2,f3,f4,f5⟩:=r2.sl i _ e;rw[e1] at f1; cases f1;refine⟨p,ws,x,d,ds,j,rfl,rfl,f4,Dt.same r2.fr.sub _ _ d2,Dts.same r2.fr.sub _ _ f5,gx,gs,hj,hz,hit,hno,?_⟩;exact k _ q _ _ _ s2 (r2.write e e1 (pG f5)) fun _ _=>rfl
theorem a2W {i:Nat}{mb:ME}{Γ:En}{Q:Fl→Prop}{ds:List D}(h0:Γ[i]?=some (.own ds))(h:mb Γ fun d Γ2=>aCG i d Γ2 Q):vG i mb Γ Q:=⟨⟨ds,h0⟩,h⟩
end
section
variable {P0:AA→Hp→Prop}{sh:List D→D→Prop}{C:AA}{i:Nat}
def oR (P0:AA→Hp→Prop)(sh:List D→D→Prop)(C:AA):Sp:=fun vs H Q _=>∃(F:Fra P0) (w d l:AA) (us:List V) (ds:List D) (t:D),F.H0=H∧Rf F F.G0 H∧vs=[.ref w]∧Ins1 C "kept" w d l us H∧Dts F.G0 us ds∧iU t=true∧sh ds t∧∀ r G' H',Rf F G' H'→Dt G' r t→Q r H'
def nR (sh:List D→D→Prop)(C:AA)(i:Nat):ME:=fun Γ Q=>∃ w ds s t,Γ[i]?=some s∧a0I C "kept" w ds s∧iU t=true∧sh ds t∧Q t Γ
theorem nC {E:XK}:VT P0 (a0M C "shape" (oR P0 sh C) [] E (yC i) tM) (nR sh C i):=by
 intro F Γ σ G H Q Qm r hm k;obtain⟨w,ds,s,t,e,hs,hn,hsh,q⟩:=hm;obtain⟨d,l,us,ew,hI,hus⟩:=r.ins e hs;refine⟨.ref w,ew,w,d,_,rfl,hI.i,rfl,F.sub r.fr,w,d,l,us,ds,t,rfl,F.subRf r.fr,rfl,hI,hus,hn,hsh,fun r' G' H' f2 dt=>?_⟩;obtain⟨r2,s2⟩:=r.after f2;exact k _ _ _ _ _ q s2 r2 dt
theorem oJ {Γ:En}{Q:D→En→Prop}{w:AA}{ds:List D}{s:Sl}{t:D}(h0:Γ[i]?=some s)(hs:a0I C "kept" w ds s)(hn:iU t=true)(h1:sh ds t)(h:Q t Γ):nR sh C i Γ Q:=⟨w,ds,s,t,h0,hs,hn,h1,h⟩
theorem yX {m:Fm}{F:Fra NoP}{H:Hp}{l:AA}{us:List V}{ds:List D}{t:D}{Q:VK}{E:XK}(hF:F.H0=H)(rf:Rf F F.G0 H)(hl:H l=some (.lst us))(hus:Dts F.G0 us ds)(hn:iU t=true)
  (hm:m [.val (.list ds),.val (.int 0)] fun rv=>rv=.val t) (q:∀ r G' H',Rf F G' H'→Dt G' r t→Q r H'):spM NoP 2 m [.ref l,.int 0] H Q E:=by
 have np:F.pen=none:=by
  cases e:F.pen with
  | none=>rfl
  | some p=>exact(rf.pn p e).elim
 have g0:Same F.G0 (upd F.G0 l (.lst us)):=fun b o e=>by
  by_cases c:b=l
  ·subst c;rw[bQ];have:=rf.sub b o e;rw[hl] at this;exact this
  ·rw[bR c]; exact e
 have s2:Same (upd F.G0 l (.lst us)) H:=fun b o e=>by
  by_cases c:b=l
  ·subst c;rw[bQ] at e
   cases e
   exact hl
  ·rw[bR c] at e;exact rf.sub b o e
 refine⟨{ H0:=H,G0:=upd F.G0 l (.lst us),pen:=none,stab:=(fun _ e=>nomatch e),pin:=(fun _ e=>nomatch e),pin0:=(fun _ e=>nomatch e),pg:=(fun _ e=>nomatch e) },[.val (.list ds),.val (.int 0)],fun rv=>rv=.val t,rfl,⟨s2,fun _ _ _=>rfl,fun _ _ e _=>e,(fun _ e=>nomatch e)⟩,.cons (Dt.lst bQ (Dts.same g0 _ _ hus)) (.cons (Dt.int _) .nil),rfl,hm,?_⟩;rintro rv r G2 H2 rfl f2 v2;have v2:Dt G2 r t:=v2;have hG:∀ b,b≠l→∀ o,H b=some o→G2 b=F.G0 b:=fun b hb o e=>(f2.g0 b o e).trans (bR hb);have hl2:G2 l=some (.lst us):=(f2.g0 l _ hl).trans bQ;have ke:∀ b o,H b=some o→H2 b=some o:=fun b o e=>f2.h0 b o e (fun z=>nomatch z);refine q r (fun b=>if b=l then F.G0 l else G2 b) H2 ⟨fun b o e=>?_,fun b o e=>?_,fun b o e _=>ke b o (hF▸e),fun p e=>by rw[np] at e; cases e⟩ (Dt.sameU (fun b xs e=>.inl ?_) _ _ hn v2)
 ·skip
  split at e
  ·rename_i c
   subst c;exact ke _ _ (rf.sub _ _ e)
  ·exact f2.sub b o e
 ·skip
  split
  ·rename_i c
   rw[c]
  ·rename_i c
   exact hG b c o (hF▸e)
 ·skip
  rw[if_neg (fun c=>by rw[c,hl2] at e; cases e)];exact e
def a4G (i:Nat)(mr:MA):MA:=fun Γ Q=>∃ B,Γ[i]?=some (.pub B)∧mr Γ fun xs Γ2=>Q (.pub B::xs) Γ2
theorem a04 {i:Nat}{tr:TA}{mr:MA}(hr:VA P0 tr mr):VA P0 (jX (yC i) tr) (a4G i mr):=by
 intro F Γ σ G H Q Qm r hm k;obtain⟨B,e,hm⟩:=hm;obtain⟨v,ev,pv⟩:=r.sl i _ e;exact⟨v,ev,hr F Γ σ G H _ _ r hm fun as Γ1 rs G1 H1 m1 g1 r1 d1=>k _ _ _ _ _ m1 g1 r1 (.cons (B.mono g1 pv) d1)⟩
theorem a1C {Γ:En}{B:Pb}{mr:MA}{Qa:List Sl→En→Prop}(h0:Γ[i]?=some (.pub B))(h:mr Γ fun xs Γ2=>Qa (.pub B::xs) Γ2):a4G i mr Γ Qa:=⟨B,h0,h⟩
end
end L2.VS
namespace My
open PySem PySem.Spec PyProof.Rows L2 L2.VS LT
def top (i:Nat):AS:=PySem.Challenge.pw_leadtimes_k23_shapes_of_waiting.main.body.getD i (.Pass ⟨0,0,0,0⟩)
set_option hygiene false in
local macro_rules|`(tactic| walk_at "vn")=>`(tactic| dsimp only[BW,BV,List.set_nil,Rv.sl,Rv.d,nbQ,At,List.cons_append,List.nil_append,v7,B6,map_nil])
set_option hygiene false in
local macro_rules|`(tactic| walk_at "v1")=>`(tactic| first
 | (with_reducible first
  | apply aBG|apply aA7|apply aAW|apply aB1|apply aD4|apply aAB
  | refine aA6 (by with_unfolding_all rfl) ?_
  | apply i_c|apply aAF|apply a91|apply a8O
  | refine i_apen (by with_unfolding_all rfl) ?_
  | apply a80|apply aBN|apply a86|apply aA4|apply aB7|apply aCX|apply aCY|apply i_I|apply i_U|apply aCV|apply aD0
  | apply aBE|apply aCQ|apply a9Y|apply a9I|apply aBA|apply aBL|apply a9K|apply aA9|apply aAH|apply aAU|apply a7Z
  | apply aAV|apply aA2|apply aB6|apply a83|apply aCT
  | refine i_gT (by with_unfolding_all rfl) ?_
  | apply aAQ|apply aCP|apply a9D|apply a8Q|apply a5V|apply aB0|apply aAZ|apply a9Z|apply aAR
  | refine a4P (by with_unfolding_all rfl) ?_
  | refine i_clear (by with_unfolding_all rfl) ?_
  | refine a84 (by with_unfolding_all rfl) ?_
  | refine i_pubS0 (by with_unfolding_all rfl) ?_
  | refine i_move (by with_unfolding_all rfl) ?_
  | refine i_moveV (by with_unfolding_all rfl) ?_
  | apply gR (a78 _)|apply gR (a5S _)|apply gR (ix_line0 _)|apply gR (ix_line1 _)
  | apply vC|apply rF
  | refine isT (by with_unfolding_all rfl) ?_
  | refine isF (by with_unfolding_all rfl) ?_
  | refine aCB (by with_unfolding_all rfl) ?_
  | refine isNF (by with_unfolding_all rfl) ?_
  | apply aA0|apply aAL
  | refine Af rfl ?_
  | refine Af (Eo (by with_unfolding_all rfl)) ?_
  | refine Af (a7I (by assumption) (by assumption)) ?_
  | (refine Af (good_int _) (Af (good_int _) ?_); rw[a2E])
  | (refine Af (lH _) (Af (lH _) ?_); rw[a0D])
  | (refine Af (good_line _) (Af (good_line _) ?_); rw[eqv_line])
  | (refine Af (good_bool _) (Af (good_bool _) ?_); rw[eqv_bool]))
 | dsimp only[Rv.d,Rv.sl,nbQ,Bool.not_true,Bool.not_false,isN])
set_option hygiene false in
local macro_rules|`(tactic| walk_at "vs")=>`(tactic| repeat (walk_at "v1"))
set_option hygiene false in
local macro_rules|`(tactic| walk_at "w1")=>`(tactic| first
 | walk_at "v1"
 | with_reducible apply aB2
 | with_reducible refine i_ixC (by with_unfolding_all rfl) ?_)
set_option hygiene false in
local macro_rules|`(tactic| walk_at "ws")=>`(tactic| repeat (walk_at "w1"))
set_option hygiene false in
local macro_rules|`(tactic| walk_at "l1")=>`(tactic| first
 | walk_at "w1"
 | with_reducible refine a9G (by with_unfolding_all rfl) ?_
 | with_reducible refine aBB (by with_unfolding_all rfl) rfl ?_
 | with_reducible apply a9O
 | with_reducible refine aAE (by with_unfolding_all rfl) ?_
 | with_reducible apply a7R
 | with_reducible refine a3M (by with_unfolding_all rfl) ?_
 | with_reducible refine aAA (by with_unfolding_all rfl) ?_
 | with_reducible apply aAM)
set_option hygiene false in
local macro_rules|`(tactic| walk_at "ls")=>`(tactic| repeat (walk_at "l1"))
set_option hygiene false in
local macro_rules|`(tactic| walk_at "kp")=>`(tactic| repeat (with_unfolding_all first
 | exact a8Y
 | apply a8K
 | refine a7V a6F ?_))
set_option hygiene false in
local macro_rules|`(tactic| walk_at "m1")=>`(tactic| first
 | walk_at "l1"
 | with_reducible apply aA8
 | with_reducible refine aAG (by with_unfolding_all rfl) (by with_unfolding_all rfl) (by with_unfolding_all rfl) (by walk_at "kp") ?_
 | with_reducible refine i_slJ (by with_unfolding_all rfl) ?_)
set_option hygiene false in
local macro_rules|`(tactic| walk_at "ms")=>`(tactic| repeat (walk_at "m1"))
def pU:MS:=
 (o9 (gK (mLt (a5Z (mIx (cF 0) (mC (.int 0))) (mIx (cF 1) (mC (.int 1)))) (a5Z (mIx (cF 1) (mC (.int 0))) (mIx (cF 0) (mC (.int 1)))))))
def mY:Fm:=mFn 0 pU
def j5:MS:=
 (o9 (gK (a9S (mIx (cF 0) (mC (.int 1))) (mIx (cF 1) (mC (.int 1))))))
def iY:MS:=
 (gW (mIf (lV (mNe (mIx (cF 0) (mC (.int 0))) (mIx (cF 1) (mC (.int 0)))))
  (o9 (jB 2 mY (gU (mIx (cF 0) (mC (.int 0))) (gU (mIx (cF 1) (mC (.int 0))) jR))))
  mNx)
  j5)
def gJ:Fm:=mFn 0 iY
def mV:MS:=
 (o9 (gK (cF 2)))
def mQ:MS:=
 (gW (o4 4 (gK (aC1 (a1E (cF 2) (cF 3)) (mC (.int 2)))))
  (mIf (lV (iD (jB 2 gJ (gU (mIx (cF 0) (cF 4)) (gU (cF 1) jR)))))
  (o4 2 (gK (a1E (cF 4) (mC (.int 1)))))
  (o4 3 (gK (cF 4)))))
def nW:MS:=
 (gW (o4 2 (gK (mC (.int 0))))
  (gW (o4 3 (gK (a5A (cF 0))))
  (gW (wW (lV (mLt (cF 2) (cF 3)))
  mQ)
  mV)))
def lN:Fm:=mFn 3 nW
def iI (c:Fm):MS:=
 (o9 (gK (a3H (dU (mIx (cF 0) (cF 1)) (dU (iD (jB 2 c (gU (cF 0) (gU (a1E (a5Z (mC (.int 2)) (cF 1)) (mC (.int 1))) jR)))) (dU (iD (jB 2 c (gU (cF 0) (gU (a1E (a5Z (mC (.int 2)) (cF 1)) (mC (.int 2))) jR)))) tL))))))
def bJ (c:Fm):MS:=
 (gW (mIf (lV (mGe (cF 1) (a5A (cF 0))))
  (o9 (gK (mC .none)))
  mNx)
  (iI c))
def fZ:Fm:=mNo
def eH:Fm:=mFn 0 (bJ fZ)
def eV:Fm:=mFn 0 (bJ eH)
def eG:Fm:=mFn 0 (bJ eV)
def eN:Fm:=mFn 0 (bJ eG)
def eU:Fm:=mFn 0 (bJ eN)
def eY:Fm:=mFn 0 (bJ eU)
def eQ:Fm:=mFn 0 (bJ eY)
def eX:Fm:=mFn 0 (bJ eQ)
def eF:Fm:=mFn 0 (bJ eX)
def gQ:Fm:=mFn 0 (bJ eF)
def jY:Fm:=gQ
def plD:List D→D→Nat→Prop:=fun ds e k=>lN [.val (.list ds),.val e] (fun rv=>rv=.val (.int (k:Int)))
def shD:List D→D→Prop:=fun ds t=>jY [.val (.list ds),.val (.int 0)] (fun rv=>rv=.val t)
def jK:MS:=
 (o9 (gK (a3H (dU (a5Y (cF 0) (cF 2)) (dU (a5Y (cF 1) (cF 2)) tL)))))
def jV:MS:=
 (aAO 2 3 (dU (cF 3) (dU (aB8 (cF 2) (cF 3)) tL)))
def lB:MS:=
 (gW (o4 2 (gK (aBM (cF 0))))
  (gW (o4 3 (gK (cF 1)))
  (gW (wW (lV (mGt (cF 3) (mC (.int 0))))
  jV)
  jK)))
def gA:Fm:=mFn 2 lB
def jF:MS:=
 (gW (o4 2 (gK (a5Z (mIx (mIx (cF 0) (mC (.int 0))) (mC (.int 0))) (mIx (mIx (cF 1) (mC (.int 0))) (mC (.int 1))))))
  (gW (o4 3 (gK (a5Z (mIx (mIx (cF 1) (mC (.int 0))) (mC (.int 0))) (mIx (mIx (cF 0) (mC (.int 0))) (mC (.int 1))))))
  (o9 (gK (aBQ (mLt (cF 2) (cF 3)) (a08 (mEq (cF 2) (cF 3)) (a9S (mIx (cF 0) (mC (.int 1))) (mIx (cF 1) (mC (.int 1))))))))))
def g8:Fm:=mFn 2 jF
def j7:MS:=
 (o9 (gK (mC (.bool true))))
def j9:MS:=
 (mIf (mOr (a5W (lV (a90 "tuple" (cF 1)))) (lV (mNe (a5A (cF 1)) (mC (.int 2)))))
  (o9 (gK (mC (.bool false))))
  mNx)
def j8:MS:=
 (gW (a7D (a9U (cF 0)) (gN 1)
  j9)
  j7)
def iT:MS:=
 (gW (mIf (mOr (a5W (lV (a90 "tuple" (cF 0)))) (lV (mNe (a5A (cF 0)) (mC (.int 2)))))
  (o9 (gK (mC (.bool false))))
  mNx)
  j8)
def gH:Fm:=mFn 1 iT
def mW:MS:=
 (a0J penF (jB 2 gA (gU (a95 (iD (fC penF 2 fG 0 (gU (mC (.int 1000)) jR))) (mC (.int 500))) (gU (a1E (mC (.int 1)) (iD (fC penF 2 fG 0 (gU (mC (.int 9)) jR)))) jR))))
def mO:MS:=
 (gW (mIf (lV (mEq (cF 1) (mC (.int 3))))
  (a0J penF (jB 2 gA (gU (a95 (iD (fC penF 2 fG 0 (gU (mC (.int 4)) jR))) (mC (.int 1))) (gU (a1E (mC (.int 1)) (iD (fC penF 2 fG 0 (gU (mC (.int 3)) jR)))) jR))))
  mNx)
  mW)
def nP:MS:=
 (gW (mIf (lV (mLt (cF 1) (mC (.int 3))))
  (a0J penF (gK (a3H (dU (mIx (iD (a4M (dU (a95 (cF 2) (mC (.int 30))) (dU (a95 (mC (.int 30)) (cF 2)) (dU (mC (.int 5)) tL))))) (cF 1)) (dU (mC (.int 1)) tL)))))
  mNx)
  mO)
def lG:Lm Nat:=a9T penF 0 nP
def m7:MS:=
 (o9 (gK (cF 1)))
def lQ:MS:=
 (mIf (lV (iD (jB 2 g8 (gU (cF 2) (gU (cF 1) jR)))))
  (o4 1 (gK (cF 2)))
  mNx)
def mJ:MS:=
 (gW (o4 1 (gK (mIx (cF 0) (mC (.int 0)))))
  (gW (a7D (aA3 (cF 0)) (gN 2)
  lQ)
  m7))
def gO:Fm:=mFn 2 mJ
def fK (c:Fm):MS:=
 (o9 (gK (a3H (dU (iD (a9P (iD (a4M (dU (mIx (cF 0) (mC (.int 0))) tL))) (cF 4))) (dU (a1E (mIx (cF 2) (mC (.int 1))) (mC (.int 1))) tL)))))
def fP (c:Fm):MS:=
 (gW (o4 4 (gK (iD (a9P (mIx (cF 1) (mC (.int 0))) (mIx (cF 2) (mC (.int 0)))))))
  (gW (mIf (lV (mGt (aC9 (mC (.int 1)) (a1E (mIx (cF 2) (mC (.int 1))) (mC (.int 1)))) (a1E (a5A (cF 4)) (mC (.int 2)))))
  (o9 (gK (mC .none)))
  mNx)
  (fK c)))
def dI (c:Fm):MS:=
 (mIf (a8J (lV (a0K (cF 3))) (lV (iD (jB 2 g8 (gU (mIx (cF 3) (mC (.int 0))) (gU (mIx (cF 0) (mC (.int 0))) jR))))))
  (o9 (gK (mC .none)))
  mNx)
def fH (c:Fm):MS:=
 (gW (a7D (a9U (aAP (cF 0) (pSo (mC (.int 1))) pNo)) (gN 3)
  (dI c))
  (fP c))
def fD (c:Fm):MS:=
 (gW (o4 1 (gK (iD (jB 1 c (gU (mIx (cF 0) (mC (.int 1))) jR)))))
  (gW (o4 2 (gK (iD (jB 1 c (gU (mIx (cF 0) (mC (.int 2))) jR)))))
  (gW (mIf (mOr (lV (a7P (cF 1))) (lV (a7P (cF 2))))
  (o9 (gK (mC .none)))
  mNx)
  (fH c))))
def fO (c:Fm):MS:=
 (gW (mIf (mOr (a5W (lV (a90 "tuple" (cF 0)))) (mOr (lV (mNe (a5A (cF 0)) (mC (.int 3)))) (a5W (lV (iD (jB 1 gH (gU (mIx (cF 0) (mC (.int 0))) jR)))))))
  (o9 (gK (mC .none)))
  mNx)
  (fD c))
def aU (c:Fm):MS:=
 (gW (mIf (lV (a7P (cF 0)))
  (o9 (gK (a3H (dU (iD (a4M tL)) (dU (mC (.int 0)) tL)))))
  mNx)
  (fO c))
def dH:Fm:=mNo
def cU:Fm:=mFn 4 (aU dH)
def cX:Fm:=mFn 4 (aU cU)
def cQ:Fm:=mFn 4 (aU cX)
def cR:Fm:=mFn 4 (aU cQ)
def cV:Fm:=mFn 4 (aU cR)
def cN:Fm:=mFn 4 (aU cV)
def cP:Fm:=mFn 4 (aU cN)
def cO:Fm:=mFn 4 (aU cP)
def cW:Fm:=mFn 4 (aU cO)
def dZ:Fm:=mFn 4 (aU cW)
def dN:Fm:=dZ
def mF (c:AA):MS:=
 (gW (o4 2 (gK (iD (jB 1 dN (gU (nR shD c 0) jR)))))
  (o9 (gK (a08 (a0K (cF 2)) (mEq (iD (wB (mIx (cF 2) (mC (.int 0))))) (iD (wB (cF 1))))))))
def fX (c:AA):Fm:=mFn 1 (mF c)
def qZ (c:AA):MS:=
 (gW (o4 10 (gK (nR shD c 2)))
  (a1S 6 (o9 (gK (a08 (a4D (iD (jB 2 (fX c) (a4G 2 (gU (cF 6) jR))))) (mEq (nR shD c 2) (cF 10)))))))
def lL (c:AA):MS:=
 (mIf (wM (a8J (lV (mEq (aB8 (cF 7) (mIx (iD (a4M (dU (mC (.int 8)) (dU (mC (.int 30)) tL)))) (a6Y (mGt (cF 5) (mC (.int 60)))))) (mC (.int 0)))) (a5W (lV (a4D (iD (jB 2 (fX c) (a4G 2 (gU (cF 6) jR)))))))))
  (o9 (gK (mC (.bool false))))
  mNx)
def rK (c:AA):MS:=
 (gW (a3S (iD (fC (tY c "kept") 3 (wF plD) 2 (gU (mIx (cF 9) (mC (.int 0))) (gU (mIx (cF 9) (mC (.int 1))) jR)))))
  (vG 6 (cF 9)))
def o6 (c:AA):MS:=
 (gW (mIf (wM (lV (mNe (uY c 2) (iD (jB 1 gO (gU (cF 6) jR))))))
  (o9 (gK (mC (.bool false))))
  mNx)
  (rK c))
def rC (c:AA):MS:=
 (gW (o4 8 (gK (a3H (dU (iD (fC penF 3 lG 1 (gU (cF 3) (gU (cF 7) jR)))) (dU (a3H (dU (iD (fC penF 2 fG 1 (gU (mC (.int 3)) jR))) (dU (cF 7) tL))) tL)))))
  (gW (a3S (iD (fC (tY c "kept") 3 (a3W plD) 2 (gU (mIx (cF 8) (mC (.int 0))) (gU (mIx (cF 8) (mC (.int 1))) jR)))))
  (gW (pF 6 (cF 8))
  (gW (mIf (a8J (lV (mGt (cF 4) (mC (.int 0)))) (lV (mLt (iD (fC penF 2 fG 1 (gU (mC (.int 4)) jR))) (cF 4))))
  (gW (o4 9 (gK (zM 6 (iD (fC penF 2 fG 1 (gU (a6D 6) jR))))))
  (gW (mIf (lV (mEq (iD (fC penF 2 fG 1 (gU (mC (.int 2)) jR))) (mC (.int 0))))
  (o4 9 (gK (a1K [false,true] (mIx (iD (a4M (dU (iD (jB 1 gO (gU (cF 6) jR))) (dU (mIx (cF 6) (aCD (mC (.int 1)))) tL)))) (iD (fC penF 2 fG 1 (gU (mC (.int 2)) jR)))))))
  mNx)
  (o6 c)))
  mNx)
  (lL c)))))
def nT (c:AA):MS:=
 (gW (o4 6 (a4M tL))
  (gW (a7D (a5R (dU (a1E (mC (.int 1)) (iD (fC penF 2 fG 1 (gU (cF 5) jR)))) tL)) (gN 7)
  (rC c))
  (qZ c)))
def rM (c:AA):MS:=
 (gW (o4 3 (gK (iD (fC penF 2 fG 1 (gU (mC (.int 6)) jR)))))
  (gW (o4 4 (gK (iD (fC penF 2 fG 1 (gU (mC (.int 4)) jR)))))
  (gW (o4 5 (gK (mIx (iD (a4M (dU (mC (.int 60)) (dU (mC (.int 60)) (dU (mC (.int 60)) (dU (mC (.int 60)) (dU (mC (.int 60)) (dU (mC (.int 60)) (dU (mC (.int 60)) (dU (mC (.int 120)) tL)))))))))) (iD (fC penF 2 fG 1 (gU (mC (.int 8)) jR))))))
  (gW (mIf (lV (mEq (iD (fC penF 2 fG 1 (gU (mC (.int 16)) jR))) (mC (.int 7))))
  (o4 5 (gK (mC (.int 300))))
  mNx)
  (nT c)))))
def o7 (c:AA):MS:=
 (gW (o4 2 (a5P c))
  (gW (mIf (lV (a0K (nR shD c 2)))
  (o9 (gK (mC (.bool false))))
  mNx)
  (rM c)))
section
variable (P0:AA→Hp→Prop)(P:AQ)(w:AL)(K:Fg)(mg:Mg)(base:AH)
abbrev a0W:Prop:=Cal P w K mg base 1 "is_less" ["a", "b"] (spM P0 2 mY)
abbrev tD:Prop:=Cal P w K mg base 2 "comes_ahead" ["one", "other"] (spM P0 2 gJ)
abbrev uC:Prop:=Cal P w K mg base 1 "shape_from" ["pairs", "at"] (spM P0 2 fZ)
abbrev rZ:Prop:=Cal P w K mg base 2 "shape_from" ["pairs", "at"] (spM P0 2 eH)
abbrev sV:Prop:=Cal P w K mg base 3 "shape_from" ["pairs", "at"] (spM P0 2 eV)
abbrev tG:Prop:=Cal P w K mg base 4 "shape_from" ["pairs", "at"] (spM P0 2 eG)
abbrev s8:Prop:=Cal P w K mg base 5 "shape_from" ["pairs", "at"] (spM P0 2 eN)
abbrev rW:Prop:=Cal P w K mg base 6 "shape_from" ["pairs", "at"] (spM P0 2 eU)
abbrev t7:Prop:=Cal P w K mg base 7 "shape_from" ["pairs", "at"] (spM P0 2 eY)
abbrev tK:Prop:=Cal P w K mg base 8 "shape_from" ["pairs", "at"] (spM P0 2 eQ)
abbrev qM:Prop:=Cal P w K mg base 9 "shape_from" ["pairs", "at"] (spM P0 2 eX)
abbrev qP:Prop:=Cal P w K mg base 10 "shape_from" ["pairs", "at"] (spM P0 2 eF)
abbrev rE:Prop:=Cal P w K mg base 3 "place_of" ["pairs", "pair"] (spM P0 2 lN)
abbrev qK:Prop:=Cal P w K mg base 11 "shape_from" ["pairs", "at"] (spM P0 2 jY)
abbrev sS:Prop:=Cal P w K mg base 1 "_law_lowest" ["_law_top", "_law_bottom"] (spM P0 2 gA)
abbrev pO:Prop:=Cal P w K mg base 1 "_law_take" ["_law_pen_here", "_law_many"] (spL P0 penF 2 fG)
abbrev cC:Prop:=Cal P w K mg base 1 "_law_before" ["_law_pair", "_law_other"] (spM P0 2 g8)
abbrev mD:Prop:=Cal P w K mg base 2 "_law_gone_through" ["_law_tree"] (spM P0 1 dH)
abbrev cA:Prop:=Cal P w K mg base 1 "_law_is_pair" ["_law_thing"] (spM P0 1 gH)
abbrev kI:Prop:=Cal P w K mg base 3 "_law_gone_through" ["_law_tree"] (spM P0 1 cU)
abbrev jJ:Prop:=Cal P w K mg base 4 "_law_gone_through" ["_law_tree"] (spM P0 1 cX)
abbrev jD:Prop:=Cal P w K mg base 5 "_law_gone_through" ["_law_tree"] (spM P0 1 cQ)
abbrev jT:Prop:=Cal P w K mg base 6 "_law_gone_through" ["_law_tree"] (spM P0 1 cR)
abbrev lD:Prop:=Cal P w K mg base 7 "_law_gone_through" ["_law_tree"] (spM P0 1 cV)
abbrev jL:Prop:=Cal P w K mg base 8 "_law_gone_through" ["_law_tree"] (spM P0 1 cN)
abbrev lC:Prop:=Cal P w K mg base 9 "_law_gone_through" ["_law_tree"] (spM P0 1 cP)
abbrev lA:Prop:=Cal P w K mg base 10 "_law_gone_through" ["_law_tree"] (spM P0 1 cO)
abbrev kJ:Prop:=Cal P w K mg base 11 "_law_gone_through" ["_law_tree"] (spM P0 1 cW)
abbrev jG:Prop:=Cal P w K mg base 12 "_law_gone_through" ["_law_tree"] (spM P0 1 dN)
abbrev uI:Prop:=Cal P w K mg base 2 "_law_least" ["_law_kept"] (spM P0 1 gO)
abbrev v8:Prop:=Cal P w K mg base 2 "_law_time" ["_law_pen_here", "_law_way", "_law_turn"] (spL P0 penF 3 lG)
abbrev u9 (c:AA):Prop:=Cal P w K mg base 13 "_law_right" ["_law_wait", "_law_kept"] (spM P0 2 (fX c))
end
theorem scM {N ps:List Str}{sc:BZ}(a:sc.kind=.function:=by rfl)(b:sc.isCoroutine=false:=by rfl)(c:sc.isGenerator=false:=by rfl)(d:N.Nodup:=by decide +kernel)(e:N.take ps.length=ps:=by rfl)(f:∀ x∈ps,sc.names.lookup x=some .local∨sc.names.lookup x=some .cell:=by decide +kernel)(g:∀ y∈sc.names,y.2≠.free:=by decide +kernel):FnScope N ps sc:=⟨a,b,c,d,e,f,g⟩
set_option hygiene false in
local macro_rules|`(tactic| walk_at "lc")=>`(tactic| first|exact B2 rfl|exact Or.inr rfl)
section
variable {P0:AA→Hp→Prop}{P:AQ}{w:AL}{K:Fg}{mg:Mg}{base:AH}{f:AA}{fd:Ag}
abbrev q8:AS:=top 4
theorem yD:FnScope ["a", "b"] ["a", "b"] (bK q8):=scM
theorem z7  (F:Fun K "is_less" "is_less" q8 f fd)(B:Bl K mg)(Kt:Kit K) :
  FnOk P w K mg base CX0 1 f fd ["a", "b"] (spM P0 2 mY):=
 F.okV yD rfl rfl fun cdv A outer s H E hr=>
 have hu:=hr.units
 ⟨_,(aH (aW (iR vU (bA c7 (aX aK (pv 0) aC (fun _ _=>rfl)) (aX aK (pv 1) aC (fun _ _=>rfl))) (bA c7 (aX aK (pv 1) aC (fun _ _=>rfl)) (aX aK (pv 0) aC (fun _ _=>rfl))) (aZ _)))),
  ((bB (aL (zP (dR (bC aB aD) (bC aB aD)) (dR (bC aB aD) (bC aB aD))))):VS P0 _ pU)⟩
abbrev iQ:AS:=top 6
theorem qJ:FnScope ["one", "other"] ["one", "other"] (bK iQ):=scM
theorem qO  (F:Fun K "comes_ahead" "comes_ahead" iQ f fd)(B:Bl K mg)(Kt:Kit K)
  (ar:a0W P0 P w K mg base) :
  FnOk P w K mg base CX0 2 f fd ["one", "other"] (spM P0 2 gJ):=
 F.okV qJ rfl rfl fun cdv A outer s H E hr=>
 have hu:=hr.units
 ⟨_,(aF (bU (aP (gG hu) (aX aK (pv 0) aC (fun _ _=>rfl)) (aX aK (pv 1) aC (fun _ _=>rfl)) (aZ _)) (aH (aW (aJ ar hr rfl (aA (aX aK (pv 0) aC (fun _ _=>rfl)) (aA (aX aK (pv 1) aC (fun _ _=>rfl)) aG))))) aY)
   (aH (aW (iR (a5I hr.units0) (aX aK (pv 0) aC (fun _ _=>rfl)) (aX aK (pv 1) aC (fun _ _=>rfl)) (aZ _))))),
  ((aQ (bY (aV (mX (bC aB aD) (bC aB aD))) (bB (bD (aO (bC aB aD) (aO (bC aB aD) bH)))) bZ)
   (bB (aL (a4V (bC aB aD) (bC aB aD))))):VS P0 _ iY)⟩
abbrev o5:AS:=top 7
theorem sc_place_of:FnScope ["pairs", "pair", "low", "high", "middle"] ["pairs", "pair"] (bK o5):=scM
theorem uZ  (F:Fun K "place_of" "place_of" o5 f fd)(B:Bl K mg)(Kt:Kit K)
  (au:tD P0 P w K mg base) :
  FnOk P w K mg base CX0 3 f fd ["pairs", "pair"] (spM P0 2 lN):=
 F.okV sc_place_of rfl rfl fun cdv A outer s H E hr=>
 have hu:=hr.units
 ⟨_,(aF (bN (i:=2) sc_place_of.nd rfl (by walk_at "lc") aC)
   (aF (bN (i:=3) sc_place_of.nd rfl (by walk_at "lc") (bG aR rfl B.len_ AZ (aA (pv 0) aG)))
   (aF (wV BH (aP vU (pv 2) (pv 3) (aZ _)) (aF (bN (i:=4) sc_place_of.nd rfl (by walk_at "lc") (bA v5 (bA bM (pv 2) (pv 3)) aC))
   (aH (bU (cJ (aJ au hr rfl (aA (aX aK (pv 0) (pv 4) (fun _ _=>rfl)) (aA (pv 1) aG)))) (aH (bN (i:=2) sc_place_of.nd rfl (by walk_at "lc") (bA bM (pv 4) aC))) (aH (bN (i:=3) sc_place_of.nd rfl (by walk_at "lc") (pv 4)))))))
   (aH (aW (pv 2)))))),
  ((aQ (bV (aL aD))
   (aQ (bV (aL (cT aB)))
   (aQ (wK (aV (zP aB aB)) (aQ (bV (aL (a9H (bT aB aB) aD)))
   (bY (dW (aN (bD (aO (bC aB aB) (aO aB bH))))) (bV (aL (bT aB aD))) (bV (aL aB)))))
   (bB (aL aB))))):VS P0 _ nW)⟩
abbrev cD:AS:=top 8
theorem cI:FnScope ["pairs", "at"] ["pairs", "at"] (bK cD):=scM
theorem pR  (F:Fun K "shape_from" "shape_from" cD f fd)(B:Bl K mg)(Kt:Kit K)
  (a8:uC P0 P w K mg base) :
  FnOk P w K mg base CX0 2 f fd ["pairs", "at"] (spM P0 2 eH):=
 F.okV cI rfl rfl fun cdv A outer s H E hr=>
 have hu:=hr.units
 ⟨_,(aF (bU (aP qD (pv 1) (bG aR rfl B.len_ AZ (aA (pv 0) aG)) (aZ _)) (aH (aW bF)) aY)
   (aH (aW (cH (aA (aX aK (pv 0) (pv 1) (fun _ _=>rfl)) (aA (aJ a8 hr rfl (aA (pv 0) (aA (bA bM (bA c7 aC (pv 1)) aC) aG))) (aA (aJ a8 hr rfl (aA (pv 0) (aA (bA bM (bA c7 aC (pv 1)) aC) aG))) aG))))))),
  ((aQ (bY (aV (qL aB (cT aB))) (bB (aL bW)) bZ)
   (bB (aL (cL (aM (bC aB aB) (aM (aN (bD (aO aB (aO (bT (dR aD aB) aD) bH)))) (aM (aN (bD (aO aB (aO (bT (dR aD aB) aD) bH)))) bO))))))):VS P0 _ (bJ fZ))⟩
theorem pZ  (F:Fun K "shape_from" "shape_from" cD f fd)(B:Bl K mg)(Kt:Kit K)
  (a8:rZ P0 P w K mg base) :
  FnOk P w K mg base CX0 3 f fd ["pairs", "at"] (spM P0 2 eV):=
 F.okV cI rfl rfl fun cdv A outer s H E hr=>
 have hu:=hr.units
 ⟨_,(aF (bU (aP qD (pv 1) (bG aR rfl B.len_ AZ (aA (pv 0) aG)) (aZ _)) (aH (aW bF)) aY)
   (aH (aW (cH (aA (aX aK (pv 0) (pv 1) (fun _ _=>rfl)) (aA (aJ a8 hr rfl (aA (pv 0) (aA (bA bM (bA c7 aC (pv 1)) aC) aG))) (aA (aJ a8 hr rfl (aA (pv 0) (aA (bA bM (bA c7 aC (pv 1)) aC) aG))) aG))))))),
  ((aQ (bY (aV (qL aB (cT aB))) (bB (aL bW)) bZ)
   (bB (aL (cL (aM (bC aB aB) (aM (aN (bD (aO aB (aO (bT (dR aD aB) aD) bH)))) (aM (aN (bD (aO aB (aO (bT (dR aD aB) aD) bH)))) bO))))))):VS P0 _ (bJ eH))⟩
theorem pM  (F:Fun K "shape_from" "shape_from" cD f fd)(B:Bl K mg)(Kt:Kit K)
  (a8:sV P0 P w K mg base) :
  FnOk P w K mg base CX0 4 f fd ["pairs", "at"] (spM P0 2 eG):=
 F.okV cI rfl rfl fun cdv A outer s H E hr=>
 have hu:=hr.units
 ⟨_,(aF (bU (aP qD (pv 1) (bG aR rfl B.len_ AZ (aA (pv 0) aG)) (aZ _)) (aH (aW bF)) aY)
   (aH (aW (cH (aA (aX aK (pv 0) (pv 1) (fun _ _=>rfl)) (aA (aJ a8 hr rfl (aA (pv 0) (aA (bA bM (bA c7 aC (pv 1)) aC) aG))) (aA (aJ a8 hr rfl (aA (pv 0) (aA (bA bM (bA c7 aC (pv 1)) aC) aG))) aG))))))),
  ((aQ (bY (aV (qL aB (cT aB))) (bB (aL bW)) bZ)
   (bB (aL (cL (aM (bC aB aB) (aM (aN (bD (aO aB (aO (bT (dR aD aB) aD) bH)))) (aM (aN (bD (aO aB (aO (bT (dR aD aB) aD) bH)))) bO))))))):VS P0 _ (bJ eV))⟩
theorem qC  (F:Fun K "shape_from" "shape_from" cD f fd)(B:Bl K mg)(Kt:Kit K)
  (a8:tG P0 P w K mg base) :
  FnOk P w K mg base CX0 5 f fd ["pairs", "at"] (spM P0 2 eN):=
 F.okV cI rfl rfl fun cdv A outer s H E hr=>
 have hu:=hr.units
 ⟨_,(aF (bU (aP qD (pv 1) (bG aR rfl B.len_ AZ (aA (pv 0) aG)) (aZ _)) (aH (aW bF)) aY)
   (aH (aW (cH (aA (aX aK (pv 0) (pv 1) (fun _ _=>rfl)) (aA (aJ a8 hr rfl (aA (pv 0) (aA (bA bM (bA c7 aC (pv 1)) aC) aG))) (aA (aJ a8 hr rfl (aA (pv 0) (aA (bA bM (bA c7 aC (pv 1)) aC) aG))) aG))))))),
  ((aQ (bY (aV (qL aB (cT aB))) (bB (aL bW)) bZ)
   (bB (aL (cL (aM (bC aB aB) (aM (aN (bD (aO aB (aO (bT (dR aD aB) aD) bH)))) (aM (aN (bD (aO aB (aO (bT (dR aD aB) aD) bH)))) bO))))))):VS P0 _ (bJ eG))⟩
theorem oZ  (F:Fun K "shape_from" "shape_from" cD f fd)(B:Bl K mg)(Kt:Kit K)
  (a8:s8 P0 P w K mg base) :
  FnOk P w K mg base CX0 6 f fd ["pairs", "at"] (spM P0 2 eU):=
 F.okV cI rfl rfl fun cdv A outer s H E hr=>
 have hu:=hr.units
 ⟨_,(aF (bU (aP qD (pv 1) (bG aR rfl B.len_ AZ (aA (pv 0) aG)) (aZ _)) (aH (aW bF)) aY)
   (aH (aW (cH (aA (aX aK (pv 0) (pv 1) (fun _ _=>rfl)) (aA (aJ a8 hr rfl (aA (pv 0) (aA (bA bM (bA c7 aC (pv 1)) aC) aG))) (aA (aJ a8 hr rfl (aA (pv 0) (aA (bA bM (bA c7 aC (pv 1)) aC) aG))) aG))))))),
  ((aQ (bY (aV (qL aB (cT aB))) (bB (aL bW)) bZ)
   (bB (aL (cL (aM (bC aB aB) (aM (aN (bD (aO aB (aO (bT (dR aD aB) aD) bH)))) (aM (aN (bD (aO aB (aO (bT (dR aD aB) aD) bH)))) bO))))))):VS P0 _ (bJ eN))⟩
theorem pA  (F:Fun K "shape_from" "shape_from" cD f fd)(B:Bl K mg)(Kt:Kit K)
  (a8:rW P0 P w K mg base) :
  FnOk P w K mg base CX0 7 f fd ["pairs", "at"] (spM P0 2 eY):=
 F.okV cI rfl rfl fun cdv A outer s H E hr=>
 have hu:=hr.units
 ⟨_,(aF (bU (aP qD (pv 1) (bG aR rfl B.len_ AZ (aA (pv 0) aG)) (aZ _)) (aH (aW bF)) aY)
   (aH (aW (cH (aA (aX aK (pv 0) (pv 1) (fun _ _=>rfl)) (aA (aJ a8 hr rfl (aA (pv 0) (aA (bA bM (bA c7 aC (pv 1)) aC) aG))) (aA (aJ a8 hr rfl (aA (pv 0) (aA (bA bM (bA c7 aC (pv 1)) aC) aG))) aG))))))),
  ((aQ (bY (aV (qL aB (cT aB))) (bB (aL bW)) bZ)
   (bB (aL (cL (aM (bC aB aB) (aM (aN (bD (aO aB (aO (bT (dR aD aB) aD) bH)))) (aM (aN (bD (aO aB (aO (bT (dR aD aB) aD) bH)))) bO))))))):VS P0 _ (bJ eU))⟩
theorem pN  (F:Fun K "shape_from" "shape_from" cD f fd)(B:Bl K mg)(Kt:Kit K)
  (a8:t7 P0 P w K mg base) :
  FnOk P w K mg base CX0 8 f fd ["pairs", "at"] (spM P0 2 eQ):=
 F.okV cI rfl rfl fun cdv A outer s H E hr=>
 have hu:=hr.units
 ⟨_,(aF (bU (aP qD (pv 1) (bG aR rfl B.len_ AZ (aA (pv 0) aG)) (aZ _)) (aH (aW bF)) aY)
   (aH (aW (cH (aA (aX aK (pv 0) (pv 1) (fun _ _=>rfl)) (aA (aJ a8 hr rfl (aA (pv 0) (aA (bA bM (bA c7 aC (pv 1)) aC) aG))) (aA (aJ a8 hr rfl (aA (pv 0) (aA (bA bM (bA c7 aC (pv 1)) aC) aG))) aG))))))),
  ((aQ (bY (aV (qL aB (cT aB))) (bB (aL bW)) bZ)
   (bB (aL (cL (aM (bC aB aB) (aM (aN (bD (aO aB (aO (bT (dR aD aB) aD) bH)))) (aM (aN (bD (aO aB (aO (bT (dR aD aB) aD) bH)))) bO))))))):VS P0 _ (bJ eY))⟩
theorem q9  (F:Fun K "shape_from" "shape_from" cD f fd)(B:Bl K mg)(Kt:Kit K)
  (a8:tK P0 P w K mg base) :
  FnOk P w K mg base CX0 9 f fd ["pairs", "at"] (spM P0 2 eX):=
 F.okV cI rfl rfl fun cdv A outer s H E hr=>
 have hu:=hr.units
 ⟨_,(aF (bU (aP qD (pv 1) (bG aR rfl B.len_ AZ (aA (pv 0) aG)) (aZ _)) (aH (aW bF)) aY)
   (aH (aW (cH (aA (aX aK (pv 0) (pv 1) (fun _ _=>rfl)) (aA (aJ a8 hr rfl (aA (pv 0) (aA (bA bM (bA c7 aC (pv 1)) aC) aG))) (aA (aJ a8 hr rfl (aA (pv 0) (aA (bA bM (bA c7 aC (pv 1)) aC) aG))) aG))))))),
  ((aQ (bY (aV (qL aB (cT aB))) (bB (aL bW)) bZ)
   (bB (aL (cL (aM (bC aB aB) (aM (aN (bD (aO aB (aO (bT (dR aD aB) aD) bH)))) (aM (aN (bD (aO aB (aO (bT (dR aD aB) aD) bH)))) bO))))))):VS P0 _ (bJ eQ))⟩
theorem pD  (F:Fun K "shape_from" "shape_from" cD f fd)(B:Bl K mg)(Kt:Kit K)
  (a8:qM P0 P w K mg base) :
  FnOk P w K mg base CX0 10 f fd ["pairs", "at"] (spM P0 2 eF):=
 F.okV cI rfl rfl fun cdv A outer s H E hr=>
 have hu:=hr.units
 ⟨_,(aF (bU (aP qD (pv 1) (bG aR rfl B.len_ AZ (aA (pv 0) aG)) (aZ _)) (aH (aW bF)) aY)
   (aH (aW (cH (aA (aX aK (pv 0) (pv 1) (fun _ _=>rfl)) (aA (aJ a8 hr rfl (aA (pv 0) (aA (bA bM (bA c7 aC (pv 1)) aC) aG))) (aA (aJ a8 hr rfl (aA (pv 0) (aA (bA bM (bA c7 aC (pv 1)) aC) aG))) aG))))))),
  ((aQ (bY (aV (qL aB (cT aB))) (bB (aL bW)) bZ)
   (bB (aL (cL (aM (bC aB aB) (aM (aN (bD (aO aB (aO (bT (dR aD aB) aD) bH)))) (aM (aN (bD (aO aB (aO (bT (dR aD aB) aD) bH)))) bO))))))):VS P0 _ (bJ eX))⟩
theorem oG  (F:Fun K "shape_from" "shape_from" cD f fd)(B:Bl K mg)(Kt:Kit K)
  (a8:qP P0 P w K mg base) :
  FnOk P w K mg base CX0 11 f fd ["pairs", "at"] (spM P0 2 gQ):=
 F.okV cI rfl rfl fun cdv A outer s H E hr=>
 have hu:=hr.units
 ⟨_,(aF (bU (aP qD (pv 1) (bG aR rfl B.len_ AZ (aA (pv 0) aG)) (aZ _)) (aH (aW bF)) aY)
   (aH (aW (cH (aA (aX aK (pv 0) (pv 1) (fun _ _=>rfl)) (aA (aJ a8 hr rfl (aA (pv 0) (aA (bA bM (bA c7 aC (pv 1)) aC) aG))) (aA (aJ a8 hr rfl (aA (pv 0) (aA (bA bM (bA c7 aC (pv 1)) aC) aG))) aG))))))),
  ((aQ (bY (aV (qL aB (cT aB))) (bB (aL bW)) bZ)
   (bB (aL (cL (aM (bC aB aB) (aM (aN (bD (aO aB (aO (bT (dR aD aB) aD) bH)))) (aM (aN (bD (aO aB (aO (bT (dR aD aB) aD) bH)))) bO))))))):VS P0 _ (bJ eF))⟩
abbrev vK:AS:=inClass (top 9) 1
theorem sc_w_put:FnScope ["self", "time", "key", "pair", "at"] ["self", "time", "key"] (bK vK):=scM
theorem a6Q  {C NK:AA}(F:Fun K "put" "Waiting.put" vK f fd)(B:Bl K mg)(cl:Cls K C)(na:NoAttr K C "kept")(hNK:mg "NoKey" = some (.ref NK))(zNK:XCls K NK)
  (ai:rE NoP P w K mg base) :
  FnOk P w K mg base (CX1 P w) 4 f fd ["self", "time", "key"] (a4W plD C NK):=by
 refine F.ok1 sc_w_put (fun vs H Q E h=>?_) (fun cdv A outer s H vs Q E hr h=>?_)
 ·obtain⟨w,d,l,us,ds,x,y,a,b,k,rfl,_⟩:=h;rfl
 have hu:=hr.units;obtain⟨w,d,l,us,ds,x,y,a,b,k,rfl,hI,hus,hx,hy,gp,gd,hlen,hk,hpl,yes,no⟩:=h;refine⟨_,(aF (bN (i:=3) sc_w_put.nd rfl (by walk_at "lc") (cH (aA (pv 1) (aA (pv 2) aG))))
   (aF (bN (i:=4) sc_w_put.nd rfl (by walk_at "lc") (aJ ai hr rfl (aA (kZ (pv 0) rfl) (aA (pv 3) aG))))
   (aF (bU (PW.pt (iJ (aP vU (pv 4) (bG aR rfl B.len_ AZ (aA (kZ (pv 0) rfl) aG)) (aZ _)) (fU (aP (n8 hu) (aX aK (kZ (pv 0) rfl) (pv 4) (fun _ _=>rfl)) (pv 3) (aZ _))))) (aH (xM (C:=NK) (E:=E) (fun _ _ _ _ _ _ _ I hx hE=>I.leave1 rfl rfl rfl hx hE) rfl rfl hNK zNK.ex E4 (aA a5D aG))) aY)
   (aH (nY (a3Y Dz PySem.F.slot_list_insert PySem.F.type_list_insert a0E (kZ (pv 0) rfl) (aA (pv 4) (aA (pv 3) aG)))))))),?_⟩
 refine⟨_,rfl,_,rfl,iV rfl,fun p hp=>?_⟩;have g1:=gZ hp (.tup [x,y]);have I1:=hI.same g1;refine⟨_,rfl,w,C,d,_,_,rfl,I1.i,cl,na,rfl,_,rfl,?_⟩;refine wC (E:=E0) (ds:=[.list ds,.tuple [a,b]]) _ (.cons (.lst I1.l (Dts.same g1 _ _ hus)) (.cons (.tup bQ (.cons (Dt.same g1 _ _ hx) (.cons (Dt.same g1 _ _ hy) .nil))) .nil)) rfl hpl fun rv r G' H2 hq g2 _ hr2=>?_;subst hq;have hr2:Dt G' r (.int (k:Int)):=hr2
 cases hr2
 have I2:=I1.same g2;refine⟨_,rfl,_,rfl,w,C,d,_,_,rfl,I2.i,cl,na,rfl,_,us,rfl,.inl (SqL.of I2.l),_,_,rfl,rfl,_,rfl,?_⟩;have hul:us.length=ds.length:=hus.len;have hp2:H2 p=some (.tup [x,y]):=g2 _ _ bQ;have dp:Dt H2 (.ref p) (.tuple [a,b]):=.tup hp2 (.cons (Dt.same (g1.trans g2) _ _ hx) (.cons (Dt.same (g1.trans g2) _ _ hy) .nil));have fin:fQ ds k (.tuple [a,b])=false→Q .non (upd H2 l (.lst (uK us (k:Int) (.ref p)))):=fun z=>by
  have hpl':p≠l:=a79 hp2 I2.l (by intro z; cases z);refine no z p _ hp (by rw[bR hpl']; exact hp2) (fun c o hc e=>?_) I2.upd;rw[bR hc];exact(g1.trans g2) _ _ e
 refine gY (fun c=>?_) (fun c=>?_)
 ·have hkl:k<ds.length:=by omega
  obtain⟨v,hv,dv⟩:=hus.get (Av hkl);refine⟨_,rfl,w,C,d,_,_,rfl,I2.i,cl,na,rfl,_,rfl,.inl ⟨l,us,(k:Int),v,rfl,rfl,SqL.of I2.l,pQ hv,?_⟩⟩;refine⟨_,rfl,_,_,Dt.same (g1.trans g2) _ _ dv,dp,gd _ (Br hkl),gp,_,rfl,?_⟩;have et:fQ ds k (.tuple [a,b])=Au ds[k] (.tuple [a,b]):=by
   unfold fQ;rw[Av hkl]
  rw[← et]
  cases z:fQ ds k (.tuple [a,b]) with
  | true=>
   refine vC ?_;exact⟨iV rfl,fun ea=>yes z ea _ (g1.trans g2)⟩
  | false=>
   refine rF ?_;exact⟨_,rfl,w,C,d,_,_,rfl,I2.i,cl,na,rfl,.inl ⟨rfl,us,SqL.of I2.l⟩,_,rfl,_,rfl,l,us,(k:Int),_,rfl,rfl,I2.l,by omega,by omega,nA (by omega),fin z⟩
 ·refine rF ?_;have z:fQ ds k (.tuple [a,b])=false:=by
   unfold fQ;rw[Ev (by omega)]
  exact⟨_,rfl,w,C,d,_,_,rfl,I2.i,cl,na,rfl,.inl ⟨rfl,us,SqL.of I2.l⟩,_,rfl,_,rfl,l,us,(k:Int),_,rfl,rfl,I2.l,by omega,by omega,nA (by omega),fin z⟩
abbrev sX:AS:=inClass (top 9) 2
theorem sc_w_take:FnScope ["self", "time", "key", "pair", "at"] ["self", "time", "key"] (bK sX):=scM
theorem a2Z  {C NK:AA}(F:Fun K "take" "Waiting.take" sX f fd)(B:Bl K mg)(cl:Cls K C)(na:NoAttr K C "kept")(hNK:mg "NoKey" = some (.ref NK))(zNK:XCls K NK)
  (ai:rE NoP P w K mg base) :
  FnOk P w K mg base (CX1 P w) 4 f fd ["self", "time", "key"] (zR plD C NK):=by
 refine F.ok1 sc_w_take (fun vs H Q E h=>?_) (fun cdv A outer s H vs Q E hr h=>?_)
 ·obtain⟨w,d,l,us,ds,x,y,a,b,k,rfl,_⟩:=h;rfl
 have hu:=hr.units;obtain⟨w,d,l,us,ds,x,y,a,b,k,rfl,hI,hus,hx,hy,gp,gd,hlen,hk,hpl,no,yes⟩:=h;refine⟨_,(aF (bN (i:=3) sc_w_take.nd rfl (by walk_at "lc") (cH (aA (pv 1) (aA (pv 2) aG))))
   (aF (bN (i:=4) sc_w_take.nd rfl (by walk_at "lc") (aJ ai hr rfl (aA (kZ (pv 0) rfl) (aA (pv 3) aG))))
   (aF (bU (PW.pt (eE (aP (n8 hu) (pv 4) (bG aR rfl B.len_ AZ (aA (kZ (pv 0) rfl) aG)) (aZ _)) (dY (aP (gG hu) (aX aK (kZ (pv 0) rfl) (pv 4) (fun _ _=>rfl)) (pv 3) (aZ _))))) (aH (xM (C:=NK) (E:=E) (fun _ _ _ _ _ _ _ I hx hE=>I.leave1 rfl rfl rfl hx hE) rfl rfl hNK zNK.ex E4 (aA a5D aG))) aY)
   (aH (nY (a3Y Dz PySem.F.slot_list_pop PySem.F.type_list_pop a3F (kZ (pv 0) rfl) (aA (pv 4) aG))))))),?_⟩
 refine⟨_,rfl,_,rfl,iV rfl,fun p hp=>?_⟩;have g1:=gZ hp (.tup [x,y]);have I1:=hI.same g1;refine⟨_,rfl,w,C,d,_,_,rfl,I1.i,cl,na,rfl,_,rfl,?_⟩;refine wC (E:=E0) (ds:=[.list ds,.tuple [a,b]]) _ (.cons (.lst I1.l (Dts.same g1 _ _ hus)) (.cons (.tup bQ (.cons (Dt.same g1 _ _ hx) (.cons (Dt.same g1 _ _ hy) .nil))) .nil)) rfl hpl fun rv r G' H2 hq g2 _ hr2=>?_;subst hq;have hr2:Dt G' r (.int (k:Int)):=hr2
 cases hr2
 have I2:=I1.same g2;have hul:us.length=ds.length:=hus.len;have hp2:H2 p=some (.tup [x,y]):=g2 _ _ bQ;have dp:Dt H2 (.ref p) (.tuple [a,b]):=.tup hp2 (.cons (Dt.same (g1.trans g2) _ _ hx) (.cons (Dt.same (g1.trans g2) _ _ hy) .nil));refine⟨_,rfl,_,rfl,w,C,d,_,_,rfl,I2.i,cl,na,rfl,_,us,rfl,.inl (SqL.of I2.l),?_⟩;refine⟨_,_,.int _,.int _,good_int _,good_int _,_,rfl,?_⟩;rw[a2E];refine gY (fun c=>?_) (fun c=>?_)
 ·refine vC ?_;exact⟨iV rfl,fun ea=>no (uJ (by omega)) ea _ (g1.trans g2)⟩
 ·have hkl:k<ds.length:=by omega
  obtain⟨v,hv,dv⟩:=hus.get (Av hkl);refine⟨_,rfl,w,C,d,_,_,rfl,I2.i,cl,na,rfl,_,rfl,.inl ⟨l,us,(k:Int),v,rfl,rfl,SqL.of I2.l,pQ hv,?_⟩⟩;refine⟨_,rfl,_,_,Dt.same (g1.trans g2) _ _ dv,dp,gd _ (Br hkl),gp,_,rfl,?_⟩;rw[← pX hkl]
  cases z:fQ ds k (.tuple [a,b]) with
  | false=>
   refine vC ?_;exact⟨iV rfl,fun ea=>no z ea _ (g1.trans g2)⟩
  | true=>
   refine rF ?_;refine⟨_,rfl,w,C,d,_,_,rfl,I2.i,cl,na,rfl,.inl ⟨rfl,us,SqL.of I2.l⟩,_,rfl,l,us,(k:Int),k,v,rfl,rfl,I2.l,by omega,by omega,?_,hv,yes z _ (fun c o hc e=>?_) I2.upd⟩
   ·unfold Dm;have h1:¬(k:Int)<0:=by omega
    have h2:(decide (0≤(k:Int))&&decide ((k:Int)<(us.length:Int)))=true:=by
     rw[decide_eq_true (by omega),decide_eq_true (by omega)];rfl
    simp only[if_neg h1,h2,if_true,EU]
   ·rw[bR hc];exact(g1.trans g2) _ _ e
abbrev sU:AS:=inClass (top 9) 0
theorem a0R:FnScope ["self"] ["self"] (bK sU):=scM
theorem yQ  {C:AA}(F:Fun K "__init__" "Waiting.__init__" sU f fd)(B:Bl K mg)(cl:Cls K C)(na:NoAttr K C "kept") :
  FnOk P w K mg base CX0 1 f fd ["self"] (rP C):=by
 refine F.ok a0R (fun vs H Q E h=>?_) (fun cdv A outer s H vs Q E hr h=>?_)
 ·obtain⟨w,d,rfl,_⟩:=h;rfl
 have hu:=hr.units;obtain⟨w,d,rfl,hw,hd,q⟩:=h;refine⟨_,(aH (a8W (pv 0) (dF aG) rfl)),?_⟩;refine⟨iV rfl,fun l hl=>?_⟩;refine⟨_,rfl,w,C,d,[],rfl,?_,cl,na,by decide,q l hl⟩;rw[bR (cG hw hl)];exact hw
abbrev qH:AS:=inClass (top 9) 3
theorem yS:FnScope ["self"] ["self"] (bK qH):=scM
theorem vA  {C:AA}(F:Fun K "first" "Waiting.first" qH f fd)(B:Bl K mg)(cl:Cls K C)(na:NoAttr K C "kept") :
  FnOk P w K mg base CX0 1 f fd ["self"] (v9 C):=by
 refine F.ok yS (fun vs H Q E h=>?_) (fun cdv A outer s H vs Q E hr h=>?_)
 ·obtain⟨w,d,l,us,ds,rfl,_⟩:=h;rfl
 have hu:=hr.units;obtain⟨w,d,l,us,ds,rfl,hI,hus,gd,q⟩:=h;refine⟨_,(aH (aW (a3D (aP (gG hu) (kZ (pv 0) rfl) (dF aG) (aZ _)) (aX aK (kZ (pv 0) rfl) aC (fun _ _=>rfl)) bF))),?_⟩;refine⟨_,rfl,w,C,d,_,_,rfl,hI.i,cl,na,rfl,iV rfl,fun p hp=>?_⟩;have g1:=gZ hp (.lst []);have I1:=hI.same g1;have hus1:=Dts.same g1 _ _ hus;refine⟨.list ds,.list [],.lst I1.l hus1,.lst bQ .nil,gd,(a2N (n:=0) (ds:=[]) fun _ h=>nomatch h).good,_,rfl,?_⟩
 cases ds with
 | nil=>
  refine rF ?_
  cases hus
  exact q _ g1
 | cons e ds=>
  refine vC ?_
  cases hus with
  | cons a b=>exact⟨_,rfl,w,C,d,_,_,rfl,I1.i,cl,na,rfl,.inl ⟨l,_,0,_,rfl,rfl,SqL.of I1.l,pQ (j:=0) rfl,q _ g1⟩⟩
structure Xcs (K:Fg)(mg:Mg)(NK:AA):Prop where
 hC:mg "NoKey" = some (.ref NK)
 zC:XCls K NK
 sub:mroIn K NK (.ref NK)=some true
abbrev pC:AS:=inClass (top 9) 6
theorem yN:FnScope ["self"] ["self"] (bK pC):=scM
theorem qF  {C:AA}(F:Fun K "shape" "Waiting.shape" pC f fd)(B:Bl K mg)(cl:Cls K C)(na:NoAttr K C "kept")
  (a8:qK NoP P w K mg base) :
  FnOk P w K mg base CX0 12 f fd ["self"] (oR NoP shD C):=by
 refine F.ok yN (fun vs H Q E h=>?_) (fun cdv A outer s H vs Q E hr h=>?_)
 ·obtain⟨Fr,w,d,l,us,ds,t,hF,rf,rfl,_⟩:=h;rfl
 have hu:=hr.units;obtain⟨Fr,w,d,l,us,ds,t,hF,rf,rfl,hI,hus,hn,hsh,q⟩:=h;refine⟨_,(aH (aW (aJ a8 hr rfl (aA (kZ (pv 0) rfl) (aA aC aG))))),?_⟩;refine⟨_,rfl,w,C,d,_,_,rfl,hI.i,cl,na,rfl,?_⟩;exact yX (E:=E0) hF rf hI.l hus hn hsh q
local macro_rules|`(tactic| walk_at "rd1")=>`(tactic| first
 | refine⟨_,rfl,?_⟩
 | refine⟨_,_,rfl,rfl,?_⟩
 | refine Af rfl ?_
 | refine Af (iV rfl) ?_
 | refine⟨_,_,_,_,rfl,rfl,SqT.of (by assumption),rfl,?_⟩
 | refine⟨_,_,_,_,rfl,rfl,SqL.of (by assumption),rfl,?_⟩
 | refine⟨_,_,_,_,rfl,rfl,SqL.of bQ,rfl,?_⟩
 | refine⟨_,_,_,_,rfl,rfl,(by assumption),rfl,?_⟩
 | refine⟨_,_,_,_,rfl,rfl,bQ,rfl,?_⟩
 | refine⟨_,_,by assumption,by assumption,lH _,lH _,?_⟩
 | refine⟨_,_,by assumption,by assumption,good_line _,good_line _,?_⟩
 | refine Af (a7I (by assumption) (by assumption)) ?_
 | refine Af (.inl (by decide)) ?_
 | refine Af (CMul_mod (by decide) (by decide)) ?_
 | refine Af (.inr (by decide)) ?_
 | refine⟨_,_,rfl,.inl (by assumption),?_⟩
 | refine⟨_,_,rfl,.inr (SqT.of (by assumption)),?_⟩
 | refine Af (by assumption) ?_
 | refine Af ⟨by decide,by decide⟩ ?_
 | refine Af ⟨by decide,by decide,by decide⟩ ?_
 | refine Af (show(0:Int)<_ by decide) ?_
 | refine Af (by decide) ?_
 | refine⟨_,_,rfl,?_⟩)
local macro_rules|`(tactic| walk_at "rd")=>`(tactic| repeat walk_at "rd1")
abbrev nD:AS:=top 11
theorem sc_law_pen:FnScope ["_law_script", "_law_k", "_law_cell"] ["_law_script", "_law_k"] (bK nD):=scM
theorem yV  (F:Fun K "_law_pen" "_law_pen" nD f fd)(B:Bl K mg) :
  FnOk P w K mg base CX0 1 f fd ["_law_script", "_law_k"] (xG K):=by
 refine F.ok sc_law_pen (fun vs H Q E h=>?_) (fun cdv A outer s H vs Q E hr h=>?_)
 ·obtain⟨a,ns,j,rfl,hS,j0,j1,q⟩:=h;rfl
 have hu:=hr.units;obtain⟨a,ns,j,rfl,hS,j0,j1,q⟩:=h;refine⟨_,(aF (bN (i:=2) sc_law_pen.nd rfl (B2 rfl) (bA bM (bA bM (bA c7 (bA c7 aC (pv 1)) (pv 1)) (bA c7 aC (pv 1))) aC))
   (aF (bU (aP vU (pv 1) (bG aR rfl B.len_ AZ (aA (pv 0) aG)) (aZ _)) (aH (bN (i:=2) sc_law_pen.nd rfl (B2 rfl) (aX ix_list (pv 0) (pv 1) (fun _ _=>rfl)))) (aH (bU (aP mG (bG aR rfl B.len_ AZ (aA (pv 0) aG)) aC (aZ _)) (aH (bN (i:=2) sc_law_pen.nd rfl (B2 rfl) (bA bM (bA jU (aX ix_list (pv 0) (bA jU (bA c7 (pv 1) aC) (bG aR rfl B.len_ AZ (aA (pv 0) aG))) (fun _ _=>rfl)) (vN (v:=100000000000000000) (by decide) ⟨by decide,by decide,by decide⟩)) (bA c7 aC (pv 1))))) aY)))
   (aF (bU (aP qD (pv 2) (vN (v:=1000000000000000000) (by decide) ⟨by decide,by decide,by decide⟩) (aZ _)) (aH (aW (dF (aA (bA uO (pv 2) (vN (v:=1000000000000000000) (by decide) ⟨by decide,by decide,by decide⟩)) (aA (bA bM (bA jU (pv 2) aC) (pv 1)) (aA aC aG)))))) aY)
   (aH (aW (dF (aA aC (aA (bA bM (bA jU (pv 2) aC) (bA c7 aC (pv 1))) (aA aC aG))))))))),?_⟩
 have hl:(ns.map V.int).length=ns.length:=A3 _;have bs:∀ x:Int,0≤x→x<2147483648→LT.Bt 31 x:=fun x h1 h2=>by
  show x.natAbs<2^31;omega
 have a1:=bs j (by omega) (by omega);have a2:=bs 104729 (by decide) (by decide);have a3:=bs 7 (by decide) (by decide);have a4:=bs 65537 (by decide) (by decide);have a5:=bs 40503 (by decide) (by decide);have a6:=a2.mul a1;have fin:∀ cell x:Int,0≤x→x<100000000→0≤cell%2147483629+x∧cell%2147483629+x<1099511627776:=fun cell x h1 h2=>by
  have h3:=CS cell (b:=2147483629) (by decide);have h4:=CQ cell (b:=2147483629) (by decide);omega
 walk_at "rd";refine gY (fun e=>?a) (fun e=>?b)
 case' a=>
  have e':j<(ns.length:Int):=by rw[hl] at e; exact e
  obtain⟨i,rfl⟩:∃ i:Nat,j=(i:Int):=⟨j.toNat,by omega⟩;have hi:i<ns.length:=by omega
  have hv:atI (ns.map V.int) (i:Int)=some (.int ns[i]):=by
   refine pQ ?_;rw[BD,Av hi];rfl
  walk_at "rd";refine⟨_,_,_,_,rfl,rfl,hS,hv,?_⟩
 case' b=>
  walk_at "rd";refine gY (fun e2=>?b1) (fun e2=>?b2)
  case' b1=>
   have e3:0<(ns.length:Int):=by rw[hl] at e2; exact e2
   have h1:=CS (j*7) (b:=(ns.length:Int)) (by omega);have h2:=CQ (j*7) e3;obtain⟨i,hi0⟩:∃ i:Nat,j*7%(ns.length:Int)=(i:Int):=⟨(j*7%(ns.length:Int)).toNat,by omega⟩;have hi:i<ns.length:=by omega
   have hv:atI (ns.map V.int) (j*7%((ns.map V.int).length:Int))=some (.int ns[i]):=by
    rw[hl,hi0];refine pQ ?_;rw[BD,Av hi];rfl
   have hpos:0<((ns.map V.int).length:Int):=by rw[hl]; exact e3
   walk_at "rd";refine⟨_,_,_,_,rfl,rfl,hS,hv,?_⟩
 all_goals
  walk_at "rd";refine gY (fun e9=>?_) (fun e9=>?_)
  ·walk_at "rd";intro p hp;exact q _ _ _ hp (by omega) (fin _ _ (by omega) (by omega)).1 (fin _ _ (by omega) (by omega)).2
  ·walk_at "rd";intro p hp;exact q _ _ _ hp (by decide) (fin _ _ (by omega) (by omega)).1 (fin _ _ (by omega) (by omega)).2
local macro_rules|`(tactic| walk_at "rd1")=>`(tactic| first
 | refine⟨_,rfl,?_⟩
 | refine⟨_,_,rfl,rfl,?_⟩
 | refine Af rfl ?_
 | refine Af (iV rfl) ?_
 | refine⟨_,_,_,_,rfl,rfl,SqT.of (by assumption),rfl,?_⟩
 | refine⟨_,_,_,_,rfl,rfl,SqL.of (by assumption),rfl,?_⟩
 | refine⟨_,_,_,_,rfl,rfl,SqL.of bQ,rfl,?_⟩
 | refine⟨_,_,_,_,rfl,rfl,(by assumption),rfl,?_⟩
 | refine⟨_,_,_,_,rfl,rfl,bQ,rfl,?_⟩
 | refine⟨_,_,by assumption,by assumption,lH _,lH _,?_⟩
 | refine⟨_,_,by assumption,by assumption,good_line _,good_line _,?_⟩
 | refine Af (a7I (by assumption) (by assumption)) ?_
 | refine Af (.inl (by decide)) ?_
 | refine Af (CMul_mod (by decide) (by decide)) ?_
 | refine Af (.inr (by decide)) ?_
 | refine⟨_,_,rfl,.inl (by assumption),?_⟩
 | refine⟨_,_,rfl,.inr (SqT.of (by assumption)),?_⟩
 | refine Af (by assumption) ?_
 | refine Af ⟨by decide,by decide⟩ ?_
 | refine Af ⟨by decide,by decide,by decide⟩ ?_
 | refine Af (show(0:Int)<_ by decide) ?_
 | refine Af (by decide) ?_
 | refine⟨_,_,rfl,?_⟩)
local macro_rules|`(tactic| walk_at "rd")=>`(tactic| repeat walk_at "rd1")
abbrev lJ:AS:=top 12
theorem sc_law_take:FnScope ["_law_pen_here", "_law_many", "_law_digit", "_law_number"] ["_law_pen_here", "_law_many"] (bK lJ):=scM
theorem vL  (F:Fun K "_law_take" "_law_take" lJ f fd)(B:Bl K mg) :
  FnOk P w K mg base CX0 1 f fd ["_law_pen_here", "_law_many"] a0S:=by
 refine F.ok sc_law_take (fun vs H Q E h=>?_) (fun cdv A outer s H vs Q E hr h=>?_)
 ·obtain⟨pen,m,z,c,k,n,rfl,hp,hz,hc,hc2,hk,hkn,hn,hm,hm2,q⟩:=h;rfl
 have hu:=hr.units;obtain⟨pen,m,z,c,k,n,rfl,hp,hz,hc,hc2,hk,hkn,hn,hm,hm2,q⟩:=h;refine⟨_,(aF (bU (aP mG (aX ix_list (pv 0) aC (fun _ _=>rfl)) aC (aZ _)) (aF (bN (i:=2) sc_law_take.nd rfl (B2 rfl) (bA jU (aX ix_list (pv 0) aC (fun _ _=>rfl)) (pv 1)))
   (aF (a5J (bA v5 (aX ix_list (pv 0) aC (fun _ _=>rfl)) (pv 1)) (a5E (pv 0) aC set_list))
   (aH (aW (pv 2))))) aY)
   (aF (a5J (bA bM (aX ix_list (pv 0) aC (fun _ _=>rfl)) aC) (a5E (pv 0) aC set_list))
   (aF (bN (i:=3) sc_law_take.nd rfl (B2 rfl) (bA jU (bA c7 (bA jU (bA bM (aX ix_list (pv 0) aC (fun _ _=>rfl)) (bA c7 (bA c7 (aX ix_list (pv 0) aC (fun _ _=>rfl)) (aX ix_list (pv 0) aC (fun _ _=>rfl))) aC)) aC) aC) aC))
   (aF (bN (i:=3) sc_law_take.nd rfl (B2 rfl) (bA jU (bA bM (bA bM (bA c7 (pv 3) (pv 3)) (bA c7 aC (pv 3))) (aX ix_list (pv 0) aC (fun _ _=>rfl))) aC))
   (aH (aW (bA jU (bA v5 (pv 3) aC) (pv 1)))))))),?_⟩
 have hcd:a9V z m:=⟨hm,hm2⟩;walk_at "rd";refine gY (fun e=>?_) (fun e=>?_)
 ·walk_at "rd";exact q _ _ (CS _ (by omega)) (CQ _ hm) ⟨z/m,c,k,bQ,Int.ediv_nonneg hz (by omega),hc,hc2,hk,by omega⟩ (uB _)
 ·have bm:∀ x y:Int,0<y→y<2147483648→LT.Bt 31 (x%y):=fun x y h1 h2=>by
   have:=CS x (b:=y) (by omega);have:=CQ x h1
   show(x%y).natAbs<2^31
   omega
  have bs:∀ x:Int,0≤x→x<2147483648→LT.Bt 31 x:=fun x h1 h2=>by
   show x.natAbs<2^31;omega
  have a1:=bs (k+1) (by omega) (by omega);have a2:=bs 7919 (by decide) (by decide);have a3:=bs 48271 (by decide) (by decide);have a4:=bs 69621 (by decide) (by decide);have a5:=a1.mul a1;have a6:=bm (c+(k+1)*(k+1)*7919) 2147483629 (by decide) (by decide);have a7:=bm ((c+(k+1)*(k+1)*7919)%2147483629*48271) 2147483587 (by decide) (by decide);walk_at "rd";exact q _ _ (CS _ (by omega)) (CQ _ hm) ⟨z,c,k+1,bQ,hz,hc,hc2,by omega,by omega⟩ (uB _)
theorem uQ  (F:Fun K "_law_take" "_law_take" lJ f fd)(B:Bl K mg) :
  FnOk P w K mg base CX0 1 f fd ["_law_pen_here", "_law_many"] (spL P0 penF 2 fG):=(vL F B).imp a3K
abbrev jE:AS:=top 13
theorem sc_law_lowest:FnScope ["_law_top", "_law_bottom", "_law_one", "_law_other"] ["_law_top", "_law_bottom"] (bK jE):=scM
theorem sY  (F:Fun K "_law_lowest" "_law_lowest" jE f fd)(B:Bl K mg)(Kt:Kit K) :
  FnOk P w K mg base CX0 1 f fd ["_law_top", "_law_bottom"] (spM P0 2 gA):=
 F.okV sc_law_lowest rfl rfl fun cdv A outer s H E hr=>
 have hu:=hr.units
 ⟨_,(aF (bN (i:=2) sc_law_lowest.nd rfl (by walk_at "lc") (bG a2V rfl B.abs_ boot_abs (aA (pv 0) aG)))
   (aF (bN (i:=3) sc_law_lowest.nd rfl (by walk_at "lc") (pv 1))
   (aF (wV BH (aP mG (pv 3) aC (aZ _)) (aH (a9C (i:=2) (j:=3) rfl sc_law_lowest.nd rfl rfl (by decide) rfl rfl (aA (pv 3) (aA (bA jU (pv 2) (pv 3)) aG)) rfl)))
   (aH (aW (cH (aA (bA xR (pv 0) (pv 2)) (aA (bA xR (pv 1) (pv 2)) aG)))))))),
  ((aQ (bV (aL (a9A aB)))
   (aQ (bV (aL aB))
   (aQ (wK (aV (nJ aB aD)) (a7K (aM aB (aM (a5G aB aB) bO))))
   (bB (aL (cL (aM (a1L aB aB) (aM (a1L aB aB) bO)))))))):VS P0 _ lB)⟩
abbrev jN:AS:=top 14
theorem sc_law_before:FnScope ["_law_pair", "_law_other", "_law_here", "_law_there"] ["_law_pair", "_law_other"] (bK jN):=scM
theorem rT  (F:Fun K "_law_before" "_law_before" jN f fd)(B:Bl K mg)(Kt:Kit K) :
  FnOk P w K mg base CX0 1 f fd ["_law_pair", "_law_other"] (spM P0 2 g8):=
 F.okV sc_law_before rfl rfl fun cdv A outer s H E hr=>
 have hu:=hr.units
 ⟨_,(aF (bN (i:=2) sc_law_before.nd rfl (by walk_at "lc") (bA c7 (aX aK (aX aK (pv 0) aC (fun _ _=>rfl)) aC (fun _ _=>rfl)) (aX aK (aX aK (pv 1) aC (fun _ _=>rfl)) aC (fun _ _=>rfl))))
   (aF (bN (i:=3) sc_law_before.nd rfl (by walk_at "lc") (bA c7 (aX aK (aX aK (pv 1) aC (fun _ _=>rfl)) aC (fun _ _=>rfl)) (aX aK (aX aK (pv 0) aC (fun _ _=>rfl)) aC (fun _ _=>rfl))))
   (aH (aW (aBR (iR vU (pv 2) (pv 3) (aZ _)) (wY (a0F (iR (n8 hu) (pv 2) (pv 3) (aZ _)) (wY (iR (a5I hr.units0) (aX aK (pv 0) aC (fun _ _=>rfl)) (aX aK (pv 1) aC (fun _ _=>rfl)) (aZ _)))))))))),
  ((aQ (bV (aL (dR (bC (bC aB aD) aD) (bC (bC aB aD) aD))))
   (aQ (bV (aL (dR (bC (bC aB aD) aD) (bC (bC aB aD) aD))))
   (bB (aL (aBO (zP aB aB) (a00 (vR aB aB) (a4V (bC aB aD) (bC aB aD)))))))):VS P0 _ jF)⟩
abbrev iK:AS:=top 15
theorem sc_law_is_pair:FnScope ["_law_thing", "_law_part"] ["_law_thing"] (bK iK):=scM
theorem qU  (F:Fun K "_law_is_pair" "_law_is_pair" iK f fd)(B:Bl K mg)(Kt:Kit K) :
  FnOk P w K mg base CX0 1 f fd ["_law_thing"] (spM P0 1 gH):=
 F.okV sc_law_is_pair rfl rfl fun cdv A outer s H E hr=>
 have hu:=hr.units
 ⟨_,(aF (bU (PW.pt (eE (dX (cJ (bG eZ rfl B.isinstance_ Bd (aA (pv 0) (aA (gD (v:=.ty "tuple") rfl B.tuple_ Be rfl) aG))))) (dY (aP (gG hu) (bG aR rfl B.len_ AZ (aA (pv 0) aG)) aC (aZ _))))) (aH (aW xW)) aY)
   (aF (iH BH rfl (jH (pv 0)) (fW (i:=1) sc_law_is_pair.nd rfl (by walk_at "lc")) (aH (bU (PW.pt (eE (dX (cJ (bG eZ rfl B.isinstance_ Bd (aA (pv 1) (aA (gD (v:=.ty "tuple") rfl B.tuple_ Be rfl) aG))))) (dY (aP (gG hu) (bG aR rfl B.len_ AZ (aA (pv 1) aG)) aC (aZ _))))) (aH (aW xW)) aY)))
   (aH (aW xW)))),
  ((aQ (bY (cZ (dB (dW (j6 Kt (by decide) aB))) (aV (mX (cT aB) aD))) (bB (aL yH)) bZ)
   (aQ (iG (jQ aB) fV (bY (cZ (dB (dW (j6 Kt (by decide) aB))) (aV (mX (cT aB) aD))) (bB (aL yH)) bZ))
   (bB (aL yH)))):VS P0 _ iT)⟩
abbrev nU:AS:=top 19
theorem vQ:FnScope ["_law_pen_here", "_law_way", "_law_turn"] ["_law_pen_here", "_law_way", "_law_turn"] (bK nU):=scM
theorem uU  (F:Fun K "_law_time" "_law_time" nU f fd)(B:Bl K mg)(Kt:Kit K)
  (aj:sS P0 P w K mg base)
  (af:pO P0 P w K mg base) :
  FnOk P w K mg base CX0 2 f fd ["_law_pen_here", "_law_way", "_law_turn"] (spL P0 penF 3 lG):=
 F.okL vQ rfl rfl fun cdv A outer s H E hr=>
 have hu:=hr.units
 ⟨_,(aF (bU (aP vU (pv 1) aC (aZ _)) (aH (aW (cH (aA (aX aK (dF (aA (bA uO (pv 2) aC) (aA (bA uO aC (pv 2)) (aA aC aG)))) (pv 1) (fun _ _=>rfl)) (aA aC aG))))) aY)
   (aF (bU (aP (n8 hu) (pv 1) aC (aZ _)) (aH (aW (aJ aj hr rfl (aA (bA uO (aJ af hr rfl (aA (pv 0) (aA aC aG))) aC) (aA (bA bM aC (aJ af hr rfl (aA (pv 0) (aA aC aG)))) aG))))) aY)
   (aH (aW (aJ aj hr rfl (aA (bA uO (aJ af hr rfl (aA (pv 0) (aA aC aG))) aC) (aA (bA bM aC (aJ af hr rfl (aA (pv 0) (aA aC aG)))) aG))))))),
  ((aQ (bY (aV (zP aB aD)) (v4 (aL (cL (aM (bC (aN (dM (aM (xN aB aD) (aM (xN aD aB) (aM aD bO))))) aB) (aM aD bO))))) bZ)
   (aQ (bY (aV (vR aB aD)) (v4 (bD (aO (xN (aN (dJ (aO aD bH))) aD) (aO (bT aD (aN (dJ (aO aD bH)))) bH)))) bZ)
   (v4 (bD (aO (xN (aN (dJ (aO aD bH))) aD) (aO (bT aD (aN (dJ (aO aD bH)))) bH)))))):VS P0 _ nP)⟩
abbrev mK:AS:=top 18
theorem sc_law_least:FnScope ["_law_kept", "_law_found", "_law_pair"] ["_law_kept"] (bK mK):=scM
theorem tZ  (F:Fun K "_law_least" "_law_least" mK f fd)(B:Bl K mg)(Kt:Kit K)
  (ad:cC P0 P w K mg base) :
  FnOk P w K mg base CX0 2 f fd ["_law_kept"] (spM P0 1 gO):=
 F.okV sc_law_least rfl rfl fun cdv A outer s H E hr=>
 have hu:=hr.units
 ⟨_,(aF (bN (i:=1) sc_law_least.nd rfl (by walk_at "lc") (aX aK (pv 0) aC (fun _ _=>rfl)))
   (aF (iH BH rfl (a68 (pv 0)) (fW (i:=2) sc_law_least.nd rfl (by walk_at "lc")) (aH (bU (cJ (aJ ad hr rfl (aA (pv 2) (aA (pv 1) aG)))) (aH (bN (i:=1) sc_law_least.nd rfl (by walk_at "lc") (pv 2))) aY)))
   (aH (aW (pv 1))))),
  ((aQ (bV (aL (bC aB aD)))
   (aQ (iG (a65 aB) fV (bY (dW (aN (bD (aO aB (aO aB bH))))) (bV (aL aB)) bZ))
   (bB (aL aB)))):VS P0 _ mJ)⟩
abbrev bL:AS:=top 16
theorem sc_law_gone_through:FnScope ["_law_tree", "_law_one", "_law_other", "_law_part", "_law_beneath"] ["_law_tree"] (bK bL):=scM
theorem kW  (F:Fun K "_law_gone_through" "_law_gone_through" bL f fd)(B:Bl K mg)(Kt:Kit K)
  (a9:mD P0 P w K mg base)
  (ad:cC P0 P w K mg base)
  (ae:cA P0 P w K mg base) :
  FnOk P w K mg base CX0 3 f fd ["_law_tree"] (spM P0 1 cU):=
 F.okV sc_law_gone_through rfl rfl fun cdv A outer s H E hr=>
 have hu:=hr.units
 ⟨_,(aF (bU (aP dD (pv 0) bF (aZ _)) (aH (aW (cH (aA (dF aG) (aA aC aG))))) aY)
   (aF (bU (PW.pt (eE (dX (cJ (bG eZ rfl B.isinstance_ Bd (aA (pv 0) (aA (gD (v:=.ty "tuple") rfl B.tuple_ Be rfl) aG))))) (eE (aP (gG hu) (bG aR rfl B.len_ AZ (aA (pv 0) aG)) aC (aZ _)) (dY (dX (cJ (aJ ae hr rfl (aA (aX aK (pv 0) aC (fun _ _=>rfl)) aG)))))))) (aH (aW bF)) aY)
   (aF (bN (i:=1) sc_law_gone_through.nd rfl (by walk_at "lc") (aJ a9 hr rfl (aA (aX aK (pv 0) aC (fun _ _=>rfl)) aG)))
   (aF (bN (i:=2) sc_law_gone_through.nd rfl (by walk_at "lc") (aJ a9 hr rfl (aA (aX aK (pv 0) aC (fun _ _=>rfl)) aG)))
   (aF (bU (PW.pt (eE (aP dD (pv 1) bF (aZ _)) (dY (aP dD (pv 2) bF (aZ _))))) (aH (aW bF)) aY)
   (aF (iH BH rfl (jH (fY lZ (pv 0) (iC aC) iB)) (fW (i:=3) sc_law_gone_through.nd rfl (by walk_at "lc")) (aH (bU (PW.pt (iJ (aP gC (pv 3) bF (aZ _)) (fU (cJ (aJ ad hr rfl (aA (aX aK (pv 3) aC (fun _ _=>rfl)) (aA (aX aK (pv 0) aC (fun _ _=>rfl)) aG))))))) (aH (aW bF)) aY)))
   (aF (bN (i:=4) sc_law_gone_through.nd rfl (by walk_at "lc") (bA fB (aX aK (pv 1) aC (fun _ _=>rfl)) (aX aK (pv 2) aC (fun _ _=>rfl))))
   (aF (bU (aP mG (bA lU aC (bA bM (aX aK (pv 2) aC (fun _ _=>rfl)) aC)) (bA bM (bG aR rfl B.len_ AZ (aA (pv 4) aG)) aC) (aZ _)) (aH (aW bF)) aY)
   (aH (aW (cH (aA (bA fB (dF (aA (aX aK (pv 0) aC (fun _ _=>rfl)) aG)) (pv 4)) (aA (bA bM (aX aK (pv 2) aC (fun _ _=>rfl)) aC) aG))))))))))))),
  ((aQ (bY (aV (dC aB)) (bB (aL (cL (aM (aN (dM bO)) (aM aD bO))))) bZ)
   (aQ (bY (cZ (dB (dW (j6 Kt (by decide) aB))) (cZ (aV (mX (cT aB) aD)) (dB (dW (aN (bD (aO (bC aB aD) bH))))))) (bB (aL bW)) bZ)
   (aQ (bV (aL (aN (bD (aO (bC aB aD) bH)))))
   (aQ (bV (aL (aN (bD (aO (bC aB aD) bH)))))
   (aQ (bY (cZ (aV (dC aB)) (aV (dC aB))) (bB (aL bW)) bZ)
   (aQ (iG (jQ (lR aB (qT aD) qN)) fV (bY (gB (aV (gF aB)) (dW (aN (bD (aO (bC aB aD) (aO (bC aB aD) bH)))))) (bB (aL bW)) bZ))
   (aQ (bV (aL (aN (f9 (bC aB aD) (bC aB aD)))))
   (aQ (bY (aV (nJ (lW aD (bT (bC aB aD) aD)) (bT (cT aB) aD))) (bB (aL bW)) bZ)
   (bB (aL (cL (aM (aN (f9 (aN (dM (aM (bC aB aD) bO))) aB)) (aM (bT (bC aB aD) aD) bO))))))))))))):VS P0 _ (aU dH))⟩
theorem jO  (F:Fun K "_law_gone_through" "_law_gone_through" bL f fd)(B:Bl K mg)(Kt:Kit K)
  (a9:kI P0 P w K mg base)
  (ad:cC P0 P w K mg base)
  (ae:cA P0 P w K mg base) :
  FnOk P w K mg base CX0 4 f fd ["_law_tree"] (spM P0 1 cX):=
 F.okV sc_law_gone_through rfl rfl fun cdv A outer s H E hr=>
 have hu:=hr.units
 ⟨_,(aF (bU (aP dD (pv 0) bF (aZ _)) (aH (aW (cH (aA (dF aG) (aA aC aG))))) aY)
   (aF (bU (PW.pt (eE (dX (cJ (bG eZ rfl B.isinstance_ Bd (aA (pv 0) (aA (gD (v:=.ty "tuple") rfl B.tuple_ Be rfl) aG))))) (eE (aP (gG hu) (bG aR rfl B.len_ AZ (aA (pv 0) aG)) aC (aZ _)) (dY (dX (cJ (aJ ae hr rfl (aA (aX aK (pv 0) aC (fun _ _=>rfl)) aG)))))))) (aH (aW bF)) aY)
   (aF (bN (i:=1) sc_law_gone_through.nd rfl (by walk_at "lc") (aJ a9 hr rfl (aA (aX aK (pv 0) aC (fun _ _=>rfl)) aG)))
   (aF (bN (i:=2) sc_law_gone_through.nd rfl (by walk_at "lc") (aJ a9 hr rfl (aA (aX aK (pv 0) aC (fun _ _=>rfl)) aG)))
   (aF (bU (PW.pt (eE (aP dD (pv 1) bF (aZ _)) (dY (aP dD (pv 2) bF (aZ _))))) (aH (aW bF)) aY)
   (aF (iH BH rfl (jH (fY lZ (pv 0) (iC aC) iB)) (fW (i:=3) sc_law_gone_through.nd rfl (by walk_at "lc")) (aH (bU (PW.pt (iJ (aP gC (pv 3) bF (aZ _)) (fU (cJ (aJ ad hr rfl (aA (aX aK (pv 3) aC (fun _ _=>rfl)) (aA (aX aK (pv 0) aC (fun _ _=>rfl)) aG))))))) (aH (aW bF)) aY)))
   (aF (bN (i:=4) sc_law_gone_through.nd rfl (by walk_at "lc") (bA fB (aX aK (pv 1) aC (fun _ _=>rfl)) (aX aK (pv 2) aC (fun _ _=>rfl))))
   (aF (bU (aP mG (bA lU aC (bA bM (aX aK (pv 2) aC (fun _ _=>rfl)) aC)) (bA bM (bG aR rfl B.len_ AZ (aA (pv 4) aG)) aC) (aZ _)) (aH (aW bF)) aY)
   (aH (aW (cH (aA (bA fB (dF (aA (aX aK (pv 0) aC (fun _ _=>rfl)) aG)) (pv 4)) (aA (bA bM (aX aK (pv 2) aC (fun _ _=>rfl)) aC) aG))))))))))))),
  ((aQ (bY (aV (dC aB)) (bB (aL (cL (aM (aN (dM bO)) (aM aD bO))))) bZ)
   (aQ (bY (cZ (dB (dW (j6 Kt (by decide) aB))) (cZ (aV (mX (cT aB) aD)) (dB (dW (aN (bD (aO (bC aB aD) bH))))))) (bB (aL bW)) bZ)
   (aQ (bV (aL (aN (bD (aO (bC aB aD) bH)))))
   (aQ (bV (aL (aN (bD (aO (bC aB aD) bH)))))
   (aQ (bY (cZ (aV (dC aB)) (aV (dC aB))) (bB (aL bW)) bZ)
   (aQ (iG (jQ (lR aB (qT aD) qN)) fV (bY (gB (aV (gF aB)) (dW (aN (bD (aO (bC aB aD) (aO (bC aB aD) bH)))))) (bB (aL bW)) bZ))
   (aQ (bV (aL (aN (f9 (bC aB aD) (bC aB aD)))))
   (aQ (bY (aV (nJ (lW aD (bT (bC aB aD) aD)) (bT (cT aB) aD))) (bB (aL bW)) bZ)
   (bB (aL (cL (aM (aN (f9 (aN (dM (aM (bC aB aD) bO))) aB)) (aM (bT (bC aB aD) aD) bO))))))))))))):VS P0 _ (aU cU))⟩
theorem kE  (F:Fun K "_law_gone_through" "_law_gone_through" bL f fd)(B:Bl K mg)(Kt:Kit K)
  (a9:jJ P0 P w K mg base)
  (ad:cC P0 P w K mg base)
  (ae:cA P0 P w K mg base) :
  FnOk P w K mg base CX0 5 f fd ["_law_tree"] (spM P0 1 cQ):=
 F.okV sc_law_gone_through rfl rfl fun cdv A outer s H E hr=>
 have hu:=hr.units
 ⟨_,(aF (bU (aP dD (pv 0) bF (aZ _)) (aH (aW (cH (aA (dF aG) (aA aC aG))))) aY)
   (aF (bU (PW.pt (eE (dX (cJ (bG eZ rfl B.isinstance_ Bd (aA (pv 0) (aA (gD (v:=.ty "tuple") rfl B.tuple_ Be rfl) aG))))) (eE (aP (gG hu) (bG aR rfl B.len_ AZ (aA (pv 0) aG)) aC (aZ _)) (dY (dX (cJ (aJ ae hr rfl (aA (aX aK (pv 0) aC (fun _ _=>rfl)) aG)))))))) (aH (aW bF)) aY)
   (aF (bN (i:=1) sc_law_gone_through.nd rfl (by walk_at "lc") (aJ a9 hr rfl (aA (aX aK (pv 0) aC (fun _ _=>rfl)) aG)))
   (aF (bN (i:=2) sc_law_gone_through.nd rfl (by walk_at "lc") (aJ a9 hr rfl (aA (aX aK (pv 0) aC (fun _ _=>rfl)) aG)))
   (aF (bU (PW.pt (eE (aP dD (pv 1) bF (aZ _)) (dY (aP dD (pv 2) bF (aZ _))))) (aH (aW bF)) aY)
   (aF (iH BH rfl (jH (fY lZ (pv 0) (iC aC) iB)) (fW (i:=3) sc_law_gone_through.nd rfl (by walk_at "lc")) (aH (bU (PW.pt (iJ (aP gC (pv 3) bF (aZ _)) (fU (cJ (aJ ad hr rfl (aA (aX aK (pv 3) aC (fun _ _=>rfl)) (aA (aX aK (pv 0) aC (fun _ _=>rfl)) aG))))))) (aH (aW bF)) aY)))
   (aF (bN (i:=4) sc_law_gone_through.nd rfl (by walk_at "lc") (bA fB (aX aK (pv 1) aC (fun _ _=>rfl)) (aX aK (pv 2) aC (fun _ _=>rfl))))
   (aF (bU (aP mG (bA lU aC (bA bM (aX aK (pv 2) aC (fun _ _=>rfl)) aC)) (bA bM (bG aR rfl B.len_ AZ (aA (pv 4) aG)) aC) (aZ _)) (aH (aW bF)) aY)
   (aH (aW (cH (aA (bA fB (dF (aA (aX aK (pv 0) aC (fun _ _=>rfl)) aG)) (pv 4)) (aA (bA bM (aX aK (pv 2) aC (fun _ _=>rfl)) aC) aG))))))))))))),
  ((aQ (bY (aV (dC aB)) (bB (aL (cL (aM (aN (dM bO)) (aM aD bO))))) bZ)
   (aQ (bY (cZ (dB (dW (j6 Kt (by decide) aB))) (cZ (aV (mX (cT aB) aD)) (dB (dW (aN (bD (aO (bC aB aD) bH))))))) (bB (aL bW)) bZ)
   (aQ (bV (aL (aN (bD (aO (bC aB aD) bH)))))
   (aQ (bV (aL (aN (bD (aO (bC aB aD) bH)))))
   (aQ (bY (cZ (aV (dC aB)) (aV (dC aB))) (bB (aL bW)) bZ)
   (aQ (iG (jQ (lR aB (qT aD) qN)) fV (bY (gB (aV (gF aB)) (dW (aN (bD (aO (bC aB aD) (aO (bC aB aD) bH)))))) (bB (aL bW)) bZ))
   (aQ (bV (aL (aN (f9 (bC aB aD) (bC aB aD)))))
   (aQ (bY (aV (nJ (lW aD (bT (bC aB aD) aD)) (bT (cT aB) aD))) (bB (aL bW)) bZ)
   (bB (aL (cL (aM (aN (f9 (aN (dM (aM (bC aB aD) bO))) aB)) (aM (bT (bC aB aD) aD) bO))))))))))))):VS P0 _ (aU cX))⟩
theorem jM  (F:Fun K "_law_gone_through" "_law_gone_through" bL f fd)(B:Bl K mg)(Kt:Kit K)
  (a9:jD P0 P w K mg base)
  (ad:cC P0 P w K mg base)
  (ae:cA P0 P w K mg base) :
  FnOk P w K mg base CX0 6 f fd ["_law_tree"] (spM P0 1 cR):=
 F.okV sc_law_gone_through rfl rfl fun cdv A outer s H E hr=>
 have hu:=hr.units
 ⟨_,(aF (bU (aP dD (pv 0) bF (aZ _)) (aH (aW (cH (aA (dF aG) (aA aC aG))))) aY)
   (aF (bU (PW.pt (eE (dX (cJ (bG eZ rfl B.isinstance_ Bd (aA (pv 0) (aA (gD (v:=.ty "tuple") rfl B.tuple_ Be rfl) aG))))) (eE (aP (gG hu) (bG aR rfl B.len_ AZ (aA (pv 0) aG)) aC (aZ _)) (dY (dX (cJ (aJ ae hr rfl (aA (aX aK (pv 0) aC (fun _ _=>rfl)) aG)))))))) (aH (aW bF)) aY)
   (aF (bN (i:=1) sc_law_gone_through.nd rfl (by walk_at "lc") (aJ a9 hr rfl (aA (aX aK (pv 0) aC (fun _ _=>rfl)) aG)))
   (aF (bN (i:=2) sc_law_gone_through.nd rfl (by walk_at "lc") (aJ a9 hr rfl (aA (aX aK (pv 0) aC (fun _ _=>rfl)) aG)))
   (aF (bU (PW.pt (eE (aP dD (pv 1) bF (aZ _)) (dY (aP dD (pv 2) bF (aZ _))))) (aH (aW bF)) aY)
   (aF (iH BH rfl (jH (fY lZ (pv 0) (iC aC) iB)) (fW (i:=3) sc_law_gone_through.nd rfl (by walk_at "lc")) (aH (bU (PW.pt (iJ (aP gC (pv 3) bF (aZ _)) (fU (cJ (aJ ad hr rfl (aA (aX aK (pv 3) aC (fun _ _=>rfl)) (aA (aX aK (pv 0) aC (fun _ _=>rfl)) aG))))))) (aH (aW bF)) aY)))
   (aF (bN (i:=4) sc_law_gone_through.nd rfl (by walk_at "lc") (bA fB (aX aK (pv 1) aC (fun _ _=>rfl)) (aX aK (pv 2) aC (fun _ _=>rfl))))
   (aF (bU (aP mG (bA lU aC (bA bM (aX aK (pv 2) aC (fun _ _=>rfl)) aC)) (bA bM (bG aR rfl B.len_ AZ (aA (pv 4) aG)) aC) (aZ _)) (aH (aW bF)) aY)
   (aH (aW (cH (aA (bA fB (dF (aA (aX aK (pv 0) aC (fun _ _=>rfl)) aG)) (pv 4)) (aA (bA bM (aX aK (pv 2) aC (fun _ _=>rfl)) aC) aG))))))))))))),
  ((aQ (bY (aV (dC aB)) (bB (aL (cL (aM (aN (dM bO)) (aM aD bO))))) bZ)
   (aQ (bY (cZ (dB (dW (j6 Kt (by decide) aB))) (cZ (aV (mX (cT aB) aD)) (dB (dW (aN (bD (aO (bC aB aD) bH))))))) (bB (aL bW)) bZ)
   (aQ (bV (aL (aN (bD (aO (bC aB aD) bH)))))
   (aQ (bV (aL (aN (bD (aO (bC aB aD) bH)))))
   (aQ (bY (cZ (aV (dC aB)) (aV (dC aB))) (bB (aL bW)) bZ)
   (aQ (iG (jQ (lR aB (qT aD) qN)) fV (bY (gB (aV (gF aB)) (dW (aN (bD (aO (bC aB aD) (aO (bC aB aD) bH)))))) (bB (aL bW)) bZ))
   (aQ (bV (aL (aN (f9 (bC aB aD) (bC aB aD)))))
   (aQ (bY (aV (nJ (lW aD (bT (bC aB aD) aD)) (bT (cT aB) aD))) (bB (aL bW)) bZ)
   (bB (aL (cL (aM (aN (f9 (aN (dM (aM (bC aB aD) bO))) aB)) (aM (bT (bC aB aD) aD) bO))))))))))))):VS P0 _ (aU cQ))⟩
theorem jW  (F:Fun K "_law_gone_through" "_law_gone_through" bL f fd)(B:Bl K mg)(Kt:Kit K)
  (a9:jT P0 P w K mg base)
  (ad:cC P0 P w K mg base)
  (ae:cA P0 P w K mg base) :
  FnOk P w K mg base CX0 7 f fd ["_law_tree"] (spM P0 1 cV):=
 F.okV sc_law_gone_through rfl rfl fun cdv A outer s H E hr=>
 have hu:=hr.units
 ⟨_,(aF (bU (aP dD (pv 0) bF (aZ _)) (aH (aW (cH (aA (dF aG) (aA aC aG))))) aY)
   (aF (bU (PW.pt (eE (dX (cJ (bG eZ rfl B.isinstance_ Bd (aA (pv 0) (aA (gD (v:=.ty "tuple") rfl B.tuple_ Be rfl) aG))))) (eE (aP (gG hu) (bG aR rfl B.len_ AZ (aA (pv 0) aG)) aC (aZ _)) (dY (dX (cJ (aJ ae hr rfl (aA (aX aK (pv 0) aC (fun _ _=>rfl)) aG)))))))) (aH (aW bF)) aY)
   (aF (bN (i:=1) sc_law_gone_through.nd rfl (by walk_at "lc") (aJ a9 hr rfl (aA (aX aK (pv 0) aC (fun _ _=>rfl)) aG)))
   (aF (bN (i:=2) sc_law_gone_through.nd rfl (by walk_at "lc") (aJ a9 hr rfl (aA (aX aK (pv 0) aC (fun _ _=>rfl)) aG)))
   (aF (bU (PW.pt (eE (aP dD (pv 1) bF (aZ _)) (dY (aP dD (pv 2) bF (aZ _))))) (aH (aW bF)) aY)
   (aF (iH BH rfl (jH (fY lZ (pv 0) (iC aC) iB)) (fW (i:=3) sc_law_gone_through.nd rfl (by walk_at "lc")) (aH (bU (PW.pt (iJ (aP gC (pv 3) bF (aZ _)) (fU (cJ (aJ ad hr rfl (aA (aX aK (pv 3) aC (fun _ _=>rfl)) (aA (aX aK (pv 0) aC (fun _ _=>rfl)) aG))))))) (aH (aW bF)) aY)))
   (aF (bN (i:=4) sc_law_gone_through.nd rfl (by walk_at "lc") (bA fB (aX aK (pv 1) aC (fun _ _=>rfl)) (aX aK (pv 2) aC (fun _ _=>rfl))))
   (aF (bU (aP mG (bA lU aC (bA bM (aX aK (pv 2) aC (fun _ _=>rfl)) aC)) (bA bM (bG aR rfl B.len_ AZ (aA (pv 4) aG)) aC) (aZ _)) (aH (aW bF)) aY)
   (aH (aW (cH (aA (bA fB (dF (aA (aX aK (pv 0) aC (fun _ _=>rfl)) aG)) (pv 4)) (aA (bA bM (aX aK (pv 2) aC (fun _ _=>rfl)) aC) aG))))))))))))),
  ((aQ (bY (aV (dC aB)) (bB (aL (cL (aM (aN (dM bO)) (aM aD bO))))) bZ)
   (aQ (bY (cZ (dB (dW (j6 Kt (by decide) aB))) (cZ (aV (mX (cT aB) aD)) (dB (dW (aN (bD (aO (bC aB aD) bH))))))) (bB (aL bW)) bZ)
   (aQ (bV (aL (aN (bD (aO (bC aB aD) bH)))))
   (aQ (bV (aL (aN (bD (aO (bC aB aD) bH)))))
   (aQ (bY (cZ (aV (dC aB)) (aV (dC aB))) (bB (aL bW)) bZ)
   (aQ (iG (jQ (lR aB (qT aD) qN)) fV (bY (gB (aV (gF aB)) (dW (aN (bD (aO (bC aB aD) (aO (bC aB aD) bH)))))) (bB (aL bW)) bZ))
   (aQ (bV (aL (aN (f9 (bC aB aD) (bC aB aD)))))
   (aQ (bY (aV (nJ (lW aD (bT (bC aB aD) aD)) (bT (cT aB) aD))) (bB (aL bW)) bZ)
   (bB (aL (cL (aM (aN (f9 (aN (dM (aM (bC aB aD) bO))) aB)) (aM (bT (bC aB aD) aD) bO))))))))))))):VS P0 _ (aU cR))⟩
theorem jC  (F:Fun K "_law_gone_through" "_law_gone_through" bL f fd)(B:Bl K mg)(Kt:Kit K)
  (a9:lD P0 P w K mg base)
  (ad:cC P0 P w K mg base)
  (ae:cA P0 P w K mg base) :
  FnOk P w K mg base CX0 8 f fd ["_law_tree"] (spM P0 1 cN):=
 F.okV sc_law_gone_through rfl rfl fun cdv A outer s H E hr=>
 have hu:=hr.units
 ⟨_,(aF (bU (aP dD (pv 0) bF (aZ _)) (aH (aW (cH (aA (dF aG) (aA aC aG))))) aY)
   (aF (bU (PW.pt (eE (dX (cJ (bG eZ rfl B.isinstance_ Bd (aA (pv 0) (aA (gD (v:=.ty "tuple") rfl B.tuple_ Be rfl) aG))))) (eE (aP (gG hu) (bG aR rfl B.len_ AZ (aA (pv 0) aG)) aC (aZ _)) (dY (dX (cJ (aJ ae hr rfl (aA (aX aK (pv 0) aC (fun _ _=>rfl)) aG)))))))) (aH (aW bF)) aY)
   (aF (bN (i:=1) sc_law_gone_through.nd rfl (by walk_at "lc") (aJ a9 hr rfl (aA (aX aK (pv 0) aC (fun _ _=>rfl)) aG)))
   (aF (bN (i:=2) sc_law_gone_through.nd rfl (by walk_at "lc") (aJ a9 hr rfl (aA (aX aK (pv 0) aC (fun _ _=>rfl)) aG)))
   (aF (bU (PW.pt (eE (aP dD (pv 1) bF (aZ _)) (dY (aP dD (pv 2) bF (aZ _))))) (aH (aW bF)) aY)
   (aF (iH BH rfl (jH (fY lZ (pv 0) (iC aC) iB)) (fW (i:=3) sc_law_gone_through.nd rfl (by walk_at "lc")) (aH (bU (PW.pt (iJ (aP gC (pv 3) bF (aZ _)) (fU (cJ (aJ ad hr rfl (aA (aX aK (pv 3) aC (fun _ _=>rfl)) (aA (aX aK (pv 0) aC (fun _ _=>rfl)) aG))))))) (aH (aW bF)) aY)))
   (aF (bN (i:=4) sc_law_gone_through.nd rfl (by walk_at "lc") (bA fB (aX aK (pv 1) aC (fun _ _=>rfl)) (aX aK (pv 2) aC (fun _ _=>rfl))))
   (aF (bU (aP mG (bA lU aC (bA bM (aX aK (pv 2) aC (fun _ _=>rfl)) aC)) (bA bM (bG aR rfl B.len_ AZ (aA (pv 4) aG)) aC) (aZ _)) (aH (aW bF)) aY)
   (aH (aW (cH (aA (bA fB (dF (aA (aX aK (pv 0) aC (fun _ _=>rfl)) aG)) (pv 4)) (aA (bA bM (aX aK (pv 2) aC (fun _ _=>rfl)) aC) aG))))))))))))),
  ((aQ (bY (aV (dC aB)) (bB (aL (cL (aM (aN (dM bO)) (aM aD bO))))) bZ)
   (aQ (bY (cZ (dB (dW (j6 Kt (by decide) aB))) (cZ (aV (mX (cT aB) aD)) (dB (dW (aN (bD (aO (bC aB aD) bH))))))) (bB (aL bW)) bZ)
   (aQ (bV (aL (aN (bD (aO (bC aB aD) bH)))))
   (aQ (bV (aL (aN (bD (aO (bC aB aD) bH)))))
   (aQ (bY (cZ (aV (dC aB)) (aV (dC aB))) (bB (aL bW)) bZ)
   (aQ (iG (jQ (lR aB (qT aD) qN)) fV (bY (gB (aV (gF aB)) (dW (aN (bD (aO (bC aB aD) (aO (bC aB aD) bH)))))) (bB (aL bW)) bZ))
   (aQ (bV (aL (aN (f9 (bC aB aD) (bC aB aD)))))
   (aQ (bY (aV (nJ (lW aD (bT (bC aB aD) aD)) (bT (cT aB) aD))) (bB (aL bW)) bZ)
   (bB (aL (cL (aM (aN (f9 (aN (dM (aM (bC aB aD) bO))) aB)) (aM (bT (bC aB aD) aD) bO))))))))))))):VS P0 _ (aU cV))⟩
theorem lE  (F:Fun K "_law_gone_through" "_law_gone_through" bL f fd)(B:Bl K mg)(Kt:Kit K)
  (a9:jL P0 P w K mg base)
  (ad:cC P0 P w K mg base)
  (ae:cA P0 P w K mg base) :
  FnOk P w K mg base CX0 9 f fd ["_law_tree"] (spM P0 1 cP):=
 F.okV sc_law_gone_through rfl rfl fun cdv A outer s H E hr=>
 have hu:=hr.units
 ⟨_,(aF (bU (aP dD (pv 0) bF (aZ _)) (aH (aW (cH (aA (dF aG) (aA aC aG))))) aY)
   (aF (bU (PW.pt (eE (dX (cJ (bG eZ rfl B.isinstance_ Bd (aA (pv 0) (aA (gD (v:=.ty "tuple") rfl B.tuple_ Be rfl) aG))))) (eE (aP (gG hu) (bG aR rfl B.len_ AZ (aA (pv 0) aG)) aC (aZ _)) (dY (dX (cJ (aJ ae hr rfl (aA (aX aK (pv 0) aC (fun _ _=>rfl)) aG)))))))) (aH (aW bF)) aY)
   (aF (bN (i:=1) sc_law_gone_through.nd rfl (by walk_at "lc") (aJ a9 hr rfl (aA (aX aK (pv 0) aC (fun _ _=>rfl)) aG)))
   (aF (bN (i:=2) sc_law_gone_through.nd rfl (by walk_at "lc") (aJ a9 hr rfl (aA (aX aK (pv 0) aC (fun _ _=>rfl)) aG)))
   (aF (bU (PW.pt (eE (aP dD (pv 1) bF (aZ _)) (dY (aP dD (pv 2) bF (aZ _))))) (aH (aW bF)) aY)
   (aF (iH BH rfl (jH (fY lZ (pv 0) (iC aC) iB)) (fW (i:=3) sc_law_gone_through.nd rfl (by walk_at "lc")) (aH (bU (PW.pt (iJ (aP gC (pv 3) bF (aZ _)) (fU (cJ (aJ ad hr rfl (aA (aX aK (pv 3) aC (fun _ _=>rfl)) (aA (aX aK (pv 0) aC (fun _ _=>rfl)) aG))))))) (aH (aW bF)) aY)))
   (aF (bN (i:=4) sc_law_gone_through.nd rfl (by walk_at "lc") (bA fB (aX aK (pv 1) aC (fun _ _=>rfl)) (aX aK (pv 2) aC (fun _ _=>rfl))))
   (aF (bU (aP mG (bA lU aC (bA bM (aX aK (pv 2) aC (fun _ _=>rfl)) aC)) (bA bM (bG aR rfl B.len_ AZ (aA (pv 4) aG)) aC) (aZ _)) (aH (aW bF)) aY)
   (aH (aW (cH (aA (bA fB (dF (aA (aX aK (pv 0) aC (fun _ _=>rfl)) aG)) (pv 4)) (aA (bA bM (aX aK (pv 2) aC (fun _ _=>rfl)) aC) aG))))))))))))),
  ((aQ (bY (aV (dC aB)) (bB (aL (cL (aM (aN (dM bO)) (aM aD bO))))) bZ)
   (aQ (bY (cZ (dB (dW (j6 Kt (by decide) aB))) (cZ (aV (mX (cT aB) aD)) (dB (dW (aN (bD (aO (bC aB aD) bH))))))) (bB (aL bW)) bZ)
   (aQ (bV (aL (aN (bD (aO (bC aB aD) bH)))))
   (aQ (bV (aL (aN (bD (aO (bC aB aD) bH)))))
   (aQ (bY (cZ (aV (dC aB)) (aV (dC aB))) (bB (aL bW)) bZ)
   (aQ (iG (jQ (lR aB (qT aD) qN)) fV (bY (gB (aV (gF aB)) (dW (aN (bD (aO (bC aB aD) (aO (bC aB aD) bH)))))) (bB (aL bW)) bZ))
   (aQ (bV (aL (aN (f9 (bC aB aD) (bC aB aD)))))
   (aQ (bY (aV (nJ (lW aD (bT (bC aB aD) aD)) (bT (cT aB) aD))) (bB (aL bW)) bZ)
   (bB (aL (cL (aM (aN (f9 (aN (dM (aM (bC aB aD) bO))) aB)) (aM (bT (bC aB aD) aD) bO))))))))))))):VS P0 _ (aU cN))⟩
theorem kY  (F:Fun K "_law_gone_through" "_law_gone_through" bL f fd)(B:Bl K mg)(Kt:Kit K)
  (a9:lC P0 P w K mg base)
  (ad:cC P0 P w K mg base)
  (ae:cA P0 P w K mg base) :
  FnOk P w K mg base CX0 10 f fd ["_law_tree"] (spM P0 1 cO):=
 F.okV sc_law_gone_through rfl rfl fun cdv A outer s H E hr=>
 have hu:=hr.units
 ⟨_,(aF (bU (aP dD (pv 0) bF (aZ _)) (aH (aW (cH (aA (dF aG) (aA aC aG))))) aY)
   (aF (bU (PW.pt (eE (dX (cJ (bG eZ rfl B.isinstance_ Bd (aA (pv 0) (aA (gD (v:=.ty "tuple") rfl B.tuple_ Be rfl) aG))))) (eE (aP (gG hu) (bG aR rfl B.len_ AZ (aA (pv 0) aG)) aC (aZ _)) (dY (dX (cJ (aJ ae hr rfl (aA (aX aK (pv 0) aC (fun _ _=>rfl)) aG)))))))) (aH (aW bF)) aY)
   (aF (bN (i:=1) sc_law_gone_through.nd rfl (by walk_at "lc") (aJ a9 hr rfl (aA (aX aK (pv 0) aC (fun _ _=>rfl)) aG)))
   (aF (bN (i:=2) sc_law_gone_through.nd rfl (by walk_at "lc") (aJ a9 hr rfl (aA (aX aK (pv 0) aC (fun _ _=>rfl)) aG)))
   (aF (bU (PW.pt (eE (aP dD (pv 1) bF (aZ _)) (dY (aP dD (pv 2) bF (aZ _))))) (aH (aW bF)) aY)
   (aF (iH BH rfl (jH (fY lZ (pv 0) (iC aC) iB)) (fW (i:=3) sc_law_gone_through.nd rfl (by walk_at "lc")) (aH (bU (PW.pt (iJ (aP gC (pv 3) bF (aZ _)) (fU (cJ (aJ ad hr rfl (aA (aX aK (pv 3) aC (fun _ _=>rfl)) (aA (aX aK (pv 0) aC (fun _ _=>rfl)) aG))))))) (aH (aW bF)) aY)))
   (aF (bN (i:=4) sc_law_gone_through.nd rfl (by walk_at "lc") (bA fB (aX aK (pv 1) aC (fun _ _=>rfl)) (aX aK (pv 2) aC (fun _ _=>rfl))))
   (aF (bU (aP mG (bA lU aC (bA bM (aX aK (pv 2) aC (fun _ _=>rfl)) aC)) (bA bM (bG aR rfl B.len_ AZ (aA (pv 4) aG)) aC) (aZ _)) (aH (aW bF)) aY)
   (aH (aW (cH (aA (bA fB (dF (aA (aX aK (pv 0) aC (fun _ _=>rfl)) aG)) (pv 4)) (aA (bA bM (aX aK (pv 2) aC (fun _ _=>rfl)) aC) aG))))))))))))),
  ((aQ (bY (aV (dC aB)) (bB (aL (cL (aM (aN (dM bO)) (aM aD bO))))) bZ)
   (aQ (bY (cZ (dB (dW (j6 Kt (by decide) aB))) (cZ (aV (mX (cT aB) aD)) (dB (dW (aN (bD (aO (bC aB aD) bH))))))) (bB (aL bW)) bZ)
   (aQ (bV (aL (aN (bD (aO (bC aB aD) bH)))))
   (aQ (bV (aL (aN (bD (aO (bC aB aD) bH)))))
   (aQ (bY (cZ (aV (dC aB)) (aV (dC aB))) (bB (aL bW)) bZ)
   (aQ (iG (jQ (lR aB (qT aD) qN)) fV (bY (gB (aV (gF aB)) (dW (aN (bD (aO (bC aB aD) (aO (bC aB aD) bH)))))) (bB (aL bW)) bZ))
   (aQ (bV (aL (aN (f9 (bC aB aD) (bC aB aD)))))
   (aQ (bY (aV (nJ (lW aD (bT (bC aB aD) aD)) (bT (cT aB) aD))) (bB (aL bW)) bZ)
   (bB (aL (cL (aM (aN (f9 (aN (dM (aM (bC aB aD) bO))) aB)) (aM (bT (bC aB aD) aD) bO))))))))))))):VS P0 _ (aU cP))⟩
theorem kO  (F:Fun K "_law_gone_through" "_law_gone_through" bL f fd)(B:Bl K mg)(Kt:Kit K)
  (a9:lA P0 P w K mg base)
  (ad:cC P0 P w K mg base)
  (ae:cA P0 P w K mg base) :
  FnOk P w K mg base CX0 11 f fd ["_law_tree"] (spM P0 1 cW):=
 F.okV sc_law_gone_through rfl rfl fun cdv A outer s H E hr=>
 have hu:=hr.units
 ⟨_,(aF (bU (aP dD (pv 0) bF (aZ _)) (aH (aW (cH (aA (dF aG) (aA aC aG))))) aY)
   (aF (bU (PW.pt (eE (dX (cJ (bG eZ rfl B.isinstance_ Bd (aA (pv 0) (aA (gD (v:=.ty "tuple") rfl B.tuple_ Be rfl) aG))))) (eE (aP (gG hu) (bG aR rfl B.len_ AZ (aA (pv 0) aG)) aC (aZ _)) (dY (dX (cJ (aJ ae hr rfl (aA (aX aK (pv 0) aC (fun _ _=>rfl)) aG)))))))) (aH (aW bF)) aY)
   (aF (bN (i:=1) sc_law_gone_through.nd rfl (by walk_at "lc") (aJ a9 hr rfl (aA (aX aK (pv 0) aC (fun _ _=>rfl)) aG)))
   (aF (bN (i:=2) sc_law_gone_through.nd rfl (by walk_at "lc") (aJ a9 hr rfl (aA (aX aK (pv 0) aC (fun _ _=>rfl)) aG)))
   (aF (bU (PW.pt (eE (aP dD (pv 1) bF (aZ _)) (dY (aP dD (pv 2) bF (aZ _))))) (aH (aW bF)) aY)
   (aF (iH BH rfl (jH (fY lZ (pv 0) (iC aC) iB)) (fW (i:=3) sc_law_gone_through.nd rfl (by walk_at "lc")) (aH (bU (PW.pt (iJ (aP gC (pv 3) bF (aZ _)) (fU (cJ (aJ ad hr rfl (aA (aX aK (pv 3) aC (fun _ _=>rfl)) (aA (aX aK (pv 0) aC (fun _ _=>rfl)) aG))))))) (aH (aW bF)) aY)))
   (aF (bN (i:=4) sc_law_gone_through.nd rfl (by walk_at "lc") (bA fB (aX aK (pv 1) aC (fun _ _=>rfl)) (aX aK (pv 2) aC (fun _ _=>rfl))))
   (aF (bU (aP mG (bA lU aC (bA bM (aX aK (pv 2) aC (fun _ _=>rfl)) aC)) (bA bM (bG aR rfl B.len_ AZ (aA (pv 4) aG)) aC) (aZ _)) (aH (aW bF)) aY)
   (aH (aW (cH (aA (bA fB (dF (aA (aX aK (pv 0) aC (fun _ _=>rfl)) aG)) (pv 4)) (aA (bA bM (aX aK (pv 2) aC (fun _ _=>rfl)) aC) aG))))))))))))),
  ((aQ (bY (aV (dC aB)) (bB (aL (cL (aM (aN (dM bO)) (aM aD bO))))) bZ)
   (aQ (bY (cZ (dB (dW (j6 Kt (by decide) aB))) (cZ (aV (mX (cT aB) aD)) (dB (dW (aN (bD (aO (bC aB aD) bH))))))) (bB (aL bW)) bZ)
   (aQ (bV (aL (aN (bD (aO (bC aB aD) bH)))))
   (aQ (bV (aL (aN (bD (aO (bC aB aD) bH)))))
   (aQ (bY (cZ (aV (dC aB)) (aV (dC aB))) (bB (aL bW)) bZ)
   (aQ (iG (jQ (lR aB (qT aD) qN)) fV (bY (gB (aV (gF aB)) (dW (aN (bD (aO (bC aB aD) (aO (bC aB aD) bH)))))) (bB (aL bW)) bZ))
   (aQ (bV (aL (aN (f9 (bC aB aD) (bC aB aD)))))
   (aQ (bY (aV (nJ (lW aD (bT (bC aB aD) aD)) (bT (cT aB) aD))) (bB (aL bW)) bZ)
   (bB (aL (cL (aM (aN (f9 (aN (dM (aM (bC aB aD) bO))) aB)) (aM (bT (bC aB aD) aD) bO))))))))))))):VS P0 _ (aU cO))⟩
theorem jA  (F:Fun K "_law_gone_through" "_law_gone_through" bL f fd)(B:Bl K mg)(Kt:Kit K)
  (a9:kJ P0 P w K mg base)
  (ad:cC P0 P w K mg base)
  (ae:cA P0 P w K mg base) :
  FnOk P w K mg base CX0 12 f fd ["_law_tree"] (spM P0 1 dZ):=
 F.okV sc_law_gone_through rfl rfl fun cdv A outer s H E hr=>
 have hu:=hr.units
 ⟨_,(aF (bU (aP dD (pv 0) bF (aZ _)) (aH (aW (cH (aA (dF aG) (aA aC aG))))) aY)
   (aF (bU (PW.pt (eE (dX (cJ (bG eZ rfl B.isinstance_ Bd (aA (pv 0) (aA (gD (v:=.ty "tuple") rfl B.tuple_ Be rfl) aG))))) (eE (aP (gG hu) (bG aR rfl B.len_ AZ (aA (pv 0) aG)) aC (aZ _)) (dY (dX (cJ (aJ ae hr rfl (aA (aX aK (pv 0) aC (fun _ _=>rfl)) aG)))))))) (aH (aW bF)) aY)
   (aF (bN (i:=1) sc_law_gone_through.nd rfl (by walk_at "lc") (aJ a9 hr rfl (aA (aX aK (pv 0) aC (fun _ _=>rfl)) aG)))
   (aF (bN (i:=2) sc_law_gone_through.nd rfl (by walk_at "lc") (aJ a9 hr rfl (aA (aX aK (pv 0) aC (fun _ _=>rfl)) aG)))
   (aF (bU (PW.pt (eE (aP dD (pv 1) bF (aZ _)) (dY (aP dD (pv 2) bF (aZ _))))) (aH (aW bF)) aY)
   (aF (iH BH rfl (jH (fY lZ (pv 0) (iC aC) iB)) (fW (i:=3) sc_law_gone_through.nd rfl (by walk_at "lc")) (aH (bU (PW.pt (iJ (aP gC (pv 3) bF (aZ _)) (fU (cJ (aJ ad hr rfl (aA (aX aK (pv 3) aC (fun _ _=>rfl)) (aA (aX aK (pv 0) aC (fun _ _=>rfl)) aG))))))) (aH (aW bF)) aY)))
   (aF (bN (i:=4) sc_law_gone_through.nd rfl (by walk_at "lc") (bA fB (aX aK (pv 1) aC (fun _ _=>rfl)) (aX aK (pv 2) aC (fun _ _=>rfl))))
   (aF (bU (aP mG (bA lU aC (bA bM (aX aK (pv 2) aC (fun _ _=>rfl)) aC)) (bA bM (bG aR rfl B.len_ AZ (aA (pv 4) aG)) aC) (aZ _)) (aH (aW bF)) aY)
   (aH (aW (cH (aA (bA fB (dF (aA (aX aK (pv 0) aC (fun _ _=>rfl)) aG)) (pv 4)) (aA (bA bM (aX aK (pv 2) aC (fun _ _=>rfl)) aC) aG))))))))))))),
  ((aQ (bY (aV (dC aB)) (bB (aL (cL (aM (aN (dM bO)) (aM aD bO))))) bZ)
   (aQ (bY (cZ (dB (dW (j6 Kt (by decide) aB))) (cZ (aV (mX (cT aB) aD)) (dB (dW (aN (bD (aO (bC aB aD) bH))))))) (bB (aL bW)) bZ)
   (aQ (bV (aL (aN (bD (aO (bC aB aD) bH)))))
   (aQ (bV (aL (aN (bD (aO (bC aB aD) bH)))))
   (aQ (bY (cZ (aV (dC aB)) (aV (dC aB))) (bB (aL bW)) bZ)
   (aQ (iG (jQ (lR aB (qT aD) qN)) fV (bY (gB (aV (gF aB)) (dW (aN (bD (aO (bC aB aD) (aO (bC aB aD) bH)))))) (bB (aL bW)) bZ))
   (aQ (bV (aL (aN (f9 (bC aB aD) (bC aB aD)))))
   (aQ (bY (aV (nJ (lW aD (bT (bC aB aD) aD)) (bT (cT aB) aD))) (bB (aL bW)) bZ)
   (bB (aL (cL (aM (aN (f9 (aN (dM (aM (bC aB aD) bO))) aB)) (aM (bT (bC aB aD) aD) bO))))))))))))):VS P0 _ (aU cW))⟩
abbrev m9:AS:=top 17
theorem sc_law_right:FnScope ["_law_wait", "_law_kept", "_law_found"] ["_law_wait", "_law_kept"] (bK m9):=scM
theorem tO  {c:AA}(cl:Cls K c){f_shape:AA}{fd_shape:Ag}(M_shape:Meth K c "shape" f_shape)(F_shape:FnOk P w K mg base CX0 12 f_shape fd_shape ["self"] (oR NoP shD c))(b_shape:Binds K fd_shape ["self"] [])(F:Fun K "_law_right" "_law_right" m9 f fd)(B:Bl K mg)(Kt:Kit K)
  (a9:jG NoP P w K mg base) :
  FnOk P w K mg base CX0 13 f fd ["_law_wait", "_law_kept"] (spM NoP 2 (fX c)):=
 F.okV sc_law_right rfl rfl fun cdv A outer s H E hr=>
 have hu:=hr.units
 ⟨_,(aF (bN (i:=2) sc_law_right.nd rfl (by walk_at "lc") (aJ a9 hr rfl (aA (mZ (pv 0) cl M_shape F_shape (hr.mono (by decide)) b_shape .nil sH) aG)))
   (aH (aW (a0F (iR gC (pv 2) bF (aZ _)) (wY (iR (n8 hu) (bG (rG hu) rfl B.sorted_ boot_sorted (aA (aX aK (pv 2) aC (fun _ _=>rfl)) aG)) (bG (rG hu) rfl B.sorted_ boot_sorted (aA (pv 1) aG)) (aZ _))))))),
  ((aQ (bV (aL (aN (bD (aO nC bH)))))
   (bB (aL (a00 (gF aB) (vR (aN (xO (bC aB aD))) (aN (xO aB))))))):VS NoP _ (mF c))⟩
abbrev a6W:AS:=top 20
theorem sc_law:FnScope ["_law_script", "_law_pen_here", "_law_wait", "_law_way", "_law_often", "_law_most", "_law_kept", "_law_turn", "_law_pair", "_law_gone", "_law_found"] ["_law_script"] (bK a6W):=scM
theorem a8I  (F:Fun K "law" "law" a6W f fd)(B:Bl K mg)(Kt:Kit K){c:AA}(cl:Cls K c){fI:AA}{fdI:Ag}(hmW:mg "Waiting" = some (.ref c))(M:Mk K c fI)(FI:FnOk P w K mg base CX0 1 fI fdI ["self"] (rP c))(bI:Binds K fdI ["self"] []){f_first:AA}{fd_first:Ag}(M_first:Meth K c "first" f_first)(F_first:FnOk P w K mg base CX0 1 f_first fd_first ["self"] (v9 c))(b_first:Binds K fd_first ["self"] []){f_shape:AA}{fd_shape:Ag}(M_shape:Meth K c "shape" f_shape)(F_shape:FnOk P w K mg base CX0 12 f_shape fd_shape ["self"] (oR NoP shD c))(b_shape:Binds K fd_shape ["self"] []){f_put:AA}{fd_put:Ag}(M_put:Meth K c "put" f_put)(F_put:FnOk P w K mg base CX0 4 f_put fd_put ["self", "time", "key"] (spL NoP (tY c "kept") 3 (a3W plD)))(b_put:Binds K fd_put ["self", "time", "key"] []){f_take:AA}{fd_take:Ag}(M_take:Meth K c "take" f_take)(F_take:FnOk P w K mg base CX0 4 f_take fd_take ["self", "time", "key"] (spL NoP (tY c "kept") 3 (wF plD)))(b_take:Binds K fd_take ["self", "time", "key"] [])
  (aw:Cal P w K mg base 1 "_law_pen" ["_law_script", "_law_k"] (xG K))
  (af:pO NoP P w K mg base)
  (ak:uI NoP P w K mg base)
  (ax:v8 NoP P w K mg base)
  (al:u9 NoP P w K mg base c)
  (hL:∀ pen,(o7 c) (.no::.box (penF.box pen 1)::At 9 .no) iW) :
  FnOk P w K mg base CX0 14 f fd ["_law_script"] (a4E K):=by
 refine F.ok sc_law (fun vs H Q E h=>?_) (fun cdv A outer s H vs Q E hr h=>?_)
 ·obtain⟨a,ns,rfl,hS,h63,q⟩:=h;rfl
 have hu:=hr.units;obtain⟨a,ns,rfl,hS,h63,q⟩:=h;exact law_bodyC (k:=9) ⟨by decide,by decide⟩ (bN (i:=1) sc_law.nd rfl (by walk_at "lc") (aJ aw hr rfl (aA (pv 0) (aA aC aG)))) ⟨_,(aF (bN (i:=2) sc_law.nd rfl (by walk_at "lc") (a3V M FI (hr.mono (by decide)) rfl hmW bI .nil sH))
   (aF (bU (aP gC (mZ (pv 2) cl M_shape F_shape (hr.mono (by decide)) b_shape .nil sH) bF (aZ _)) (aH (aW xW)) aY)
   (aF (bN (i:=3) sc_law.nd rfl (by walk_at "lc") (aJ af hr rfl (aA (pv 1) (aA aC aG))))
   (aF (bN (i:=4) sc_law.nd rfl (by walk_at "lc") (aJ af hr rfl (aA (pv 1) (aA aC aG))))
   (aF (bN (i:=5) sc_law.nd rfl (by walk_at "lc") (aX aK (dF (aA aC (aA aC (aA aC (aA aC (aA aC (aA aC (aA aC (aA aC aG))))))))) (aJ af hr rfl (aA (pv 1) (aA aC aG))) (fun _ _=>rfl)))
   (aF (bU (aP (n8 hu) (aJ af hr rfl (aA (pv 1) (aA aC aG))) aC (aZ _)) (aH (bN (i:=5) sc_law.nd rfl (by walk_at "lc") aC)) aY)
   (aF (bN (i:=6) sc_law.nd rfl (by walk_at "lc") (dF aG))
   (aF (iH BH rfl (a2D rfl B.range_ (aA (bA bM aC (aJ af hr rfl (aA (pv 1) (aA (pv 5) aG)))) aG)) (fW (i:=7) sc_law.nd rfl (by walk_at "lc")) (aF (bN (i:=8) sc_law.nd rfl (by walk_at "lc") (cH (aA (aJ ax hr rfl (aA (pv 1) (aA (pv 3) (aA (pv 7) aG)))) (aA (cH (aA (aJ af hr rfl (aA (pv 1) (aA aC aG))) (aA (pv 7) aG))) aG))))
   (aF (nY (zV (pv 2) cl M_put F_put (hr.mono (by decide)) b_put .nil sH (aA (aX aK (pv 8) aC (fun _ _=>rfl)) (aA (aX aK (pv 8) aC (fun _ _=>rfl)) aG))))
   (aF (nY (a3Y Dz PySem.F.slot_list_append PySem.F.type_list_append a0B (pv 6) (aA (pv 8) aG)))
   (aF (bU (PW.pt (iJ (aP mG (pv 4) aC (aZ _)) (fU (aP vU (aJ af hr rfl (aA (pv 1) (aA aC aG))) (pv 4) (aZ _))))) (aF (bN (i:=9) sc_law.nd rfl (by walk_at "lc") (aX aK (pv 6) (aJ af hr rfl (aA (pv 1) (aA (bG aR rfl B.len_ AZ (aA (pv 6) aG)) aG))) (fun _ _=>rfl)))
   (aF (bU (aP (n8 hu) (aJ af hr rfl (aA (pv 1) (aA aC aG))) aC (aZ _)) (aH (bN (i:=9) sc_law.nd rfl (by walk_at "lc") (aX aK (dF (aA (aJ ak hr rfl (aA (pv 6) aG)) (aA (aX aK (pv 6) (aAD a8E aC) (fun _ _=>rfl)) aG))) (aJ af hr rfl (aA (pv 1) (aA aC aG))) (fun _ _=>rfl)))) aY)
   (aF (bU (aP (gG hu) (mZ (pv 2) cl M_first F_first (hr.mono (by decide)) b_first .nil sH) (aJ ak hr rfl (aA (pv 6) aG)) (aZ _)) (aH (aW xW)) aY)
   (aF (nY (zV (pv 2) cl M_take F_take (hr.mono (by decide)) b_take .nil sH (aA (aX aK (pv 9) aC (fun _ _=>rfl)) (aA (aX aK (pv 9) aC (fun _ _=>rfl)) aG))))
   (aH (nY (a3Y Dz PySem.F.slot_list_remove PySem.F.type_list_remove (a1A hu) (pv 6) (aA (pv 9) aG)))))))) aY)
   (aH (bU (PW.pt (iJ (aP (n8 hu) (bA jU (pv 7) (aX aK (dF (aA aC (aA aC aG))) (a1Y a2I rfl B.int_ boot_int (aA (iR mG (pv 5) aC (aZ _)) aG)) (fun _ _=>rfl))) aC (aZ _)) (fU (dX (cJ (aJ al hr rfl (aA (pv 2) (aA (pv 6) aG)))))))) (aH (aW xW)) aY)))))))
   (aF (bN (i:=10) sc_law.nd rfl (by walk_at "lc") (mZ (pv 2) cl M_shape F_shape (hr.mono (by decide)) b_shape .nil sH))
   (aH (aW (a0F (aJ al hr rfl (aA (pv 2) (aA (pv 6) aG))) (wY (iR (n8 hu) (mZ (pv 2) cl M_shape F_shape (hr.mono (by decide)) b_shape .nil sH) (pv 10) (aZ _))))))))))))))),
  ((aQ (bV a67)
   (aQ (bY (aV (gF nC)) (bB (aL yH)) bZ)
   (aQ (bV (aL (aN (dJ (aO aD bH)))))
   (aQ (bV (aL (aN (dJ (aO aD bH)))))
   (aQ (bV (aL (bC (aN (dM (aM aD (aM aD (aM aD (aM aD (aM aD (aM aD (aM aD (aM aD bO)))))))))) (aN (dJ (aO aD bH))))))
   (aQ (bY (aV (vR (aN (dJ (aO aD bH))) aD)) (bV (aL aD)) bZ)
   (aQ (bV (dM bO))
   (aQ (iG (a6B (aM (bT aD (aN (dJ (aO aB bH)))) bO)) fV (aQ (bV (aL (cL (aM (aN (dJ (aO aB (aO aB bH)))) (aM (cL (aM (aN (dJ (aO aD bH))) (aM aB bO))) bO)))))
   (aQ (zQ (aN (vZ (xJ (fun _=>rfl)) (aO (bC aB aD) (aO (bC aB aD) bH)))))
   (aQ (a1R aB)
   (aQ (bY (gB (aV (nJ aB aD)) (aV (zP (aN (dJ (aO aD bH))) aB))) (aQ (bV (aL (a4B (aN (dJ (aO a69 bH))))))
   (aQ (bY (aV (vR (aN (dJ (aO aD bH))) aD)) (bV (aL (a3I (bs:=[false,true]) (bC (aN (dM (aM (aN (bD (aO aB bH))) (aM (bC aB (a7H aD)) bO)))) (aN (dJ (aO aD bH))))))) bZ)
   (aQ (bY (vY (aV (mX a0V (aN (bD (aO aB bH)))))) (bB (aL yH)) bZ)
   (aQ (zQ (aN (vZ (xJ (fun _=>rfl)) (aO (bC aB aD) (aO (bC aB aD) bH)))))
   (zO aB))))) bZ)
   (bY (vY (gB (aV (vR (a5G aB (bC (aN (dM (aM aD (aM aD bO)))) (a6R (nJ aB aD)))) aD)) (dB (dW (zY (aN (bD (a04 (aO aB bH))))))))) (bB (aL yH)) bZ))))))
   (aQ (bV (aL nC))
   (a7G (bB (aL (a00 (zY (aN (bD (a04 (aO aB bH))))) (vR nC aB)))))))))))))):VS NoP _ (o7 c))⟩ rfl hS hL q
end
abbrev Pr:=Rat×(Int×Int)
def zE (k:Int×Int):D:=.tuple [.int k.1,.int k.2]
def dPr (p:Pr):D:=.tuple [qX p.1,zE p.2]
def dO (xs:List Pr):List D:=xs.map dPr
def kLt (a b:Int×Int):Prop:=a.1<b.1∨a.1=b.1∧a.2<b.2
def pLt (a b:Pr):Prop:=a.1<b.1∨a.1=b.1∧kLt a.2 b.2
instance (a b:Int×Int):Decidable (kLt a b):=inferInstanceAs (Decidable (_∨_))
instance (a b:Pr):Decidable (pLt a b):=inferInstanceAs (Decidable (_∨_))
theorem a1U (a b:Int×Int):HT.lexLt [a.1,a.2] [b.1,b.2]=decide (kLt a b):=by
 rw[HT.lexLt_cons,HT.lexLt_cons,HT.lexLt_nil_nil]
 by_cases h:a.1=b.1
 ·rw[if_pos h]
  by_cases h2:a.2=b.2
  ·rw[if_pos h2];exact(decide_eq_false (by unfold kLt; omega)).symm
  ·rw[if_neg h2];exact decide_eq_decide.mpr (by unfold kLt; omega)
 ·rw[if_neg h];exact decide_eq_decide.mpr (by unfold kLt; omega)
theorem a9J (k:Int×Int):Gd 1 (zE k):=a97 (o8 _) (o8 _)
theorem qR (p:Pr):Gd 2 (dPr p):=a97 (a7S _) (a9J _)
theorem a8F (xs:List Pr):Gd 3 (.list (dO xs)):=a2N (n:=2) fun d h=>by
 obtain⟨p,_,rfl⟩:=Ci.mp h;exact qR p
theorem a77 (a b:Int×Int):Au (zE a) (zE b)=decide (a=b):=by
 show((a.1==b.1)&&((a.2==b.2)&&true))=decide (a=b)
 obtain⟨a1,a2⟩:=a;obtain⟨b1,b2⟩:=b
 by_cases e:a1=b1<;>by_cases f:a2=b2<;>simp[e,f]
theorem wZ (a b:Pr):Au (dPr a) (dPr b)=decide (a=b):=by
 show(Au (qX a.1) (qX b.1)&&(Au (zE a.2) (zE b.2)&&true))=decide (a=b)
 rw[Bool.and_true,a0D,a77];obtain⟨a1,a2⟩:=a;obtain⟨b1,b2⟩:=b
 by_cases e:a1=b1<;>by_cases f:a2=b2<;>simp[e,f]
theorem cY (xs:List Pr):(dO xs).length=xs.length:=A3 _
theorem a3E {xs:List Pr}{i:Nat}{d:D}(h:(dO xs)[i]?=some d):∃ p,xs[i]?=some p∧d=dPr p:=by
 unfold dO at h;rw[BD] at h
 cases e:xs[i]? with
 | none=>rw[e] at h; cases h
 | some l=>rw[e] at h; cases h; exact⟨l,rfl,rfl⟩
theorem a6I {n i:Nat}(h:i<n):ixN n (i:Int)=some i:=by
 unfold ixN;rw[if_pos (by omega),if_pos (by omega),EU]
theorem a74 {ds:List D}{i:Nat}{d:D}(h:ds[i]?=some d):ixD (.list ds) (.int (i:Int))=some d:=by
 show atI ds (i:Int)=some d;unfold atI;rw[a6I (A4.mp h).1];exact h
theorem wU {xs:List Pr}{i:Nat}(h:i<xs.length):ixD (.list (dO xs)) (.int (i:Int))=some (dPr xs[i]):=a74 (by unfold dO; rw[BD,Av h]; rfl)
theorem rR (xs:List Pr):a7E (.list (dO xs))=some (.int (xs.length:Int)):=by show some (Bo ((dO xs).length:Int))=_; rw[cY]
theorem pLt.irrefl (a:Pr):¬pLt a a:=by unfold pLt kLt; grind
theorem pLt.trans {a b c:Pr}(h:pLt a b)(g:pLt b c):pLt a c:=by unfold pLt kLt at *; grind
theorem kLt.tri (a b:Int×Int):kLt a b∨a=b∨kLt b a:=by
 obtain⟨a,b'⟩:=a;obtain⟨d,e⟩:=b;unfold kLt;simp only[EV];omega
theorem pLt.tri (a b:Pr):pLt a b∨a=b∨pLt b a:=by
 obtain⟨a,k⟩:=a;obtain⟨b,l⟩:=b;unfold pLt;simp only[EV]
 by_cases h:a=b
 ·rcases kLt.tri k l with z|z|z
  ·exact .inl (.inr ⟨h,z⟩)
  ·exact .inr (.inl ⟨h,z⟩)
  ·exact .inr (.inr (.inr ⟨h.symm,z⟩))
 ·grind
abbrev Srt (xs:List Pr):Prop:=xs.Pairwise pLt
def p8 (xs:List Pr)(p:Pr):Nat:=(xs.filter fun x=>decide (pLt x p)).length
theorem sI (xs:List Pr)(p:Pr):p8 xs p≤xs.length:=E5 _ _
theorem uE (x:Pr)(xs:List Pr)(p:Pr):p8 (x::xs) p=(if pLt x p then 1 else 0)+p8 xs p:=by
 unfold p8;rw[B5]
 by_cases h:pLt x p
 ·rw[if_pos (by simpa using h),if_pos h,Aw]; omega
 ·rw[if_neg (by simpa using h),if_neg h]; omega
theorem uG {xs:List Pr}{p:Pr}(h:∀ x∈xs,¬pLt x p):p8 xs p=0:=by
 unfold p8;rw[E6.mpr fun x hx=>by simpa using h x hx];rfl
theorem zG {xs:List Pr}{p:Pr}{k:Nat}(hk:k≤xs.length)(h1:∀ j (h:j<xs.length),j<k→pLt xs[j] p)(h2:∀ j (h:j<xs.length),k≤j→¬pLt xs[j] p):p8 xs p=k:=by
 induction xs generalizing k with
 | nil=>simp only[Cg,Nat.le_zero_eq] at hk; subst hk; rfl
 | cons x xs ih=>
  rw[uE]
  cases k with
  | zero=>
   have:=h2 0 (by simp) (AT _);rw[if_neg (by simpa using this)];rw[uG fun y hy=>?_];obtain⟨j,hj,rfl⟩:=Cu hy;exact h2 (j+1) (by simpa using hj) (Ah _)
  | succ k=>
   have:=h1 0 (by simp) (by omega);rw[if_pos (by simpa using this),ih (k:=k) (by simpa using hk) (fun j hj hjk=>h1 (j+1) (by simpa using hj) (by omega)) fun j hj hjk=>h2 (j+1) (by simpa using hj) (by omega)];omega
theorem Srt.lt {xs:List Pr}(h:Srt xs){i j:Nat}(hi:i<xs.length)(hj:j<xs.length)(hij:i<j):pLt xs[i] xs[j]:=EQ.mp h i j hi hj hij
theorem xT {xs:List Pr}(h:Srt xs){i:Nat}(hi:i<xs.length):p8 xs xs[i]=i:=by
 refine zG (by omega) (fun j hj hji=>h.lt hj hi hji) fun j hj hij z=>?_
 by_cases e:i=j
 ·subst e; exact pLt.irrefl _ z
 ·exact pLt.irrefl _ (z.trans (h.lt hi hj (by omega)))
theorem uF {xs:List Pr}(h:Srt xs)(p:Pr):fQ (dO xs) (p8 xs p) (dPr p)=decide (p∈xs):=by
 by_cases hp:p∈xs
 ·obtain⟨i,hi,rfl⟩:=Cu hp;rw[xT h hi,pX (by rw[cY]; exact hi),decide_eq_true hp];have e:(dO xs)[i]'(by rw[cY]; exact hi)=dPr xs[i]:=by unfold dO; rw[List.getElem_map]
  rw[e,wZ,decide_eq_true rfl]
 ·rw[decide_eq_false hp]
  by_cases hk:p8 xs p<xs.length
  ·rw[pX (by rw[cY]; exact hk)];have e:(dO xs)[p8 xs p]'(by rw[cY]; exact hk)=dPr xs[p8 xs p]:=by unfold dO; rw[List.getElem_map]
   rw[e,wZ,decide_eq_false fun z=>hp (by rw[← z]; exact Br _)]
  ·exact uJ (by rw[cY]; omega)
theorem a1O {xs:List Pr}(h:Srt xs)(p:Pr):xs.take (p8 xs p)=xs.filter (fun x=>decide (pLt x p))∧xs.drop (p8 xs p)=xs.filter (fun x => !decide (pLt x p)):=by
 induction xs with
 | nil=>exact⟨rfl,rfl⟩
 | cons x xs ih=>
  obtain⟨hx,hs⟩:=Cw.mp h;rw[uE]
  by_cases c:pLt x p
  ·obtain⟨a,b⟩:=ih hs;rw[if_pos c,Nat.add_comm,List.take_succ_cons,List.drop_succ_cons,a,b,B5,B5,if_pos (by simpa using c),if_neg (by simpa using c)];exact⟨rfl,rfl⟩
  ·have hn:∀ y∈xs,¬pLt y p:=fun y hy z=>c ((hx y hy).trans z);rw[if_neg c,uG hn,B5,if_neg (by simpa using c),B5,if_pos (by simpa using c),E6.mpr fun y hy=>by simpa using hn y hy,E7.mpr fun y hy=>by simpa using hn y hy];exact⟨rfl,rfl⟩
def a2J (xs:List Pr)(p:Pr):List Pr:=xs.take (p8 xs p)++p::xs.drop (p8 xs p)
theorem mem_insP {xs:List Pr}{p x:Pr}:x∈a2J xs p↔x=p∨x∈xs:=by
 unfold a2J;rw[A7,Aq];have:x∈xs↔x∈xs.take (p8 xs p)∨x∈xs.drop (p8 xs p):=by rw[← A7,Bk]
 rw[this];constructor
 ·rintro(h|h|h)
  ·exact .inr (.inl h)
  ·exact .inl h
  ·exact .inr (.inr h)
 ·rintro(h|h|h)
  ·exact .inr (.inl h)
  ·exact .inl h
  ·exact .inr (.inr h)
theorem a3O (xs:List Pr)(p:Pr):(a2J xs p).length=xs.length+1:=by
 unfold a2J;rw[A6,Aw,BU,Bs];have:=sI xs p;omega
theorem a3G {xs:List Pr}(h:Srt xs){p:Pr}(hp:p∉xs):Srt (a2J xs p):=by
 obtain⟨a,b⟩:=a1O h p;unfold a2J;rw[a,b];refine Cj.mpr ⟨h.sublist EW,Cw.mpr ⟨fun y hy=>?_,h.sublist EW⟩,fun x hx y hy=>?_⟩
 ·obtain⟨h1,h2⟩:=CJ.mp hy;have h2:¬pLt y p:=by simpa using h2
  rcases pLt.tri p y with z|z|z
  ·exact z
  ·exact absurd (z▸h1) hp
  ·exact absurd z h2
 ·obtain⟨_,h2⟩:=CJ.mp hx;have h2:pLt x p:=by simpa using h2
  rcases Aq.mp hy with rfl|hy
  ·exact h2
  ·obtain⟨h3,h4⟩:=CJ.mp hy;have h4:¬pLt y p:=by simpa using h4
   rcases pLt.tri p y with z|z|z
   ·exact h2.trans z
   ·exact absurd (z▸h3) hp
   ·exact absurd z h4
theorem a5O (xs:List Pr)(p:Pr):uK (dO xs) (p8 xs p:Int) (dPr p)=dO (a2J xs p):=by
 have hk:=sI xs p;unfold uK a3R a2J dO;rw[if_neg (by omega),A3,EU,Nat.min_eq_left hk,DQ,B6,List.map_take,List.map_drop]
def zA (xs:List Pr)(p:Pr):List Pr:=xs.filter fun x=>decide (x≠p)
theorem a3Q {xs:List Pr}(h:Srt xs)(p:Pr):Srt (zA xs p):=h.sublist EW
theorem mem_delP {xs:List Pr}{p x:Pr}:x∈zA xs p↔x∈xs∧x≠p:=by
 unfold zA;rw[CJ,decide_eq_true_iff]
theorem a4C (xs:List Pr)(p:Pr):(zA xs p).length≤xs.length:=E5 _ _
theorem yZ {xs:List Pr}(h:Srt xs){i:Nat}(hi:i<xs.length):xs.eraseIdx i=zA xs xs[i]:=by
 induction xs generalizing i with
 | nil=>exact absurd hi (Nat.not_lt_zero _)
 | cons x xs ih=>
  obtain⟨hx,hs⟩:=Cw.mp h
  cases i with
  | zero=>
   show xs=zA (x::xs) x;unfold zA;rw[B5,if_neg (by simp),E7.mpr fun y hy=>?_];exact decide_eq_true fun z=>pLt.irrefl x (by have:=hx y hy; rwa[z] at this)
  | succ i=>
   have hi':i<xs.length:=by simpa using hi
   show x::xs.eraseIdx i=zA (x::xs) xs[i];rw[ih hs hi'];unfold zA;have hne:x≠xs[i]:=fun z=>pLt.irrefl x (by have:=hx _ (Br hi'); rwa[← z] at this);rw[B5,if_pos (decide_eq_true hne)]
theorem oY:∀(xs:List Pr) (i:Nat),(dO xs).eraseIdx i=dO (xs.eraseIdx i)
 | [],_=>rfl
 | _::_,0=>rfl
 | x::xs,i+1=>by
  show dPr x::(dO xs).eraseIdx i=dPr x::dO (xs.eraseIdx i);rw[oY xs i]
theorem a06 {xs:List Pr}(h:Srt xs){p:Pr}(hp:p∈xs):(dO xs).eraseIdx (p8 xs p)=dO (zA xs p):=by
 obtain⟨i,hi,rfl⟩:=Cu hp;rw[xT h hi,←yZ h hi];exact oY xs i
section
variable {Q:Rv→Prop}
theorem a01 {a b:Rat}(ha:Sz 9000 a)(hb:Sz 9000 b)(q:Q (.val (.bool (decide (a<b))))):mY [.val (qX a),.val (qX b)] Q:=by
 obtain⟨a0,a1⟩:=id ha;obtain⟨b0,b1⟩:=id hb;refine zB ?_;unfold pU;walk_at "vs";rw[a4N];exact q
end
section
variable {p:AA}{n:Nat}{Q:Rv→Nat→Prop}
theorem u6 {Q:Rv→Prop}{t b:Int}(h0:0<b)(hb:Bt 9000 b)(q:Q (.val (qX (Rat.divInt t b)))):gA [.val (.int t),.val (.int b)] Q:=by
 have g0:=a92 (t:=t) (b:=b) (by omega);have g1:=a7W (t:=t) hb (by omega);refine zB ?_;unfold lB jV jK;walk_at "vs";refine uP (fun n Γ=>∃ d r,Γ=[.val (.int t),.val (.int b),.val (.int d),.val (.int r)]∧0≤d∧0≤r∧Bb d r=Bb t b∧n=r.toNat) _ ⟨_,_,rfl,a8P t,by omega,by
  have:=a70 t b;rwa[if_neg (c:=b<0) (by omega)] at this,rfl⟩ ?_
 rintro m Γ ⟨d,r,rfl,hd,hr,hg,rfl⟩;walk_at "vs";refine gY (fun c=>?_) (fun c=>?_)
 ·walk_at "vs";refine⟨c,?_⟩;walk_at "vs";have h1:=CS d (b:=r) (by omega);have h2:=CQ d c;exact⟨_,by omega,_,_,rfl,hr,h1,(a3P hd c).trans hg,rfl⟩
 ·have c':r=0:=by omega
  subst c';have e:=a71 hd;rw[hg] at e;subst e;have n:=t6 (t:=t) (b:=b) h0;walk_at "vs";refine⟨⟨g0,g1⟩,?_⟩;walk_at "vs";refine⟨⟨g0,g1⟩,?_⟩;walk_at "vs";rw[n.1,n.2];exact q
end
section
variable {p:AA}{n:Nat}{Q:Rv→Nat→Prop}
end
section
variable {Q:Rv→Prop}{a b:Pr}
theorem lY (a:Pr):ixD (dPr a) (.int 0)=some (qX a.1):=rfl
theorem rH (a:Pr):ixD (dPr a) (.int 1)=some (zE a.2):=rfl
theorem oK (k:Int×Int):zE k=.tuple ([k.1,k.2].map .int):=rfl
theorem wN (ha:Sz 60 a.1)(hb:Sz 60 b.1)(q:Q (.val (.bool (decide (pLt a b))))):g8 [.val (dPr a),.val (dPr b)] Q:=by
 obtain⟨a0,a1⟩:=id ha;obtain⟨b0,b1⟩:=id hb;refine zB ?_;unfold jF;walk_at "ls";refine gR (lY a) ?_;walk_at "ls";refine gR (lY b) ?_;walk_at "ls";refine gR (lY b) ?_;walk_at "ls";refine gR (lY a) ?_;walk_at "ls";rw[a4N];refine gY (fun c=>?_) (fun c=>?_)
 ·rw[decide_eq_true (show pLt a b from .inl c)] at q;exact q
 ·walk_at "ls";have he:a.1.num*b.1.den=b.1.num*a.1.den↔a.1=b.1:=by
   have h1:=a4N a.1 b.1;have h2:=a4N b.1 a.1;rw[decide_eq_decide] at h1 h2;constructor
   ·intro z; grind
   ·intro z; rw[z]
  refine gY (fun d=>?_) (fun d=>?_)
  ·have d:=he.mp d;walk_at "ls";refine gR (rH a) ?_;walk_at "ls";refine gR (rH b) ?_;refine⟨_,_,oK a.2,oK b.2,?_⟩;rw[a1U];have e:decide (pLt a b)=decide (kLt a.2 b.2):=decide_eq_decide.mpr ⟨fun z=>z.elim (fun y=>absurd y c) (fun y=>y.2),fun z=>.inr ⟨d,z⟩⟩;rw[e] at q;exact q
  ·have d:¬a.1=b.1:=fun z=>d (he.mpr z);rw[decide_eq_false (show ¬pLt a b from fun z=>z.elim c fun y=>d y.1)] at q;exact q
theorem a5X (ha:Sz 60 a.1)(hb:Sz 60 b.1)(q:Q (.val (.bool (decide (pLt a b))))):gJ [.val (dPr a),.val (dPr b)] Q:=by
 refine zB ?_;unfold iY;walk_at "ls";refine gR (lY a) ?_;walk_at "ls";refine gR (lY b) ?_;walk_at "ls";refine a9X (fun c=>?_) (fun c=>?_)
 ·walk_at "ls";refine gR (lY a) ?_;walk_at "ls";refine gR (lY b) ?_;walk_at "ls";refine a01 (ha.mono (by decide)) (hb.mono (by decide)) ?_;have e:decide (pLt a b)=decide (a.1<b.1):=decide_eq_decide.mpr ⟨fun z=>z.elim (fun y=>y) (fun y=>absurd y.1 c),fun z=>.inl z⟩;rw[e] at q;exact q
 ·unfold j5;walk_at "ls";refine gR (rH a) ?_;walk_at "ls";refine gR (rH b) ?_;refine⟨_,_,oK a.2,oK b.2,?_⟩;rw[a1U];have e:decide (pLt a b)=decide (kLt a.2 b.2):=decide_eq_decide.mpr ⟨fun z=>z.elim (fun y=>by rw[c] at y; exact absurd y (by grind)) (fun y=>y.2),fun z=>.inr ⟨c,z⟩⟩;rw[e] at q;exact q
theorem a1W {xs:List Pr}{e:Pr}(h:Srt xs)(hz:∀ x∈xs,Sz 60 x.1)(he:Sz 60 e.1)(q:Q (.val (.int (p8 xs e:Int)))):lN [.val (.list (dO xs)),.val (dPr e)] Q:=by
 refine zB ?_;unfold nW;walk_at "ls";refine gR (rR xs) ?_;walk_at "ls";refine uP (fun m Γ=>∃(lo:Nat) (hi:Nat) (x:Sl),Γ=[.val (.list (dO xs)),.val (dPr e),.val (.int (lo:Int)),.val (.int (hi:Int)),x]∧lo≤hi∧hi≤xs.length∧m=hi-lo∧(∀ j (h:j<xs.length),j<lo→pLt xs[j] e)∧(∀ j (h:j<xs.length),hi≤j→¬pLt xs[j] e)) xs.length ⟨0,xs.length,_,rfl,by omega,by omega,by omega,fun j _ h=>absurd h (by omega),fun j h1 h2=>absurd h1 (by omega)⟩ ?_;rintro m Γ ⟨lo,hi,x,rfl,h1,h2,rfl,h3,h4⟩;walk_at "ls";refine gY (fun c=>?_) (fun c=>?_)
 ·unfold mQ;walk_at "ls";refine⟨⟨by decide,by decide⟩,?_⟩;walk_at "ls";have hm:((lo:Int)+(hi:Int))/2=(((lo+hi)/2:Nat):Int):=by omega
  rw[hm];have hml:(lo+hi)/2<xs.length:=by omega
  refine gR (wU hml) ?_;walk_at "ls";refine a5X (hz _ (Br _)) he ?_;walk_at "ls";refine gY (fun d=>?_) (fun d=>?_)
  ·walk_at "ls";refine⟨hi-((lo+hi)/2+1),by omega,(lo+hi)/2+1,hi,_,rfl,by omega,h2,rfl,fun j hj hjk=>?_,h4⟩
   by_cases ej:j=(lo+hi)/2
   ·subst ej; exact d
   ·exact(h.lt hj hml (by omega)).trans d
  ·walk_at "ls";refine⟨(lo+hi)/2-lo,by omega,lo,(lo+hi)/2,_,rfl,by omega,by omega,rfl,h3,fun j hj hjk z=>?_⟩
   by_cases ej:j=(lo+hi)/2
   ·subst ej; exact d z
   ·exact d ((h.lt hml hj (by omega)).trans z)
 ·have e1:lo=hi:=by omega
  subst e1;unfold mV;walk_at "ls";rw[zG h2 h3 h4] at q;exact q
end
theorem xF (xs:List Pr):∀ d∈dO xs,Good d:=fun d hd=>by
 obtain⟨p,_,rfl⟩:=Ci.mp hd;exact(qR p).good
theorem a0Z (xs:List Pr):Goods (dO xs):=a3B (n:=2) (fun d hd=>by
 obtain⟨p,_,rfl⟩:=Ci.mp hd;exact qR p)
theorem Srt.nodup {xs:List Pr}(h:Srt xs):xs.Nodup:=B1.imp (S:=fun a b=>a≠b) (fun{a b} (z:pLt a b) (e:a=b)=>pLt.irrefl a (by rw[← e] at z; exact z)) h
theorem eqF {A B:Prop}{d:D}(g:Good d)(b:B):if (!PyData.eqv d d)=true then A else B:=by rw[rY g]; exact rF b
def ixs (n:Nat):Nat→Nat→List Nat
 | 0,_=>[]
 | f+1,a=>if a<n then a::(ixs n f (2*a+1)++ixs n f (2*a+2)) else[]
def rln (n:Nat):Nat→Nat→Nat
 | 0,_=>0
 | f+1,a=>if a<n then rln n f (2*a+2)+1 else 0
theorem mL {n:Nat}:∀{f a i:Nat},i∈ixs n f a→i<n∧∃ d,(i+1)/2^d=a+1
 | 0,_,_,h=>nomatch h
 | f+1,a,i,h=>by
  unfold ixs at h
  split at h
  ·rcases Aq.mp h with rfl|h
   ·exact⟨by assumption,0,by simp⟩
   ·rcases A7.mp h with h|h
    ·obtain⟨h1,d,h2⟩:=mL h;refine⟨h1,d+1,?_⟩;rw[Bg,←CO,h2];omega
    ·obtain⟨h1,d,h2⟩:=mL h;refine⟨h1,d+1,?_⟩;rw[Bg,←CO,h2];omega
  ·cases h
theorem vX {m d e:Nat}(h:d<e):m/2^e≤m/2^d/2:=by
 obtain⟨k,rfl⟩:∃ k,e=d+1+k:=⟨e-(d+1),by omega⟩;rw[Nat.pow_add,Bg,←CO,←CO];exact C0 _ _
theorem n6 {n:Nat}:∀(f a:Nat),(ixs n f a).Nodup
 | 0,_=>List.nodup_nil
 | f+1,a=>by
  unfold ixs
  split
  ·refine CK.mpr ⟨fun h=>?_,List.nodup_append.mpr ⟨n6 f _,n6 f _,fun x hx y hy e=>?_⟩⟩
   ·rcases A7.mp h with h|h
    ·obtain⟨_,d,h2⟩:=mL h;have:=C0 (a+1) (2^d);omega
    ·obtain⟨_,d,h2⟩:=mL h;have:=C0 (a+1) (2^d);omega
   ·subst e;obtain⟨_,d,h1⟩:=mL hx;obtain⟨_,e,h2⟩:=mL hy;rcases Nat.lt_trichotomy d e with c|c|c
    ·have:=vX (m:=x+1) c;omega
    ·subst c; omega
    ·have:=vX (m:=x+1) c;omega
  ·exact List.nodup_nil
theorem uV {n:Nat}:∀{f a i d:Nat},i<n→(i+1)/2^d=a+1→n<(a+1)*2^f→i∈ixs n (f+1) a
 | f,a,i,d,hi,hd,hf=>by
  have hai:a≤i:=by
   have:=C0 (i+1) (2^d);omega
  unfold ixs;rw[if_pos (by omega)]
  cases d with
  | zero=>
   simp at hd;rw[hd];exact Bf
  | succ d=>
   cases f with
   | zero=>simp at hf; omega
   | succ f=>
    rw[Bg,←CO] at hd;have h2:2^(f+1)=2*2^f:=by rw[Bg,Cn]
    rw[h2,←DZ] at hf;refine BK _ (A7.mpr ?_);have hk:(i+1)/2^d=2*a+1+1∨(i+1)/2^d=2*a+2+1:=by omega
    have hm:(a+1)*2*2^f≤(2*a+2+1)*2^f:=EX _ (by omega);rcases hk with hk|hk
    ·refine .inl (uV hi hk ?_);rw[show 2*a+1+1=(a+1)*2 by omega];exact hf
    ·exact .inr (uV hi hk (by omega))
theorem a8X:∀ m:Nat,1≤m→∃ d,m/2^d=1:=fun m=>by
 induction m using Nat.strongRecOn with
 | _ m ih=>
  intro h
  by_cases c:m=1
  ·exact⟨0,by rw[c]⟩
  ·obtain⟨d,hd⟩:=ih (m/2) (by omega) (by omega);refine⟨d+1,?_⟩;rw[Bg,Cn,←CO];exact hd
theorem a3U {n f:Nat}(hf:n<2^f):(ixs n (f+1) 0).Perm (BY n):=
 (EY (n6 _ _) List.nodup_range).mpr fun i=>by
  rw[B7];refine⟨fun h=>(mL h).1,fun h=>?_⟩;obtain⟨d,hd⟩:=a8X (i+1) (by omega);exact uV h hd (by rw[B9,Nat.one_mul]; exact hf)
theorem a1D {n:Nat}(f a:Nat):(ixs n f a).length≤n:=by
 have h:=List.Nodup.length_le_of_subset (n6 (n:=n) f a) (l₂:=BY n) fun i hi=>B7.mpr (mL hi).1;rwa[DP] at h
theorem sE {n:Nat}:∀(f:Nat) {a b:Nat},b≤a→2^rln n f a≤(ixs n f b).length+1
 | 0,_,_,_=>by show 2^0≤_; simp
 | f+1,a,b,h=>by
  unfold rln ixs
  by_cases c:a<n
  ·rw[if_pos c,if_pos (by omega),Aw,A6,Bg];have h1:=sE (n:=n) f (a:=2*a+2) (b:=2*b+1) (by omega);have h2:=sE (n:=n) f (a:=2*a+2) (b:=2*b+2) (by omega);omega
  ·rw[if_neg c];simp
theorem a82 {n:Nat}(f a:Nat):rln n f a≤f:=by
 induction f generalizing a with
 | zero=>exact AT _
 | succ f ih=>
  unfold rln
  split
  ·have:=ih (2*a+2); omega
  ·omega
def shT (xs:List Pr):Nat→Nat→D
 | 0,_=>.none
 | f+1,a=>match xs[a]? with
  | some p=>.tuple [dPr p,shT xs f (2*a+1),shT xs f (2*a+2)]
  | none=>.none
def pre (xs:List Pr)(f a:Nat):List Pr:=(ixs xs.length f a).filterMap fun i=>xs[i]?
theorem a3J {xs:List Pr}{f a:Nat}(h:xs[a]?=none):pre xs (f+1) a=[]:=by
 unfold pre ixs;rw[DK] at h;rw[if_neg (by omega)];rfl
theorem a2T {xs:List Pr}{f a:Nat}{p:Pr}(h:xs[a]?=some p):pre xs (f+1) a=p::(pre xs f (2*a+1)++pre xs f (2*a+2)):=by
 have ha:a<xs.length:=(A4.mp h).1;unfold pre
 conv=>lhs; unfold ixs
 rw[if_pos ha,B4,h,List.filterMap_append]
theorem a6H (xs:List Pr)(f a:Nat):(pre xs f a).length=(ixs xs.length f a).length:=by
 unfold pre;have:∀ l:List Nat,(∀ i∈l,i<xs.length)→(l.filterMap fun i=>xs[i]?).length=l.length:=fun l hl=>by
  induction l with
  | nil=>rfl
  | cons i l ih=>
   rw[B4,Av (hl i Bf)];show _+1=_+1;rw[ih fun j hj=>hl j (BK _ hj)]
 exact this _ fun i hi=>(mL hi).1
theorem a3L {xs:List Pr}{f:Nat}(hf:xs.length<2^f):(pre xs (f+1) 0).Perm xs:=by
 unfold pre;refine((a3U hf).filterMap _).trans ?_;have:(BY xs.length).filterMap (fun i=>xs[i]?)=xs:=by
  clear hf
  induction xs with
  | nil=>rfl
  | cons x xs ih=>
   rw[Aw,List.range_succ_eq_map,B4];show x::_=_;rw[List.filterMap_map];exact congrArg _ ih
 rw[this]
theorem qW (xs:List Pr):∀ f a,iU (shT xs f a)=true
 | 0,_=>rfl
 | f+1,a=>by
  unfold shT
  cases xs[a]? with
  | none=>rfl
  | some p=>
   have h1:=qW xs f (2*a+1);have h2:=qW xs f (2*a+2);show jP [dPr p,shT xs f (2*a+1),shT xs f (2*a+2)]=true;simp[jP,h1,h2];rfl
theorem a03 (xs:List Pr):∀ f a,Gd (f+2) (shT xs f a)
 | 0,_=>gd_none.mono
 | f+1,a=>by
  unfold shT
  cases xs[a]? with
  | none=>exact gd_none.mono (by omega)
  | some p=>
   refine a1H (n:=f+2) fun d hd=>?_;simp only[Aq,CL,or_false] at hd;rcases hd with rfl|rfl|rfl
   ·exact(qR p).mono (by omega)
   ·exact a03 xs f _
   ·exact a03 xs f _
theorem sZ (xs:List Pr)(a:Nat):Good (shT xs 10 a):=(a03 xs 10 a).good
def mSh:Nat→Fm
 | 0=>mNo
 | j+1=>mFn 0 (bJ (mSh j))
def mGo:Nat→Fm
 | 0=>mNo
 | j+1=>mFn 4 (aU (mGo j))
section
variable {xs:List Pr}
theorem yF (hl:xs.length≤400):∀(f a:Nat) {Q:Rv→Prop},a≤100000→xs.length<(a+1)*2^f→Q (.val (shT xs (f+1) a))→mSh (f+1) [.val (.list (dO xs)),.val (.int (a:Int))] Q:=by
 intro f
 induction f with
 | zero=>
  intro a Q ha hf q;refine zB ?_;unfold bJ;walk_at "ls";refine gR (rR xs) ?_;walk_at "ls";refine gY (fun c=>?_) (fun c=>?_)
  ·walk_at "ls";have e:xs[a]?=none:=DK.mpr (by omega);unfold shT at q;rw[e] at q;exact q
  ·simp at hf;omega
 | succ f ih=>
  intro a Q ha hf q;have h2:2^(f+1)=2*2^f:=by rw[Bg,Cn]
  rw[h2,←DZ] at hf;refine zB ?_;unfold bJ;walk_at "ls";refine gR (rR xs) ?_;walk_at "ls";refine gY (fun c=>?_) (fun c=>?_)
  ·walk_at "ls";have e:xs[a]?=none:=DK.mpr (by omega);unfold shT at q;rw[e] at q;exact q
  ·have ha2:a<xs.length:=by omega
   have e:xs[a]?=some xs[a]:=Av ha2;unfold shT at q;rw[e] at q;walk_at "ls";unfold iI;walk_at "ls";refine gR (wU ha2) ?_;walk_at "ls";refine⟨a7I (a3X (by omega) (by omega)) (a3X (by omega) (by omega)),?_⟩;walk_at "ls";rw[show(2:Int)*(a:Int)+1=((2*a+1:Nat):Int) by omega];refine ih (2*a+1) (by omega) (by rw[show 2*a+1+1=(a+1)*2 by omega]; exact hf) ?_;walk_at "ls";refine⟨a7I (a3X (by omega) (by omega)) (a3X (by omega) (by omega)),?_⟩;walk_at "ls";rw[show(2:Int)*(a:Int)+2=((2*a+2:Nat):Int) by omega];have hm:(a+1)*2*2^f≤(2*a+2+1)*2^f:=EX _ (by omega);refine ih (2*a+2) (by omega) (by omega) ?_;walk_at "ls";exact q
theorem t8 (hl:xs.length≤400):shD (dO xs) (shT xs 10 0):=yF hl 9 0 (by decide) (by simp; omega) rfl
end
section
variable {Q:Rv→Prop}{xs:List Pr}
theorem a2L (p:Pr)(q:Q (.val (.bool true))):gH [.val (dPr p)] Q:=by
 refine zB ?_;unfold iT;walk_at "ls";refine gR (d:=.int 2) rfl ?_;walk_at "ls";rw[decide_eq_true rfl];walk_at "ls";unfold j8;walk_at "ls";refine rQ (fun i Γ=>∃ x,Γ=[.val (dPr p),x]) ⟨_,rfl⟩ ?_ ?_
 ·rintro i d Γ K hd ⟨x,rfl⟩ hk;have hd:d=qX p.1∨d=zE p.2:=by
   match i,hd with
   | 0,hd=>exact .inl (A1.inj hd).symm
   | 1,hd=>exact .inr (A1.inj hd).symm
   | i+2,hd=>cases hd
  walk_at "ls";unfold j9;walk_at "ls";have hk1:a4Y (mR d) "tuple" = true:=by rcases hd with rfl|rfl<;>rfl
  have hk2:a7E d=some (.int 2):=by rcases hd with rfl|rfl<;>rfl
  refine aCB hk1 ?_;walk_at "ls";refine gR hk2 ?_;walk_at "ls";rw[decide_eq_true rfl];walk_at "ls";exact hk.nx _ ⟨_,rfl⟩
 ·rintro Γ ⟨x,rfl⟩;unfold j7;walk_at "ls";exact q
def goD (xs:List Pr)(f a:Nat):D:=.tuple [.list (dO (pre xs f a)),.int (rln xs.length f a:Int)]
theorem a0Y (hs:Srt xs)(hz:∀ x∈xs,Sz 60 x.1)(hl:xs.length≤400):∀(f a:Nat) {Q:Rv→Prop},f≤30→xs.length<(a+1)*2^f→Q (.val (goD xs (f+1) a))→mGo (f+1) [.val (shT xs (f+1) a)] Q:=by
 have leaf:∀(f a:Nat) {Q:Rv→Prop},xs[a]?=none→Q (.val (goD xs (f+1) a))→mGo (f+1) [.val (shT xs (f+1) a)] Q:=fun f a Q e q=>by
  unfold goD rln at q;rw[a3J e,if_neg (by rw[DK] at e; omega)] at q;unfold shT;rw[e];refine zB ?_;unfold aU;walk_at "ls";exact q
 intro f
 induction f with
 | zero=>
  intro a Q h30 hf q;refine leaf 0 a (DK.mpr ?_) q;simp at hf;omega
 | succ f ih=>
  intro a Q h30 hf q
  cases e:xs[a]? with
  | none=>exact leaf _ a e q
  | some p=>
   have ha:a<xs.length:=(A4.mp e).1;have ep:p=xs[a]:=by rw[Av ha] at e; exact(A1.inj e).symm
   have h2:2^(f+1)=2*2^f:=by rw[Bg,Cn]
   rw[h2,←DZ] at hf;have hm:(a+1)*2*2^f≤(2*a+2+1)*2^f:=EX _ (by omega);have l1:=sE (n:=xs.length) (f+1) (a:=2*a+2) (b:=2*a+1) (by omega);have l2:=sE (n:=xs.length) (f+1) (a:=2*a+2) (b:=2*a+2) (by omega);have l3:=a1D (n:=xs.length) (f+1) (2*a+1);have l4:=a1D (n:=xs.length) (f+1) (2*a+2);have l5:=a82 (n:=xs.length) (f+1) (2*a+2);rw[← a6H] at l1 l2 l3 l4;unfold goD at q;rw[a2T e] at q;have er:rln xs.length (f+1+1) a=rln xs.length (f+1) (2*a+2)+1:=by
    conv=>lhs; unfold rln
    rw[if_pos ha]
   rw[er] at q;have before:∀(b:Nat) (y:Pr),a<b→xs[b]?=some y→¬pLt y p:=fun b y hab eb z=>by
    have hb:=(A4.mp eb).1;rw[Av hb] at eb;have:=hs.lt ha hb hab;rw[← ep,A1.inj eb] at this;exact pLt.irrefl _ (this.trans z)
   have i1:=fun{Q}=>@ih (2*a+1) Q (by omega) (by rw[show 2*a+1+1=(a+1)*2 by omega]; exact hf);have i2:=fun{Q}=>@ih (2*a+2) Q (by omega) (by omega);have s1:shT xs (f+1) (2*a+1)=.none∨∃ y u v,xs[2*a+1]?=some y∧shT xs (f+1) (2*a+1)=.tuple [dPr y,u,v]:=by
    unfold shT
    cases e1:xs[2*a+1]? with
    | none=>exact .inl rfl
    | some y=>exact .inr ⟨y,_,_,rfl,rfl⟩
   have s2:shT xs (f+1) (2*a+2)=.none∨∃ y u v,xs[2*a+2]?=some y∧shT xs (f+1) (2*a+2)=.tuple [dPr y,u,v]:=by
    unfold shT
    cases e1:xs[2*a+2]? with
    | none=>exact .inl rfl
    | some y=>exact .inr ⟨y,_,_,rfl,rfl⟩
   have et:shT xs (f+1+1) a=.tuple [dPr p,shT xs (f+1) (2*a+1),shT xs (f+1) (2*a+2)]:=by
    conv=>lhs; unfold shT
    rw[e]
   rw[et];generalize shT xs (f+1) (2*a+1)=t1 at *;generalize shT xs (f+1) (2*a+2)=t2 at *;generalize hr:rln xs.length (f+1) (2*a+2)=r at *;refine zB ?_;unfold aU;walk_at "ls";unfold fO;walk_at "ls";refine gR (d:=.int 3) rfl ?_;walk_at "ls";rw[decide_eq_true rfl];walk_at "ls";refine gR (d:=dPr p) rfl ?_;walk_at "ls";refine a2L p ?_;walk_at "ls";unfold fD;walk_at "ls";refine gR (d:=t1) rfl ?_;walk_at "ls";refine i1 ?_;walk_at "ls";refine gR (d:=t2) rfl ?_;walk_at "ls";refine i2 ?_;unfold goD;walk_at "ls";rw[hr];unfold fH;walk_at "ls";have cs:∀(d:D) (b:Nat),a<b→(d=.none∨∃ y u v,xs[b]?=some y∧d=.tuple [dPr y,u,v])→∀{Γ:En} {K:Fl→Prop},K (.nx [.val (.tuple [dPr p,t1,t2]),.val (.tuple [.list (dO (pre xs (f+1) (2*a+1))),.int (rln xs.length (f+1) (2*a+1):Int)]),.val (.tuple [.list (dO (pre xs (f+1) (2*a+2))),.int (r:Int)]),.val d,.no])→dI (mGo (f+1)) [.val (.tuple [dPr p,t1,t2]),.val (.tuple [.list (dO (pre xs (f+1) (2*a+1))),.int (rln xs.length (f+1) (2*a+1):Int)]),.val (.tuple [.list (dO (pre xs (f+1) (2*a+2))),.int (r:Int)]),.val d,.no] K:=by
    intro d b hab hd Γ K k;unfold dI;walk_at "ls";rcases hd with rfl|⟨y,u,v,eb,rfl⟩
    ·refine rF ?_;walk_at "ls";exact k
    ·have hb:=(A4.mp eb).1;refine vC ?_;walk_at "ls";refine gR (d:=dPr y) rfl ?_;walk_at "ls";refine gR (d:=dPr p) rfl ?_;walk_at "ls";refine wN (hz _ (Cv eb)) (hz _ (Cv e)) ?_;rw[decide_eq_false (before b y hab eb)];walk_at "ls";exact k
   refine⟨fun z=>absurd z.1 (show ¬HT.sIx 3 0 (some 1)=0 by decide),?_⟩;refine rQ (fun i Γ=>∃ x,Γ=[.val (.tuple [dPr p,t1,t2]),.val (.tuple [.list (dO (pre xs (f+1) (2*a+1))),.int (rln xs.length (f+1) (2*a+1):Int)]),.val (.tuple [.list (dO (pre xs (f+1) (2*a+2))),.int (r:Int)]),x,.no]) ⟨_,rfl⟩ ?_ ?_
   ·rintro i d Γ K hd ⟨x,rfl⟩ hk;walk_at "ls"
    match i,hd with
    | 0,hd=>
     have hd:d=t1:=(A1.inj hd).symm;subst hd;exact cs d (2*a+1) (by omega) s1 (Γ:=[]) (hk.nx _ ⟨_,rfl⟩)
    | 1,hd=>
     have hd:d=t2:=(A1.inj hd).symm;subst hd;exact cs d (2*a+2) (by omega) s2 (Γ:=[]) (hk.nx _ ⟨_,rfl⟩)
    | i+2,hd=>cases hd
   ·rintro Γ ⟨x,rfl⟩;unfold fP;walk_at "ls";refine gR (d:=.list (dO (pre xs (f+1) (2*a+1)))) rfl ?_;walk_at "ls";refine gR (d:=.list (dO (pre xs (f+1) (2*a+2)))) rfl ?_;refine⟨by rw[cY,cY]; omega,?_⟩;have eb:dO (pre xs (f+1) (2*a+1))++dO (pre xs (f+1) (2*a+2))=dO (pre xs (f+1) (2*a+1)++pre xs (f+1) (2*a+2)):=by unfold dO; rw[DQ]
    rw[eb];walk_at "ls";refine gR (d:=.int (r:Int)) rfl ?_;walk_at "ls";refine⟨⟨by omega,by omega,by decide⟩,?_⟩;walk_at "ls";refine gR (rR _) ?_;walk_at "ls";refine gY (fun c=>?_) (fun _=>?_)
    ·exfalso;rw[A6,show((r:Int)+1).toNat=r+1 by omega,Int.one_mul] at c;have p2:(2:Nat)^(r+1)=2*2^r:=by rw[Bg,Cn]
     have pc:((2:Int)^(r+1))=((2^(r+1):Nat):Int):=by simp
     rw[pc,p2] at c;omega
    ·walk_at "ls";unfold fK;walk_at "ls";refine gR (d:=dPr p) rfl ?_;walk_at "ls";refine⟨by rw[cY,A6]; show 1+_≤1000; omega,?_⟩;walk_at "ls";refine gR (d:=.int (r:Int)) rfl ?_;walk_at "ls";exact q
theorem a93 (hs:Srt xs)(hz:∀ x∈xs,Sz 60 x.1)(hl:xs.length≤400)(q:Q (.val (goD xs 10 0))):dN [.val (shT xs 10 0)] Q:=a0Y hs hz hl 9 0 (by decide) (by simp; omega) q
def toK (p:Pr):NK2:=((p.1.num,(p.1.den:Int)),p.2)
theorem a6E {a b:Pr}(h:toK a=toK b):a=b:=by
 obtain⟨a,k⟩:=a;obtain⟨b,l⟩:=b;simp only[toK,EV] at h;obtain⟨⟨h1,h2⟩,h3⟩:=h;rw[h3,Rat.ext h1 (by omega)]
theorem zZ (xs:List Pr):dO xs=a0X (xs.map toK):=by
 unfold dO a0X;rw[map_map];rfl
theorem pI {xs:List Pr}(h:xs.Nodup):(xs.map toK).Nodup:=DT.mpr (B1.imp (fun{a b} (z:a≠b) e=>z (a6E e)) h)
theorem a1J (ks:List NK2):Gd 3 (.list (a0X ks)):=a2N (n:=2) fun d h=>by
 obtain⟨p,_,rfl⟩:=Ci.mp h;exact a97 (a97 (o8 _) (o8 _)) (a97 (o8 _) (o8 _))
theorem a1T {c w:AA}{ks:List Pr}(hs:Srt xs)(hz:∀ x∈xs,Sz 60 x.1)(hl:xs.length≤400)(nd:ks.Nodup)(hm:∀ x,x∈ks↔x∈xs)(q:Q (.val (.bool true))):fX c [.pub (aAY c "kept" w (dO xs)),.val (.list (dO ks))] Q:=by
 have pk:ks.Perm xs:=(EY nd hs.nodup).mpr hm;have h9:(2:Nat)^9=512:=by decide
 have pp:(pre xs 10 0).Perm xs:=a3L (f:=9) (by omega);have ndp:(pre xs 10 0).Nodup:=pp.nodup_iff.mpr hs.nodup;have es:a0L ((pre xs 10 0).map toK)=a0L (ks.map toK):=uT ((pK _).trans ((pk.trans pp.symm).map toK)) (a0H (pI nd));refine zB ?_;unfold mF;walk_at "ls";refine oJ rfl (.inr rfl) (qW xs 10 0) (t8 hl) ?_;walk_at "ls";refine a93 hs hz hl ?_;unfold goD;walk_at "ls";refine a2M ?_;walk_at "ls";refine gR (d:=.list (dO (pre xs 10 0))) rfl ?_;refine⟨(pre xs 10 0).map toK,by rw[zZ],by rw[A3,pp.length_eq]; omega,pI ndp,?_⟩;rw[es];walk_at "ls";refine a2M ?_;walk_at "ls";refine⟨ks.map toK,by rw[zZ],by rw[A3,pk.length_eq]; omega,pI nd,?_⟩;walk_at "ls";refine⟨(a1J _).good,(a1J _).good,?_⟩;rw[rY (a1J _).good];exact q
end
structure WOk (xs:List Pr):Prop where
 srt:Srt xs
 sz:∀ x∈xs,Sz 60 x.1
 len:xs.length≤400
section
variable {w:AA}{xs:List Pr}{e:Pr}{Q:Rv→List D→Prop}
theorem aAT (h:WOk xs)(he:Sz 60 e.1)(hn:e∉xs)(q:Q (.val .none) (dO (a2J xs e))):a3W plD w (dO xs) [.val (qX e.1),.val (zE e.2)] Q:=by
 have hl:=h.len;refine⟨_,_,p8 xs e,rfl,(qR e).good,xF xs,by rw[cY]; omega,by rw[cY]; exact sI xs e,a1W h.srt h.sz he rfl,?_,?_⟩
 ·exact(uF h.srt e).trans (decide_eq_false hn)
 ·rw[← a5O] at q;exact q
theorem a6X (h:WOk xs)(he:Sz 60 e.1)(hn:e∈xs)(q:Q (.val .none) (dO (zA xs e))):wF plD w (dO xs) [.val (qX e.1),.val (zE e.2)] Q:=by
 have hl:=h.len;refine⟨_,_,p8 xs e,rfl,(qR e).good,xF xs,by rw[cY]; omega,by rw[cY]; exact sI xs e,a1W h.srt h.sz he rfl,?_,?_⟩
 ·exact(uF h.srt e).trans (decide_eq_true hn)
 ·rw[← a06 h.srt hn] at q;exact q
end
theorem wX {xs:List Pr}{i:Nat}(hi:i<xs.length){x:Pr}:x∈xs.take (i+1)↔x=xs[i]∨x∈xs.take i:=by
 rw[List.take_succ_eq_append_getElem hi,A7,Ac];exact or_comm
theorem a1G {xs:List Pr}{Q:Rv→Prop}(h0:0<xs.length)(hz:∀ x∈xs,Sz 60 x.1)(q:∀ l∈xs,(∀ x∈xs,¬pLt x l)→Q (.val (dPr l))):gO [.val (.list (dO xs))] Q:=by
 refine zB ?_;unfold mJ;walk_at "ls";refine gR (wU h0) ?_;walk_at "ls";refine rQ (fun i Γ=>∃ l x,Γ=[.val (.list (dO xs)),.val (dPr l),x]∧l∈xs∧∀ y∈xs.take i,¬pLt y l) ⟨xs[0],_,rfl,Br h0,fun y hy=>by rw[List.take_zero] at hy; cases hy⟩ ?_ ?_
 ·rintro i d Γ K hd ⟨l,x,rfl,hl,hmin⟩ hK;obtain⟨p,hp,rfl⟩:=a3E hd;have hi:=(A4.mp hp).1;have ep:xs[i]=p:=by rw[Av hi] at hp; exact A1.inj hp
  have hmem:p∈xs:=Cv hp;walk_at "ls";unfold lQ;walk_at "ls";refine wN (hz _ hmem) (hz _ hl) ?_;walk_at "ls";refine gY (fun z=>?_) (fun z=>?_)
  ·walk_at "ls";refine hK.nx _ ⟨_,_,rfl,hmem,fun y hy=>?_⟩
   rcases(wX hi).mp hy with e|e
   ·rw[e,ep]; exact pLt.irrefl _
   ·exact fun yy=>hmin y e (yy.trans z)
  ·walk_at "ls";refine hK.nx _ ⟨_,_,rfl,hl,fun y hy=>?_⟩
   rcases(wX hi).mp hy with e|e
   ·rw[e,ep]; exact z
   ·exact hmin y e
 ·rintro Γ ⟨l,x,rfl,hl,hmin⟩;rw[cY,List.take_length] at hmin;unfold m7;walk_at "ls";exact q l hl hmin
theorem a6C (i:Int):AM.tuple [.int i,.int 1]=qX ((i:Int):Rat):=by
 unfold qX;rw[Rat.num_intCast,Rat.den_intCast];rfl
section
variable {p:AA}{n:Nat}{Q:Rv→Nat→Prop}
theorem a7X {way turn:Int}(w0:0≤way)(w1:way<6)(t0:0≤turn)(t1:turn≤400)(hn:n<900000)(q:∀(r:Rat) n',Sz 60 r→n'≤n+2→Q (.val (qX r)) n'):lG p n [.val (.int way),.val (.int turn)] Q:=by
 refine aAK ?_;unfold nP;walk_at "ls";refine gY (fun c=>?_) (fun c=>?_)
 ·walk_at "ls";have hv:∃ v:Int,ixD (.list [.int (turn-30),.int (30-turn),.int 5]) (.int way)=some (.int v) ∧ -400≤v∧v≤400:=by
   have:way=0∨way=1∨way=2:=by omega
   rcases this with rfl|rfl|rfl
   ·exact⟨_,rfl,by omega,by omega⟩
   ·exact⟨_,rfl,by omega,by omega⟩
   ·exact⟨_,rfl,by omega,by omega⟩
  obtain⟨v,ev,v0,v1⟩:=hv;refine gR ev ?_;walk_at "ls";rw[a6C];exact q _ _ (a7U (a3X (by omega) (by omega)) (by decide)) (by omega)
 ·unfold mO;walk_at "ls";refine gY (fun c=>?_) (fun c=>?_)
  ·walk_at "ls";refine fJ (by decide) (by decide) (by omega) fun r r0 r1=>?_;walk_at "ls";refine fJ (by decide) (by decide) (by omega) fun s s0 s1=>?_;walk_at "ls";have h1:Bt 60 (r-1):=a3X (by omega) (by omega);have h2:Bt 60 (1+s):=a3X (by omega) (by omega);refine u6 (by omega) (h2.mono (by decide)) ?_;walk_at "ls";exact q _ _ (Sz.divInt h1 h2 (by omega)) (by omega)
  ·walk_at "ls";unfold mW;walk_at "ls";refine fJ (by decide) (by decide) (by omega) fun r r0 r1=>?_;walk_at "ls";refine fJ (by decide) (by decide) (by omega) fun s s0 s1=>?_;walk_at "ls";have h1:Bt 60 (r-500):=a3X (by omega) (by omega);have h2:Bt 60 (1+s):=a3X (by omega) (by omega);refine u6 (by omega) (h2.mono (by decide)) ?_;walk_at "ls";exact q _ _ (Sz.divInt h1 h2 (by omega)) (by omega)
end
theorem rJ {α:Type}:∀(xs:List α) (j:Nat) (h:j<xs.length),(xs[j]::xs.eraseIdx j).Perm xs
 | _::_,0,_=>BN.refl _
 | x::xs,j+1,h=>(BN.swap x (xs[j]'(Cm h)) (xs.eraseIdx j)).trans ((rJ xs j (Cm h)).cons x)
structure TOk (s ks:List Pr)(t:Nat):Prop where
 srt:Srt s
 sz:∀ x∈s,Sz 60 x.1
 len:s.length≤t
 key:∀ x∈s,x.2.2<(t:Int)
 nd:ks.Nodup
 mem:∀ x,x∈ks↔x∈s
theorem TOk.kl {s ks:List Pr}{t:Nat}(h:TOk s ks t):ks.length=s.length:=((EY h.nd h.srt.nodup).mpr h.mem).length_eq
theorem TOk.w {s ks:List Pr}{t:Nat}(h:TOk s ks t)(ht:t≤400):WOk s:=⟨h.srt,h.sz,by have:=h.len; omega⟩
theorem TOk.ksz {s ks:List Pr}{t:Nat}(h:TOk s ks t):∀ x∈ks,Sz 60 x.1:=fun x hx=>h.sz x ((h.mem x).mp hx)
theorem TOk.put {s ks:List Pr}{t:Nat}(h:TOk s ks t){r:Rat}{k:Int}(hr:Sz 60 r):(r,(k,(t:Int)))∉s∧TOk (a2J s (r,(k,(t:Int)))) (ks++[(r,(k,(t:Int)))]) (t+1):=by
 have hn:(r,(k,(t:Int)))∉s:=fun z=>by
  have:=h.key _ z;dsimp only at this;omega
 refine⟨hn,a3G h.srt hn,fun x hx=>?_,by rw[a3O]; have:=h.len; omega,fun x hx=>?_,?_,fun x=>?_⟩
 ·rcases mem_insP.mp hx with rfl|hx
  ·exact hr
  ·exact h.sz x hx
 ·rcases mem_insP.mp hx with rfl|hx
  ·show(t:Int)<_
   omega
  ·have:=h.key x hx;omega
 ·exact List.nodup_append.mpr ⟨h.nd,by simp,fun a ha b hb e=>hn (by rw[← Ac.mp hb,←e]; exact(h.mem a).mp ha)⟩
 ·rw[A7,Ac,mem_insP,h.mem];exact or_comm
theorem TOk.del {s ks:List Pr}{t j:Nat}(h:TOk s ks t)(hj:j<ks.length):TOk (zA s ks[j]) (ks.eraseIdx j) t:=by
 have he:=h.nd;refine⟨a3Q h.srt _,fun x hx=>h.sz x (mem_delP.mp hx).1,by have:=a4C s ks[j]; have:=h.len; omega,fun x hx=>h.key x (mem_delP.mp hx).1,h.nd.sublist (List.eraseIdx_sublist _ _),fun x=>?_⟩;rw[mem_delP,←h.mem];have nd2:(ks[j]::ks.eraseIdx j).Perm ks:=rJ ks j hj;have nd3:=nd2.nodup_iff.mpr h.nd;have m:=nd2.mem_iff (a:=x);rw[Aq] at m;constructor
 ·intro hx;exact⟨m.mp (.inr hx),fun z=>(CK.mp nd3).1 (z▸hx)⟩
 ·rintro⟨h1,h2⟩
  exact(m.mpr h1).resolve_left h2
theorem a9N {ks:List Pr}{j:Nat}(nd:ks.Nodup)(hj:j<ks.length):Au ((dO ks).getD j .none) (dPr ks[j])=true∧∀ m,m<j→Au ((dO ks).getD m .none) (dPr ks[j])=false:=by
 have at_:∀ m (hm:m<ks.length),(dO ks).getD m .none=dPr ks[m]:=fun m hm=>by
  unfold dO;rw[Ce,BD,Av hm];rfl
 refine⟨by rw[at_ j hj,wZ,decide_eq_true rfl],fun m hm=>?_⟩;rw[at_ m (by omega),wZ];refine decide_eq_false fun z=>?_;have:=(DO nd).mp z;omega
theorem vW {s ks:List Pr}{t:Nat}{l:Pr}(h:TOk s ks t)(hl:l∈ks)(hm:∀ x∈ks,¬pLt x l):(dO s).headD .none=dPr l:=by
 have ls:l∈s:=(h.mem l).mp hl;have srt:=h.srt;have mem:=h.mem
 cases s with
 | nil=>cases ls
 | cons x s=>
  show dPr x=dPr l;rcases Aq.mp ls with e|e
  ·rw[e]
  ·exact absurd ((Cw.mp srt).1 l e) (hm x ((mem x).mpr Bf))
theorem law_true (c pen:AA):o7 c (.no::.box (penF.box pen 1)::At 9 .no) iW:=by
 show o7 c [.no,.box (penF.box pen 1),.no,.no,.no,.no,.no,.no,.no,.no,.no] iW;unfold o7;walk_at "ls";refine a9E fun w=>?_;walk_at "ls";refine oJ (ds:=dO []) rfl (.inl rfl) (qW [] 10 0) (t8 (by decide)) ?_;walk_at "ls";refine rF ?_;walk_at "ls";unfold rM;dsimp only[BW,BV];walk_at "ls";refine fJ (by decide) (by decide) (by omega) fun way w0 w1=>?_;dsimp only[BW,BV];walk_at "ls";refine fJ (by decide) (by decide) (by omega) fun often o0 o1=>?_;dsimp only[BW,BV];walk_at "ls";refine fJ (by decide) (by decide) (by omega) fun r r0 r1=>?_;dsimp only[BW,BV];walk_at "ls";have hmo:∃ mo:Int,ixD (.list [.int 60,.int 60,.int 60,.int 60,.int 60,.int 60,.int 60,.int 120]) (.int r)=some (.int mo)∧1≤mo∧mo≤300:=by
  have:r=0∨r=1∨r=2∨r=3∨r=4∨r=5∨r=6∨r=7:=by omega
  rcases this with rfl|rfl|rfl|rfl|rfl|rfl|rfl|rfl<;>exact⟨_,rfl,by decide,by decide⟩
 obtain⟨mo,emo,mo0,mo1⟩:=hmo;refine gR emo ?_;walk_at "ls";refine fJ (by decide) (by decide) (by omega) fun r2 _ _=>?_;dsimp only[BW,BV];walk_at "ls";have rest:∀ most:Int,1≤most→most≤300→nT c [.no,.box (penF.box pen 5),.box ((tY c "kept").box w []),.val (.int way),.val (.int often),.val (.int most),.no,.no,.no,.no,.no] iW:=by
  intro most m0 m1;unfold nT;walk_at "ls";refine fJ (by omega) (by omega) (by omega) fun tn t0 t1=>?_;dsimp only[BW,BV];walk_at "ls";refine⟨by omega,by omega,?_⟩;refine a1Q (fun i Γ=>∃ s ks x7 x8 x9 n',Γ=[.no,.box (penF.box pen n'),.box ((tY c "kept").box w (dO s)),.val (.int way),.val (.int often),.val (.int most),.own (dO ks),x7,x8,x9,.no]∧TOk s ks i∧n'≤10+10*i) ⟨[],[],_,_,_,_,rfl,⟨.nil,fun _ h=>(nomatch h),AT _,fun _ h=>(nomatch h),.nil,fun _=>Iff.rfl⟩,by omega⟩ ?_ ?_
  ·rintro t Γ K ht ⟨s,ks,x7,x8,x9,n',rfl,ho,hn'⟩ hK;have ht300:t≤300:=by omega
   rw[Int.zero_add];unfold rC;walk_at "ls";refine a7X w0 (by omega) (by omega) (by omega) (by omega) fun r n2 hr hn2=>?_;walk_at "ls";refine fJ (by decide) (by decide) (by omega) fun k k0 k1=>?_;dsimp only[BW,BV];walk_at "ls";have es:AM.tuple [qX r,.tuple [.int k,.int (t:Int)]]=dPr (r,(k,(t:Int))):=rfl;rw[es];obtain⟨hni,ho1⟩:=ho.put (k:=k) hr;have hl1:=ho1.len;have hkl1:=ho1.kl;refine gR (lY _) ?_;walk_at "ls";refine gR (rH _) ?_;walk_at "ls";refine aAT (ho.w (by omega)) hr hni ?_;walk_at "ls";refine a8S rfl (by rw[cY]; have:=ho.kl; have:=ho.len; omega) ?_;have ea:dO ks++[dPr (r,(k,(t:Int)))]=dO (ks++[(r,(k,(t:Int)))]):=by unfold dO; rw[DQ]; rfl
   rw[ea];generalize a2J s (r,(k,(t:Int)))=s1 at *;have hne:0<(ks++[(r,(k,(t:Int)))]).length:=by rw[A6,Ei]; omega
   generalize ks++[(r,(k,(t:Int)))]=ks1 at *;generalize (r,(k,(t:Int)))=e0 at *;dsimp only[BW,BV];have fin:∀(s2 ks2:List Pr) (n3:Nat) (x9:Sl),TOk s2 ks2 (t+1)→n3≤10+10*(t+1)→lL c [.no,.box (penF.box pen n3),.box ((tY c "kept").box w (dO s2)),.val (.int way),.val (.int often),.val (.int most),.own (dO ks2),.val (.int (t:Int)),.val (dPr e0),x9,.no] K:=by
    intro s2 ks2 n3 x9 o2 hn3;unfold lL;walk_at "ls";have h8:∃ m:Int,ixD (.list [.int 8,.int 30]) (.int (if decide (60<most)=true then 1 else 0))=some (.int m)∧0<m:=by
     split
     ·exact⟨30,rfl,by decide⟩
     ·exact⟨8,rfl,by decide⟩
    obtain⟨m8,e8,m80⟩:=h8;refine gR e8 ?_;refine⟨m80,?_⟩;walk_at "ls";have nx:K (.nx [.no,.box (penF.box pen n3),.box ((tY c "kept").box w (dO s2)),.val (.int way),.val (.int often),.val (.int most),.own (dO ks2),.val (.int (t:Int)),.val (dPr e0),x9,.no]):=hK.nx _ ⟨s2,ks2,_,_,_,_,rfl,o2,hn3⟩;refine gY (fun _=>?_) (fun _=>⟨rfl,rF ?_⟩)
    ·walk_at "ls";refine a1C rfl ?_;walk_at "ls";refine a1T o2.srt o2.sz (by have:=o2.len; omega) o2.nd o2.mem ?_;walk_at "ls";exact nx
    ·walk_at "ls";exact nx
   have gone:∀(j:Nat) (hj:j<ks1.length) (n3:Nat) {K2:Fl→Prop},n3≤10+10*(t+1)→(∀ Γ,lL c Γ K→K2 (.nx Γ))→o6 c [.no,.box (penF.box pen n3),.box ((tY c "kept").box w (dO s1)),.val (.int way),.val (.int often),.val (.int most),.own (dO ks1),.val (.int (t:Int)),.val (dPr e0),.val (dPr ks1[j]),.no] K2:=by
    intro j hj n3 K2 hn3 hK2;have hmem:ks1[j]∈s1:=(ho1.mem _).mp (Br hj);unfold o6;walk_at "ls";refine a4J rfl (.inr rfl) ⟨(a8F s1).good,?_⟩;walk_at "ls";refine a1G hne ho1.ksz fun l hl hmin=>?_;rw[vW ho1 hl hmin];walk_at "ls";refine⟨(qR _).good,(qR _).good,rfl,eqF (qR _).good ?_⟩;walk_at "ls";unfold rK;walk_at "ls";refine gR (lY _) ?_;walk_at "ls";refine gR (rH _) ?_;walk_at "ls";refine a6X (ho1.w (by omega)) (ho1.sz _ hmem) hmem ?_;walk_at "ls";refine a2W rfl ?_;walk_at "ls";obtain⟨q1,q2⟩:=a9N ho1.nd hj;refine⟨dO ks1,j,rfl,(qR _).good,a0Z _,by rw[cY]; exact hj,by rw[cY]; omega,q1,q2,?_⟩;rw[oY];exact hK2 _ (fin _ _ _ _ (ho1.del hj) hn3)
   walk_at "ls";refine gY (fun _=>?_) (fun _=>rF ?_)
   ·walk_at "ls";refine fJ (by decide) (by decide) (by omega) fun g g0 g1=>?_;walk_at "ls";refine gY (fun _=>?_) (fun _=>?_)
    ·walk_at "ls";refine a7J rfl ?_;rw[cY];walk_at "ls";refine fJ (by omega) (by omega) (by omega) fun d d0 d1=>?_;obtain⟨j,rfl⟩:=Int.eq_ofNat_of_zero_le d0;have hj:j<ks1.length:=by omega
     walk_at "ls";refine gR (wU hj) ?_;dsimp only[BW,BV];walk_at "ls";refine fJ (by decide) (by decide) (by omega) fun h h0 h1=>?_;dsimp only[BW,BV];walk_at "ls";refine gY (fun _=>?_) (fun _=>?_)
     ·walk_at "ms";refine a1G hne ho1.ksz fun l hl hmin=>?_;walk_at "ms";have el:ixD (.list (dO ks1)) (.int (-1))=some (dPr (ks1[ks1.length-1]'(by omega))):=by
       show atI (dO ks1) (-1)=_;unfold atI ixN;rw[if_neg (by decide),cY,if_pos (by omega),show((-1:Int)+(ks1.length:Int)).toNat=ks1.length-1 by omega]
       show(dO ks1)[ks1.length-1]?=_
       unfold dO;rw[BD,Av (by omega)];rfl
      refine gR el ?_;walk_at "ms";refine fJ (by decide) (by decide) (by omega) fun z z0 z1=>?_;walk_at "ms";have hx:∃(i:Nat) (hi:i<ks1.length),ixD (.list [dPr l,dPr (ks1[ks1.length-1]'(by omega))]) (.int z)=some (dPr ks1[i]):=by
       have:z=0∨z=1:=by omega
       rcases this with rfl|rfl
       ·obtain⟨i,hi,rfl⟩:=Cu hl;exact⟨i,hi,rfl⟩
       ·exact⟨ks1.length-1,by omega,rfl⟩
      obtain⟨i,hi,ei⟩:=hx;refine gR ei ?_;walk_at "ms";exact gone i hi _ (by omega) fun Γ h=>h
     ·walk_at "ls";exact gone j hj _ (by omega) fun Γ h=>h
    ·walk_at "ls";exact fin _ _ _ _ ho1 (by omega)
   ·walk_at "ls";exact fin _ _ _ _ ho1 (by omega)
  ·rintro Γ ⟨s,ks,x7,x8,x9,n',rfl,ho,hn'⟩;have ht301:(1+tn).toNat≤300:=by omega
   have hl:=ho.len;unfold qZ;walk_at "ls";refine oJ rfl (.inl rfl) (qW s 10 0) (t8 (by omega)) ?_;walk_at "ls";refine a1C rfl ?_;walk_at "ls";refine a1T ho.srt ho.sz (by omega) ho.nd ho.mem ?_;walk_at "ls";refine oJ rfl (.inl rfl) (qW s 10 0) (t8 (by omega)) ?_;walk_at "ls";refine⟨sZ s 0,sZ s 0,?_⟩;rw[rY (sZ s 0)];rfl
 refine gY (fun _=>?_) (fun _=>?_)
 ·walk_at "ls";exact rest 300 (by decide) (by decide)
 ·walk_at "ls";exact rest mo mo0 mo1
theorem ln1 {α:Type}{us:List α}(h:us.length=1):∃ x0,us=[x0]:=by
 match us,h with
 | [_],_=>exact⟨_,rfl⟩
theorem ln2 {α:Type}{us:List α}(h:us.length=2):∃ x0 x1,us=[x0,x1]:=by
 match us,h with
 | [_,_],_=>exact⟨_,_,rfl⟩
theorem ln3 {α:Type}{us:List α}(h:us.length=3):∃ x0 x1 x2,us=[x0,x1,x2]:=by
 match us,h with
 | [_,_,_],_=>exact⟨_,_,_,rfl⟩
theorem aB3 {K:Fg}{h:AH}{mg:Mg}(X:K.In h)(G:h.Ns Ad mg)
  (z_len:Ar K Ad "len" = some none)
  (z_abs:Ar K Ad "abs" = some none)
  (z_range:Ar K Ad "range" = some none)
  (z_isinstance:Ar K Ad "isinstance" = some none)
  (z_int:Ar K Ad "int" = some none)
  (z_bool:Ar K Ad "bool" = some none)
  (z_tuple:Ar K Ad "tuple" = some none)
  (z_max:Ar K Ad "max" = some none)
  (z_min:Ar K Ad "min" = some none)
  (z_list:Ar K Ad "list" = some none)
  (z_all:Ar K Ad "all" = some none)
  (z_any:Ar K Ad "any" = some none)
  (z_sorted:Ar K Ad "sorted" = some none)
  (z_zip:Ar K Ad "zip" = some none)
  (z_set:Ar K Ad "set" = some none)
  (z_sum:Ar K Ad "sum" = some none)
  (z_str:Ar K Ad "str" = some none)
  (z_enumerate:Ar K Ad "enumerate" = some none)
  (z_repr:Ar K Ad "repr" = some none)
  (kt_int_bool:AV K (.type "int") (.type "bool")=some false)    (kt_bool_int:AV K (.type "bool") (.type "int")=some true):Bl K mg:=⟨Ay X G z_len,Ay X G z_abs,Ay X G z_range,Ay X G z_isinstance,Ay X G z_int,Ay X G z_bool,Ay X G z_tuple,Ay X G z_max,Ay X G z_min,Ay X G z_list,Ay X G z_all,Ay X G z_any,Ay X G z_sorted,Ay X G z_zip,Ay X G z_set,Ay X G z_sum,Ay X G z_str,Ay X G z_enumerate,Ay X G z_repr,kt_int_bool,kt_bool_int⟩
theorem a89 {K:Fg}
  (kt_NoneType_bool:AV K (.type "NoneType") (.type "bool")=some false)
  (kt_NoneType_int:AV K (.type "NoneType") (.type "int")=some false)
  (kt_NoneType_str:AV K (.type "NoneType") (.type "str")=some false)
  (kt_NoneType_list:AV K (.type "NoneType") (.type "list")=some false)
  (kt_NoneType_tuple:AV K (.type "NoneType") (.type "tuple")=some false)
  (kt_NoneType_dict:AV K (.type "NoneType") (.type "dict")=some false)
  (kt_bool_NoneType:AV K (.type "bool") (.type "NoneType")=some false)
  (kt_bool_int:AV K (.type "bool") (.type "int")=some true)
  (kt_bool_str:AV K (.type "bool") (.type "str")=some false)
  (kt_bool_list:AV K (.type "bool") (.type "list")=some false)
  (kt_bool_tuple:AV K (.type "bool") (.type "tuple")=some false)
  (kt_bool_dict:AV K (.type "bool") (.type "dict")=some false)
  (kt_int_NoneType:AV K (.type "int") (.type "NoneType")=some false)
  (kt_int_bool:AV K (.type "int") (.type "bool")=some false)
  (kt_int_str:AV K (.type "int") (.type "str")=some false)
  (kt_int_list:AV K (.type "int") (.type "list")=some false)
  (kt_int_tuple:AV K (.type "int") (.type "tuple")=some false)
  (kt_int_dict:AV K (.type "int") (.type "dict")=some false)
  (kt_str_NoneType:AV K (.type "str") (.type "NoneType")=some false)
  (kt_str_bool:AV K (.type "str") (.type "bool")=some false)
  (kt_str_int:AV K (.type "str") (.type "int")=some false)
  (kt_str_list:AV K (.type "str") (.type "list")=some false)
  (kt_str_tuple:AV K (.type "str") (.type "tuple")=some false)
  (kt_str_dict:AV K (.type "str") (.type "dict")=some false)
  (kt_list_NoneType:AV K (.type "list") (.type "NoneType")=some false)
  (kt_list_bool:AV K (.type "list") (.type "bool")=some false)
  (kt_list_int:AV K (.type "list") (.type "int")=some false)
  (kt_list_str:AV K (.type "list") (.type "str")=some false)
  (kt_list_tuple:AV K (.type "list") (.type "tuple")=some false)
  (kt_list_dict:AV K (.type "list") (.type "dict")=some false)
  (kt_tuple_NoneType:AV K (.type "tuple") (.type "NoneType")=some false)
  (kt_tuple_bool:AV K (.type "tuple") (.type "bool")=some false)
  (kt_tuple_int:AV K (.type "tuple") (.type "int")=some false)
  (kt_tuple_str:AV K (.type "tuple") (.type "str")=some false)
  (kt_tuple_list:AV K (.type "tuple") (.type "list")=some false)
  (kt_tuple_dict:AV K (.type "tuple") (.type "dict")=some false)
  (kt_dict_NoneType:AV K (.type "dict") (.type "NoneType")=some false)
  (kt_dict_bool:AV K (.type "dict") (.type "bool")=some false)
  (kt_dict_int:AV K (.type "dict") (.type "int")=some false)
  (kt_dict_str:AV K (.type "dict") (.type "str")=some false)
  (kt_dict_list:AV K (.type "dict") (.type "list")=some false)
  (kt_dict_tuple:AV K (.type "dict") (.type "tuple")=some false)
  : Kit K:=Kit.mk' (by
  intro a ha b hb;simp only[tyL,Aq,CL,or_false] at ha hb;rcases ha with rfl|rfl|rfl|rfl|rfl|rfl|rfl<;>rcases hb with rfl|rfl|rfl|rfl|rfl|rfl|rfl<;>intro e<;>first|assumption|exact absurd e (by decide))
def DfP (K:Fg)(mg:Mg)(x:Str)(st:AS):Prop:=∃(f:AA) (fd:Ag),Fun K x x st f fd∧mg x=some (.ref f)
theorem nG {K:Fg}{h:AH}{mg:Mg}(X:K.In h)(G:h.Ns Ad mg){x:Str}{st:AS}{f:AA}{od an:Option AA}{sl:Array (Option AB)}{oc kV dc pm cd ct:AB}
  (a:Ar K Ad x=some (some (.ref f))) (l:K.lookup f=some ⟨oc,od,.func (fnOf x x (mH st) (gP st) (bK st) .none kV dc pm an cd ct),sl⟩) (c:CN K cd x=true) (k:BX K (.ref f)=true):DfP K mg x st:=
 ⟨f,_,a2A l c k,mg_of X G a⟩
def MeP (K:Fg)(C:AA)(m q:Str)(st:AS):Prop:=∃(f:AA) (fd:Ag),Fun K m q st f fd∧Meth K C m f
theorem a4R {K:Fg}{C:AA}{m q:Str}{st:AS}{f:AA}{od an:Option AA}{sl:Array (Option AB)}{oc kV dc pm cd ct:AB}
  (a:Ax K (.ref C) m=some (some (.ref f))) (n:isFn K (.ref f)=true) (l:K.lookup f=some ⟨oc,od,.func (fnOf m q (mH st) (gP st) (bK st) .none kV dc pm an cd ct),sl⟩) (c:CN K cd q=true) (k:BX K (.ref f)=true):MeP K C m q st:=⟨f,_,a2A l c k,a,n,k⟩
def InP (K:Fg)(C:AA)(q:Str)(st:AS):Prop:=∃(f:AA) (fd:Ag),Fun K "__init__" q st f fd∧Mk K C f
theorem a9W {K:Fg}{C:AA}{q:Str}{st:AS}{f:AA}{od an:Option AA}{sl:Array (Option AB)}{oc kV dc pm cd ct:AB}
  (y:makesIn K C=true) (a:Ax K (.ref C) "__init__" = some (some (.ref f))) (n:isFn K (.ref f)=true) (z:BX K (.ref C)=true) (l:K.lookup f=some ⟨oc,od,.func (fnOf "__init__" q (mH st) (gP st) (bK st) .none kV dc pm an cd ct),sl⟩) (c:CN K cd q=true) (k:BX K (.ref f)=true):InP K C q st:=⟨f,_,a2A l c k,y,a,n,z⟩
theorem aB5 {K:Fg}{C:AA}{f:Str}(h:Ax K (.ref C) f=some none):NoAttr K C f:=h
theorem a8V {K:Fg}{h:AH}{mg:Mg}(X:K.In h)(G:h.Ns Ad mg){NK:AA}
  (xa:Ar K Ad "NoKey" = some (some (.ref NK)))
  (xl1:Ax K (.ref NK) "__class__" = some (some (.builtin "object.__class__"))) (xl2:Ax K (.ref NK) "__getattribute__" = some (some (.builtin "BaseException.__getattribute__"))) (xl3:Ax K (.ref NK) "__getattr__" = some none)
  (xs:mroIn K NK (.ref NK)=some true) (xe:excIn K NK [.type "ValueError", .type "Exception", .type "BaseException", .type "object"] "ValueError.__new__" = true):Xcs K mg NK:=
 ⟨mg_of X G xa,⟨xe,xl1,xl2,xl3⟩,xs⟩
section
variable {P:AQ}{w:AL}{K:Fg}{mg:Mg}{base:AH}
theorem m6 {n:Nat}{x:Str}{st:AS}{ps:List Str}{sp:Sp}(d:DfP K mg x st)(h:∀{f fd},Fun K x x st f fd→FnOk P w K mg base CX0 n f fd ps sp)(b:∀{f fd},Fun K x x st f fd→Binds K fd ps []):Cal P w K mg base n x ps sp:=
 let ⟨f,fd,F,hm⟩:=d; ⟨f,fd,h F,hm,F.kp,b F⟩
theorem yJ  (B:Bl K mg)(Kt:Kit K)(d:DfP K mg "_law_pen" nD) :
  Cal P w K mg base 1 "_law_pen" ["_law_script", "_law_k"] (xG K):=
 m6 d (fun F=>yV F B) fun F=>F.binds fun _ _ _ _ _ _ us hl=>by obtain⟨_,_,rfl⟩:=ln2 hl; rfl
end
theorem aA1 {P:AQ}{w:AL}{K:Fg}{mg:Mg}{base:AH}{n:Nat}{x:Str}{st:AS}{ps:List Str}{sp:AA→List Int→Sp}(d:DfP K mg x st)(h:∀{f fd} (a:AA) (ns:List Int),Fun K x x st f fd→FnOk P w K mg base CX0 n f fd ps (sp a ns))(b:∀{f fd},Fun K x x st f fd→Binds K fd ps [])(a:AA)(ns:List Int):Cal P w K mg base n x ps (sp a ns):=
 let ⟨f,fd,F,hm⟩:=d; ⟨f,fd,h a ns F,hm,F.kp,b F⟩
set_option hygiene false in
local macro_rules|`(tactic| walk_at "bd")=>`(tactic| (intro _ _ _ _ _ _ us hl; first|(obtain⟨_,rfl⟩:=ln1 hl; rfl)|(obtain⟨_,_,rfl⟩:=ln2 hl; rfl)|(obtain⟨_,_,_,rfl⟩:=ln3 hl; rfl)))
theorem a9L {l:EH}{w:AL}{K:Fg}{mg:Mg}{fa:AA}(hfa:mg "law" = some (.ref fa))(B:Bl K mg)(Kt:Kit K)
  (d0:DfP K mg "is_less" q8)
  (d1:DfP K mg "comes_ahead" iQ)
  (d2:DfP K mg "place_of" o5)
  (d3:DfP K mg "shape_from" cD)
  (d4:DfP K mg "_law_pen" nD)
  (d5:DfP K mg "_law_take" lJ)
  (d6:DfP K mg "_law_lowest" jE)
  (d7:DfP K mg "_law_before" jN)
  (d8:DfP K mg "_law_is_pair" iK)
  (d9:DfP K mg "_law_time" nU)
  (d10:DfP K mg "_law_least" mK)
  (d11:DfP K mg "_law_gone_through" bL)
  (d12:DfP K mg "_law_right" m9)
  (d13:DfP K mg "law" a6W)
  {c:AA} (hmW:mg "Waiting" = some (.ref c)) (cl:Cls K c) (na:NoAttr K c "kept") (mI:InP K c "Waiting.__init__" sU) (me_put:MeP K c "put" "Waiting.put" vK) (me_take:MeP K c "take" "Waiting.take" sX) (me_first:MeP K c "first" "Waiting.first" qH) (me_shape:MeP K c "shape" "Waiting.shape" pC)
  {NK:AA} (xc:Xcs K mg NK)
  (hL:∀ c pen,(o7 c) (.no::.box (penF.box pen 1)::At 9 .no) iW) :
  ∃ fd:Ag,(∀(s:AC) (v:AB),Cr s fd ⟨[v],[]⟩ [("_law_script", v)])∧∀ base:AH,K.In base→base.Ns Ad mg→FnOk l.prog w K mg base CX0 14 fa fd ["_law_script"] (a4E K):=by
 obtain⟨f,fd,F,hm⟩:=d13
 cases hfa.symm.trans hm
 refine⟨fd,?_,fun base _ _=>?_⟩
 ·obtain⟨oc,od,kV,doc,pm,an,cdv,ct,osl,rfl,lk,hcd⟩:=F.ex;exact fun s v=>.of_eq rfl
 obtain⟨fi,fdi,FI,M⟩:=mI;obtain⟨f_put,fd_put,F_put,M_put⟩:=me_put;obtain⟨f_take,fd_take,F_take,M_take⟩:=me_take;obtain⟨f_first,fd_first,F_first,M_first⟩:=me_first;obtain⟨f_shape,fd_shape,F_shape,M_shape⟩:=me_shape;have ay:=m6 (P:=l.prog) (w:=w) (base:=base) d0 (fun F=>z7 (P0:=NoP) F B Kt) (·.binds (by walk_at "bd"));have az:=m6 d1 (fun F=>qO F B Kt ay) (·.binds (by walk_at "bd"));have am:=m6 d2 (fun F=>uZ F B Kt az) (·.binds (by walk_at "bd"));obtain⟨f2_shape_from,fd2_shape_from,F2_shape_from,hm2_shape_from⟩:=d3;have B2_shape_from:Binds K fd2_shape_from ["pairs", "at"] []:=(F2_shape_from.binds (by walk_at "bd"));have R0_shape_from:Cal l.prog w K mg base 1 "shape_from" ["pairs", "at"] (spM NoP 2 fZ):=a5F hm2_shape_from F2_shape_from.kp B2_shape_from;have R1_shape_from:Cal l.prog w K mg base 2 "shape_from" ["pairs", "at"] (spM NoP 2 eH):=⟨f2_shape_from,fd2_shape_from,pR F2_shape_from B Kt R0_shape_from,hm2_shape_from,F2_shape_from.kp,B2_shape_from⟩;have R2_shape_from:Cal l.prog w K mg base 3 "shape_from" ["pairs", "at"] (spM NoP 2 eV):=⟨f2_shape_from,fd2_shape_from,pZ F2_shape_from B Kt R1_shape_from,hm2_shape_from,F2_shape_from.kp,B2_shape_from⟩;have R3_shape_from:Cal l.prog w K mg base 4 "shape_from" ["pairs", "at"] (spM NoP 2 eG):=⟨f2_shape_from,fd2_shape_from,pM F2_shape_from B Kt R2_shape_from,hm2_shape_from,F2_shape_from.kp,B2_shape_from⟩;have R4_shape_from:Cal l.prog w K mg base 5 "shape_from" ["pairs", "at"] (spM NoP 2 eN):=⟨f2_shape_from,fd2_shape_from,qC F2_shape_from B Kt R3_shape_from,hm2_shape_from,F2_shape_from.kp,B2_shape_from⟩;have R5_shape_from:Cal l.prog w K mg base 6 "shape_from" ["pairs", "at"] (spM NoP 2 eU):=⟨f2_shape_from,fd2_shape_from,oZ F2_shape_from B Kt R4_shape_from,hm2_shape_from,F2_shape_from.kp,B2_shape_from⟩;have R6_shape_from:Cal l.prog w K mg base 7 "shape_from" ["pairs", "at"] (spM NoP 2 eY):=⟨f2_shape_from,fd2_shape_from,pA F2_shape_from B Kt R5_shape_from,hm2_shape_from,F2_shape_from.kp,B2_shape_from⟩;have R7_shape_from:Cal l.prog w K mg base 8 "shape_from" ["pairs", "at"] (spM NoP 2 eQ):=⟨f2_shape_from,fd2_shape_from,pN F2_shape_from B Kt R6_shape_from,hm2_shape_from,F2_shape_from.kp,B2_shape_from⟩;have R8_shape_from:Cal l.prog w K mg base 9 "shape_from" ["pairs", "at"] (spM NoP 2 eX):=⟨f2_shape_from,fd2_shape_from,q9 F2_shape_from B Kt R7_shape_from,hm2_shape_from,F2_shape_from.kp,B2_shape_from⟩;have R9_shape_from:Cal l.prog w K mg base 10 "shape_from" ["pairs", "at"] (spM NoP 2 eF):=⟨f2_shape_from,fd2_shape_from,pD F2_shape_from B Kt R8_shape_from,hm2_shape_from,F2_shape_from.kp,B2_shape_from⟩;have R10_shape_from:Cal l.prog w K mg base 11 "shape_from" ["pairs", "at"] (spM NoP 2 gQ):=⟨f2_shape_from,fd2_shape_from,oG F2_shape_from B Kt R9_shape_from,hm2_shape_from,F2_shape_from.kp,B2_shape_from⟩;have ao:Cal l.prog w K mg base 11 "shape_from" ["pairs", "at"] (spM NoP 2 jY):=R10_shape_from;have b4:=yJ (P:=l.prog) (w:=w) (base:=base) B Kt d4;have aq:=m6 (P:=l.prog) (w:=w) (base:=base) d5 (fun F=>uQ (P0:=NoP) F B) (·.binds (by walk_at "bd"));have b5:=m6 (P:=l.prog) (w:=w) (base:=base) d6 (fun F=>sY (P0:=NoP) F B Kt) (·.binds (by walk_at "bd"));have ag:=m6 (P:=l.prog) (w:=w) (base:=base) d7 (fun F=>rT (P0:=NoP) F B Kt) (·.binds (by walk_at "bd"));have ah:=m6 (P:=l.prog) (w:=w) (base:=base) d8 (fun F=>qU (P0:=NoP) F B Kt) (·.binds (by walk_at "bd"));have b6:=m6 d9 (fun F=>uU F B Kt b5 aq) (·.binds (by walk_at "bd"));have b7:=m6 d10 (fun F=>tZ F B Kt ag) (·.binds (by walk_at "bd"));obtain⟨f2_law_gone_through,fd2_law_gone_through,F2_law_gone_through,hm2_law_gone_through⟩:=d11;have B2_law_gone_through:Binds K fd2_law_gone_through ["_law_tree"] []:=(F2_law_gone_through.binds (by walk_at "bd"));have R0_law_gone_through:Cal l.prog w K mg base 2 "_law_gone_through" ["_law_tree"] (spM NoP 1 dH):=a5F hm2_law_gone_through F2_law_gone_through.kp B2_law_gone_through;have R1_law_gone_through:Cal l.prog w K mg base 3 "_law_gone_through" ["_law_tree"] (spM NoP 1 cU):=⟨f2_law_gone_through,fd2_law_gone_through,kW F2_law_gone_through B Kt R0_law_gone_through ag ah,hm2_law_gone_through,F2_law_gone_through.kp,B2_law_gone_through⟩;have R2_law_gone_through:Cal l.prog w K mg base 4 "_law_gone_through" ["_law_tree"] (spM NoP 1 cX):=⟨f2_law_gone_through,fd2_law_gone_through,jO F2_law_gone_through B Kt R1_law_gone_through ag ah,hm2_law_gone_through,F2_law_gone_through.kp,B2_law_gone_through⟩;have R3_law_gone_through:Cal l.prog w K mg base 5 "_law_gone_through" ["_law_tree"] (spM NoP 1 cQ):=⟨f2_law_gone_through,fd2_law_gone_through,kE F2_law_gone_through B Kt R2_law_gone_through ag ah,hm2_law_gone_through,F2_law_gone_through.kp,B2_law_gone_through⟩;have R4_law_gone_through:Cal l.prog w K mg base 6 "_law_gone_through" ["_law_tree"] (spM NoP 1 cR):=⟨f2_law_gone_through,fd2_law_gone_through,jM F2_law_gone_through B Kt R3_law_gone_through ag ah,hm2_law_gone_through,F2_law_gone_through.kp,B2_law_gone_through⟩;have R5_law_gone_through:Cal l.prog w K mg base 7 "_law_gone_through" ["_law_tree"] (spM NoP 1 cV):=⟨f2_law_gone_through,fd2_law_gone_through,jW F2_law_gone_through B Kt R4_law_gone_through ag ah,hm2_law_gone_through,F2_law_gone_through.kp,B2_law_gone_through⟩;have R6_law_gone_through:Cal l.prog w K mg base 8 "_law_gone_through" ["_law_tree"] (spM NoP 1 cN):=⟨f2_law_gone_through,fd2_law_gone_through,jC F2_law_gone_through B Kt R5_law_gone_through ag ah,hm2_law_gone_through,F2_law_gone_through.kp,B2_law_gone_through⟩;have R7_law_gone_through:Cal l.prog w K mg base 9 "_law_gone_through" ["_law_tree"] (spM NoP 1 cP):=⟨f2_law_gone_through,fd2_law_gone_through,lE F2_law_gone_through B Kt R6_law_gone_through ag ah,hm2_law_gone_through,F2_law_gone_through.kp,B2_law_gone_through⟩;have R8_law_gone_through:Cal l.prog w K mg base 10 "_law_gone_through" ["_law_tree"] (spM NoP 1 cO):=⟨f2_law_gone_through,fd2_law_gone_through,kY F2_law_gone_through B Kt R7_law_gone_through ag ah,hm2_law_gone_through,F2_law_gone_through.kp,B2_law_gone_through⟩;have R9_law_gone_through:Cal l.prog w K mg base 11 "_law_gone_through" ["_law_tree"] (spM NoP 1 cW):=⟨f2_law_gone_through,fd2_law_gone_through,kO F2_law_gone_through B Kt R8_law_gone_through ag ah,hm2_law_gone_through,F2_law_gone_through.kp,B2_law_gone_through⟩;have R10_law_gone_through:Cal l.prog w K mg base 12 "_law_gone_through" ["_law_tree"] (spM NoP 1 dZ):=⟨f2_law_gone_through,fd2_law_gone_through,jA F2_law_gone_through B Kt R9_law_gone_through ag ah,hm2_law_gone_through,F2_law_gone_through.kp,B2_law_gone_through⟩;have b8:Cal l.prog w K mg base 12 "_law_gone_through" ["_law_tree"] (spM NoP 1 dN):=R10_law_gone_through;obtain⟨f_law_right,fd_law_right,F_law_right,hm_law_right⟩:=d12;have b9:Cal l.prog w K mg base 13 "_law_right" ["_law_wait", "_law_kept"] (spM NoP 2 (fX c)):=⟨f_law_right,fd_law_right,tO cl M_shape (qF F_shape B cl na ao) (F_shape.binds (by walk_at "bd")) F_law_right B Kt b8,hm_law_right,F_law_right.kp,(F_law_right.binds (by walk_at "bd"))⟩;exact a8I F B Kt cl hmW M (yQ FI B cl na) (FI.binds (ps:=["self"]) (by walk_at "bd")) M_first (vA F_first B cl na) (F_first.binds (by walk_at "bd")) M_shape (qF F_shape B cl na ao) (F_shape.binds (by walk_at "bd")) M_put ((a6Q F_put B cl na xc.hC xc.zC am).noX.imp a99) (F_put.binds (by walk_at "bd")) M_take ((a2Z F_take B cl na xc.hC xc.zC am).noX.imp a66) (F_take.binds (by walk_at "bd")) b4 aq b7 b6 b9 (hL _)
theorem walk {l:EH}{q:AQ}{loose:List Str}{XP:Mg→AH→Prop}{YP:AL→AH→Prop}{d:DefRec}{K:Params→Fg}(hn:l.most=some 63)(hdf:d.params.defaults=[])(him:Ek q=true)
  (hY:∀(w:AL) (h:AH),YP w h→(K w.params).In h)
  (F:∀(w:AL) (mg:Mg) (fa:AA) (h:AH),(K w.params).In h→h.Ns Ad mg→mg d.name=some (.ref fa) →
   ∃ fd:Ag,(∀(s:AC) (u:AB),Cr s fd ⟨[u],[]⟩ [("_law_script", u)])∧∀ base:AH,(K w.params).In base→base.Ns Ad mg→FnOk l.prog w (K w.params) mg base CX0 14 fa fd ["_law_script"] (a4E (K w.params))) :
  PySem.W.WalkO q loose XP YP l.row.toRowW d [] (fun f vs=>PySem.call f vs):=
 L2.a6U (n:=63) (k:=14) (x := "_law_script") (CX:=fun _=>CX0) (sp:=fun w=>a4E (K w.params)) hn (by decide) hdf him ⟨rfl,by decide,by decide,rfl⟩ hY F (fun _ _ a ns hl _ hS=>⟨a,ns,rfl,hS,hl,fun _=>rfl⟩) fun _ _ _ _ _ z=>z
end My
def PySem.W.Fast.tw10879812139638414820:Unit:=()
def PySem.W.Fast.tw12173814588169075331:Unit:=()
def PySem.W.Fast.tw16058390549807043380:Unit:=()
def PySem.W.Fast.tw18094938860065425553:Unit:=()
def PySem.W.Fast.tw8300894790607731997:Unit:=()
def PySem.W.Fast.tw10644662987532869774:Unit:=()
def PySem.W.Fast.tw15812747189672485829:Unit:=()
def PySem.W.Fast.tw2256194528482681036:Unit:=()
def PySem.W.Fast.tw953743174675168561:Unit:=()
def PySem.W.Fast.tw14681987867587386541:Unit:=()
def PySem.W.Fast.tw16942065717730138195:Unit:=()
def PySem.W.Fast.tw15306947695842996238:Unit:=()
def PySem.W.Fast.tw13139935261658022503:Unit:=()
def PySem.W.Fast.tw3080627941046274796:Unit:=()
def PySem.W.Fast.tw15228441991956590252:Unit:=()
def PySem.W.Fast.tw155327348906632702:Unit:=()
def PySem.W.Fast.tw17960575564099662847:Unit:=()
open PySem PySem.W PyProof.Rows
set_option maxRecDepth 100000 in
set_option maxHeartbeats 0 in
theorem PySem.Challenge.cw_leadtimes_k23_shapes_of_waiting_holds : PySem.Challenge.rw_leadtimes_k23_shapes_of_waiting.Holds := by
 w_on; o_law; k_head; (case hw => w_witness2)
 k_fill
 refine My.walk (l := PySem.Challenge.rw_leadtimes_k23_shapes_of_waiting) rfl rfl (by decide +kernel) (fun w h Y => kIn_of Y) ?F
 case F =>
  intro w mg fa h KX G hmg
  refine' My.a9L hmg (My.aB3 KX G ?x0 ?x1 ?x2 ?x3 ?x4 ?x5 ?x6 ?x7 ?x8 ?x9 ?xa ?xb ?xc ?xd ?xe ?xf ?xg ?xh ?xi ?xj ?xk) (My.a89 ?xl ?xm ?xn ?xo ?xp ?xq ?xr ?xk ?xs ?xt ?xu ?xv ?xw ?xj ?xx ?xy ?xz ?x10 ?x11 ?x12 ?x13 ?x14 ?x15 ?x16 ?x17 ?x18 ?x19 ?x1a ?x1b ?x1c ?x1d ?x1e ?x1f ?x1g ?x1h ?x1i ?x1j ?x1k ?x1l ?x1m ?x1n ?x1o) (My.nG KX G ?x1p ?x1q ?x1r ?x1s) (My.nG KX G ?x1t ?x1u ?x1v ?x1w) (My.nG KX G ?x1x ?x1y ?x1z ?x20) (My.nG KX G ?x21 ?x22 ?x23 ?x24) (My.nG KX G ?x25 ?x26 ?x27 ?x28) (My.nG KX G ?x29 ?x2a ?x2b ?x2c) (My.nG KX G ?x2d ?x2e ?x2f ?x2g) (My.nG KX G ?x2h ?x2i ?x2j ?x2k) (My.nG KX G ?x2l ?x2m ?x2n ?x2o) (My.nG KX G ?x2p ?x2q ?x2r ?x2s) (My.nG KX G ?x2t ?x2u ?x2v ?x2w) (My.nG KX G ?x2x ?x2y ?x2z ?x30) (My.nG KX G ?x31 ?x32 ?x33 ?x34) (My.nG KX G ?x35 ?x36 ?x37 ?x38) (mg_of KX G ?x39) ⟨?x3a, ?x3b, ?x3c, ?x3d⟩ (My.aB5 ?x3e) (My.a9W ?x3f ?x3g ?x3h ?x3i ?x3j ?x3k ?x3l) (My.a4R ?x3m ?x3n ?x3o ?x3p ?x3q) (My.a4R ?x3r ?x3s ?x3t ?x3u ?x3v) (My.a4R ?x3w ?x3x ?x3y ?x3z ?x40) (My.a4R ?x41 ?x42 ?x43 ?x44 ?x45) (My.a8V KX G ?x46 ?x47 ?x48 ?x49 ?x4a ?x4b) My.law_true
  (case x39|x3a|x3b|x3c|x3d|x3e|x3f|x3g|x3h|x3i|x3j|x3k|x3l|x3m|x3n|x3o|x3p|x3q|x3r|x3s|x3t|x3u|x3v|x3w|x3x|x3y|x3z|x40|x41|x42|x43|x44|x45|x46|x47|x48|x49|x4a => k_is)
  (case x4b => k_exc)
  (case x1p|x1q|x1r|x1s|x1t|x1u|x1v|x1w|x1x|x1y|x1z|x20|x21|x22|x23|x24|x25|x26|x27|x28|x29|x2a|x2b|x2c|x2d|x2e|x2f|x2g|x2h|x2i|x2j|x2k|x2l|x2m|x2n|x2o|x2p|x2q|x2r|x2s|x2t|x2u|x2v|x2w|x2x|x2y|x2z|x30|x31|x32|x33|x34|x35|x36|x37|x38|x0|x1|x2|x3|x4|x5|x6|x7|x8|x9|xa|xb|xc|xd|xe|xf|xg|xh|xi => k_is)
  (case xl|xm|xn|xo|xp|xq|xr|xk|xs|xt|xu|xv|xw|xj|xx|xy|xz|x10|x11|x12|x13|x14|x15|x16|x17|x18|x19|x1a|x1b|x1c|x1d|x1e|x1f|x1g|x1h|x1i|x1j|x1k|x1l|x1m|x1n|x1o => kit_is)
#print axioms PySem.Challenge.cw_leadtimes_k23_shapes_of_waiting_holds
