import PyProof.Rows.All
import Wide.All
import OpenK.AllK
import Wide.FinOn
import Lean
import PyProof.EqAt
import PyProof.EqKinds
import PyProof.TupleCall
import PyProof.P3Eq
import PyProof.P3In
import PyProof.NeData
import PyProof.FitsBits
import PyProof.StrCalls2
import PyProof.CallStr
import PyProof.SliceStr2
import PyProof.StrWalks
import PyProof.FString
import PyProof.StrBlockI
import PyProof.StrLawsTight
import PyProof.StrLawsIn
import PyProof.StrLawsIdx
import PyProof.StrLawsChain
import PyProof.TupleOfSeq
import PyProof.DictTable
import KE.KIntText
import PyProof.StrLawsOcc
import PyProof.StrOps
import PyProof.ReprRoads
import PyProof.CallFns
import PySem.Challenge.RW_leadtimes_k44_texts_refused
open And renaming intro→A8
open Array renaming getElem?_eq_some_iff→FX,getElem?_toList→E5,length_toList→CO,toList_append→A4,toList_extract→G8
open Bool renaming and_eq_true→BF,eq_false_iff→E4,eq_iff_iff→EX,false_and→EW,false_eq_true→Cc,false_ne_true→BB,or_true→Eg,true_and→F7
open False renaming elim→A6
open ForInStep renaming yield→Dr
open Int renaming emod_lt_of_pos→CZ,emod_nonneg→Ca,eq_nat_or_neg→ER,fdiv_eq_ediv_of_nonneg→GQ,gcd→Az,mul_ne_zero→Da,natAbs_ediv_le_natAbs→FO,natAbs_mul→Db,toNat_natCast→Dc
open List renaming Pairwise→Ef,all_eq_true→Bz,any_cons→D4,any_eq_false→Er,any_eq_true→D5,append_assoc→B0,append_ne_nil_of_right_ne_nil→GH,append_nil→Bb,cons_append→D6,cons_ne_nil→A7,contains_cons→DT,dropLast_sublist→GK,drop_eq_getElem_cons→FR,drop_length→D7,drop_zero→Es,exists_cons_of_ne_nil→C7,extract_eq_take_drop→G9,filterMap_cons→D8,filter_cons_of_neg→Gv,filter_cons_of_pos→Gw,filter_cons→C8,filter_eq_self→DU,find?_cons→C9,forIn_cons→Cj,forIn_nil→D9,getD_eq_getElem?_getD→Bp,getElem?_append_left→BN,getElem?_append_right→Bj,getElem?_eq_getElem→A0,getElem?_eq_some_iff→Aq,getElem?_map→Ao,getElem?_of_mem→EA,getElem?_range→EB,getElem?_replicate→B5,getElem?_set_ne→BO,getElem?_set_self→BX,getElem?_take_of_lt→GS,getElem?_zipWith→GJ,getElem?_zip_eq_some→Gn,getElem_mem→B6,length_append→Ah,length_cons→Af,length_dropLast→DA,length_drop→Ck,length_eq_zero_iff→Gy,length_filter_le→GY,length_map→AO,length_nil→Cm,length_pos_iff→DB,length_range→DV,length_replicate→CT,length_set→Bk,length_singleton→A1,length_take→BK,lookup_cons→DC,lookup→Bh,map_append→BA,map_congr_left→GG,map_cons→A2,map_drop→DW,map_eq_nil_iff→EC,map_map→B7,map_nil→ED,map_take→DX,map→B4,mem_append_left→CG,mem_append_right→BY,mem_append→Aj,mem_cons_of_mem→Ak,mem_cons_self→Ap,mem_cons→AT,mem_filterMap→Eu,mem_filter→Et,mem_map→Ax,mem_of_getElem?→BP,mem_of_getLast?→Gx,mem_of_mem_drop→EE,mem_of_mem_take→CH,mem_range→EF,mem_singleton→AW,nil_append→B1,nodup_cons→DD,not_mem_nil→Av,of_mem_zip→Ev,pairwise_append→Gs,pairwise_singleton→Gu,range'→GI,range→B8,replicate_succ→GE,replicate_zero→GF,replicate→Ar,set_cons_succ→EG,set_cons_zero→EH,size_toArray→A3,take_add_one→EI,take_append_of_le_length→Gr,take_length→CI,take_sublist→Ew,zipWith→BW
open List.cons renaming injEq→GC
open Nat renaming add_sub_cancel_left→Gf,digitChar→Em,le_of_ble_eq_true→DE,le_of_lt→Cr,le_refl→AV,le_succ→CV,le_trans→Ac,log2_lt→EO,lt_irrefl→Bd,lt_of_le_of_lt→B2,lt_of_lt_of_le→As,lt_succ_self→DY,lt_trans→DF,min_eq_left→DZ,mul_le_mul_right→Cs,mul_le_mul→E2,ne_of_gt→CM,ne_of_lt→Aw,pow_le_pow_right→Fx,sub_self→DG,succ_le_succ→Fv,toDigits_of_lt_base→Gz,toDigits→FZ,zero_le→Be
open Ne renaming symm→Am
open Option renaming getD_none→E3,isNone_iff_eq_none→G7,isSome_iff_exists→EQ,map_eq_some_iff→CN
open Or renaming inl→B3,inr→DR
open PyProof.Rows renaming AllBare→B9,IntsAre→Ee,args_tupleiter_next→Gj,assignInOrder_cons→Fj,boot_abs→Dw,boot_int→C6,boot_isinstance→Ba,boot_str→Dz,boot_tuple→FY,callWith_type1→FC,entry_tupleiter_next→Gi,envOfC→Bw,importsNone→GW,slot_tuple_getitem→Fs,subscriptTail_builtinR→GU,subscriptTail→Ft
open PySem renaming Addr→AA,Around.under→FF,Around→AU,BindsTo→Dn,Builtin.Int.intBits→GX,Builtin.Slice.sliceAdjust→Fq,Builtin.Slice.sliceApplied→GT,Builtin.Slice.slicePlaces→FG,Builtin.SmallTypes.nextOf→BV,Builtin.SmallTypes.ownedTupleHandOut→Gm,Builtin.SmallTypes.ownedTupleIsFree→FV,Builtin.Str.occurrences→CB,Builtin.Str.partsBetween→F6,Builtin.Str.strKind→Gh,Builtin.Str.strSliceIndices→Ei,Builtin.Str.strSub→D3,Builtin.Str.tooLong→GD,Builtin.Tuple.tupleExact→FL,Builtin→AM,Calls.Constant_str→E8,Calls.Name_function_global→Ff,Calls.callWith_builtin→Do,Calls.evalArgs_plain→Dp,Calls.loadGlobal_global→GO,Calls.spliced_cons→Cw,Calls.spliced_nil→Fp,Code.isFrame→Fo,Code.quiet_builtin→F4,EntryCells.newEntry→Go,Expr→AJ,FuncData→An,GenState→ET,Heap.ExtBut→F8,Heap.SameBut.update→Gk,Heap.SameBut→BU,Heap.get?_update_ne→Gq,Heap→AG,IntMulOk→Dj,IsPair→BQ,IsPart→Cf,IsZip→Bn,Keyword→Ea,Model→CP,NameKind→BC,Obj.data_mapFields→Ek,Obj.isFreed_of_fields→FU,Obj.mapFields→FW,Obj.mapSeq→Ed,Paired→Al,PassesOwn.never→CS,PassesOwn→Bs,Program→AQ,PyData.bool→C3,PyData.canLayAll0→Fz,PyData.depthAll→F0,PyData.eqv→Ae,PyData.int→Ch,PyData.str→Ad,PyData→AH,Scope→BH,Shared→AD,Spec→AN,Stmt→AL,Str.ofString→FJ,StrLaws.glued_eq_join→Fa,StrLaws.sliceText_from→G4,Str→AC,Value.bool→E6,Value.builtin→Ci,Value.float→Fe,Value.int→Cu,Value.none→BS,Value.ref→Aa,Value.str→DI,Value→AB,Within→E7,World→AK,assignEach→Di,assignInOrder→Fi,assign→Cd,atKey→Cg,attributeBase→DM,backToKw→Dl,backTo→BG,behindInMarks→Dg,binaryOp→Bu,bootBuiltins→De,boot_len→BD,cLine→BJ,callWith→Dk,call_meetsIn→FQ,call_meets→Dq,callerA→DQ,codeAny_call_builtin→Eh,codeAny_mono→Cy,codeAny→CQ,compareOp→Bf,excClassObj→C4,foldedSetIterable→Fn,getAttr→EY,getItem→C0,getMethod→EZ,holding→DJ,intText?→F5,keywordEach→Dm,leaving→DO,letOwnedTupleGo→FA,mainGlobals→Ai,mem_of_lookup→Eb,model→AI,noteFrame→Ds,plainObj_wpAny_Assign_Attribute→GR,rawInt→Bg,seqIndex?→FM,seqIndex_of→Fu,sizeLine_eq→Bv,sliceBounds→DP,standAt→EU,starEach→AX,subscripted→FN,swapsWith→Br,sysModules→Bq,tupleKind_room_in1→FP,tupleKind→Dd,typeIs_str→C1,typeLookup→Ec,valueAt→C2,wpAny_Call_Name_kw→Cz,wpAny_Call_method_late→GV,wpAny_Expr_any→Fh,wpAny_Name→Df,wpAny_bind→AE,wpAny_callSpecial?_slot→FH,wpAny_call_entry→FK,wpAny_call→DN,wpAny_comprehension_free→Gg,wpAny_execs_cons→EV,wpAny_execs_nil→Cv,wpAny_field→BM,wpAny_holding→CA,wpAny_isSubtype_exc→DS,wpAny_isTrue_Compare1→GP,wpAny_letGo→GA,wpAny_loadName_cell→GM,wpAny_loadName_free→GN,wpAny_loadName_local→GL,wpAny_loadPart_at→Bi,wpAny_mono→Au,wpAny_newObj_type→Ce,wpAny_nextOf_list_end→F1,wpAny_nextOf_list_item→FT,wpAny_onRaise→El,wpAny_passesOwn→DL,wpAny_pure→AR,wpAny_pyIter_list→Fk,wpAny_rule→E9,wpAny_seqItems→C5,wpAny_setField_rec→Dv,wpAny_setField→Ej,wpAny_standAt→DK,wpAny_truthy_bool→Dh,wpAny_updateSeq_pair→F9,wpAny→AF
open PySem.F renaming args_dict_get_2→Gc,attrBase_ValueError→GB,entry_dict_get→Gb,excBase_ValueError→Gp,plainAttrs_dict→Ge,plainAttrs_list→By,plainAttrs_str→Bo,slot_dict_delitem→GZ,slot_dict_get→Fy,slot_dict_pop→Ga,slot_list_append→CC,slot_str_join→D1,slot_str_split→Dx,type_list_append→CD,type_str_join→D2,type_str_split→Dy
open PySem.Heap renaming get?_push_of_some→AZ,get?_push_size→BE,get?_update_other→CW,get?_update_self→DH,lt_size→AY,size_push→CY
open PySem.Str renaming cps_append→A9,join→BR,length_append→CF,ofString→Du
open PySem.StrLaws renaming join_split→Eo,occBody→Ep
open PySem.W renaming Frag→Ab,InstAt→FD,Looks→FE,OpenLaw→Fw,callWith_K→EJ,cellsFrom_some→Fb,codeIn→Cn,emptyDict→CJ,findIn→Ag,findObj_own→Fc,hasDictIn→CK,hideAll_get→EK,hideAll_none→Fd,instObj→CU,keepIn→Bc,kia_one→Bm,kitAny→Co,kitOne→AS,kitx_dict→Ex,looks_findIn→EL,methodCall_KW→Ey,methodObj→Ez,mg_none_of→BI,mg_of→BZ,mroIn→CL,nsIn→Ay,plainGet_of→E1,plainGet→EM,specialIn→EN,tailIn→Cp,typeIn→Cq
open Rat renaming divInt_eq_div→Ct,intCast_mul→Cb,num_divInt_den→ES
open Sum renaming inl→A5,inr→BL
open List (any_map set_comm set_set)
open PySem.W (bind_fn clsIn excIn findCls fnOf handedIn hideAll isFn kIn_of kitx_list lookIn makesIn notCls of_hideAll osa_eq plainOver readsIn set_plain takerIn)
open Nat (mod_lt not_lt sub_zero)
open Option (getD_some isSome_map)
open Array (toList_inj)
noncomputable section
set_option compiler.extract_closed false
set_option Elab.async false
set_option linter.all false
set_option maxRecDepth 100000
namespace L2
open PySem PySem.Spec PyProof.Rows
abbrev Key:=Sum Int Str
noncomputable def a5I:Key→AB→Bool
 | .inl k,v=>AB.isInt k v
 | .inr x,v=>AB.isStrOf x v
noncomputable def aWO (w:AK):Key→Int
 | .inl k=>hashInt k
 | .inr x=>hashStr w x
theorem dM:∀{k:Key} {v:AB},a5I k v=true→(∃ i t,k=A5 i∧v=Cu i t)∨(∃ x t,k=BL x∧v=DI x t)
 | .inl i,v,h=>by
  obtain⟨t,e⟩:=AB.isInt_shape (k:=i) (v:=v) h;exact .inl ⟨i,t,rfl,e⟩
 | .inr x,v,h=>by
  obtain⟨t,e⟩:=AB.isStrOf_shape (x:=x) (v:=v) h;exact .inr ⟨x,t,rfl,e⟩
theorem aD4 (i:Int)(t:Tok):a5I (.inl i) (.int i t)=true:=by simp[a5I,AB.isInt]
theorem aB8 (x:Str)(t:Tok):a5I (.inr x) (.str x t)=true:=by simp[a5I,AB.isStrOf]
theorem aNU (a b:Int):decide ((A5 a:Key)=A5 b)=(a==b):=by
 by_cases e:a=b
 ·subst e; simp
 ·have h:¬(A5 a:Key)=A5 b:=fun q=>e (A5.inj q);rw[decide_eq_false h];exact(beq_eq_false_iff_ne.mpr e).symm
theorem aPO (a b:Str):decide ((BL a:Key)=BL b)=decide (a=b):=by
 by_cases e:a=b
 ·subst e; simp
 ·have h:¬(BL a:Key)=BL b:=fun q=>e (BL.inj q);rw[decide_eq_false h,decide_eq_false e]
theorem aQG (a:Int)(b:Str):decide ((A5 a:Key)=BL b)=false:=decide_eq_false (fun q=>nomatch q)
theorem aPA (a:Str)(b:Int):decide ((BL a:Key)=A5 b)=false:=decide_eq_false (fun q=>nomatch q)
noncomputable def dJ (prog:AQ)(w:AK):PySem.KeyKind prog w Key where
 is:=a5I
 hash:=aWO w
 inj:=fun v a b ha hb=>by
  rcases dM ha with⟨i,t,rfl,rfl⟩|⟨x,t,rfl,rfl⟩
  ·rcases dM hb with⟨j,u,rfl,e⟩|⟨y,u,rfl,e⟩
   ·injection e with e1 _; rw[e1]
   ·exact nomatch e
  ·rcases dM hb with⟨j,u,rfl,e⟩|⟨y,u,rfl,e⟩
   ·exact nomatch e
   ·injection e with e1 _; rw[e1]
 byValue:=fun k v h=>by
  rcases dM h with⟨i,t,rfl,rfl⟩|⟨x,t,rfl,rfl⟩<;>rfl
 pyHash:=fun hv h=>by
  rcases dM hv with⟨i,t,rfl,rfl⟩|⟨x,t,rfl,rfl⟩
  ·exact wpAny_pyHash_int h
  ·exact wpAny_pyHash_str h
 eqBool:=fun hu hv h=>by
  rcases dM hu with⟨i,t,rfl,rfl⟩|⟨x,t,rfl,rfl⟩
  ·rcases dM hv with⟨j,u,rfl,rfl⟩|⟨y,u,rfl,rfl⟩
   ·rw[aNU] at h; exact wpAny_eqBool_int h
   ·rw[aQG] at h; exact SeqAt.EqAt.int_str i t y u _ _ _ _ h
  ·rcases dM hv with⟨j,u,rfl,rfl⟩|⟨y,u,rfl,rfl⟩
   ·rw[aPA] at h; exact SeqAt.EqAt.str_int x t j u _ _ _ _ h
   ·rw[aPO] at h; exact wpAny_eqBool_str h
 «strs»:=fun k x t v h=>by
  rcases dM h with⟨i,u,rfl,e⟩|⟨y,u,rfl,e⟩
  ·exact nomatch e
  ·injection e with e1 _;subst e1
   cases v<;>rfl
theorem a90 (prog:AQ)(w:AK)(k:Key)(v:AB):(dJ prog w).is k v=a5I k v:=rfl
theorem a5S (prog:AQ)(w:AK)(i:Int)(t:Tok):(dJ prog w).is (.inl i) (.int i t)=true:=aD4 i t
theorem a66 (prog:AQ)(w:AK)(x:Str)(t:Tok):(dJ prog w).is (.inr x) (.str x t)=true:=aB8 x t
end L2
namespace L2
open PySem PySem.Spec PyProof.Rows
inductive V where
 | non|bl (b:Bool)|int (i:Int)|str (x:Str)|byt (b:Array UInt8)|flt (b:UInt64)|ref (a:AA)|ty (n:String)
 deriving DecidableEq
noncomputable def RelV:V→AB→Prop
 | .non,u=>u=BS
 | .bl b,u=>u=E6 b
 | .int i,u=>∃ t,u=Cu i t
 | .str x,u=>∃ t,u=DI x t
 | .byt b,u=>∃ t,u=AB.bytes b t
 | .flt b,u=>∃ t,u=Fe b t
 | .ref a,u=>u=Aa a
 | .ty n,u=>u=AB.type n
abbrev Vals:List V→List AB→Prop:=Al RelV
theorem Vals.length {xs:List V}{us:List AB}(r:Vals xs us):xs.length=us.length:=Al.length r
theorem Vals.get:∀{xs:List V} {us:List AB} {i:Nat} {x:V},Vals xs us→xs[i]?=some x→∃ u,us[i]?=some u∧RelV x u
 | _,_,_,_,.nil,e=>by simp at e
 | _,_,0,_,.cons r _,e=>by simp at e; subst e; exact⟨_,rfl,r⟩
 | _,_,i+1,x,.cons _ t,e=>by
  obtain⟨u,h1,h2⟩:=Vals.get (i:=i) (x:=x) t (by simpa using e);exact⟨u,by simpa using h1,h2⟩
theorem Vals.set {x:V}{u:AB}(r:RelV x u):∀{xs:List V} {us:List AB} (i:Nat),Vals xs us→Vals (xs.set i x) (us.set i u)
 | _,_,_,.nil=>.nil
 | _,_,0,.cons _ t=>.cons r t
 | _,_,i+1,.cons q t=>.cons q (Vals.set r i t)
theorem Vals.append:∀{xs ys:List V} {us ws:List AB},Vals xs us→Vals ys ws→Vals (xs++ys) (us++ws):=by
 intro xs ys us ws h q
 induction h with
 | nil=>exact q
 | cons r t ih=>exact .cons r ih
theorem Vals.take:∀{xs:List V} {us:List AB} (n:Nat),Vals xs us→Vals (xs.take n) (us.take n)
 | _,_,0,_=>.nil
 | _,_,_+1,.nil=>.nil
 | _,_,n+1,.cons r t=>.cons r (Vals.take n t)
theorem Vals.drop:∀{xs:List V} {us:List AB} (n:Nat),Vals xs us→Vals (xs.drop n) (us.drop n)
 | _,_,0,r=>r
 | _,_,_+1,.nil=>.nil
 | _,_,n+1,.cons _ t=>Vals.drop n t
noncomputable def RelO:Option V→Option AB→Prop
 | some v,some u=>RelV v u
 | none,none=>True
 | _,_=>False
noncomputable def KV {κ:Type}:List (κ×V)→List (κ×AB)→Prop:=Al fun(p:κ×V) (q:κ×AB)=>p.1=q.1∧RelV p.2 q.2
noncomputable def kV:Key→V
 | .inl i=>.int i
 | .inr x=>.str x
inductive HO where
 | lst (xs:List V)
 | tup (xs:List V)
 | dK (kvs:List (Key×V))|dT (kvs:List (List Key×V))
 | set (S:Int→Bool) (n:Nat)
 | ins (C dx:AA) (fs:List (Str×V))
 | own (x:AA)
 | xd (fs:List (Str×V))
 | met (f x:AA)
 | rng (lo hi:Int)
 | frz (o:Obj) (u:HO)
 | tbl (ps:Array AB)
 | ext (φ:AG→Prop)
abbrev Hp:=AA→Option HO
noncomputable def upd (H:Hp)(a:AA)(o:HO):Hp:=fun b=>if b=a then some o else H b
theorem aW {H:Hp}{a:AA}{o:HO}:upd H a o a=some o:=by unfold upd; rw[if_pos rfl]
theorem bA {H:Hp}{a b:AA}{o:HO}(h:b≠a):upd H a o b=H b:=by unfold upd; rw[if_neg h]
theorem aAH {H:Hp}{a b:AA}{o u:HO}(h:H a=some o)(h':H b=some u)(d:o≠u):a≠b:=by
 intro e; subst e; rw[h] at h'; exact d (Option.some.inj h')
theorem bJ {H:Hp}{a b:AA}{o:HO}(h:H a=some o)(h':H b=none):a≠b:=by
 intro e; subst e; rw[h] at h'; cases h'
section
variable (P:AQ)(w:AK)
noncomputable def ObjOk (H:Hp)(h:AG)(a:AA):HO→Prop
 | .lst xs=>xs.length≤sizeLine∧∃(its:List AB) (n:Nat),Vals xs its∧h.get? a=some { cls:=.type "list", data:=.seq its.toArray n }
 | .tup xs=>xs.length≤sizeLine∧∃ its:List AB,Vals xs its∧IsTup h a its.toArray
 | .dK kvs=>kvs.length≤sizeLine∧(a==Bq)=false∧∃ vs,KV kvs vs∧h.DictOf (dJ P w) a vs
 | .dT kvs=>kvs.length≤sizeLine∧(a==Bq)=false∧∃ xs:List (List Key×AA×AB),
   Al (fun(p:List Key×V) (q:List Key×AA×AB)=>p.1=q.1∧H q.2.1=some (.tup (p.1.map kV))∧RelV p.2 q.2.2) kvs xs ∧
   ∃ o es ep,h.get? a=some o∧o.ExactDict∧o.data=.dict es ep∧es.toList=xs.map (entryOfKey (Dd (dJ P w)))∧(xs.map (·.1)).Nodup
 | .set S n=>h.SetOf (intKind P w) a S n
 | .ins C dx fs=>H dx=some (.own a)∧fs.length≤1000∧dx≠a∧h.get? a=some (CU C dx) ∧
   ∃ mA,h.Ns1 dx mA∧(∀ f,RelO (fs.lookup f) (mA f))∧E7 mA (fs.map (·.1))
 | .own _=>∃ o,h.get? a=some o
 | .xd fs=>∃ mA,h.Ns1 a mA∧∀ f,RelO (fs.lookup f) (mA f)
 | .rng lo hi=>∃ t u v,h.get? a=some { cls:=.type "range", data:=.fields #[.int lo t,.int hi u,.int 1 v] }
 | .frz o u=>h.get? a=some o∧ObjOk H h a u
 | .tbl ps=>h.get? a=some { cls:=.none,data:=.fields ps }
 | .met f x=>h.get? a=some (Ez (.ref f) (.ref x))
 | .ext φ=>φ h∧(∃ o,h.get? a=some o)∧∀ h1 h2:AG,φ h1→(∀ o,h1.get? a=some o→h2.get? a=some o)→φ h2
noncomputable def HOk (H:Hp)(h:AG):Prop:=∀ a o,H a=some o→ObjOk P w H h a o
end
section
variable {P:AQ}{w:AK}{H H':Hp}{h h':AG}{a:AA}{o:HO}
theorem ObjOk.lt (x:ObjOk P w H h a o):a<h.objs.size:=by
 cases o with
 | lst xs=>obtain⟨_,_,_,_,e⟩:=x; exact AY e
 | tup xs=>obtain⟨_,_,_,p⟩:=x; exact p.lt
 | dK kvs=>obtain⟨_,_,_,_,o,_,_,e,_⟩:=x; exact AY e
 | dT kvs=>obtain⟨_,_,_,_,o,_,_,e,_⟩:=x; exact AY e
 | set S n=>obtain⟨o,_,_,_,e,_⟩:=x; exact AY e
 | ins C dx fs=>obtain⟨_,_,_,e,_⟩:=x; exact AY e
 | own y=>obtain⟨_,e⟩:=x; exact AY e
 | xd fs=>obtain⟨_,⟨_,_,_,e,_⟩,_⟩:=x; exact AY e
 | rng lo hi=>obtain⟨_,_,_,e⟩:=x; exact AY e
 | frz ob u=>obtain⟨e,_⟩:=x; exact AY e
 | tbl ps=>exact AY (show h.get? a=some _ from x)
 | met f y=>exact AY (show h.get? a=some _ from x)
 | ext φ=>obtain⟨_,⟨_,e⟩,_⟩:=x; exact AY e
theorem Al.mapP {α β:Type}{F G:α→β→Prop}:∀{l₁:List α} {l₂:List β},Al F l₁ l₂→(∀ a b,F a b→G a b)→Al G l₁ l₂:=by
 intro l₁ l₂ h f
 induction h with
 | nil=>exact .nil
 | cons r t ih=>exact .cons (f _ _ r) ih
theorem Al.imp' {α β:Type}{F G:α→β→Prop}(f:∀ a b,F a b→G a b){l₁:List α}{l₂:List β}(r:Al F l₁ l₂):Al G l₁ l₂:=Al.mapP r f
theorem ObjOk.stay (x:ObjOk P w H h a o)(k:∀ b u,(b=a∨H b=some (.own a))→h.get? b=some u→h'.get? b=some u)
  (ho:∀ b,H b=some (.own a)→H' b=some (.own a)) (ht:∀ b xs,H b=some (.tup xs)→H' b=some (.tup xs)):ObjOk P w H' h' a o:=by
 induction o with
 | lst xs=>obtain⟨z,its,n,r,e⟩:=x; exact⟨z,its,n,r,k _ _ (.inl rfl) e⟩
 | tup xs=>obtain⟨z,its,r,ob,e,c⟩:=x; exact⟨z,its,r,ob,k _ _ (.inl rfl) e,c⟩
 | dK kvs=>obtain⟨z,y,vs,r,ob,es,ep,e,c⟩:=x; exact⟨z,y,vs,r,ob,es,ep,k _ _ (.inl rfl) e,c⟩
 | dT kvs=>
  obtain⟨z,y,xs,r,ob,es,ep,e,c⟩:=x;exact⟨z,y,xs,Al.mapP r fun p q z=>⟨z.1,ht _ _ z.2.1,z.2.2⟩,ob,es,ep,k _ _ (.inl rfl) e,c⟩
 | set S n=>obtain⟨ob,es,ep,t,e,c⟩:=x; exact⟨ob,es,ep,t,k _ _ (.inl rfl) e,c⟩
 | ins C dx fs=>
  obtain⟨d,z,ne,e,mA,⟨od,es,ep,e2,c⟩,r⟩:=x;exact⟨ho _ d,z,ne,k _ _ (.inl rfl) e,mA,⟨od,es,ep,k _ _ (.inr d) e2,c⟩,r⟩
 | own y=>obtain⟨ob,e⟩:=x; exact⟨ob,k _ _ (.inl rfl) e⟩
 | xd fs=>obtain⟨mA,⟨od,es,ep,e,c⟩,r⟩:=x; exact⟨mA,⟨od,es,ep,k _ _ (.inl rfl) e,c⟩,r⟩
 | rng lo hi=>obtain⟨t,u,v,e⟩:=x; exact⟨t,u,v,k _ _ (.inl rfl) e⟩
 | frz ob u ih=>obtain⟨e,q⟩:=x; exact⟨k _ _ (.inl rfl) e,ih q⟩
 | tbl ps=>
  have e:h.get? a=some { cls:=.none,data:=.fields ps }:=x;show h'.get? a=some { cls:=.none,data:=.fields ps };exact k a _ (.inl rfl) e
 | met f y=>
  have e:h.get? a=some (Ez (.ref f) (.ref y)):=x;show h'.get? a=some (Ez (.ref f) (.ref y));exact k a _ (.inl rfl) e
 | ext φ=>obtain⟨p,⟨o,e⟩,st⟩:=x; exact⟨st _ _ p fun o q=>k _ _ (.inl rfl) q,⟨o,k _ _ (.inl rfl) e⟩,st⟩
theorem HOk.lt (x:HOk P w H h)(e:H a=some o):a<h.objs.size:=(x a o e).lt
theorem HOk.fresh (x:HOk P w H h)(e:h.objs.size≤a):H a=none:=by
 cases q:H a with
 | none=>rfl
 | some u=>exact absurd (As (x.lt q) e) (Bd _)
theorem HOk.kept (x:HOk P w H h)(k:∀ b u,h.get? b=some u→h'.get? b=some u):HOk P w H h':=fun a o e=>
 (x a o e).stay (fun b u _ q=>k b u q) (fun _ q=>q) fun _ _ q=>q
theorem HOk.laid (x:HOk P w H h)(k:∀ b u,h.get? b=some u→h'.get? b=some u)(hp:h.objs.size≤a)(new:ObjOk P w (upd H a o) h' a o):HOk P w (upd H a o) h':=fun b u e=>by
 have hn:=x.fresh hp
 by_cases hb:b=a
 ·subst hb; rw[aW] at e; cases e; exact new
 ·rw[bA hb] at e;exact(x b u e).stay (fun c v _ q=>k c v q) (fun c q=>by rw[bA (bJ q hn)]; exact q) fun c xs q=>by rw[bA (bJ q hn)]; exact q
end
noncomputable def Rd (H:Hp)(a:AA)(u:HO):Prop:=H a=some u∨∃ o,H a=some (.frz o u)
theorem Rd.ok {P:AQ}{w:AK}{H:Hp}{h:AG}{a:AA}{u:HO}(r:Rd H a u)(x:HOk P w H h):ObjOk P w H h a u:=by
 rcases r with r|⟨o,r⟩
 ·exact x a u r
 ·obtain⟨_,q⟩:=x a _ r;exact q
noncomputable def Mut:Option HO→Prop
 | some (.lst _)=>True
 | some (.dK _)=>True
 | some (.dT _)=>True
 | some (.set _ _)=>True
 | some (.ins _ _ _)=>True
 | some (.ext _)=>True
 | _=>False
section
variable {P:AQ}{w:AK}{H:Hp}{h h':AG}{x e:AA}{o':HO}
theorem HOk.write (ok:HOk P w H h)(mu:Mut (H x))(he:e=x∨H e=some (.own x))(k:∀ b u,b≠e→h.get? b=some u→h'.get? b=some u)(heo:∃ u,h'.get? e=some u)
  (new:ObjOk P w (upd H x o') h' x o'):HOk P w (upd H x o') h':=fun b u q=>by
 have nown:∀ c y,H c=some (.own y)→c≠x:=fun c y r z=>by subst z; rw[r] at mu; exact mu
 have ntup:∀ c xs,H c=some (.tup xs)→c≠x:=fun c xs r z=>by subst z; rw[r] at mu; exact mu
 by_cases hb:b=x
 ·subst hb; rw[aW] at q; cases q; exact new
 ·rw[bA hb] at q
  by_cases hbe:b=e
  ·have q':H b=some (.own x):=by
    rcases he with z|z
    ·exact absurd (hbe.trans z) hb
    ·rw[hbe]; exact z
   rw[q] at q'; cases q';obtain⟨v,hv⟩:=heo;exact⟨v,by rw[hbe]; exact hv⟩
  ·refine(ok b u q).stay (fun c v hc r=>k c v ?_ r) (fun c r=>by rw[bA (nown c b r)]; exact r) fun c xs r=>by rw[bA (ntup c xs r)]; exact r
   rcases hc with rfl|hc
   ·exact hbe
   ·rintro rfl;rcases he with z|z
    ·exact nown c b hc z
    ·rw[hc] at z; cases z; exact hb rfl
end
structure Un (fs ex:List AA)(H H':Hp)(h h':AG):Prop where
 keep:∀ b o,h.get? b=some o→H b=none→b∉fs→b∉ex→h'.get? b=some o
 slot:∀ b o,h.get? b=some o→H b=none→b∈fs→b∉ex→∃ sl,h'.get? b=some { o with slots:=sl }
 free:∀ b o,h.get? b=some o→H b=none→b∉ex→H' b=none
 there:∀ b o,h.get? b=some o→b∉ex→∃ o',h'.get? b=some o'
 tups:∀ b xs,H b=some (.tup xs)→H' b=some (.tup xs)
 frzs:∀ b o u,H b=some (.frz o u)→H' b=some (.frz o u)
 tbls:∀ b ps,H b=some (.tbl ps)→∃ more,H' b=some (.tbl (ps++more))
section
variable {fs fs' ex ex':List AA}{H H1 H2:Hp}{h h1 h2 h':AG}{a x e:AA}{o:HO}
theorem Un.any (u:Un fs ex H H1 h h1){b:AA}{ob:Obj}(q:h.get? b=some ob)(n:H b=none)(hx:b∉ex):∃ sl,h1.get? b=some { ob with slots:=sl }:=by
 by_cases hb:b∈fs
 ·exact u.slot b ob q n hb hx
 ·exact⟨ob.slots,u.keep b ob q n hb hx⟩
theorem Un.kept (k:∀ b u,h.get? b=some u→h'.get? b=some u):Un fs ex H H h h':=
 ⟨fun b ob q _ _ _=>k b ob q,fun b ob q _ _ _=>⟨ob.slots,k b ob q⟩,fun _ _ _ n _=>n,fun b ob q _=>⟨ob,k b ob q⟩,fun _ _ q=>q,fun _ _ _ q=>q,fun _ ps q=>⟨#[],by rw[q]; simp⟩⟩
theorem Un.refl:Un fs ex H H h h:=Un.kept fun _ _ q=>q
theorem Un.laid (k:∀ b u,h.get? b=some u→h'.get? b=some u)(hp:h.objs.size≤a)(hn:H a=none):Un fs ex H (upd H a o) h h' where
 keep:=fun b u q _ _ _=>k b u q
 slot:=fun b u q _ _ _=>⟨u.slots,k b u q⟩
 free:=fun b u q n _=>by rw[bA (Aw (As (AY q) hp))]; exact n
 there:=fun b u q _=>⟨u,k b u q⟩
 tups:=fun b xs q=>by rw[bA (bJ q hn)]; exact q
 frzs:=fun b u xs q=>by rw[bA (bJ q hn)]; exact q
 tbls:=fun b ps q=>⟨#[],by rw[bA (bJ q hn),q]; simp⟩
theorem Un.write (mu:Mut (H x))(he:e=x∨H e=some (.own x))(k:∀ b u,b≠e→h.get? b=some u→h'.get? b=some u)(heo:∃ u,h'.get? e=some u):Un fs ex H (upd H x o) h h':=by
 have hx:∀ b,H b=none→b≠x:=fun b n z=>by subst z; rw[n] at mu; exact mu
 have hb:∀ b,H b=none→b≠e:=fun b n z=>by
  subst z;rcases he with r|r
  ·exact hx b n r
  ·rw[n] at r; cases r
 have hm:∀ b u,H b=some u→¬Mut (some u)→b≠x:=fun b u q nm z=>by subst z; rw[q] at mu; exact nm mu
 refine⟨fun b u q n _ _=>k b u (hb b n) q,fun b u q n _ _=>⟨u.slots,k b u (hb b n) q⟩,fun b u q n _=>by rw[bA (hx b n)]; exact n,fun b u q _=>?_,
  fun b xs q=>by rw[bA (hm b _ q fun z=>z)]; exact q,fun b u xs q=>by rw[bA (hm b _ q fun z=>z)]; exact q,fun b ps q=>⟨#[],by rw[bA (hm b _ q fun z=>z),q]; simp⟩⟩
 by_cases hbe:b=e
 ·subst hbe; exact heo
 ·exact⟨u,k b u hbe q⟩
end
noncomputable def trk (h:AG)(H:Hp):List AA:=(B8 h.objs.size).filter fun a=>(H a).isSome
noncomputable def aG4 (h:AG)(H:Hp):AG:=hideAll h (trk h H)
theorem aCU (h:AG)(H:Hp):(aG4 h H).objs.size=h.objs.size:=PySem.W.hideAll_size _ _
theorem aF1 {h:AG}{H:Hp}{b:AA}{o:Obj}(e:h.get? b=some o)(n:H b=none):(aG4 h H).get? b=some o:=
 EK _ e fun hm=>by
  have q:(H b).isSome=true:=(Et.mp hm).2;rw[n] at q; simp at q
theorem aKC {h:AG}{H:Hp}{b:AA}{o:Obj}(e:(aG4 h H).get? b=some o):h.get? b=some o∧H b=none:=by
 have e':h.get? b=some o:=of_hideAll (trk h H) e;refine⟨e',?_⟩
 cases q:H b with
 | none=>rfl
 | some x=>
  have hm:b∈trk h H:=Et.mpr ⟨EF.mpr (AY e'),by simp[q]⟩;have z:(aG4 h H).get? b=none:=Fd (trk h H) hm;rw[z] at e; cases e
end L2
namespace L2
open PySem PySem.Spec PyProof.Rows
structure Mod (K:Ab)(mg:Str→Option AB)(base:AG):Prop where
 kin:K.In base
 glob:base.Ns Ai mg
 blt:∃ mb,base.Ns builtinsNs mb∧∀ x:Str,x ≠ "__name__" → mb x=De x
 nolimit:base.NoLimit
 sm:∃ mm,base.Ns Bq mm
structure Cx where
 prog:AQ
 w:AK
 K:Ab
 mg:Str→Option AB
 base:AG
 A:AU
 N:List Str
 s₀:AD
 H₀:Hp
 env:Env
 outer:List Env
 stack:List Env
 ex:List AA
 fn:Str→Bool
 calm:Bool
 pn:List (AA×Obj)
 xe:AB→AD→Prop
noncomputable def frs (l:List Env):List AA:=l.filterMap (·.frame)
abbrev Cx.fs (X:Cx):List AA:=frs X.outer
noncomputable def Vis (sc:BH)(x:Str):Prop:=sc.names.lookup x=some .local∨sc.names.lookup x=some .cell∨sc.names.lookup x=some .free
noncomputable def Loc (sc:BH)(x:Str):Prop:=sc.names.lookup x=some .local∨sc.names.lookup x=some .cell
noncomputable def Look (env:Env)(h:AG)(m:Str→Option AB)(x:Str)(u:AB):Prop:=
 (env.kindOf x=some .local∧m x=some u)∨((env.kindOf x=some .cell∨env.kindOf x=some .free)∧∃ c,env.cells.lookup x=some c∧h.IsCell c (some u))
structure Cx.Ok (X:Cx):Prop where
 mod:Mod X.K X.mg X.base
 kind:X.env.scope.kind=.function
 glob:X.env.globals=Ai
 blt:X.env.builtins=builtinsNs
 above:X.s₀.heap.objs.size≤X.env.locals
 inj:∀ x y c,X.env.cells.lookup x=some c→X.env.cells.lookup y=some c→x=y
 has:∀ x,(X.env.kindOf x=some .cell∨X.env.kindOf x=some .free)→∃ c,X.env.cells.lookup x=some c
 cab:∀ x c,X.fn x=true→X.env.cells.lookup x=some c→X.s₀.heap.objs.size≤c
 hd:X.calm=true→X.A.handled=none
 frames:X.A.frames=some X.stack
 stk:X.stack=X.outer∨(X.stack=X.env::X.outer∧X.env.frame=some X.env.locals)
 exf:∀ b∈X.ex,b≠X.env.locals∧∀ x c,X.env.cells.lookup x=some c→c≠b
 bs:∀ b o,X.base.get? b=some o→X.s₀.heap.get? b=some o∧X.H₀ b=none
 bsz:X.base.objs.size≤X.s₀.heap.objs.size
 noex:∀ b o,X.base.get? b=some o→b∉X.ex
 exfs:∀ b∈X.ex,b∉X.fs
 funs:X.s₀.heap.FunFrames X.base X.outer
 frf:∀ b∈X.fs,X.H₀ b=none
structure Inv (X:Cx)(pins:List (AA×Obj))(σ:List (Option V))(H:Hp)(s:AD):Prop where
 ok:X.Ok
 os:s.os=X.s₀.os
 bare:B9 s.gens
 base:Un X.fs X.ex X.H₀ H X.s₀.heap s.heap
 loc:∃ m,s.heap.Ns X.env.locals m∧∀(i:Nat) (x:Str) (v:V),X.N[i]?=some x→σ[i]?=some (some v)→Vis X.env.scope x→∃ u,RelV v u∧Look X.env s.heap m x u
 cell:∀ x c,X.env.cells.lookup x=some c→∃ v,s.heap.IsCell c v
 free:H X.env.locals=none
 freeC:∀ x c,X.env.cells.lookup x=some c→H c=none
 pin:∀ p∈X.pn++pins,s.heap.get? p.1=some p.2∧H p.1=none∧p.1≠X.env.locals∧p.1∉X.fs∧∀ v,p.2.data≠.cell v
 hok:HOk X.prog X.w H s.heap
 len:σ.length=X.N.length
section
variable {X:Cx}{pins:List (AA×Obj)}{σ:List (Option V)}{H H':Hp}{s:AD}{h':AG}
theorem Cx.Ok.nofr (ok:X.Ok){b:AA}{o:Obj}(e:X.base.get? b=some o):b∉X.fs:=fun hb=>by
 have:=(ok.funs.mem hb).1;rw[e] at this; cases this
theorem Inv.bs (I:Inv X pins σ H s):∀ b o,X.base.get? b=some o→s.heap.get? b=some o∧H b=none:=fun b o e=>
 ⟨I.base.keep b o (I.ok.bs b o e).1 (I.ok.bs b o e).2 (I.ok.nofr e) (I.ok.noex b o e),I.base.free b o (I.ok.bs b o e).1 (I.ok.bs b o e).2 (I.ok.noex b o e)⟩
theorem Inv.bk (I:Inv X pins σ H s):∀ b o,X.base.get? b=some o→s.heap.get? b=some o:=fun b o e=>(I.bs b o e).1
theorem Inv.mod (I:Inv X pins σ H s):Mod X.K X.mg X.base:=I.ok.mod
theorem Inv.kIn (I:Inv X pins σ H s):X.K.In s.heap:=I.ok.mod.kin.keeps I.bk
theorem Inv.fr (I:Inv X pins σ H s):∃ m,Fr X.base X.env.locals s.heap m:=
 let ⟨m,hn,_⟩:=I.loc
 ⟨m,hn,I.bk,Ac I.ok.bsz I.ok.above⟩
theorem Inv.lt (I:Inv X pins σ H s):X.env.locals<s.heap.objs.size:=let ⟨_,hn,_⟩:=I.loc; hn.lt
theorem Inv.sz (I:Inv X pins σ H s):X.s₀.heap.objs.size≤s.heap.objs.size:=Ac I.ok.above (Cr I.lt)
theorem Inv.nofs (I:Inv X pins σ H s){a:AA}(h:s.heap.objs.size≤a):a∉X.fs:=fun hb=>by
 obtain⟨_,o,ho,_⟩:=I.ok.funs.mem hb;exact absurd (As (AY ho) (Ac I.sz h)) (Bd _)
theorem Inv.cne (I:Inv X pins σ H s):∀ x c,X.env.cells.lookup x=some c→c≠X.env.locals:=fun x c e z=>by
 obtain⟨v,o,ho,hd⟩:=I.cell x c e;obtain⟨m,⟨o',es,ep,ho',hd',_⟩,_⟩:=I.loc;rw[z,ho'] at ho; cases ho; rw[hd'] at hd; cases hd
theorem Inv.funs (I:Inv X pins σ H s):s.heap.FunFrames X.base X.outer:=by
 have all:∀(l:List Env),(∀ b∈frs l,b∈X.fs)→X.s₀.heap.FunFrames X.base l→s.heap.FunFrames X.base l:=by
  intro l
  induction l with
  | nil=>intro _ _; trivial
  | cons env r ih=>
   intro hs hl;obtain⟨hk,⟨L,o,hf,hn,ho,hd⟩,hr⟩:=hl;have hL:L∈X.fs:=hs L (by unfold frs; rw[D8,hf]; exact Ap);obtain⟨sl,e⟩:=I.base.slot L o ho (I.ok.frf L hL) hL fun z=>I.ok.exfs L z hL;exact⟨hk,⟨L,_,hf,hn,e,hd⟩,ih (fun b hb=>hs b (by unfold frs; rw[D8,hf]; exact Ak _ hb)) hr⟩
 exact all X.outer (fun _ hb=>hb) I.ok.funs
theorem Inv.stack (I:Inv X pins σ H s):s.heap.FunFrames X.base X.stack:=by
 rcases I.ok.stk with e|⟨e,hf⟩
 ·rw[e]; exact I.funs
 ·rw[e];obtain⟨m,hn,_⟩:=I.loc;refine .cons (by rw[I.ok.kind]; decide) hf hn ?_ I.funs;exact AG.get?_none_of_le (Ac I.ok.bsz I.ok.above)
theorem Inv.stkSub (I:Inv X pins σ H s):∀ b∈frs X.stack,b∈X.env.locals::X.fs:=fun b hb=>by
 rcases I.ok.stk with e|⟨e,hf⟩
 ·rw[e] at hb; exact Ak _ hb
 ·rw[e] at hb;unfold frs at hb;rw[D8,hf] at hb;exact hb
theorem Inv.stkFree (I:Inv X pins σ H s):∀ b∈frs X.stack,H b=none:=fun b hb=>by
 rcases AT.mp (I.stkSub b hb) with e|hb
 ·rw[e]; exact I.free
 ·obtain⟨_,o,ho,_⟩:=I.ok.funs.mem hb;exact I.base.free b o ho (I.ok.frf b hb) fun z=>I.ok.exfs b z hb
theorem Inv.step {g':Array ET}{t':Nat}{d':Drawn}{ch:List AA}(I:Inv X pins σ H s)
  (hch:∀ b∈ch,(b∈X.ex∨X.s₀.heap.objs.size≤b)∧b≠X.env.locals∧(∀ x c,X.env.cells.lookup x=some c→c≠b)∧∀ p∈X.pn++pins,p.1≠b)
  (keep:∀ b o,b≠X.env.locals→b∉X.fs→b∉ch→s.heap.get? b=some o→H b=none→h'.get? b=some o)
  (slot:∀ b o,b≠X.env.locals→b∈X.fs→b∉ch→s.heap.get? b=some o→H b=none→∃ sl,h'.get? b=some { o with slots:=sl }) (free:∀ b o,b∉ch→s.heap.get? b=some o→H b=none→H' b=none)
  (there:∀ b o,b∉ch→s.heap.get? b=some o→∃ o',h'.get? b=some o')
  (tups:∀ b xs,H b=some (.tup xs)→H' b=some (.tup xs)) (frzs:∀ b o u,H b=some (.frz o u)→H' b=some (.frz o u)) (tbls:∀ b ps,H b=some (.tbl ps)→∃ more,H' b=some (.tbl (ps++more)))
  (ns:∀ m,s.heap.Ns X.env.locals m→h'.Ns X.env.locals m) (hok:HOk X.prog X.w H' h') (hg:B9 g') :
  Inv X pins σ H' { s with heap:=h',gens:=g',drawn:=d',toks:=t' }:=by
 have neL:∀ b o,X.s₀.heap.get? b=some o→b≠X.env.locals:=fun b o e=>Aw (As (AY e) I.ok.above);have neC:∀ b o,X.s₀.heap.get? b=some o→b∉X.ex→b∉ch:=fun b o e hx hb=>by
  rcases(hch b hb).1 with z|z
  ·exact hx z
  ·exact absurd (As (AY e) z) (Bd _)
 have cellK:∀ x c,X.env.cells.lookup x=some c→∀ v,s.heap.IsCell c v→h'.IsCell c v:=fun x c e v ⟨o,ho,hd⟩=>by
  have nch:c∉ch:=fun z=>(hch c z).2.2.1 x c e rfl
  by_cases hc:c∈X.fs
  ·obtain⟨sl,q⟩:=slot c o (I.cne x c e) hc nch ho (I.freeC x c e);exact⟨_,q,hd⟩
  ·exact⟨o,keep c o (I.cne x c e) hc nch ho (I.freeC x c e),hd⟩
 refine⟨I.ok,I.os,hg,⟨fun b o e n hb hx=>?_,fun b o e n hb hx=>?_,fun b o e n hx=>?_,fun b o e hx=>?_,fun b xs e=>tups b xs (I.base.tups b xs e),fun b o xs e=>frzs b o xs (I.base.frzs b o xs e),fun b ps e=>?_⟩,?_,fun x c e=>?_,?_,fun x c e=>?_,fun p hp=>?_,hok,I.len⟩
 ·exact keep b o (neL b o e) hb (neC b o e hx) (I.base.keep b o e n hb hx) (I.base.free b o e n hx)
 ·obtain⟨sl,e1⟩:=I.base.slot b o e n hb hx;obtain⟨sl',e2⟩:=slot b _ (neL b o e) hb (neC b o e hx) e1 (I.base.free b o e n hx);exact⟨sl',e2⟩
 ·obtain⟨o',e1⟩:=I.base.there b o e hx;exact free b o' (neC b o e hx) e1 (I.base.free b o e n hx)
 ·obtain⟨o',e1⟩:=I.base.there b o e hx;exact there b o' (neC b o e hx) e1
 ·obtain⟨m1,e1⟩:=I.base.tbls b ps e;obtain⟨m2,e2⟩:=tbls b _ e1;exact⟨m1++m2,by rw[e2,Array.append_assoc]⟩
 ·obtain⟨m,hn,hl⟩:=I.loc;refine⟨m,ns m hn,fun i x v e1 e2 e3=>?_⟩;obtain⟨u,r,l⟩:=hl i x v e1 e2 e3;refine⟨u,r,?_⟩;rcases l with l|⟨k,c,e,z⟩
  ·exact .inl l
  ·exact .inr ⟨k,c,e,cellK x c e _ z⟩
 ·obtain⟨v,z⟩:=I.cell x c e;exact⟨v,cellK x c e v z⟩
 ·obtain⟨m,⟨o,_,_,ho,_⟩,_⟩:=I.loc;exact free _ o (fun z=>(hch _ z).2.1 rfl) ho I.free
 ·obtain⟨v,o,ho,hd⟩:=I.cell x c e;exact free c o (fun z=>(hch c z).2.2.1 x c e rfl) ho (I.freeC x c e)
 ·obtain⟨e,n,ne,nf,d⟩:=I.pin p hp;have nch:p.1∉ch:=fun z=>(hch p.1 z).2.2.2 p hp rfl;exact⟨keep p.1 p.2 ne nf nch e n,free p.1 p.2 nch e n,ne,nf,d⟩
theorem Inv.un {t':Nat}(I:Inv X pins σ H s)(u:Un X.fs [] H H' s.heap h')(hok:HOk X.prog X.w H' h'):Inv X pins σ H' { s with heap:=h',toks:=t' }:=by
 obtain⟨m,⟨o,es,ep,ho,r⟩,_⟩:=id I.loc;obtain⟨sl,hL⟩:=u.any ho I.free (by simp);exact I.step (g':=s.gens) (d':=s.drawn) (ch:=[]) (fun _ z=>nomatch z) (fun b o _ hb _ e n=>u.keep b o e n hb (by simp)) (fun b o _ hb _ e n=>u.slot b o e n hb (by simp)) (fun b o _ e n=>u.free b o e n (by simp)) (fun b o _ e=>u.there b o e (by simp)) u.tups u.frzs u.tbls (fun m' hm=>by
  obtain⟨o',es',ep',ho',r'⟩:=hm;rw[ho] at ho'; cases ho';exact⟨_,es',ep',hL,r'⟩) hok I.bare
theorem Inv.call {g':Array ET}{t':Nat}{d':Drawn}{ch:List AA}(I:Inv X pins σ H s)(u:Un (frs X.stack) ch H H' s.heap h')(hok:HOk X.prog X.w H' h')(hg:B9 g')
  (hch:∀ b∈ch,(b∈X.ex∨X.s₀.heap.objs.size≤b)∧b≠X.env.locals∧(∀ x c,X.env.cells.lookup x=some c→c≠b)∧∀ p∈X.pn++pins,p.1≠b) :
  Inv X pins σ H' { s with heap:=h',gens:=g',drawn:=d',toks:=t' }:=by
 obtain⟨m,⟨o,es,ep,ho,r⟩,_⟩:=id I.loc;obtain⟨sl,hL⟩:=u.any ho I.free fun z=>(hch _ z).2.1 rfl;exact I.step (ch:=ch) hch (fun b o hL hb hc e n=>u.keep b o e n (fun z=>(AT.mp (I.stkSub b z)).elim hL hb) hc) (fun b o _ _ hc e n=>u.any e n hc) (fun b o hc e n=>u.free b o e n hc) (fun b o hc e=>u.there b o e hc) u.tups u.frzs u.tbls (fun m' hm=>by
  obtain⟨o',es',ep',ho',r'⟩:=hm;rw[ho] at ho'; cases ho';exact⟨_,es',ep',hL,r'⟩) hok hg
theorem Inv.turned {t':Nat}{it:AA}(I:Inv X pins σ H s)(k:∀ b o,b≠it→s.heap.get? b=some o→h'.get? b=some o)(hn:H it=none)(hL:it≠X.env.locals)
  (h1:it∈X.ex∨X.s₀.heap.objs.size≤it) (h2:∀ x c,X.env.cells.lookup x=some c→c≠it) (h3:∀ p∈X.pn++pins,p.1≠it):Inv X pins σ H { s with heap:=h',toks:=t' }:=by
 have nit:∀ b u,H b=some u→b≠it:=fun b u e z=>by rw[z,hn] at e; cases e
 refine I.step (g':=s.gens) (d':=s.drawn) (ch:=[it]) (fun b hb=>?_) (fun b o _ _ hc e _=>k b o (fun z=>hc (by simp[z])) e) (fun b o _ _ hc e _=>⟨o.slots,k b o (fun z=>hc (by simp[z])) e⟩) (fun _ _ _ _ n=>n)
  (fun b o hc e=>⟨o,k b o (fun z=>hc (by simp[z])) e⟩) (fun _ _ e=>e) (fun _ _ _ e=>e) (fun b ps e=>⟨#[],by rw[e]; simp⟩) (fun m hm=>?_) (fun b u e=>?_) I.bare
 ·have e:b=it:=by simpa using hb
  subst e;exact⟨h1,hL,h2,h3⟩
 ·obtain⟨o,es,ep,ho,r⟩:=hm;exact⟨o,es,ep,k _ o (Am hL) ho,r⟩
 ·refine(I.hok b u e).stay (fun c v hc q=>k c v ?_ q) (fun _ q=>q) fun _ _ q=>q;rcases hc with z|z
  ·rw[z]; exact nit b u e
  ·exact nit c _ z
theorem Inv.tok (I:Inv X pins σ H s)(t:Nat):Inv X pins σ H { s with toks:=t }:=I.un (h':=s.heap) (t':=t) Un.refl I.hok
theorem Inv.kept {t':Nat}(I:Inv X pins σ H s)(k:∀ b u,s.heap.get? b=some u→h'.get? b=some u):Inv X pins σ H { s with heap:=h',toks:=t' }:=I.un (Un.kept k) (I.hok.kept k)
theorem Inv.laid {a:AA}{o:HO}{t':Nat}(I:Inv X pins σ H s)(k:∀ b u,s.heap.get? b=some u→h'.get? b=some u)(hp:s.heap.objs.size≤a)(new:ObjOk X.prog X.w (upd H a o) h' a o) :
  Inv X pins σ (upd H a o) { s with heap:=h',toks:=t' }:=I.un (Un.laid k hp (I.hok.fresh hp)) (I.hok.laid k hp new)
theorem Inv.write {x e:AA}{o:HO}{t':Nat}(I:Inv X pins σ H s)(mu:Mut (H x))(he:e=x∨H e=some (.own x))(k:∀ b u,b≠e→s.heap.get? b=some u→h'.get? b=some u)(heo:∃ u,h'.get? e=some u)
  (new:ObjOk X.prog X.w (upd H x o) h' x o):Inv X pins σ (upd H x o) { s with heap:=h',toks:=t' }:=I.un (Un.write mu he k heo) (I.hok.write mu he k heo new)
theorem Inv.weak {σ':List (Option V)}(I:Inv X pins σ H s)(hl:σ'.length=σ.length)(w:∀(i:Nat) v,σ'[i]?=some (some v)→σ[i]?=some (some v)):Inv X pins σ' H s:=
 ⟨I.ok,I.os,I.bare,I.base,let ⟨m,hn,hl'⟩:=I.loc; ⟨m,hn,fun i x v e1 e2 e3=>hl' i x v e1 (w i v e2) e3⟩,I.cell,I.free,I.freeC,I.pin,I.hok,hl.trans I.len⟩
theorem Inv.pins_of {pins':List (AA×Obj)}(I:Inv X pins σ H s)(h:∀ p∈pins',s.heap.get? p.1=some p.2∧H p.1=none∧p.1≠X.env.locals∧p.1∉X.fs∧∀ v,p.2.data≠.cell v):Inv X pins' σ H s:=
 ⟨I.ok,I.os,I.bare,I.base,I.loc,I.cell,I.free,I.freeC,fun p hp=>(Aj.mp hp).elim (fun z=>I.pin p (CG _ z)) (h p),I.hok,I.len⟩
theorem a2K {N:List Str}(hN:N.Nodup){i j:Nat}{x:Str}(a:N[i]?=some x)(b:N[j]?=some x):i=j:=by
 obtain⟨h1,e1⟩:=Aq.mp a;obtain⟨h2,e2⟩:=Aq.mp b;exact(List.getElem_inj hN).mp (e1.trans e2.symm)
theorem zB {M:CP}{A:AU}{E:AB→AD→Prop}{i:Nat}{x:Str}{v:V}{u:AB}{Q:Unit→AD→Prop}(I:Inv X pins σ H s)(hN:X.N.Nodup)(hi:X.N[i]?=some x)(hx:Loc X.env.scope x)(r:RelV v u)
  (h:∀ s',Inv X pins (σ.set i (some v)) H s'→(∃ a,BU a s.heap s'.heap∧(a=X.env.locals∨X.env.cells.lookup x=some a))→Q () s') (hf:X.fn x=true∨X.env.scope.names.lookup x=some .local:=by first|exact .inl rfl|exact .inr rfl|assumption):AF M A (storeName X.env x u) Q E s:=by
 obtain⟨m,hn,hl⟩:=id I.loc;have hcls:(X.env.scope.kind==.class||(X.env.scope.kind==.module&&X.env.locals != X.env.globals))=false:=by rw[I.ok.kind]; rfl
 have hiσ:i<σ.length:=by rw[I.len]; exact(Aq.mp hi).1
 have cne:=I.cne;have tracked:∀{a:AA} {h':AG},(∃ o,s.heap.get? a=some o∧H a=none)→BU a s.heap h'→HOk X.prog X.w H h':=fun{a h'} ha hs b ob e=>by
  obtain⟨_,_,hfree⟩:=ha;refine(I.hok b ob e).stay (fun c w' hc q=>(hs.2 c ?_).trans q) (fun _ q=>q) fun _ _ q=>q;rintro rfl;rcases hc with rfl|hc
  ·rw[hfree] at e; cases e
  ·rw[hfree] at hc; cases hc
 rcases hx with hk|hk
 ·refine wpAny_storeName_local hk hn (fun h' hn' hs=>?_) hcls;obtain⟨oL,_,_,hoL,_⟩:=id hn;refine h _ ⟨I.ok,I.os,I.bare,⟨fun b o e n hb hx=>?_,fun b o e n hb hx=>?_,I.base.free,fun b o e hx=>?_,I.base.tups,I.base.frzs,I.base.tbls⟩,⟨_,hn',fun j y v' e1 e2 e3=>?_⟩,fun y c e=>?_,I.free,I.freeC,fun p hp=>?_,tracked ⟨oL,hoL,I.free⟩ hs,by simpa using I.len⟩ ⟨_,hs,.inl rfl⟩
  ·exact(hs.2 b (Aw (As (AY e) I.ok.above))).trans (I.base.keep b o e n hb hx)
  ·obtain⟨sl,e1⟩:=I.base.slot b o e n hb hx;exact⟨sl,(hs.2 b (Aw (As (AY e) I.ok.above))).trans e1⟩
  ·obtain⟨o',e1⟩:=I.base.there b o e hx;exact⟨o',(hs.2 b (Aw (As (AY e) I.ok.above))).trans e1⟩
  ·by_cases hj:j=i
   ·subst hj;rw[hi] at e1; cases e1;rw[BX hiσ] at e2
    cases e2
    exact⟨u,r,.inl ⟨hk,by simp⟩⟩
   ·rw[BO (Am hj)] at e2;obtain⟨u',r',q⟩:=hl j y v' e1 e2 e3;refine⟨u',r',?_⟩;rcases q with⟨k,e⟩|⟨k,c,e,z⟩
    ·refine .inl ⟨k,?_⟩;have:y≠x:=fun e=>hj (a2K hN e1 (e▸hi));simp[this,e]
    ·exact .inr ⟨k,c,e,z.sameBut hs (cne y c e)⟩
  ·obtain⟨w',z⟩:=I.cell y c e;exact⟨w',z.sameBut hs (cne y c e)⟩
  ·obtain⟨e,n,ne,nf,d⟩:=I.pin p hp;exact⟨(hs.2 p.1 ne).trans e,n,ne,nf,d⟩
 ·have hfn:X.fn x=true:=by
   rcases hf with z|z
   ·exact z
   ·rw[z] at hk; cases hk
  obtain⟨c,hc⟩:=I.ok.has x (.inl hk);obtain⟨w',z⟩:=I.cell x c hc;refine wpAny_storeName_cell I.ok.kind hk hc z (fun h' hc' hs=>?_);obtain⟨oc,hoc,hocd⟩:=id z;refine h { s with heap:=h' } ⟨I.ok,I.os,I.bare,⟨fun b o e n hb hx=>?_,fun b o e n hb hx=>?_,I.base.free,fun b o e hx=>?_,I.base.tups,I.base.frzs,I.base.tbls⟩,⟨m,hn.sameBut hs (Am (cne x c hc)),fun j y v' e1 e2 e3=>?_⟩,fun y c' e=>?_,I.free,I.freeC,fun p hp=>?_,tracked ⟨oc,hoc,I.freeC x c hc⟩ hs,by simpa using I.len⟩ ⟨c,hs,.inr hc⟩
  ·exact(hs.2 b (Aw (As (AY e) (I.ok.cab x c hfn hc)))).trans (I.base.keep b o e n hb hx)
  ·obtain⟨sl,e1⟩:=I.base.slot b o e n hb hx;exact⟨sl,(hs.2 b (Aw (As (AY e) (I.ok.cab x c hfn hc)))).trans e1⟩
  ·obtain⟨o',e1⟩:=I.base.there b o e hx;exact⟨o',(hs.2 b (Aw (As (AY e) (I.ok.cab x c hfn hc)))).trans e1⟩
  ·by_cases hj:j=i
   ·subst hj;rw[hi] at e1; cases e1;rw[BX hiσ] at e2
    cases e2
    exact⟨u,r,.inr ⟨.inl hk,c,hc,hc'⟩⟩
   ·rw[BO (Am hj)] at e2;obtain⟨u',r',q⟩:=hl j y v' e1 e2 e3;refine⟨u',r',?_⟩;rcases q with q|⟨k,c',e,z'⟩
    ·exact .inl q
    ·refine .inr ⟨k,c',e,z'.sameBut hs ?_⟩;rintro rfl;exact hj (a2K hN e1 (I.ok.inj _ _ _ e hc▸hi))
  ·by_cases hcc:c'=c
   ·subst hcc; exact⟨_,hc'⟩
   ·obtain⟨w2,z2⟩:=I.cell y c' e;exact⟨w2,z2.sameBut hs hcc⟩
  ·obtain⟨e,n,ne,nf,d⟩:=I.pin p hp;refine⟨(hs.2 p.1 ?_).trans e,n,ne,nf,d⟩;intro q;rw[q,hoc] at e;have q':oc=p.2:=Option.some.inj e;exact d w' (by rw[← q']; exact hocd)
theorem rH {M:CP}{A:AU}{E:AB→AD→Prop}{i:Nat}{x:Str}{v:V}{u:AB}{Q:Unit→AD→Prop}(I:Inv X pins σ H s)(hN:X.N.Nodup)(hi:X.N[i]?=some x)(hx:Loc X.env.scope x)(r:RelV v u)
  (h:∀ s',Inv X pins (σ.set i (some v)) H s'→Q () s') (hf:X.fn x=true∨X.env.scope.names.lookup x=some .local:=by first|exact .inl rfl|exact .inr rfl|assumption):AF M A (storeName X.env x u) Q E s:=
 zB I hN hi hx r (fun s' I' _=>h s' I') hf
theorem Inv.call' {s':AD}{ch:List AA}(I:Inv X pins σ H s)(ho:s'.os=s.os)(u:Un (frs X.stack) ch H H' s.heap s'.heap)(hok:HOk X.prog X.w H' s'.heap)(hg:B9 s'.gens)
  (hch:∀ b∈ch,(b∈X.ex∨X.s₀.heap.objs.size≤b)∧b≠X.env.locals∧(∀ x c,X.env.cells.lookup x=some c→c≠b)∧∀ p∈X.pn++pins,p.1≠b):Inv X pins σ H' s':=by
 obtain⟨h',g',d',t',o'⟩:=s';have e:o'=s.os:=ho;subst e;exact I.call (g':=g') (t':=t') (d':=d') u hok hg hch
end
abbrev XK:=AB→Option AA→Hp→Prop
abbrev St:=List (Option V)
abbrev VK:=V→Hp→Prop
abbrev TE:=St→Hp→VK→Prop
abbrev TT:=St→Hp→(Bool→Hp→Prop)→Prop
abbrev TA:=St→Hp→(List V→Hp→Prop)→Prop
structure Ends where
 nx:St→Hp→Prop
 rt:VK
 bk:St→Hp→Prop:=fun _ _=>False
 ct:St→Hp→Prop:=fun _ _=>False
abbrev TS:=Ends→St→Hp→Prop
noncomputable def EP (X:Cx)(pins:List (AA×Obj))(σ:St)(Q:VK)(u:AB)(s':AD):Prop:=∃ v H',Inv X pins σ H' s'∧RelV v u∧Q v H'
noncomputable def TP (X:Cx)(pins:List (AA×Obj))(σ:St)(Q:Bool→Hp→Prop)(b:Bool)(s':AD):Prop:=∃ H',Inv X pins σ H' s'∧Q b H'
noncomputable def AP (X:Cx)(pins:List (AA×Obj))(σ:St)(Q:List V→Hp→Prop)(us:List AB)(s':AD):Prop:=∃ vs H',Inv X pins σ H' s'∧Vals vs us∧Q vs H'
noncomputable def SP (X:Cx)(pins:List (AA×Obj))(D:Ends)(f:Flow)(s':AD):Prop:=
 match f with
 | .next=>∃ σ' H',Inv X pins σ' H' s'∧D.nx σ' H'
 | .brk=>∃ σ' H',Inv X pins σ' H' s'∧D.bk σ' H'
 | .cont=>∃ σ' H',Inv X pins σ' H' s'∧D.ct σ' H'
 | .ret u=>∃ v σ' H',Inv X pins σ' H' s'∧RelV v u∧D.rt v H'
noncomputable def PE (X:Cx)(e:AJ)(t:TE):Prop:=
 ∀(pins:List (AA×Obj)) (s:AD) (σ:St) (H:Hp) (Q:VK),Inv X pins σ H s→t σ H Q→AF (AI X.prog X.w) X.A (eval e X.env) (EP X pins σ Q) X.xe s
noncomputable def PT (X:Cx)(e:AJ)(t:TT):Prop:=
 ∀(pins:List (AA×Obj)) (s:AD) (σ:St) (H:Hp) (Q:Bool→Hp→Prop),Inv X pins σ H s→t σ H Q→AF (AI X.prog X.w) X.A (isTrue e X.env (eval e X.env)) (TP X pins σ Q) X.xe s
noncomputable def PW (X:Cx)(e:AJ)(t:TT):Prop:=
 ∀(whole:Sem AB) (pins:List (AA×Obj)) (s:AD) (σ:St) (H:Hp) (Q:Bool→Hp→Prop),Inv X pins σ H s→t σ H Q→AF (AI X.prog X.w) X.A (isTrue e X.env whole) (TP X pins σ Q) X.xe s
theorem PW.pt {X:Cx}{e:AJ}{t:TT}(h:PW X e t):PT X e t:=h _
noncomputable def PA (X:Cx)(es:List AJ)(t:TA):Prop:=
 ∀(pos:Pos) (pins:List (AA×Obj)) (s:AD) (σ:St) (H:Hp) (Q:List V→Hp→Prop),Inv X pins σ H s→t σ H Q→AF (AI X.prog X.w) X.A (spliced (BG pos (AX es X.env))) (AP X pins σ Q) X.xe s
noncomputable def PS (X:Cx)(st:AL)(t:TS):Prop:=
 ∀(pins:List (AA×Obj)) (s:AD) (σ:St) (H:Hp) (D:Ends),Inv X pins σ H s→t D σ H→AF (AI X.prog X.w) X.A (exec st X.env) (SP X pins D) X.xe s
noncomputable def PSs (X:Cx)(st:List AL)(t:TS):Prop:=
 ∀(pins:List (AA×Obj)) (s:AD) (σ:St) (H:Hp) (D:Ends),Inv X pins σ H s→t D σ H→AF (AI X.prog X.w) X.A (execs st X.env) (SP X pins D) X.xe s
theorem thn {α:Type}{t:Sem α}{Q Q':α→AD→Prop}{M:CP}{A:AU}{E:AB→AD→Prop}{s:AD}(h:AF M A t Q E s)(hQ:∀ a s,Q a s→Q' a s):AF M A t Q' E s:=Au h hQ fun _ _ x=>x
end L2
namespace L2
open PySem PySem.Spec PyProof.Rows
section
variable {X:Cx}
theorem bin {a b:AJ}{ta tb:TE}(ha:PE X a ta)(hb:PE X b tb){pins:List (AA×Obj)}{s:AD}{σ:St}{H:Hp}{R:V→V→Hp→Prop}(I:Inv X pins σ H s)(h:ta σ H fun x H1=>tb σ H1 fun y H2=>R x y H2)
  {α:Type} {Q:α→AD→Prop} {f:AB→AB→Sem α}
  (hf:∀ v u s2 x y H2,Inv X pins σ H2 s2→RelV x v→RelV y u→R x y H2→AF (AI X.prog X.w) X.A (f v u) Q X.xe s2) :
  AF (AI X.prog X.w) X.A (eval a X.env) (fun v s₁=>AF (AI X.prog X.w) X.A (eval b X.env) (fun u s₂=>AF (AI X.prog X.w) X.A (f v u) Q X.xe s₂) X.xe s₁) X.xe s:=by
 refine thn (ha pins s σ H _ I h) fun v s1 ⟨x,H1,I1,r1,q1⟩=>?_;refine thn (hb pins s1 σ H1 _ I1 q1) fun u s2 ⟨y,H2,I2,r2,q2⟩=>?_;exact hf v u s2 x y H2 I2 r1 r2 q2
noncomputable def uA (i:Nat):TE:=fun σ H Q=>∃ v,σ[i]?=some (some v)∧Q v H
noncomputable def tC (v:V):TE:=fun _ H Q=>Q v H
theorem aIR {i:Nat}{x:Str}{pos:Pos}(hN:X.N[i]?=some x)(hv:Vis X.env.scope x)(hd:(x==("__debug__" : Str))=false:=by decide)(hcd:(x==("__classdict__" : Str))=false:=by decide):PE X (.Name x pos) (uA i):=by
 intro pins s σ H Q I h;obtain⟨v,e,h⟩:=h;obtain⟨m,hn,hl⟩:=I.loc;obtain⟨u,r,l⟩:=hl i x v hN e hv;have fin:EP X pins σ Q u s:=⟨v,H,I,r,h⟩;rcases l with⟨hk,hm⟩|⟨hk,c,hc,hcell⟩
 ·exact Df (GL I.ok.kind hk hn hm fin) hd
 ·rcases hk with hk|hk
  ·exact Df (GM I.ok.kind hk hc hcell fin) hd
  ·exact Df (GN I.ok.kind hk hc hcell fin hcd) hd
theorem aF {i j pos}:PE X (.Constant (.int i) j pos) (tC (.int i)):=fun _ _ _ H _ I h=>wpAny_Constant_int ⟨.int i,H,I.tok _,⟨_,rfl⟩,h⟩
theorem mJ {b j pos}:PE X (.Constant (.bool b) j pos) (tC (.bl b)):=fun _ _ _ H _ I h=>Constant_bool ⟨.bl b,H,I,rfl,h⟩
theorem eQ {j pos}:PE X (.Constant .none j pos) (tC .non):=fun _ _ _ H _ I h=>Constant_none ⟨.non,H,I,rfl,h⟩
theorem aZ {x j pos}:PE X (.Constant (.str x) j pos) (tC (.str x)):=fun _ _ _ H _ I h=>E8 ⟨.str x,H,I.tok _,⟨_,rfl⟩,h⟩
noncomputable def Gl (X:Cx)(x:Str):Prop:=X.env.kindOf x=some .globalImplicit
theorem rC {E:AB→AD→Prop}{pins:List (AA×Obj)}{s:AD}{σ:St}{H:Hp}{x:Str}{u:AB}{pos:Pos}{Q:AB→AD→Prop}(I:Inv X pins σ H s)(hg:Gl X x)(hm:X.mg x=some u)(h:Q u s)
  (hd:(x==("__debug__" : Str))=false:=by decide):AF (AI X.prog X.w) X.A (eval (.Name x pos) X.env) Q E s:=
 Ff I.ok.kind hg (GO (by rw[I.ok.glob]; exact I.mod.glob.keeps I.bk) hm h) hd
theorem a02 {E:AB→AD→Prop}{pins:List (AA×Obj)}{s:AD}{σ:St}{H:Hp}{x:Str}{u:AB}{pos:Pos}{Q:AB→AD→Prop}(I:Inv X pins σ H s)(hg:Gl X x)(hm:X.mg x=none)(hv:De x=some u)(h:Q u s)
  (hn:x ≠ "__name__" := by decide) (hd:(x==("__debug__" : Str))=false:=by decide):AF (AI X.prog X.w) X.A (eval (.Name x pos) X.env) Q E s:=by
 obtain⟨mb,h1,h2⟩:=I.mod.blt;exact Ff I.ok.kind hg (Calls.loadGlobal_builtin (by rw[I.ok.glob]; exact I.mod.glob.keeps I.bk) hm (by rw[I.ok.blt]; exact h1.keeps I.bk) ((h2 x hn).trans hv) h) hd
theorem gW {x:Str}{v:V}{u:AB}{pos:Pos}(hg:Gl X x)(hm:X.mg x=some u)(r:RelV v u)(hd:(x==("__debug__" : Str))=false:=by decide):PE X (.Name x pos) (tC v):=
 fun _ _ _ H _ I h=>rC I hg hm ⟨v,H,I,r,h⟩ hd
theorem kI {x:Str}{v:V}{u:AB}{pos:Pos}(hg:Gl X x)(hm:X.mg x=none)(hv:De x=some u)(r:RelV v u)(hn:x ≠ "__name__" := by decide)(hd:(x==("__debug__" : Str))=false:=by decide):PE X (.Name x pos) (tC v):=
 fun _ _ _ H _ I h=>a02 I hg hm hv ⟨v,H,I,r,h⟩ hn hd
variable {a b:AJ}{ta tb:TE}{pos:Pos}
noncomputable def PC (X:Cx)(op:CmpOp)(a b:AJ)(t:TE):Prop:=
 ∀(pins:List (AA×Obj)) (s:AD) (σ:St) (H:Hp) (Q:VK),Inv X pins σ H s→t σ H Q →
  AF (AI X.prog X.w) X.A (eval a X.env) (fun v s₁=>AF (AI X.prog X.w) X.A (eval b X.env) (fun u s₂=>AF (AI X.prog X.w) X.A (Bf op v u) (EP X pins σ Q) X.xe s₂) X.xe s₁) X.xe s
noncomputable def tB (t:TE):TT:=fun σ H Q=>t σ H fun x H1=>∃ c,x=.bl c∧Q c H1
theorem aPR {op:CmpOp}{t:TE}(h:PC X op a b t)(h1:Dg op b=false:=by first|exact nobehind _ (by decide) (by decide)|rfl):PE X (.Compare a [op] [b] pos) t:=fun pins s σ H Q I hw=>wpAny_Compare1 (h pins s σ H Q I hw) h1
theorem aVC {op:CmpOp}{t:TE}(h:PC X op a b t)(h1:Dg op b=false:=by first|exact nobehind _ (by decide) (by decide)|rfl):PT X (.Compare a [op] [b] pos) (tB t):=by
 intro pins s σ H Q I hw;refine GP (thn (h pins s σ H _ I hw) fun v s1 h1=>thn h1 fun u s2 h2=>thn h2 fun c s3 ⟨x,H1,I1,r1,q1⟩=>?_) h1;obtain⟨d,rfl,q⟩:=q1
 cases r1
 exact Dh ⟨H1,I1,q⟩
theorem dN {e:AJ}{t:TE}(h:PE X e t)(he:∀ whole,isTrue e X.env whole=(do let v←whole; EU e.pos; DJ [v] (truthy v)):=by intro _; rfl):PT X e (tB t):=by
 intro pins s σ H Q I hw;refine isTrue_plain (thn (h pins s σ H _ I hw) fun v s1 ⟨x,H1,I1,r1,q1⟩=>?_) (he _);obtain⟨d,rfl,q⟩:=q1
 cases r1
 exact Dh ⟨H1,I1,q⟩
variable {tA tB':TT}{rest:List AJ}
noncomputable def aV1 (t u:TT):TT:=fun σ H Q=>t σ H fun c H1=>if c=true then u σ H1 Q else Q false H1
noncomputable def tOr (t u:TT):TT:=fun σ H Q=>t σ H fun c H1=>if c=true then Q true H1 else u σ H1 Q
noncomputable def aVR (t:TT):TT:=fun σ H Q=>t σ H fun c H1=>Q (!c) H1
theorem oE (ha:PT X a tA):PW X (.BoolOp .And [a] pos) tA:=by
 intro wh pins s σ H Q I h;refine isTrue_and (thn (ha pins s σ H Q I h) fun c s1 e=>?_)
 cases c with
 | true=>exact isTrue_and_nil e
 | false=>exact e
theorem oH (ha:PT X a tA):PW X (.BoolOp .Or [a] pos) tA:=by
 intro wh pins s σ H Q I h;refine isTrue_or (thn (ha pins s σ H Q I h) fun c s1 e=>?_)
 cases c with
 | false=>exact isTrue_or_nil e
 | true=>exact e
theorem pW (ha:PT X a tA)(hb:PW X (.BoolOp .And (b::rest) pos) tB'):PW X (.BoolOp .And (a::b::rest) pos) (aV1 tA tB'):=by
 intro wh pins s σ H Q I h;refine isTrue_and (thn (ha pins s σ H _ I h) fun c s1 ⟨H1,I1,q1⟩=>?_)
 cases c with
 | true=>exact hb wh pins s1 σ H1 Q I1 q1
 | false=>exact⟨H1,I1,q1⟩
theorem qJ (ha:PT X a tA)(hb:PW X (.BoolOp .Or (b::rest) pos) tB'):PW X (.BoolOp .Or (a::b::rest) pos) (tOr tA tB'):=by
 intro wh pins s σ H Q I h;refine isTrue_or (thn (ha pins s σ H _ I h) fun c s1 ⟨H1,I1,q1⟩=>?_)
 cases c with
 | true=>exact⟨H1,I1,q1⟩
 | false=>exact hb wh pins s1 σ H1 Q I1 q1
theorem fX (ha:PT X a tA):PT X (.UnaryOp .Not a pos) (aVR tA):=by
 intro pins s σ H Q I h;exact isTrue_not (ha pins s σ H (fun c H1=>Q (!c) H1) I h)
noncomputable def aMW (ta tb:TE):TE:=fun σ H Q=>ta σ H fun x H1=>∃ c,x=.bl c∧if c=true then tb σ H1 Q else Q (.bl false) H1
noncomputable def aNE (ta:TE):TE:=fun σ H Q=>ta σ H fun x H1=>∃ c,x=.bl c∧Q (.bl (!c)) H1
theorem a03 {op}{t:TE}(h:PE X a t):PE X (.BoolOp op [a] pos) t:=fun pins s σ H Q I hw=>BoolOp_one (h pins s σ H Q I hw)
theorem t7 (ha:PE X a ta)(hb:PE X (.BoolOp .And (b::rest) pos) tb):PE X (.BoolOp .And (a::b::rest) pos) (aMW ta tb):=by
 intro pins s σ H Q I h;refine BoolOp_and (thn (ha pins s σ H _ I h) fun v s1 ⟨x,H1,I1,r1,q1⟩=>?_);obtain⟨c,rfl,q1⟩:=q1
 cases r1
 refine Dh ?_
 cases c with
 | true=>exact hb pins s1 σ H1 Q I1 q1
 | false=>exact⟨.bl false,H1,I1,rfl,q1⟩
theorem a8A (ha:PE X a ta):PE X (.UnaryOp .Not a pos) (aNE ta):=by
 intro pins s σ H Q I h;refine UnaryOp_ (thn (ha pins s σ H _ I h) fun v s1 ⟨x,H1,I1,r1,q1⟩=>?_);obtain⟨c,rfl,q1⟩:=q1
 cases r1
 exact not_of (Dh ⟨.bl (!c),H1,I1,rfl,q1⟩)
noncomputable def tIf (t:TT)(ta tb:TE):TE:=fun σ H Q=>t σ H fun c H1=>if c=true then ta σ H1 Q else tb σ H1 Q
theorem oW {c:AJ}(hc:PT X c tA)(ha:PE X a ta)(hb:PE X b tb):PE X (.IfExp c a b pos) (tIf tA ta tb):=by
 intro pins s σ H Q I h;refine wpAny_IfExp (thn (hc pins s σ H _ I h) fun d s1 ⟨H1,I1,q1⟩=>?_)
 cases d with
 | true=>exact ha pins s1 σ H1 Q I1 q1
 | false=>exact hb pins s1 σ H1 Q I1 q1
end
end L2
namespace L2
open PySem PySem.Spec PyProof.Rows
noncomputable def SqL (K:Ab)(H:Hp)(a:AA)(xs:List V):Prop:=
 Rd H a (.lst xs) ∨
  ∃(o:Obj) (its:Array AB) (n:Nat),K.lookup a=some o∧o.cls=.type "list" ∧ o.dict=none∧o.data=.seq its n∧its.size≤sizeLine∧Vals xs its.toList
noncomputable def SqT (K:Ab)(H:Hp)(a:AA)(xs:List V):Prop:=
 Rd H a (.tup xs) ∨
  ∃(o:Obj) (its:Array AB) (n:Nat),K.lookup a=some o∧o.cls=.type "tuple" ∧ o.data=.seq its n∧its.size≤sizeLine∧Vals xs its.toList
noncomputable def aWG:AB→Option V
 | .none=>some .non
 | .bool b=>some (.bl b)
 | .int i _=>some (.int i)
 | .str x _=>some (.str x)
 | .bytes b _=>some (.byt b)
 | .float b _=>some (.flt b)
 | .ref a=>some (.ref a)
 | .type n=>some (.ty n)
 | _=>none
theorem RelV.abs {x:V}{u:AB}(r:RelV x u):aWG u=some x:=by
 cases x with
 | non=>cases r; rfl
 | bl _=>cases r; rfl
 | int _=>obtain⟨t,rfl⟩:=r; rfl
 | str _=>obtain⟨t,rfl⟩:=r; rfl
 | byt _=>obtain⟨t,rfl⟩:=r; rfl
 | flt _=>obtain⟨t,rfl⟩:=r; rfl
 | ref _=>cases r; rfl
 | ty _=>cases r; rfl
theorem RelV.inj {x y:V}{u:AB}(r:RelV x u)(q:RelV y u):x=y:=Option.some.inj (r.abs.symm.trans q.abs)
theorem Vals.inj:∀{xs ys:List V} {us:List AB},Vals xs us→Vals ys us→xs=ys:=by
 intro xs ys us h
 induction h generalizing ys with
 | nil=>intro q; cases q; rfl
 | cons r t ih=>intro q; cases q with|cons r' t'=>rw[r.inj r',ih t']
section
variable {X:Cx}{pins:List (AA×Obj)}{σ:St}{H:Hp}{s:AD}{a:AA}{xs ys:List V}
theorem SqL.of {K:Ab}(h:H a=some (.lst xs)):SqL K H a xs:=.inl (.inl h)
theorem SqT.of {K:Ab}(h:H a=some (.tup xs)):SqT K H a xs:=.inl (.inl h)
theorem Inv.list (I:Inv X pins σ H s)(h:SqL X.K H a xs):∃ its:List AB,Vals xs its∧PlainL s.heap a its.toArray∧xs.length≤sizeLine:=by
 rcases h with h|⟨o,its,n,hk,hc,hd,hs,hz,r⟩
 ·obtain⟨z,its,n,r,e⟩:=h.ok I.hok;exact⟨its,r,⟨_,n,e,rfl,rfl,rfl⟩,z⟩
 ·refine⟨its.toList,r,⟨o,n,I.kIn a o hk,hc,hd,by simpa using hs⟩,?_⟩;have e:=r.length;simp only[CO] at e;omega
theorem Inv.tuple (I:Inv X pins σ H s)(h:SqT X.K H a xs):∃ its:List AB,Vals xs its∧IsTup s.heap a its.toArray∧xs.length≤sizeLine:=by
 rcases h with h|⟨o,its,n,hk,hc,hs,hz,r⟩
 ·obtain⟨z,its,r,p⟩:=h.ok I.hok;exact⟨its,r,p,z⟩
 ·refine⟨its.toList,r,⟨o,I.kIn a o hk,hc,n,by simpa using hs⟩,?_⟩;have e:=r.length;simp only[CO] at e;omega
theorem Inv.list_inj (I:Inv X pins σ H s)(h:SqL X.K H a xs)(h':SqL X.K H a ys):xs=ys:=by
 obtain⟨its,r,⟨o,n,e,_,_,d⟩,_⟩:=I.list h;obtain⟨its',r',⟨o',n',e',_,_,d'⟩,_⟩:=I.list h';rw[e] at e'; cases e';rw[d] at d';injection d' with d1 _;have:its=its':=by simpa using congrArg Array.toList d1
 subst this;exact r.inj r'
theorem Inv.tuple_inj (I:Inv X pins σ H s)(h:SqT X.K H a xs)(h':SqT X.K H a ys):xs=ys:=by
 obtain⟨its,r,⟨o,e,_,n,d⟩,_⟩:=I.tuple h;obtain⟨its',r',⟨o',e',_,n',d'⟩,_⟩:=I.tuple h';rw[e] at e'; cases e';rw[d] at d';injection d' with d1 _;have:its=its':=by simpa using congrArg Array.toList d1
 subst this;exact r.inj r'
end
abbrev Cx.wish (X:Cx)(E:AB→AD→Prop):Cx:={ X with xe:=E }
abbrev Cx.nox (X:Cx):Cx:=X.wish fun _ _=>False
theorem Cx.Ok.wish {X:Cx}(ok:X.Ok)(E:AB→AD→Prop):(X.wish E).Ok:=
 ⟨ok.mod,ok.kind,ok.glob,ok.blt,ok.above,ok.inj,ok.has,ok.cab,ok.hd,ok.frames,ok.stk,ok.exf,ok.bs,ok.bsz,ok.noex,ok.exfs,ok.funs,ok.frf⟩
theorem Cx.Ok.unwish {X:Cx}{E:AB→AD→Prop}(ok:(X.wish E).Ok):X.Ok:=
 ⟨ok.mod,ok.kind,ok.glob,ok.blt,ok.above,ok.inj,ok.has,ok.cab,ok.hd,ok.frames,ok.stk,ok.exf,ok.bs,ok.bsz,ok.noex,ok.exfs,ok.funs,ok.frf⟩
section
variable {X:Cx}{pins:List (AA×Obj)}{σ:St}{H:Hp}{s:AD}{E:AB→AD→Prop}
theorem Inv.wish (I:Inv X pins σ H s)(E:AB→AD→Prop):Inv (X.wish E) pins σ H s:=⟨I.ok.wish E,I.os,I.bare,I.base,I.loc,I.cell,I.free,I.freeC,I.pin,I.hok,I.len⟩
theorem Inv.unwish (I:Inv (X.wish E) pins σ H s):Inv X pins σ H s:=⟨I.ok.unwish,I.os,I.bare,I.base,I.loc,I.cell,I.free,I.freeC,I.pin,I.hok,I.len⟩
theorem SP.unwish {D:Ends}{f:Flow}{s':AD}(h:SP (X.wish E) pins D f s'):SP X pins D f s':=by
 cases f with
 | next=>obtain⟨σ',H',I,q⟩:=h; exact⟨σ',H',I.unwish,q⟩
 | brk=>obtain⟨σ',H',I,q⟩:=h; exact⟨σ',H',I.unwish,q⟩
 | cont=>obtain⟨σ',H',I,q⟩:=h; exact⟨σ',H',I.unwish,q⟩
 | ret u=>obtain⟨v,σ',H',I,r,q⟩:=h; exact⟨v,σ',H',I.unwish,r,q⟩
theorem PSs.nox {st:List AL}{t:TS}(h:PSs X.nox st t):PSs X st t:=fun pins s σ H D I hw=>
 Au (h pins s σ H D (I.wish _) hw) (fun _ _ q=>q.unwish) fun _ _ z=>A6 z
end
section
variable {X:Cx}{st:AL}{rest:List AL}{t u:TS}{e:AJ}{te:TE}{pos:Pos}
noncomputable def aLD:TS:=fun D σ H=>D.nx σ H
noncomputable def aRL (t u:TS):TS:=fun D σ H=>t { D with nx:=u D } σ H
theorem bW:PSs X [] aLD:=fun _ _ σ H _ I h=>Cv ⟨σ,H,I,h⟩
theorem aH (h1:PS X st t)(h2:PSs X rest u):PSs X (st::rest) (aRL t u):=by
 intro pins s σ H D I h;refine EV (thn (h1 pins s σ H { D with nx:=u D } I h) fun f s1 q=>?_)
 cases f with
 | next=>
  obtain⟨σ',H',I',q⟩:=q;exact h2 pins s1 σ' H' D I' q
 | ret v=>exact q
 | brk=>exact q
 | cont=>exact q
theorem aL (h1:PS X st t):PSs X [st] t:=by
 intro pins s σ H D I h;refine EV (thn (h1 pins s σ H D I h) fun f s1 q=>?_)
 cases f with
 | next=>exact Cv q
 | ret v=>exact q
 | brk=>exact q
 | cont=>exact q
theorem Inv.quiet {pins:List (AA×Obj)}{σ:St}{H:Hp}{s:AD}(I:Inv X pins σ H s):interactive X.env=false:=by simp[interactive,I.ok.kind]
noncomputable def aGW (te:TE):TS:=fun D σ H=>te σ H fun _ H1=>D.nx σ H1
theorem gK (he:PE X e te)(hs:Br e none pos.line X.env=pure false:=by rfl):PS X (.Expr e pos) (aGW te):=by
 intro pins s σ H D I h;exact Fh (thn (he pins s σ H _ I h) fun v s1 ⟨x,H1,I1,r1,q1⟩=>⟨σ,H1,I1,q1⟩) I.quiet hs
noncomputable def aPC (te:TE):TS:=fun D σ H=>te σ H D.rt
theorem bM (he:PE X e te):PS X (.Return (some e) pos) (aPC te):=by
 intro pins s σ H D I h;exact wpAny_Return_some (thn (he pins s σ H _ I h) fun v s1 ⟨x,H1,I1,r1,q1⟩=>⟨x,σ,H1,I1,r1,q1⟩)
noncomputable def aRI (c:TT)(t u:TS):TS:=fun D σ H=>c σ H fun b H1=>if b=true then t D σ H1 else u D σ H1
theorem cX {c:AJ}{a b:List AL}{tc:TT}(hc:PT X c tc)(ha:PSs X a t)(hb:PSs X b u):PS X (.If c a b pos) (aRI tc t u):=by
 intro pins s σ H D I h;refine wpAny_If (thn (hc pins s σ H _ I h) fun d s1 ⟨H1,I1,q1⟩=>?_)
 cases d with
 | true=>exact ha pins s1 σ H1 D I1 q1
 | false=>exact hb pins s1 σ H1 D I1 q1
noncomputable def aI7:TS:=fun _ _ _=>False
theorem aFY:PS X st aI7:=fun _ _ _ _ _ _ h=>h.elim
end
abbrev TG:=V→St→Hp→(St→Hp→Prop)→Prop
abbrev TGs:=List V→St→Hp→(St→Hp→Prop)→Prop
noncomputable def PG (X:Cx)(target:AJ)(t:TG):Prop:=
 ∀(pins:List (AA×Obj)) (s:AD) (σ:St) (H:Hp) (v:V) (u:AB) (Q:St→Hp→Prop),Inv X pins σ H s→RelV v u→t v σ H Q →
  AF (AI X.prog X.w) X.A (Cd target X.env u) (fun _ s'=>∃ σ' H',Inv X pins σ' H' s'∧Q σ' H') X.xe s
noncomputable def PGs (X:Cx)(ts:List AJ)(t:TGs):Prop:=
 ∀(pins:List (AA×Obj)) (s:AD) (σ:St) (H:Hp) (vs:List V) (us:List AB) (Q:St→Hp→Prop),Inv X pins σ H s→Vals vs us→t vs σ H Q →
  AF (AI X.prog X.w) X.A (Fi ((Di ts X.env).map (·.2)) us) (fun _ s'=>∃ σ' H',Inv X pins σ' H' s'∧Q σ' H') X.xe s
abbrev aUG:=V→V→V→Hp→(Hp→Prop)→Prop
noncomputable def aVB (X:Cx)(t:aUG):Prop:=
 ∀(pins:List (AA×Obj)) (s:AD) (σ:St) (H:Hp) (o i v:V) (ov iv u:AB) (Q:Hp→Prop),Inv X pins σ H s→RelV o ov→RelV i iv→RelV v u→t o i v H Q →
  AF (AI X.prog X.w) X.A (setItem ov iv u) (fun _ s'=>∃ H',Inv X pins σ H' s'∧Q H') X.xe s
section
variable {X:Cx}{pos:Pos}
noncomputable def zR (i:Nat):TG:=fun v σ H Q=>Q (σ.set i (some v)) H
theorem fV {i:Nat}{x:Str}(hN:X.N.Nodup)(hi:X.N[i]?=some x)(hx:Loc X.env.scope x)(hf:X.fn x=true∨X.env.scope.names.lookup x=some .local:=by first|exact .inl rfl|exact .inr rfl|assumption):PG X (.Name x pos) (zR i):=by
 intro pins s σ H v u Q I r h;exact wpAny_assign_Name (rH I hN hi hx r (fun s' I'=>⟨_,H,I',h⟩) hf)
noncomputable def aVV:TGs:=fun vs σ H Q=>vs=[]∧Q σ H
noncomputable def aPE (t:TG)(u:TGs):TGs:=fun vs σ H Q=>∃ v r,vs=v::r∧t v σ H fun σ' H'=>u r σ' H' Q
theorem aB2:PGs X [] aVV:=by
 intro pins s σ H vs us Q I r h;obtain⟨e,h⟩:=h;subst e
 cases r
 exact assignInOrder_nil ⟨σ,H,I,h⟩
theorem wZ {e:AJ}{es:List AJ}{t:TG}{u:TGs}(h1:PG X e t)(h2:PGs X es u)
  (hs:(Di (e::es) X.env).map (·.2)=Cd e X.env::(Di es X.env).map (·.2):=by rfl):PGs X (e::es) (aPE t u):=by
 intro pins s σ H vs us Q I r h;obtain⟨v,vr,e1,h⟩:=h;subst e1
 cases r with
 | cons r rr=>
  rw[hs];refine Fj (thn (h1 pins s σ H _ _ _ I r h) fun _ s1 ⟨σ1,H1,I1,q1⟩=>?_);exact h2 pins s1 σ1 H1 _ _ Q I1 rr q1
noncomputable def aVJ (K:Ab)(n:Nat)(t:TGs):TG:=fun v σ H Q=>∃ a xs,v=.ref a∧SqT K H a xs∧xs.length=n∧t xs σ H Q
theorem aHW {es:List AJ}{k:Nat}{t:TGs}{n:Nat}(hc:X.calm=true)(h:PGs X es t)
  (hn:(Di es X.env).length=n:=by rfl) (hst:(Di es X.env).findIdx? (·.1)=none:=by rfl):PG X (.Tuple es k pos) (aVJ X.K n t):=by
 intro pins s σ H v u Q I r hw;obtain⟨a,xs,e1,hq,hl,hw⟩:=hw;subst e1
 cases r
 obtain⟨its,rv,ht,hz⟩:=I.tuple hq;refine assign_Tuple_tuple (I.ok.hd hc) ht (by simp[hn,←hl,rv.length]) hst fun h' hx=>?_;have I1:Inv X pins σ H { s with heap:=h' }:=I.kept (t':=s.toks) fun b o e=>hx b o (Aw (AY e)) e;exact h pins _ σ H xs _ Q I1 (by simpa using rv) hw
noncomputable def aW5 (to ti:TE)(t:aUG):TG:=fun v σ H Q=>to σ H fun o H1=>ti σ H1 fun i H2=>t o i v H2 fun H3=>Q σ H3
theorem aAJ {o i:AJ}{to ti:TE}{t:aUG}(ho:PE X o to)(hi:PE X i ti)(hs:aVB X t)
  (ha:∀ v,Cd (.Subscript o i pos) X.env v=(do
   let ov←DJ [v] (eval o X.env)
   let iv←DJ [v,ov] (eval i X.env)
   EU pos
   DJ [v,ov,iv] (setItem ov iv v)
   release [v,ov,iv] []):=by intro _; rfl):PG X (.Subscript o i pos) (aW5 to ti t):=by
 intro pins s σ H v u Q I r h;rw[ha];refine AE (CA (thn (ho pins s σ H _ I h) fun ov s1 ⟨x,H1,I1,r1,q1⟩=>?_));refine AE (CA (thn (hi pins s1 σ H1 _ I1 q1) fun iv s2 ⟨y,H2,I2,r2,q2⟩=>?_));refine AE (DK (AE (CA (thn (hs pins s2 σ H2 x y v ov iv u _ I2 r1 r2 r q2) fun _ s3 ⟨H3,I3,q3⟩=>?_))));exact wpAny_release ⟨σ,H3,I3,q3⟩
noncomputable def aHM (te:TE)(g:TG):TS:=fun D σ H=>te σ H fun x H1=>g x σ H1 D.nx
theorem aB5 {tg e:AJ}{te:TE}{g:TG}(he:PE X e te)(hg:PG X tg g)(hs:swapsWithSole [tg] e pos.line X.env=pure false:=by rfl)(hw:swappedStores [tg] e X.env=pure none:=by rfl)
  (h1:(Di [tg] X.env).map (·.2)=[Cd tg X.env]:=by rfl):PS X (.Assign [tg] e pos) (aHM te g):=by
 intro pins s σ H D I h;refine wpAny_Assign_stores (thn (he pins s σ H _ I h) fun v s1 ⟨x,H1,I1,r1,q1⟩=>?_) hs hw;rw[h1];exact thn (hg pins s1 σ H1 x v _ I1 r1 q1) fun _ s2 q=>q
theorem cB {i:Nat}{x:Str}{e:AJ}{te:TE}{pos':Pos}(hN:X.N.Nodup)(hi:X.N[i]?=some x)(hx:Loc X.env.scope x)(he:PE X e te)(hs:Br e (some (.Name x pos')) pos.line X.env=pure false:=by rfl)(hf:X.fn x=true∨X.env.scope.names.lookup x=some .local:=by first|exact .inl rfl|exact .inr rfl|assumption) :
  PS X (.Assign [.Name x pos'] e pos) (aHM te (zR i)):=by
 intro pins s σ H D I h;refine wpAny_Assign_Name (thn (he pins s σ H _ I h) fun v s1 ⟨y,H1,I1,r1,q1⟩=>?_) hs;exact rH I1 hN hi hx r1 (fun s2 I2=>⟨_,H1,I2,q1⟩) hf
noncomputable def aVE (i j:Nat)(ta:TA):TS:=fun D σ H=>ta σ H fun vs H1=>∃ v w,vs=[v,w]∧D.nx ((σ.set i (some v)).set j (some w)) H1
theorem aQI {i j:Nat}{x y:Str}{a b:AJ}{ta:TA}{px py pt:Pos}{kt k2 pt2}(hc:X.calm=true)(hN:X.N.Nodup)(hi:X.N[i]?=some x)(hj:X.N[j]?=some y)(hij:i≠j)
  (hx:X.env.scope.names.lookup x=some .local) (hy:X.env.scope.names.lookup y=some .local) (ha:PA X [a,b] ta)
  (hw:swappedStores [.Tuple [.Name x px,.Name y py] kt pt] (.Tuple [a,b] k2 pt2) X.env=pure (some [x,y]))
  (hs:swapsWithSole [.Tuple [.Name x px,.Name y py] kt pt] (.Tuple [a,b] k2 pt2) pos.line X.env=pure false:=by rfl) :
  PS X (.Assign [.Tuple [.Name x px,.Name y py] kt pt] (.Tuple [a,b] k2 pt2) pos) (aVE i j ta):=by
 intro pins s σ H D I h;rw[exec_Assign_arm];refine AE (DK ?_);rw[hs];refine AE (AR ?_);rw[if_neg (by decide)];refine AE (Tuple_ (thn (ha _ pins s σ H _ I h) fun us s1 ⟨vs,H1,I1,r1,q1⟩=>?_));obtain⟨v,w,e1,q1⟩:=q1;subst e1;obtain⟨u1,u2,rfl,rv,rw'⟩:∃ u1 u2,us=[u1,u2]∧RelV v u1∧RelV w u2:=by
  cases r1 with
  | cons p q=>
   cases q with
   | cons p' q'=>
    cases q'
    exact⟨_,_,rfl,p,p'⟩
 refine Ce ?_ (by show 2≤sizeLine; decide);have I2:Inv X pins σ H1 { s1 with heap:=s1.heap.push { cls:=.type "tuple", data:=.seq [u1,u2].toArray } }:=I1.kept (t':=s1.toks) fun b o e=>AZ _ e;rw[hw];refine AE (AR ?_);show AF (AI X.prog X.w) X.A (do rule "assign.swapped-stores"; let items←unpackItems (.ref s1.heap.objs.size) 2 none; Fi [fun v=>bindName X.env y v,fun v=>bindName X.env x v] items.reverse; pure Flow.next) _ _ _;refine AE (E9 (AE (unpackItems_tuple (items:=#[u1,u2]) (I.ok.hd hc) (IsTup.new s1.heap _) fun h' hx'=>?_)));have I3:=I2.kept (h':=h') (t':=s1.toks) fun b o e=>hx' b o (Aw (AY e)) e;show AF _ _ (Fi [fun v=>bindName X.env y v,fun v=>bindName X.env x v] [u2,u1] >>= fun _=>pure Flow.next) _ _ _;refine AE (Fj (wpAny_bindName (rH I3 hN hj (.inl hy) rw' (fun s2 I4=>?_) (.inr hy))));refine Fj (wpAny_bindName (rH I4 hN hi (.inl hx) rv (fun s3 I5=>assignInOrder_nil (AR ?_)) (.inr hx)));rw[set_comm _ _ (Am hij)] at I5;exact⟨_,H1,I5,q1⟩
end
section
variable {X:Cx}{pos:Pos}
noncomputable def aHH (c:TT)(tb:TS):TS:=fun D σ H=>∃ W:Nat→St→Hp→Prop,(∃ m,W m σ H)∧∀ m σ H,W m σ H →
 c σ H fun b H1=>if b=true then ∃ N:St→Hp→Prop,(∀ σ' H',N σ' H'→∃ m',m'<m∧W m' σ' H')∧tb { D with nx:=N,ct:=N,bk:=D.nx } σ H1 else D.nx σ H1
theorem a6T {c:AJ}{body:List AL}{tc:TT}{tb:TS}(hp:Bs (AI X.prog X.w) X.A X.env X.xe)(hc:PT X c tc)(hb:PSs X body tb):PS X (.While c body [] pos) (aHH tc tb):=by
 intro pins s σ H D I h;obtain⟨W,⟨m0,w0⟩,turn⟩:=h;refine wpAny_While (codeAny_whileLoop (fun n s'=>∃ σ' H',Inv X pins σ' H' s'∧W n σ' H') ?_ m0 ⟨σ,H,I,w0⟩);rintro n s1 ⟨σ1,H1,I1,w1⟩;refine DL hp (thn (hc pins s1 σ1 H1 _ I1 (turn n σ1 H1 w1)) fun b s2 ⟨H2,I2,q2⟩=>?_)
 cases b with
 | true=>
  obtain⟨N,hN,q2⟩:=q2;rw[if_pos rfl];refine DL hp (thn (hb pins s2 σ1 H2 _ I2 q2) fun f s3 q3=>?_)
  cases f with
  | next=>
   obtain⟨σ3,H3,I3,n3⟩:=q3;obtain⟨m',hm,w3⟩:=hN σ3 H3 n3;exact⟨m',hm,σ3,H3,I3,w3⟩
  | cont=>
   obtain⟨σ3,H3,I3,n3⟩:=q3;obtain⟨m',hm,w3⟩:=hN σ3 H3 n3;exact⟨m',hm,σ3,H3,I3,w3⟩
  | brk=>exact q3
  | ret v=>exact q3
 | false=>
  rw[if_neg BB];exact Cv ⟨σ1,H2,I2,q2⟩
end
structure It where
 go:Nat→Hp→Prop
 yld:Nat→Hp→V→Hp→Prop
 stop:Nat→Hp→Prop
noncomputable def a92 (X:Cx)(pins:List (AA×Obj))(H:Hp)(b:AA):Prop:=
 H b=none∧b≠X.env.locals∧b∉X.fs∧(b∈X.ex∨X.s₀.heap.objs.size≤b)∧(∀ x c,X.env.cells.lookup x=some c→c≠b)∧∀ p∈X.pn++pins,p.1≠b
theorem Inv.fpOk {X:Cx}{pins:List (AA×Obj)}{σ:St}{H H':Hp}{s:AD}{b:AA}(I:Inv X pins σ H s)(hb:s.heap.objs.size≤b)(hn:H' b=none):a92 X pins H' b:=by
 refine⟨hn,CM (As I.lt hb),I.nofs hb,.inr (Ac I.sz hb),fun x c e z=>?_,fun p hp z=>?_⟩
 ·obtain⟨v,q⟩:=I.cell x c e;exact absurd (As q.lt (by rw[z]; exact hb)) (Bd _)
 ·exact absurd (As (AY (I.pin p hp).1) (by rw[z]; exact hb)) (Bd _)
structure Turn (P:AQ)(w:AK)(K:Ab)(tg:AJ)(J:It)(fp:List AA)(it:AA)(tn:Nat→AG→Prop):Prop where
 mem:it∈fp
 obj:∀ i h,tn i h→∀ b∈fp,∃ o,h.get? b=some o∧∀ v,o.data≠.cell v
 keep:∀ i h h',tn i h→(∀ b∈fp,∀ o,h.get? b=some o→h'.get? b=some o)→tn i h'
 item:∀(X:Cx),X.prog=P→X.w=w→X.K=K→X.calm=true→∀(i:Nat) (pins:List (AA×Obj)) (s:AD) (σ:St) (H:Hp) (E:AB→AD→Prop),Inv X pins σ H s→(∀ b∈fp,a92 X pins H b)→tn i s.heap→J.go i H →
  AF (AI P w) X.A (pyNext (.ref it)) (fun r s1=>∃ u,r=some u ∧
   AF (AI P w) X.A (FA tg (.ref it) u) (fun _ s2=>∃ x H',Inv X pins σ H' s2∧RelV x u∧J.yld i H x H'∧tn (i+1) s2.heap∧∀ b∈fp,H' b=none) E s1) E s
 done:∀(X:Cx),X.prog=P→X.w=w→X.K=K→X.calm=true→∀(i:Nat) (pins:List (AA×Obj)) (s:AD) (σ:St) (H:Hp) (E:AB→AD→Prop),Inv X pins σ H s→(∀ b∈fp,a92 X pins H b)→tn i s.heap→J.stop i H →
  AF (AI P w) X.A (pyNext (.ref it)) (fun r s1=>r=none∧Inv X pins σ H s1) E s
 self:∀(A:AU) (i:Nat) (s:AD) (Q:AB→AD→Prop) (E:AB→AD→Prop),tn i s.heap→Q (.ref it) s→AF (AI P w) A (pyIter (.ref it)) Q E s
abbrev TI:=St→Hp→(It→Hp→Prop)→Prop
noncomputable def PIE (X:Cx)(pins:List (AA×Obj))(σ:St)(tg:AJ)(R:It→Hp→Prop)(itv:AB)(s2:AD):Prop:=
 ∃(it:AA) (fp:List AA) (tn:Nat→AG→Prop) (J:It) (H':Hp),itv=.ref it∧Inv X pins σ H' s2∧Turn X.prog X.w X.K tg J fp it tn∧tn 0 s2.heap∧(∀ b∈fp,a92 X pins H' b)∧R J H'
noncomputable def PI (X:Cx)(tg iter:AJ)(wi:TI):Prop:=
 ∀(pins:List (AA×Obj)) (s:AD) (σ:St) (H:Hp) (R:It→Hp→Prop),Inv X pins σ H s→wi σ H R →
  AF (AI X.prog X.w) X.A (eval iter X.env) (fun v s1=>AF (AI X.prog X.w) X.A (pyIter v) (PIE X pins σ tg R) X.xe s1) X.xe s
theorem aFQ {M:CP}{A:AU}{E:AB→AD→Prop}{s:AD}{tg:AJ}{it:AA}{u:AB}{o:Obj}{n:String}{vs:Array AB}{Q:Unit→AD→Prop}(ho:s.heap.get? it=some o)(hc:o.cls=.type n)(hd:o.data=.fields vs)
    (hn:["enumerate", "zip", "dict_itemiterator", "dict_reverseitemiterator", "odict_iterator", "itertools.zip_longest", "itertools.pairwise"].contains n=false) (hQ:Q () s):AF M A (FA tg (.ref it) u) Q E s:=by
  unfold FA
  cases tg<;>first
    | exact AR hQ
    | (cases u<;>first
        | exact AR hQ
        | (refine AE (wpAny_load ho ?_)
           rw[hc,hd];show AF M A (if (["enumerate", "zip", "dict_itemiterator", "dict_reverseitemiterator", "odict_iterator", "itertools.zip_longest", "itertools.pairwise"].contains n&&vs[0]?==some (Bg _))=true then _ else _) Q E s;rw[if_neg (by intro h; rw[hn,EW] at h; cases h)];exact AR hQ))
noncomputable def Itl (K:Ab)(a:AA):It:=
 ⟨fun i H=>∃ xs x,SqL K H a xs∧xs[i]?=some x,fun i H x H'=>H'=H∧∀ xs,SqL K H a xs→xs[i]?=some x,fun i H=>∃ xs,SqL K H a xs∧xs.length≤i⟩
noncomputable def Itt (K:Ab)(a:AA):It:=
 ⟨fun i H=>∃ xs x,SqT K H a xs∧xs[i]?=some x,fun i H x H'=>H'=H∧∀ xs,SqT K H a xs→xs[i]?=some x,fun i H=>∃ xs,SqT K H a xs∧xs.length≤i⟩
noncomputable def Itr (lo:Int)(n:Nat):It:=⟨fun i _=>i<n,fun i H x H'=>H'=H∧x=.int (lo+i),fun i _=>n≤i⟩
theorem aCD {P:AQ}{w:AK}{K:Ab}{tg:AJ}(a it:AA):Turn P w K tg (Itl K a) [it] it (fun i h=>h.IsListIter it a i) where
 mem:=by simp
 obj:=fun i h st b hb=>by
  have e:b=it:=by simpa using hb
  subst e;obtain⟨o,e,c,d⟩:=st;exact⟨o,e,fun v z=>by rw[d] at z; cases z⟩
 keep:=fun i h h' st k=>st.at fun o e=>k it (by simp) o e
 item:=by
  intro X hP hw hK hc i pins s σ H E I hf st hg;subst hP hw hK;obtain⟨xs,x,hq,hx⟩:=hg;obtain⟨its,rv,p,hz⟩:=I.list hq;obtain⟨u,hu,ru⟩:=rv.get hx;obtain⟨f0,f1,f2,f3,f4,f5⟩:=hf it (by simp);refine wpAny_pyNext_list_item st p.isList (x:=u) (by simpa using hu) fun h' st' sb=>?_;have I1:Inv X pins σ H { s with heap:=h' }:=I.turned (t':=s.toks) (fun b o hb e=>(sb.2 b hb).trans e) f0 f1 f3 f4 f5;obtain⟨o,e,c,d⟩:=id st';exact⟨u,rfl,aFQ (s:={ s with heap:=h' }) e c d (by decide) ⟨x,H,I1,ru,⟨rfl,fun ys hy=>by rw[I.list_inj hy hq]; exact hx⟩,st',fun b hb=>(hf b hb).1⟩⟩
 done:=by
  intro X hP hw hK hc i pins s σ H E I hf st hg;subst hP hw hK;obtain⟨xs,hq,hx⟩:=hg;obtain⟨its,rv,p,hz⟩:=I.list hq;obtain⟨f0,f1,f2,f3,f4,f5⟩:=hf it (by simp);have hl:=rv.length;exact wpAny_pyNext_list_end (I.ok.hd hc) st p.isList (by simp; omega) fun h' eb=>⟨rfl,I.turned (t':=s.toks) (fun b o hb e=>eb b o hb e) f0 f1 f3 f4 f5⟩
 self:=fun _ _ _ _ _ st h=>wpAny_pyIter_listiter st h
theorem a94 {P:AQ}{w:AK}{K:Ab}{tg:AJ}(a it:AA):Turn P w K tg (Itt K a) [it] it (fun i h=>h.IsTupleIter it a i) where
 mem:=by simp
 obj:=fun i h st b hb=>by
  have e:b=it:=by simpa using hb
  subst e;obtain⟨o,e,c,d⟩:=st;exact⟨o,e,fun v z=>by rw[d] at z; cases z⟩
 keep:=fun i h h' st k=>st.at fun o e=>k it (by simp) o e
 item:=by
  intro X hP hw hK hc i pins s σ H E I hf st hg;subst hP hw hK;obtain⟨xs,x,hq,hx⟩:=hg;obtain⟨its,rv,p,hz⟩:=I.tuple hq;obtain⟨u,hu,ru⟩:=rv.get hx;obtain⟨f0,f1,f2,f3,f4,f5⟩:=hf it (by simp);refine wpAny_pyNext_tuple_item st (show s.heap.IsTuple a its.toArray from p) (x:=u) (by simpa using hu) fun h' st' sb=>?_;have I1:Inv X pins σ H { s with heap:=h' }:=I.turned (t':=s.toks) (fun b o hb e=>(sb.2 b hb).trans e) f0 f1 f3 f4 f5;obtain⟨o,e,c,d⟩:=id st';exact⟨u,rfl,aFQ (s:={ s with heap:=h' }) e c d (by decide) ⟨x,H,I1,ru,⟨rfl,fun ys hy=>by rw[I.tuple_inj hy hq]; exact hx⟩,st',fun b hb=>(hf b hb).1⟩⟩
 done:=by
  intro X hP hw hK hc i pins s σ H E I hf st hg;subst hP hw hK;obtain⟨xs,hq,hx⟩:=hg;obtain⟨its,rv,p,hz⟩:=I.tuple hq;obtain⟨f0,f1,f2,f3,f4,f5⟩:=hf it (by simp);have hl:=rv.length;exact wpAny_pyNext_tuple_end (I.ok.hd hc) st (show s.heap.IsTuple a its.toArray from p) (by simp; omega) fun h' eb=>⟨rfl,I.turned (t':=s.toks) (fun b o hb e=>eb b o hb e) f0 f1 f3 f4 f5⟩
 self:=fun _ _ _ _ _ st h=>wpAny_pyIter_tupleiter st h
theorem a95 {P:AQ}{w:AK}{K:Ab}{tg:AJ}(it:AA)(lo:Int)(n:Nat):Turn P w K tg (Itr lo n) [it] it (fun i h=>IsRangeIter h it (lo+(i:Nat)*1) ((n:Int)-(i:Nat)) 1) where
 mem:=by simp
 obj:=fun i h st b hb=>by
  have e:b=it:=by simpa using hb
  subst e;exact⟨_,st,fun v z=>by
   have z':Data.fields _=Data.cell v:=z
   cases z'⟩
 keep:=fun i h h' st k=>k it (by simp) _ st
 item:=by
  intro X hP hw hK hc i pins s σ H E I hf st hg;subst hP hw hK;obtain⟨f0,f1,f2,f3,f4,f5⟩:=hf it (by simp);have W:=Walks.range (prog:=X.prog) (w:=X.w) (I.ok.hd hc) it lo 1 n;refine W.item i s _ _ hg st fun v h' tk hv st' kk=>?_;obtain⟨t,rfl⟩:=hv;have I1:Inv X pins σ H { s with heap:=h',toks:=tk }:=I.turned (fun b o hb e=>kk b o (by simpa using hb) e) f0 f1 f3 f4 f5;refine⟨_,rfl,aFQ (s:={ s with heap:=h',toks:=tk }) (n := "range_iterator") st' rfl rfl (by decide) ⟨.int (lo+i),H,I1,⟨t,?_⟩,⟨rfl,rfl⟩,st',fun b hb=>(hf b hb).1⟩⟩;rw[Int.mul_one]
 done:=by
  intro X hP hw hK hc i pins s σ H E I hf st hg;subst hP hw hK;obtain⟨f0,f1,f2,f3,f4,f5⟩:=hf it (by simp);exact wpAny_pyNext_range_end (I.ok.hd hc) st (by have:n≤i:=hg; omega) fun h' eb=>⟨rfl,I.turned (t':=s.toks) (fun b o hb e=>eb b o hb e) f0 f1 f3 f4 f5⟩
 self:=fun _ _ _ _ _ st h=>wpAny_pyIter_rangeiter st h
end L2
namespace L2
open PySem PySem.Spec PyProof.Rows
section
variable {X:Cx}{tg:AJ}
noncomputable def aMC (K:Ab)(tl:TE):TI:=fun σ H R=>tl σ H fun x H1=>∃ a,x=.ref a∧(∃ xs,SqL K H1 a xs)∧R (Itl K a) H1
noncomputable def aVK (K:Ab)(tl:TE):TI:=fun σ H R=>tl σ H fun x H1=>∃ a,x=.ref a∧(∃ xs,SqT K H1 a xs)∧R (Itt K a) H1
theorem a5D {l:AJ}{tl:TE}(hl:PE X l tl):PI X tg l (aMC X.K tl):=by
 intro pins s σ H R I h;refine thn (hl pins s σ H _ I h) fun v s1 ⟨x,H1,I1,r1,q1⟩=>?_;obtain⟨a,e,⟨xs,hq⟩,q⟩:=q1;subst e
 cases r1
 obtain⟨its,rv,p,hz⟩:=I1.list hq;refine Fk p.isList ?_;refine⟨s1.heap.objs.size,[s1.heap.objs.size],_,_,H1,rfl,I1.kept (t':=s1.toks) fun b o e=>AZ _ e,aCD a _,⟨_,BE _ rfl,rfl,rfl⟩,fun b hb=>?_,q⟩;have e:b=s1.heap.objs.size:=by simpa using hb
 subst e;exact I1.fpOk (AV _) (I1.hok.fresh (AV _))
theorem aC3 {l:AJ}{tl:TE}(hl:PE X l tl):PI X tg l (aVK X.K tl):=by
 intro pins s σ H R I h;refine thn (hl pins s σ H _ I h) fun v s1 ⟨x,H1,I1,r1,q1⟩=>?_;obtain⟨a,e,⟨xs,hq⟩,q⟩:=q1;subst e
 cases r1
 obtain⟨its,rv,p,hz⟩:=I1.tuple hq;refine wpAny_pyIter_tuple (show s1.heap.IsTuple a its.toArray from p) ?_;refine⟨s1.heap.objs.size,[s1.heap.objs.size],_,_,H1,rfl,I1.kept (t':=s1.toks) fun b o e=>AZ _ e,a94 a _,⟨_,BE _ rfl,rfl,rfl⟩,fun b hb=>?_,q⟩;have e:b=s1.heap.objs.size:=by simpa using hb
 subst e;exact I1.fpOk (AV _) (I1.hok.fresh (AV _))
theorem aFB {pins:List (AA×Obj)}{σ:St}{H:Hp}{s:AD}{R:It→Hp→Prop}{E:AB→AD→Prop}{lo hi:Int}{t u v:Tok}{tk:Nat}(I:Inv X pins σ H s)(h1 : -(2^62)≤lo)(h2:lo<2^62)(h3 : -(2^62)≤hi)(h4:hi<2^62)
  (q:R (Itr lo (hi-lo).toNat) H):AF (AI X.prog X.w) X.A (pyIter (.ref s.heap.objs.size)) (PIE X pins σ tg R) E { s with heap:=s.heap.push { cls:=.type "range", data:=.fields #[.int lo t,.int hi u,.int 1 v] },toks:=tk }:=by
 refine wpAny_pyIter_range (IsRange.new ..) (small_one h1 h2 h3 h4) ?_;have I1:Inv X pins σ H { s with heap:=s.heap.push { cls:=.type "range", data:=.fields #[.int lo t,.int hi u,.int 1 v] },toks:=tk }:=I.kept fun b o e=>AZ _ e;refine⟨(s.heap.push { cls:=.type "range", data:=.fields #[.int lo t,.int hi u,.int 1 v] }).objs.size,[(s.heap.push { cls:=.type "range", data:=.fields #[.int lo t,.int hi u,.int 1 v] }).objs.size],_,_,H,rfl,
  I1.kept (t':=tk) fun b o e=>AZ _ e,a95 _ lo (hi-lo).toNat,?_,fun b hb=>?_,q⟩
 ·have e1:lo+((0:Nat):Int)*1=lo:=by simp
  have e2:(((hi-lo).toNat:Nat):Int)-((0:Nat):Int)=AM.Range.rangeSize lo hi 1:=by rw[rangeSize_one]; split<;>omega
  show IsRangeIter _ _ (lo+((0:Nat):Int)*1) ((((hi-lo).toNat:Nat):Int)-((0:Nat):Int)) 1;rw[e1,e2];exact BE _ rfl
 ·have e:b=(s.heap.push { cls:=.type "range", data:=.fields #[.int lo t,.int hi u,.int 1 v] }).objs.size:=by simpa using hb
  subst e;exact I1.fpOk (AV _) (I1.hok.fresh (AV _))
noncomputable def aQS (ta:TA):TI:=fun σ H R=>ta σ H fun vs H1=>∃ j:Int,vs=[.int j] ∧ -(2^62)≤j∧j<2^62∧R (Itr 0 j.toNat) H1
theorem o4 {a:AJ}{ta:TA}{p pos:Pos}(hg:Gl X "range")(hm:X.mg "range" = none)(ha:PA X [a] ta)(hs:AX [a] X.env=[(false,eval a X.env)]:=by rfl):PI X tg (.Call (.Name "range" p) [a] [] pos) (aQS ta):=by
 intro pins s σ H R I h;refine Call_ (a02 I hg hm boot_range (FC (thn (ha pos pins s σ H _ I h) fun us s1 ⟨vs,H1,I1,r1,q1⟩=>?_) hs rfl));obtain⟨j,e,q1,q2,q⟩:=q1;subst e
 cases r1 with
 | cons r rr=>
  cases rr
  obtain⟨t,rfl⟩:=r;exact call_range_1 (aFB I1 (by omega) (by omega) q1 q2 (by simpa using q))
noncomputable def aTD (wi:TI)(g:TG)(tb:TS):TS:=fun D σ H=>wi σ H fun J H1=>∃ W:Nat→Nat→St→Hp→Prop,(∃ m,W 0 m σ H1)∧∀ i m σ H,W i m σ H →
 (J.stop i H∧D.nx σ H)∨(J.go i H∧∃ N:St→Hp→Prop,(∀ σ' H',N σ' H'→∃ m',m'<m∧W (i+1) m' σ' H')∧∀ x H',J.yld i H x H'→g x σ H' fun σ2 H2=>tb { D with nx:=N,ct:=N,bk:=D.nx } σ2 H2)
noncomputable def a2W (fp:List AA)(h:AG):List (AA×Obj):=fp.filterMap fun b=>(h.get? b).map fun o=>(b,o)
theorem oY {fp:List AA}{h:AG}{b:AA}{o:Obj}(hb:b∈fp)(e:h.get? b=some o):(b,o)∈a2W fp h:=Eu.mpr ⟨b,hb,by rw[e]; rfl⟩
theorem aCY {fp:List AA}{h:AG}{p:AA×Obj}(hp:p∈a2W fp h):p.1∈fp∧h.get? p.1=some p.2:=by
 obtain⟨b,hb,e⟩:=Eu.mp hp
 cases q:h.get? b with
 | none=>rw[q] at e; cases e
 | some o=>
  rw[q] at e;have e':(b,o)=p:=Option.some.inj e;subst e';exact⟨hb,q⟩
theorem Inv.pinned {pins:List (AA×Obj)}{σ:St}{H:Hp}{s:AD}{fp:List AA}(I:Inv X pins σ H s)(hf:∀ b∈fp,a92 X pins H b)(ho:∀ b∈fp,∃ o,s.heap.get? b=some o∧∀ v,o.data≠.cell v):Inv X (pins++a2W fp s.heap) σ H s:=
 I.pins_of fun p hp=>(Aj.mp hp).elim (fun z=>I.pin p (BY _ z)) fun z=>by
  obtain⟨hb,e⟩:=aCY z;obtain⟨f0,f1,f2,_⟩:=hf p.1 hb;obtain⟨o,e',d⟩:=ho p.1 hb;rw[e] at e'; cases e';exact⟨e,f0,f1,f2,d⟩
theorem Inv.unpinned {pins pl:List (AA×Obj)}{σ:St}{H:Hp}{s:AD}(I:Inv X (pins++pl) σ H s):Inv X pins σ H s:=I.pins_of fun p hp=>I.pin p (BY _ (CG _ hp))
theorem t6 {iter:AJ}{body:List AL}{wi:TI}{g:TG}{tb:TS}{pos:Pos}(hp:Bs (AI X.prog X.w) X.A X.env X.xe)(hc:X.calm=true)(hi:PI X tg iter wi)(hg:PG X tg g)(hb:PSs X body tb)
  (hs:∀ x,Fn iter X.env x=pure x:=by intro _; rfl):PS X (.For tg iter body [] pos) (aTD wi g tb):=by
 intro pins s σ H D I h;refine wpAny_For (thn (hi pins s σ H _ I h) fun v s1 h1=>thn h1 fun itv s2 h2=>?_) hs;obtain⟨it,fp,tn,J,H2,e,I2,T,st2,f2,W,⟨m0,w0⟩,turn⟩:=h2;subst e;have stat:∀{H':Hp},(∀ b∈fp,H' b=none)→∀ b∈fp,a92 X pins H' b:=fun hn b hb=>⟨hn b hb,(f2 b hb).2⟩;refine codeAny_forLoop_any (fun n s'=>∃ i σ' H',Inv X pins σ' H' s'∧tn i s'.heap∧(∀ b∈fp,H' b=none)∧W i n σ' H') ?_ m0 ⟨0,σ,H2,I2,st2,fun b hb=>(f2 b hb).1,w0⟩;rintro n s3 ⟨i,σ3,H3,I3,st3,fr3,w3⟩;rcases turn i n σ3 H3 w3 with⟨stop,qn⟩|⟨go,N,hN,step⟩
 ·refine DL hp (thn (T.done X rfl rfl rfl hc i pins s3 σ3 H3 X.xe I3 (stat fr3) st3 stop) fun r s4 ⟨hr,I4⟩=>?_);subst hr;exact Cv ⟨σ3,H3,I4,qn⟩
 ·refine DL hp (thn (T.item X rfl rfl rfl hc i pins s3 σ3 H3 X.xe I3 (stat fr3) st3 go) fun r s4 ⟨u,hr,h4⟩=>?_);subst hr;refine DL hp (thn h4 fun _ s5 ⟨x,H5,I5,r5,y5,st5,fr5⟩=>?_);have I5':=I5.pinned (stat fr5) (T.obj _ _ st5);refine DL hp (thn (hg _ s5 σ3 H5 x u _ I5' r5 (step x H5 y5)) fun _ s6 ⟨σ6,H6,I6,q6⟩=>?_);refine DL hp (thn (hb _ s6 σ6 H6 _ I6 q6) fun f s7 q7=>?_);have again:∀{σ7:St} {H7:Hp},Inv X (pins++a2W fp s5.heap) σ7 H7 s7→N σ7 H7→∃ m,m<n∧∃ i σ' H',Inv X pins σ' H' s7∧tn i s7.heap∧(∀ b∈fp,H' b=none)∧W i m σ' H':=fun{σ7 H7} I7 n7=>by
   obtain⟨m',hm,w7⟩:=hN σ7 H7 n7;refine⟨m',hm,i+1,σ7,H7,I7.unpinned,T.keep _ _ _ st5 fun b hb o e=>(I7.pin (b,o) (BY _ (BY _ (oY hb e)))).1,fun b hb=>?_,w7⟩;obtain⟨o,e,d⟩:=T.obj _ _ st5 b hb;exact(I7.pin (b,o) (BY _ (BY _ (oY hb e)))).2.1
  cases f with
  | next=>obtain⟨σ7,H7,I7,n7⟩:=q7; exact again I7 n7
  | cont=>obtain⟨σ7,H7,I7,n7⟩:=q7; exact again I7 n7
  | brk=>obtain⟨σ7,H7,I7,q7⟩:=q7; exact⟨σ7,H7,I7.unpinned,q7⟩
  | ret v=>obtain⟨x7,σ7,H7,I7,r7,q7⟩:=q7; exact⟨x7,σ7,H7,I7.unpinned,r7,q7⟩
end
end L2
namespace L2
open PySem PySem.Spec PyProof.Rows
abbrev R2:=V→V→Hp→VK→Prop
noncomputable def OpR (X:Cx)(f:AB→AB→Sem AB)(r:R2):Prop:=
 ∀(pins:List (AA×Obj)) (s:AD) (σ:St) (H:Hp) (x y:V) (v u:AB) (Q:VK),Inv X pins σ H s→RelV x v→RelV y u→r x y H Q →
  AF (AI X.prog X.w) X.A (f v u) (EP X pins σ Q) X.xe s
noncomputable def UnR (X:Cx)(f:AB→Sem AB)(r:V→Hp→VK→Prop):Prop:=
 ∀(pins:List (AA×Obj)) (s:AD) (σ:St) (H:Hp) (x:V) (v:AB) (Q:VK),Inv X pins σ H s→RelV x v→r x H Q →
  AF (AI X.prog X.w) X.A (f v) (EP X pins σ Q) X.xe s
noncomputable def qX (X:Cx)(f:AB)(r:List V→Hp→VK→Prop):Prop:=
 ∀(pins:List (AA×Obj)) (s:AD) (σ:St) (H:Hp) (xs:List V) (us:List AB) (Q:VK),Inv X pins σ H s→Vals xs us→r xs H Q →
  AF (AI X.prog X.w) X.A (call f us) (EP X pins σ Q) X.xe s
noncomputable def tOp (r:R2)(ta tb:TE):TE:=fun σ H Q=>ta σ H fun x H1=>tb σ H1 fun y H2=>r x y H2 Q
noncomputable def tUn (r:V→Hp→VK→Prop)(ta:TE):TE:=fun σ H Q=>ta σ H fun x H1=>r x H1 Q
noncomputable def rI (C:Int→Int→Prop)(g:Int→Int→V):R2:=fun x y H Q=>∃ i j,x=.int i∧y=.int j∧C i j∧Q (g i j) H
noncomputable def rI0 (g:Int→Int→V):R2:=fun x y H Q=>∃ i j,x=.int i∧y=.int j∧Q (g i j) H
noncomputable def rU (g:Int→V):V→Hp→VK→Prop:=fun x H Q=>∃ i,x=.int i∧Q (g i) H
section
variable {X:Cx}{a b c:AJ}{ta tb tc:TE}{pos:Pos}
theorem aS8 (ha:PE X a ta)(hb:PE X b tb){pins:List (AA×Obj)}{s:AD}{σ:St}{H:Hp}{R:V→V→Hp→Prop}(I:Inv X pins σ H s)
  (h:ta σ H fun x H1=>tb σ H1 fun y H2=>R x y H2) {Q:AB→AD→Prop} {f:AB→AB→Sem AB}
  (hf:∀ v u s2 x y H2,Inv X pins σ H2 s2→RelV x v→RelV y u→R x y H2→AF (AI X.prog X.w) X.A (f v u) Q X.xe s2) :
  AF (AI X.prog X.w) X.A (eval a X.env) (fun v s₁=>AF (AI X.prog X.w) X.A (eval b X.env) (fun u s₂=>AF (AI X.prog X.w) X.A (f v u) Q X.xe s₂) X.xe s₁) X.xe s:=by
 refine thn (ha pins s σ H _ I h) fun v s1 ⟨x,H1,I1,r1,q1⟩=>?_;refine thn (hb pins s1 σ H1 _ I1 q1) fun u s2 ⟨y,H2,I2,r2,q2⟩=>?_;exact hf v u s2 x y H2 I2 r1 r2 q2
theorem cC {op:Operator}{r:R2}(ho:OpR X (Bu op) r)(ha:PE X a ta)(hb:PE X b tb):PE X (.BinOp a op b pos) (tOp r ta tb):=by
 intro pins s σ H Q I h;exact wpAny_BinOp (aS8 ha hb I h fun v u s2 x y H2 I2 rx ry q=>ho pins s2 σ H2 x y v u Q I2 rx ry q)
theorem aC2 {op:UnaryOp}{r:V→Hp→VK→Prop}(ho:UnR X (unaryOp op) r)(ha:PE X a ta):PE X (.UnaryOp op a pos) (tUn r ta):=by
 intro pins s σ H Q I h;exact UnaryOp_ (thn (ha pins s σ H _ I h) fun v s1 ⟨x,H1,I1,r1,q1⟩=>ho pins s1 σ H1 x v Q I1 r1 q1)
theorem opI {f:AB→AB→Sem AB}{C:Int→Int→Prop}{g:Int→Int→Int}
  (rule:∀(i j:Int) (t u:Tok) (s:AD) (Q:AB→AD→Prop) (E:AB→AD→Prop),C i j→Q (.int (g i j) s.toks) { s with toks:=s.toks+1 }→AF (AI X.prog X.w) X.A (f (.int i t) (.int j u)) Q E s) :
  OpR X f (rI C fun i j=>.int (g i j)):=by
 intro pins s σ H x y v u Q I rx ry h;obtain⟨i,j,rfl,rfl,hc,q⟩:=h;obtain⟨t,rfl⟩:=rx;obtain⟨t',rfl⟩:=ry;exact rule i j t t' s _ _ hc ⟨.int (g i j),H,I.tok _,⟨_,rfl⟩,q⟩
theorem aV4 {f:AB→AB→Sem AB}{g:Int→Int→Int}
  (rule:∀(i j:Int) (t u:Tok) (s:AD) (Q:AB→AD→Prop) (E:AB→AD→Prop),Q (.int (g i j) s.toks) { s with toks:=s.toks+1 }→AF (AI X.prog X.w) X.A (f (.int i t) (.int j u)) Q E s) :
  OpR X f (rI0 fun i j=>.int (g i j)):=by
 intro pins s σ H x y v u Q I rx ry h;obtain⟨i,j,rfl,rfl,q⟩:=h;obtain⟨t,rfl⟩:=rx;obtain⟨t',rfl⟩:=ry;exact rule i j t t' s _ _ ⟨.int (g i j),H,I.tok _,⟨_,rfl⟩,q⟩
theorem aRJ {f:AB→AB→Sem AB}{g:Int→Int→Bool}
  (rule:∀(i j:Int) (t u:Tok) (s:AD) (Q:AB→AD→Prop) (E:AB→AD→Prop),Q (.bool (g i j)) s→AF (AI X.prog X.w) X.A (f (.int i t) (.int j u)) Q E s) :
  OpR X f (rI0 fun i j=>.bl (g i j)):=by
 intro pins s σ H x y v u Q I rx ry h;obtain⟨i,j,rfl,rfl,q⟩:=h;obtain⟨t,rfl⟩:=rx;obtain⟨t',rfl⟩:=ry;exact rule i j t t' s _ _ ⟨.bl (g i j),H,I,rfl,q⟩
noncomputable def aT8 (i j:Int):Prop:=0<j∧j<1073741824
noncomputable def aVA (i j:Int):Prop:=0≤j∧j≤1000000∧i.natAbs<2^64
noncomputable def CMul (i j:Int):Prop:=(-(2^64)<i∧i<2^64)∨(-(2^64)<j∧j<2^64)
theorem CMul.ok {i j:Int}(h:CMul i j):Dj i j:=by
 rcases h with⟨h1,h2⟩|⟨h1,h2⟩
 ·exact .of_left (intBits_le_64 h1 h2)
 ·exact .of_right (intBits_le_64 h1 h2)
theorem gP:OpR X (Bu .Add) (rI0 fun i j=>.int (i+j)):=aV4 fun _ _ _ _ _ _ _ q=>add_int q
theorem u5:OpR X (Bu .Sub) (rI0 fun i j=>.int (i-j)):=aV4 fun _ _ _ _ _ _ _ q=>sub_int q
theorem aDL:OpR X (Bu .Mult) (rI CMul fun i j=>.int (i*j)):=opI fun _ _ _ _ _ _ _ hc q=>mul_int q hc.ok
theorem aAV:OpR X (Bu .FloorDiv) (rI aT8 fun i j=>.int (i/j)):=opI fun i j _ _ _ _ _ hc q=>by
 have h1:(0:Int)<j:=hc.1;have h2:j<1073741824:=hc.2;exact floordiv_int (by omega) (by rw[GQ i (by omega)]; exact q) (.inl (PyProof.noPylong_small (by omega)))
theorem pQ:OpR X (Bu .Mod) (rI (fun _ j=>0<j) fun i j=>.int (i%j)):=opI fun i j _ _ _ _ _ hc q=>by
 have h1:(0:Int)<j:=hc;exact mod_int' (by omega) (by rw[Int.fmod_eq_emod_of_nonneg i (by omega)]; exact q)
theorem aND:OpR X (Bu .Pow) (rI aVA fun i j=>.int (i^j.toNat)):=opI fun _ _ _ _ _ _ _ hc q=>pow_int_small hc.1 hc.2.1 hc.2.2 q
theorem unI {f:AB→Sem AB}{g:Int→Int}
  (rule:∀(i:Int) (t:Tok) (s:AD) (Q:AB→AD→Prop) (E:AB→AD→Prop),Q (.int (g i) s.toks) { s with toks:=s.toks+1 }→AF (AI X.prog X.w) X.A (f (.int i t)) Q E s) :
  UnR X f (rU fun i=>.int (g i)):=by
 intro pins s σ H x v Q I rx h;obtain⟨i,rfl,q⟩:=h;obtain⟨t,rfl⟩:=rx;exact rule i t s _ _ ⟨.int (g i),H,I.tok _,⟨_,rfl⟩,q⟩
theorem a2R:UnR X (unaryOp .USub) (rU fun i=>.int (-i)):=unI fun _ _ _ _ _ q=>neg_int q
end
noncomputable def aW4:V→V→Bool
 | .non,.non=>true|.non,.int _=>true|.int _,.non=>true|.non,.bl _=>true|.bl _,.non=>true|.non,.str _=>true|.str _,.non=>true
 | .int _,.int _=>true|.bl _,.bl _=>true|.str _,.str _=>true|.byt _,.byt _=>true
 | .int _,.str _=>true|.str _,.int _=>true|.bl _,.str _=>true|.str _,.bl _=>true
 | _,_=>false
noncomputable def rEq:R2:=fun x y H Q=>aW4 x y=true∧Q (.bl (decide (x=y))) H
theorem aL5 {i j:Int}:decide (V.int i=V.int j)=(i==j):=by
 rw[EX];simp
theorem aO9 {i j:Bool}:decide (V.bl i=V.bl j)=(i==j):=by
 rw[EX];simp
theorem aL9 {i j:Str}:decide (V.str i=V.str j)=(i==j):=by
 rw[EX];simp
theorem aMB {i j:Array UInt8}:decide (V.byt i=V.byt j)=(i.toList==j.toList):=by
 rw[EX]
 cases i
 cases j
 simp
section
variable {X:Cx}{a b c:AJ}{ta tb tc:TE}{pos:Pos}
theorem j8 {pins:List (AA×Obj)}{σ:St}{H:Hp}{s:AD}{Q:VK}{k k':Bool}(I:Inv X pins σ H s)(q:Q (.bl k) H)(e:k=k'):EP X pins σ Q (.bool k') s:=by
 subst e;exact⟨.bl k,H,I,rfl,q⟩
theorem aT6:OpR X (Bf .Eq) rEq:=by
 intro pins s σ H x y v u Q I rx ry h;obtain⟨hs,q⟩:=h
 cases x with
 | non=>
  cases rx
  cases y with
  | non=>cases ry; exact PySem.EqNone.eq_none_none (j8 I q (by simp))
  | bl j=>cases ry; exact PySem.EqNone.eq_none_bool (j8 I q (by simp))
  | int j=>obtain⟨t',rfl⟩:=ry; exact PySem.EqNone.eq_none_int (j8 I q (by simp))
  | str j=>obtain⟨t',rfl⟩:=ry; exact PySem.EqNone.eq_none_str (j8 I q (by simp))
  | _=>exact absurd (show false=true from hs) BB
 | bl i=>
  cases rx
  cases y with
  | non=>cases ry; exact PySem.EqNone.eq_bool_none (j8 I q (by simp))
  | bl j=>cases ry; exact eq_bool (j8 I q aO9)
  | str j=>obtain⟨t',rfl⟩:=ry; exact PySem.EqMixed.eq_bool_str (j8 I q (by simp))
  | _=>exact absurd (show false=true from hs) BB
 | int i=>
  obtain⟨t,rfl⟩:=rx
  cases y with
  | non=>cases ry; exact PySem.EqNone.eq_int_none (j8 I q (by simp))
  | int j=>obtain⟨t',rfl⟩:=ry; exact eq_int (j8 I q aL5)
  | str j=>obtain⟨t',rfl⟩:=ry; exact PySem.EqMixed.eq_int_str (j8 I q (by simp))
  | _=>exact absurd (show false=true from hs) BB
 | str i=>
  obtain⟨t,rfl⟩:=rx
  cases y with
  | non=>cases ry; exact PySem.EqNone.eq_str_none (j8 I q (by simp))
  | bl j=>cases ry; exact PySem.EqMixed.eq_str_bool (j8 I q (by simp))
  | int j=>obtain⟨t',rfl⟩:=ry; exact PySem.EqMixed.eq_str_int (j8 I q (by simp))
  | str j=>obtain⟨t',rfl⟩:=ry; exact eq_str (j8 I q aL9)
  | _=>exact absurd (show false=true from hs) BB
 | byt i=>
  obtain⟨t,rfl⟩:=rx
  cases y with
  | byt j=>obtain⟨t',rfl⟩:=ry; exact PySem.W.eq_bytes (j8 I q aMB)
  | _=>exact absurd (show false=true from hs) BB
 | _=>cases y<;>exact absurd (show false=true from hs) BB
theorem a3D:OpR X (Bf .Lt) (rI0 fun i j=>.bl (decide (i<j))):=aRJ fun _ _ _ _ _ _ _ q=>lt_int q
theorem aNP:OpR X (Bf .LtE) (rI0 fun i j=>.bl (decide (i≤j))):=aRJ fun _ _ _ _ _ _ _ q=>le_int q
theorem aA4:OpR X (Bf .Gt) (rI0 fun i j=>.bl (decide (j<i))):=aRJ fun _ _ _ _ _ _ _ q=>gt_int q
theorem aQV:OpR X (Bf .GtE) (rI0 fun i j=>.bl (decide (j≤i))):=aRJ fun _ _ _ _ _ _ _ q=>ge_int q
theorem a79:OpR X (Bf .Is) (fun x y H Q=>y=.non∧Q (.bl (decide (x=.non))) H):=by
 intro pins s σ H x y v u Q I rx ry h;obtain⟨rfl,q⟩:=h
 cases ry
 refine is_none_gen (j8 I q ?_)
 cases x<;>first
  | (cases rx; rfl)
  | (obtain⟨t,rfl⟩:=rx; rfl)
theorem aL4:OpR X (Bf .IsNot) (fun x y H Q=>y=.non∧Q (.bl (!decide (x=.non))) H):=by
 intro pins s σ H x y v u Q I rx ry h;obtain⟨rfl,q⟩:=h
 cases ry
 refine isnot_none_gen (j8 I q ?_)
 cases x<;>first
  | (cases rx; rfl)
  | (obtain⟨t,rfl⟩:=rx; rfl)
theorem bU (b:AJ){op:CmpOp}(h:op≠.In:=by decide)(h2:op≠.NotIn:=by decide):Dg op b=false:=by
 have e1:(op==CmpOp.In)=false:=by cases op<;>first|rfl|exact absurd rfl h
 have e2:(op==CmpOp.NotIn)=false:=by cases op<;>first|rfl|exact absurd rfl h2
 cases b<;>simp[Dg,e1,e2]
theorem iQ {op:CmpOp}{r:R2}(ho:OpR X (Bf op) r)(ha:PE X a ta)(hb:PE X b tb)(hm:Dg op b=false):PE X (.Compare a [op] [b] pos) (tOp r ta tb):=by
 intro pins s σ H Q I h;exact wpAny_Compare1 (aS8 ha hb I h fun v u s2 x y H2 I2 rx ry q=>ho pins s2 σ H2 x y v u Q I2 rx ry q) hm
noncomputable def aPK (t:TE):TT:=fun σ H Q=>t σ H fun x H'=>∃ k,x=.bl k∧Q k H'
theorem bG {op:CmpOp}{r:R2}(ho:OpR X (Bf op) r)(ha:PE X a ta)(hb:PE X b tb)(hm:Dg op b=false):PT X (.Compare a [op] [b] pos) (aPK (tOp r ta tb)):=by
 intro pins s σ H Q I h;refine GP (thn (ha pins s σ H _ I h) fun v s1 ⟨x,H1,I1,r1,q1⟩=>thn (hb pins s1 σ H1 _ I1 q1) fun u s2 ⟨y,H2,I2,r2,q2⟩=>
  thn (ho pins s2 σ H2 x y v u _ I2 r1 r2 q2) fun c s3 ⟨z,H3,I3,r3,k,e,q3⟩=>?_) hm
 subst e
 cases r3
 exact Dh ⟨H3,I3,q3⟩
theorem zZ:(sizeLine:Nat)<2^63:=by rw[Bv]; decide
theorem vals1 {x:V}{us:List AB}(r:Vals [x] us):∃ u,us=[u]∧RelV x u:=by
 cases r with
 | cons r1 r2=>cases r2; exact⟨_,rfl,r1⟩
theorem vals2 {x y:V}{us:List AB}(r:Vals [x,y] us):∃ u w',us=[u,w']∧RelV x u∧RelV y w':=by
 cases r with
 | cons r1 r2=>
  cases r2 with
  | cons r3 r4=>cases r4; exact⟨_,_,rfl,r1,r3⟩
theorem p6:qX X (.builtin "abs") (fun xs H Q=>∃ i,xs=[.int i]∧Q (.int (if i<0 then -i else i)) H):=by
 intro pins s σ H xs us Q I r h;obtain⟨i,rfl,q⟩:=h;obtain⟨u,rfl,t,rfl⟩:=vals1 r;exact call_abs_int fun u tk=>⟨.int (if i<0 then -i else i),H,I.tok _,⟨_,rfl⟩,q⟩
theorem aAC (hc:X.calm=true):qX X (.builtin "min") (fun xs H Q=>∃ i j,xs=[.int i,.int j]∧Q (.int (if j<i then j else i)) H):=by
 intro pins s σ H xs us Q I r h;obtain⟨i,j,rfl,q⟩:=h;obtain⟨u,w',rfl,⟨t,rfl⟩,⟨t',rfl⟩⟩:=vals2 r;refine min_two_ints (I.ok.hd hc) fun h' tk k=>⟨_,H,I.kept k,?_,q⟩
 by_cases hj:j<i
 ·rw[if_pos hj,if_pos hj]; exact⟨_,rfl⟩
 ·rw[if_neg hj,if_neg hj]; exact⟨_,rfl⟩
theorem mH:qX X (.type "int") (fun xs H Q=>(∃ i,xs=[.int i]∧Q (.int i) H)∨∃ k,xs=[.bl k]∧Q (.int (if k then 1 else 0)) H):=by
 intro pins s σ H xs us Q I r h;rcases h with⟨i,rfl,q⟩|⟨k,rfl,q⟩
 ·obtain⟨u,rfl,t,rfl⟩:=vals1 r;exact call_int_int ⟨.int i,H,I,⟨_,rfl⟩,q⟩
 ·obtain⟨u,rfl,r1⟩:=vals1 r
  cases r1
  exact call_int_bool ⟨.int (if k then 1 else 0),H,I.tok _,⟨_,rfl⟩,q⟩
end
end L2
namespace L2
open PySem PySem.Spec PyProof.Rows
structure ObjM (h:AG)(x dx C:AA)(mA:Str→Option AB):Prop where
 obj:h.get? x=some (CU C dx)
 ns:h.Ns1 dx mA
 ne:dx≠x
theorem a4P {h:AG}{dx:AA}{mA:Str→Option AB}(n:h.Ns1 dx mA):∃ od,h.get? dx=some od∧∀ name,lookIn name od=some (mA name):=by
 obtain⟨o,es,ep,ho,hd,hk,_,hm⟩:=n;refine⟨o,ho,fun name=>?_⟩;have e:=hm name;unfold nsFind findBy at e;rw[← Array.find?_toList] at e;unfold lookIn;rw[hd];dsimp only
 split
 ·rename_i y q
  rw[q] at e;exact congrArg some e
 ·rename_i q
  rw[q] at e;have a:es.toList.any (·.refKey)=false:=by
   rw[Er];intro y hy;obtain⟨z,t,hkey⟩:=hk y (Array.mem_toList_iff.mp hy);simp[DictEntry.refKey,hkey]
  have a':¬es.toList.any (·.refKey)=true:=by rw[a]; exact BB
  rw[if_neg a'];exact congrArg some e
theorem ObjM.look {h:AG}{x dx C:AA}{mA:Str→Option AB}(I:ObjM h x dx C mA):∃ od,FD h x (CU C dx) C (some od)∧∀ name,lookIn name od=some (mA name):=
 let ⟨od,ho,hl⟩:=a4P I.ns
 ⟨od,⟨I.obj,rfl,rfl,ho⟩,hl⟩
section
variable {prog:AQ}{w:AK}{A:AU}{E:AB→AD→Prop}{s:AD}{K:Ab}{x dx C f:AA}{mA:Str→Option AB}{name:Str}{v:AB}
theorem aJS {expr:Bool}{Q:AB→AD→Prop}(X:K.In s.heap)(I:ObjM s.heap x dx C mA)(hg:EM K C name=true)(hh:CK K C=true)
  (ha:Ag K (.ref C) name=some none) (hv:mA name=some v) (hv':handedIn v=true) (h:Q v { s with toks:=s.toks+1 }) :
  AF (AI prog w) A (EY (.ref x) name expr) Q E s:=by
 obtain⟨od,J,hl⟩:=I.look;exact PySem.W.get_value X J (E1 hg).1 (Fc hh ha rfl (by rw[hl,hv])) hv' h
theorem aGN {pl:Sem Bool}{Q:AB×List AB→AD→Prop}(X:K.In s.heap)(I:ObjM s.heap x dx C mA)(hg:EM K C name=true)
  (hf:Ag K (.ref C) name=some (some (.ref f))) (ht:isFn K (.ref f)=true) (hv:mA name=none) (h:Q (.ref f,[.ref x]) s) :
  AF (AI prog w) A (EZ (.ref x) name pl) Q E s:=by
 obtain⟨od,J,hl⟩:=I.look;exact PySem.W.method_fn X J (E1 hg).1 (E1 hg).2 hf (beq_iff_eq.mp ht) (by show(lookIn name od).map (·.isSome)=some false; rw[hl,hv]; rfl) h
theorem aKT {ns:List Str}{Q:Unit→AD→Prop}(X:K.In s.heap)(I:ObjM s.heap x dx C mA)
  (hs:Ag K (.ref C) "__setattr__" = some (some (.builtin "object.__setattr__"))) (hp:plainOver K C=true) (ht:takerIn K C name=some none) (hh:CK K C=true)
  (hw:E7 mA ns) (hsz:ns.length≤sizeLine)
  (h:∀ h',ObjM h' x dx C (fun y=>if y=name then some v else mA y)→BU dx s.heap h'→Q () { s with heap:=h',toks:=s.toks+2 }) :
  AF (AI prog w) A (setAttr (.ref x) name v) Q E s:=by
 obtain⟨od,J,hl⟩:=I.look;refine set_plain X J hs (PySem.W.osa_open (s:={ s with toks:=s.toks+1 }) (r:=none) X J hp ht fun b=>?_);obtain⟨cd,hc,hd'⟩:=PySem.W.any_some hh;have hx:s.heap.get? x=some ⟨.ref C,some dx,.plain,#[]⟩:=I.obj;refine AE (AR (AE (AE (wpAny_loadPart hx (AE (FE.here (s:={ s with toks:=s.toks+1 }) (PySem.W.looks_clsIn X hc) ?_))))));rw[hd'];refine AR (a:=some dx) (AE (AR (AE ?_)));refine wpAny_nsSet1 (s:={ s with toks:=s.toks+1 }) I.ns fun h' hn2 hs2=>?_;obtain⟨oD,esD,epD,hoD,hdD,hcD⟩:=hn2.count (E7.cons name v hw);refine AE (wpAny_lookBehind hoD (by rw[hdD]; exact pastItsLine_dict (Ac hcD (by rw[Af]; omega))) ?_);exact AR (h _ ⟨(hs2.2 _ (Am I.ne)).trans I.obj,hn2,I.ne⟩ hs2)
theorem aEM {R:Result→AD→Prop}{vs:List AB}{kw:List (Str×AB)}(X:K.In s.heap)(hm:makesIn K C=true)
  (hi:Ag K (.ref C) "__init__" = some (some (.ref f))) (hf:Cq K (.ref f)=some (.type "function"))
  (h:CQ (AI prog w) (A.under (.builtin "type.__call__" ⟨.ref C::vs,kw⟩)) (.call (.ref f) ⟨.ref (s.heap.objs.size+1)::vs,kw⟩) (PySem.W.InitBack (s.heap.objs.size+1) R)
   { s with heap:=(s.heap.push CJ).push (CU C s.heap.objs.size) }) :
  CQ (AI prog w) A (.call (.ref C) ⟨vs,kw⟩) R s:=by
 obtain⟨hh,g,d,t,os⟩:=s;exact PySem.W.make_core (PySem.W.makes_of X hm) (EL X hi) (fun self=>bind_fn X self hf) (.inl rfl) h
end
noncomputable def a3V (f:Str)(v:V):List (Str×V)→List (Str×V)
 | []=>[(f,v)]
 | (g,x)::r=>if g=f then(g,v)::r else(g,x)::a3V f v r
theorem xX (f g:Str)(v:V):∀ fs:List (Str×V),(a3V f v fs).lookup g=if g=f then some v else fs.lookup g
 | []=>by
  show Bh g [(f,v)]=_
  by_cases h:g=f
  ·have hb:(g==f)=true:=beq_iff_eq.mpr h;simp only[Bh,hb,if_pos h]
  ·have hb:(g==f)=false:=beq_eq_false_iff_ne.mpr h;simp only[Bh,hb,if_neg h]
 | (k,x)::r=>by
  have ih:=xX f g v r;rw[show a3V f v ((k,x)::r)=(if k=f then(k,v)::r else(k,x)::a3V f v r) from rfl]
  by_cases hk:k=f
  ·rw[if_pos hk]
   by_cases h:g=k
   ·have hb:(g==k)=true:=beq_iff_eq.mpr h;simp only[Bh,hb,if_pos (h.trans hk)]
   ·have hb:(g==k)=false:=beq_eq_false_iff_ne.mpr h;simp only[Bh,hb,if_neg (fun e:g=f=>h (e.trans hk.symm))]
  ·rw[if_neg hk]
   by_cases h:g=k
   ·have hb:(g==k)=true:=beq_iff_eq.mpr h;simp only[Bh,hb,if_neg (fun e:g=f=>hk (h.symm.trans e))]
   ·have hb:(g==k)=false:=beq_eq_false_iff_ne.mpr h;simp only[Bh,hb];exact ih
theorem yF (f:Str)(v:V):∀ fs:List (Str×V),f∈(a3V f v fs).map (·.1)∧∀ g,g∈fs.map (·.1)→g∈(a3V f v fs).map (·.1)
 | []=>⟨by simp[a3V],fun g h=>by simp at h⟩
 | (k,x)::r=>by
  obtain⟨i1,i2⟩:=yF f v r;rw[show a3V f v ((k,x)::r)=(if k=f then(k,v)::r else(k,x)::a3V f v r) from rfl]
  by_cases hk:k=f
  ·rw[if_pos hk];subst hk;exact⟨by simp,fun g h=>by simpa using h⟩
  ·rw[if_neg hk];refine⟨?_,fun g h=>?_⟩
   ·rw[A2];exact Ak _ i1
   ·rw[A2] at h ⊢;rcases AT.mp h with e|e
    ·exact AT.mpr (.inl e)
    ·exact Ak _ (i2 g e)
theorem xY (f:Str)(v:V):∀ fs:List (Str×V),(a3V f v fs).length≤fs.length+1
 | []=>by simp[a3V]
 | (k,x)::r=>by
  have ih:=xY f v r;rw[show a3V f v ((k,x)::r)=(if k=f then(k,v)::r else(k,x)::a3V f v r) from rfl]
  by_cases hk:k=f
  ·rw[if_pos hk,Af,Af]; omega
  ·rw[if_neg hk,Af,Af]; omega
theorem RelO.some_of {v:V}{o:Option AB}(r:RelO (some v) o):∃ u,o=some u∧RelV v u:=by
 cases o with
 | none=>exact(show False from r).elim
 | some u=>exact⟨u,rfl,r⟩
theorem RelO.none_of {o:Option AB}(r:RelO none o):o=none:=by
 cases o with
 | none=>rfl
 | some u=>exact(show False from r).elim
theorem a3Z {v:V}{u:AB}(r:RelV v u):handedIn u=true:=by
 cases v with
 | non=>cases(show u=BS from r); rfl
 | bl b=>cases(show u=E6 b from r); rfl
 | int i=>obtain⟨t,e⟩:=(show ∃ t,u=Cu i t from r); cases e; rfl
 | str x=>obtain⟨t,e⟩:=(show ∃ t,u=DI x t from r); cases e; rfl
 | byt b=>obtain⟨t,e⟩:=(show ∃ t,u=AB.bytes b t from r); cases e; rfl
 | flt b=>obtain⟨t,e⟩:=(show ∃ t,u=Fe b t from r); cases e; rfl
 | ref a=>cases(show u=Aa a from r); rfl
 | ty n=>cases(show u=AB.type n from r); rfl
section
variable {P:AQ}{w:AK}{H H':Hp}{h h':AG}{a C dx:AA}{fs fs':List (Str×V)}
theorem a0P (hok:HOk P w H h)(e:H a=some (.ins C dx fs)):∃ mA,ObjM h a dx C mA∧(∀ f,RelO (fs.lookup f) (mA f))∧E7 mA (fs.map (·.1))∧fs.length≤1000∧H dx=some (.own a):=by
 obtain⟨d,z,ne,ob,mA,n,r,q⟩:=(show ObjOk P w H h a (.ins C dx fs) from hok a _ e);exact⟨mA,⟨ob,n,ne⟩,r,q,z,d⟩
end
structure Cls (K:Ab)(C:AA):Prop where
 pg:EM K C Str.empty=true
 hd:CK K C=true
 po:plainOver K C=true
 sa:Ag K (.ref C) "__setattr__" = some (some (.builtin "object.__setattr__"))
theorem Cls.get {K:Ab}{C:AA}(c:Cls K C)(f:Str):EM K C f=true:=c.pg
noncomputable def NoAttr (K:Ab)(C:AA)(f:Str):Prop:=Ag K (.ref C) f=some none
theorem NoAttr.taker {K:Ab}{C:AA}{f:Str}(n:NoAttr K C f):takerIn K C f=some none:=by
 unfold takerIn;rw[show Ag K (.ref C) f=some none from n];rfl
structure Meth (K:Ab)(C:AA)(m:Str)(f:AA):Prop where
 at_:Ag K (.ref C) m=some (some (.ref f))
 fn:isFn K (.ref f)=true
 kp:Bc K (.ref f)=true
section
variable {X:Cx}{pins:List (AA×Obj)}{σ:St}{H:Hp}{s:AD}{a C dx:AA}{fs:List (Str×V)}{f:Str}{v:V}{A:AU}{E:AB→AD→Prop}
theorem zY {b:Bool}{Q:AB→AD→Prop}(I:Inv X pins σ H s)(e:H a=some (.ins C dx fs))(c:Cls X.K C)(n:NoAttr X.K C f)(l:fs.lookup f=some v)
  (h:∀ u s',Inv X pins σ H s'→RelV v u→Q u s'):AF (AI X.prog X.w) A (EY (.ref a) f b) Q E s:=by
 obtain⟨mA,O,r,_,_,_⟩:=a0P I.hok e;obtain⟨u,hu,ru⟩:=RelO.some_of (v:=v) (o:=mA f) (by rw[← l]; exact r f);exact aJS I.kIn O (c.get f) c.hd n hu (a3Z ru) (h u _ (I.tok _) ru)
theorem a07 {m:Str}{g:AA}{pl:Sem Bool}{Q:AB×List AB→AD→Prop}(I:Inv X pins σ H s)(e:H a=some (.ins C dx fs))(c:Cls X.K C)(k:Meth X.K C m g)(l:fs.lookup m=none)
  (h:Q (.ref g,[.ref a]) s):AF (AI X.prog X.w) A (EZ (.ref a) m pl) Q E s:=by
 obtain⟨mA,O,r,_,_,_⟩:=a0P I.hok e;have hn:mA m=none:=RelO.none_of (by rw[← l]; exact r m);exact aGN I.kIn O (c.get m) k.at_ k.fn hn h
theorem zW {y:V}{u:AB}{Q:Unit→AD→Prop}(I:Inv X pins σ H s)(e:H a=some (.ins C dx fs))(c:Cls X.K C)(n:NoAttr X.K C f)(hl:fs.length<1000)(ry:RelV y u)
  (h:∀ s',Inv X pins σ (upd H a (.ins C dx (a3V f y fs))) s'→Q () s'):AF (AI X.prog X.w) A (setAttr (.ref a) f u) Q E s:=by
 obtain⟨mA,O,r,wi,_,ho⟩:=a0P I.hok e;have hz:(fs.map (·.1)).length≤sizeLine:=by rw[AO,Bv]; omega
 refine aKT I.kIn O c.sa c.po n.taker c.hd wi hz fun h' O' sb=>h _ ?_;have hd:∃ o,h'.get? dx=some o:=let ⟨o,_,_,e',_⟩:=O'.ns; ⟨o,e'⟩;refine I.write (x:=a) (e:=dx) (by rw[e]; exact True.intro) (.inr ho) (fun b q hb z=>(sb.2 b hb).trans z) hd ?_;refine⟨by rw[bA O.ne]; exact ho,?_,O.ne,O'.obj,_,O'.ns,fun g=>?_,fun g hg=>?_⟩
 ·have:=xY f y fs; omega
 ·show RelO ((a3V f y fs).lookup g) (if g=f then some u else mA g);rw[xX]
  by_cases q:g=f
  ·rw[if_pos q,if_pos q]; exact ry
  ·rw[if_neg q,if_neg q]; exact r g
 ·by_cases q:g=f
  ·rw[q]; exact(yF f y fs).1
  ·refine(yF f y fs).2 g (wi g fun z=>hg ?_)
   show(if g=f then some u else mA g)=none
   rw[if_neg q]; exact z
theorem Inv.made (I:Inv X pins σ H s):Inv X pins σ (upd (upd H s.heap.objs.size (.own (s.heap.objs.size+1))) (s.heap.objs.size+1) (.ins C s.heap.objs.size []))
  { s with heap:=(s.heap.push CJ).push (CU C s.heap.objs.size) }:=by
 have e1:(s.heap.push CJ).get? s.heap.objs.size=some CJ:=BE s.heap rfl;have e2:((s.heap.push CJ).push (CU C s.heap.objs.size)).get? (s.heap.objs.size+1)=some (CU C s.heap.objs.size):=by
  have:=BE (s.heap.push CJ) (o:=CU C s.heap.objs.size) rfl;rwa[CY] at this
 have e3:(s.heap.push CJ).Ns s.heap.objs.size (fun _=>none):=⟨CJ,#[],_,e1,rfl,(fun e he=>absurd he (by simp)),fun _=>rfl⟩;have I1:=I.laid (a:=s.heap.objs.size) (o:=.own (s.heap.objs.size+1)) (h':=s.heap.push CJ) (t':=s.toks) (fun b u q=>AZ _ q) (AV _) ⟨_,e1⟩;refine I1.laid (a:=s.heap.objs.size+1) (o:=.ins C s.heap.objs.size []) (t':=s.toks) (fun b u q=>AZ _ q) (Nat.le_of_eq (CY _ _)) ?_;have ne:s.heap.objs.size≠s.heap.objs.size+1:=Aw (DY _);refine⟨by rw[bA ne,aW],Be _,ne,e2,fun _=>none,(AG.Ns1.of_empty e3).at fun o q=>AZ _ q,fun _=>True.intro,fun y hy=>absurd rfl hy⟩
theorem aB9 {prog:AQ}{w:AK}{env:Env}{e:AJ}{f:Str}{pos:Pos}{s:AD}{Q:AB→AD→Prop}(hb:DM e f env (eval e env)=eval e env)
  (h:AF (AI prog w) A (eval e env) (fun o s₁=>AF (AI prog w) A (EY o f true) Q E s₁) E s):AF (AI prog w) A (eval (.Attribute e f pos) env) Q E s:=
 Attribute_any_ h (by rw[arm_eval_Attribute,hb])
end
noncomputable def aID (K:Ab)(ta:TE)(f:Str):TE:=fun σ H Q=>ta σ H fun x H1=>∃ a C dx fs v,x=.ref a∧H1 a=some (.ins C dx fs)∧Cls K C∧NoAttr K C f∧fs.lookup f=some v∧Q v H1
noncomputable def aVQ (K:Ab)(ta tv:TE)(f:Str):TS:=fun D σ H=>tv σ H fun y H1=>ta σ H1 fun x H2=>∃ a C dx fs,x=.ref a∧H2 a=some (.ins C dx fs)∧Cls K C∧NoAttr K C f∧fs.length<1000 ∧
 D.nx σ (upd H2 a (.ins C dx (a3V f y fs)))
noncomputable def aV3 (X:Cx)(op:Operator)(rd:V→V→Hp→VK→Prop):Prop:=
 ∀(pins:List (AA×Obj)) (s:AD) (σ:St) (H:Hp) (x y:V) (u v:AB) (Q:VK),Inv X pins σ H s→RelV x u→RelV y v→rd x y H Q→AF (AI X.prog X.w) X.A (inplaceOp op u v) (EP X pins σ Q) X.xe s
noncomputable def aE7 (K:Ab)(ta tv:TE)(rd:V→V→Hp→VK→Prop)(f:Str):TS:=fun D σ H=>ta σ H fun x H1=>∃ a C dx fs v,x=.ref a∧H1 a=some (.ins C dx fs)∧Cls K C∧NoAttr K C f∧fs.lookup f=some v ∧
 tv σ H1 fun y H2=>rd v y H2 fun z H3=>∃ dx' fs',H3 a=some (.ins C dx' fs')∧fs'.length<1000∧D.nx σ (upd H3 a (.ins C dx' (a3V f z fs')))
section
variable {X:Cx}{o e value:AJ}{f:Str}{pos pos' tpos:Pos}{ta tv:TE}
theorem rZ (he:PE X e ta)(hb:DM e f X.env (eval e X.env)=eval e X.env):PE X (.Attribute e f pos) (aID X.K ta f):=by
 intro pins s σ H Q I h;refine aB9 hb (thn (he pins s σ H _ I h) fun u s1 ⟨x,H1,I1,rx,a,C,dx,fs,v,ex,ea,c,n,l,q⟩=>?_);subst ex;obtain rfl:u=Aa a:=rx;exact zY I1 ea c n l fun u' s2 I2 ru=>⟨v,H1,I2,ru,q⟩
theorem a8B (ha:PE X o ta)(hv:PE X value tv)(hs:Br value (some (.Attribute o f pos')) pos.line X.env=pure false):PS X (.Assign [.Attribute o f pos'] value pos) (aVQ X.K ta tv f):=by
 intro pins s σ H D I h;refine GR (thn (hv pins s σ H _ I h) fun u s1 ⟨y,H1,I1,ry,q⟩=>thn (ha pins s1 σ H1 _ I1 q) fun ov s2 ⟨x,H2,I2,rx,a,C,dx,fs,ex,ea,c,n,l,q2⟩=>?_) hs;subst ex;obtain rfl:ov=Aa a:=rx;exact zW I2 ea c n l ry fun s3 I3=>⟨σ,_,I3,q2⟩
theorem aAQ {op:Operator}{rd:V→V→Hp→VK→Prop}(ha:PE X o ta)(hv:PE X value tv)(hop:aV3 X op rd):PS X (.AugAssign (.Attribute o f tpos) op value pos) (aE7 X.K ta tv rd f):=by
 intro pins s σ H D I h;refine wpAny_AugAssign_AttributeAny (thn (ha pins s σ H _ I h) fun ov s1 ⟨x,H1,I1,rx,a,C,dx,fs,v,ex,ea,c,n,l,q⟩=>?_);subst ex;obtain rfl:ov=Aa a:=rx;refine zY I1 ea c n l fun u s2 I2 ru=>thn (hv pins s2 σ H1 _ I2 q) fun w3 s3 ⟨y,H2,I3,ry,q3⟩=>thn (hop pins s3 σ H2 v y u w3 _ I3 ru ry q3) fun w4 s4 ⟨z,H3,I4,rz,dx',fs',ea',l',q4⟩=>?_;exact zW I4 ea' c n l' rz fun s5 I5=>⟨σ,_,I5,q4⟩
noncomputable def aVU:V→V→Hp→VK→Prop:=fun x y H Q=>∃ i j,x=.int i∧y=.int j∧Q (.int (i+j)) H
theorem aR3:aV3 X .Add aVU:=by
 rintro pins s σ H x y u v Q I rx ry ⟨i,j,rfl,rfl,q⟩;obtain⟨t,rfl⟩:=(show ∃ t,u=Cu i t from rx);obtain⟨t',rfl⟩:=(show ∃ t',v=Cu j t' from ry);exact PyProof.Rows.iadd_int ⟨.int (i+j),H,I.tok _,⟨_,rfl⟩,q⟩
theorem aJA {pl:Sem Bool}{m:Str}{apos:Pos}{args:List AJ}{pins:List (AA×Obj)}{s:AD}{σ:St}{H:Hp}{Q:AB→AD→Prop}{te:TE}(he:PE X e te)(I:Inv X pins σ H s)
  (h:te σ H fun x H1=>∃ a C dx fs g,x=.ref a∧H1 a=some (.ins C dx fs)∧Cls X.K C∧Meth X.K C m g∧fs.lookup m=none ∧
   ∀ s1,Inv X pins σ H1 s1→AF (AI X.prog X.w) X.A (Dk pos (.ref g) [.ref a] (BG pos (AX args X.env)) (Dl pos (Dm [] X.env))) Q X.xe s1)
  (ht:eval (.Call (.Attribute e m apos) args [] pos) X.env=(do
   let ov←eval e X.env
   EU apos.atName
   let (f,first)←DJ [ov] (EZ ov m pl)
   Dk pos f first (BG pos (AX args X.env)) (Dl pos (Dm [] X.env)))) :
  AF (AI X.prog X.w) X.A (eval (.Call (.Attribute e m apos) args [] pos) X.env) Q X.xe s:=by
 refine Ey (pl:=pl) (thn (he pins s σ H _ I h) fun u s1 ⟨x,H1,I1,rx,a,C,dx,fs,g,ex,ea,c,k,l,q⟩=>?_) ht;subst ex;obtain rfl:u=Aa a:=rx;exact a07 I1 ea c k l (q s1 I1)
end
section
variable {X:Cx}{pins:List (AA×Obj)}{σ:St}{H:Hp}{s:AD}{A:AU}{E:AB→AD→Prop}{Q:AB→AD→Prop}{c:AB}{b:Bool}
inductive TyOf (K:Ab) (H:Hp):V→AB→Prop where
 | non:TyOf K H .non (.type "NoneType")
 | bl (x:Bool):TyOf K H (.bl x) (.type "bool")
 | int (i:Int):TyOf K H (.int i) (.type "int")
 | str (x:Str):TyOf K H (.str x) (.type "str")
 | flt (x:UInt64):TyOf K H (.flt x) (.type "float")
 | lst {a:AA} {xs:List V} (e:H a=some (.lst xs)):TyOf K H (.ref a) (.type "list")
 | frz {a:AA} {o:Obj} {xs:List V} (e:H a=some (.frz o (.lst xs))):TyOf K H (.ref a) (.type "list")
 | tup {a:AA} {xs:List V} (e:H a=some (.tup xs)):TyOf K H (.ref a) (.type "tuple")
 | dK {a:AA} {kvs:List (Key×V)} (e:H a=some (.dK kvs)):TyOf K H (.ref a) (.type "dict")
 | fdK {a:AA} {o:Obj} {kvs:List (Key×V)} (e:H a=some (.frz o (.dK kvs))):TyOf K H (.ref a) (.type "dict")
 | dT {a:AA} {kvs:List (List Key×V)} (e:H a=some (.dT kvs)):TyOf K H (.ref a) (.type "dict")
 | ins {a C dx:AA} {fs:List (Str×V)} (e:H a=some (.ins C dx fs)) (cl:Cls K C) (ha:Ag K (.ref C) "__class__" = some (some (.builtin "object.__class__")))
   (hn:EN K (.builtin "object.__class__") "__get__" = some (some (.builtin "getset_descriptor.__get__"))) (htk:PySem.W.takesIn K (.builtin "object.__class__")=some true)
   (hm:CL K C (.type "object")=some true):TyOf K H (.ref a) (.ref C)
theorem aCS {x:V}{u t:AB}(I:Inv X pins σ H s)(rx:RelV x u)(ty:TyOf X.K H x t)(e:AS X.K t c=some b)(h:∀ tk,Q (.bool b) { s with toks:=tk }) :
  AF (AI X.prog X.w) A (call (.builtin "isinstance") [u,c]) Q E s:=by
 cases ty with
 | non=>cases(show u=BS from rx); exact Bm PySem.W.kitx_none I.kIn True.intro e (fun z=>nomatch z) h
 | bl y=>cases(show u=E6 y from rx); exact Bm PySem.W.kitx_bool I.kIn True.intro e (fun z=>nomatch z) h
 | int i=>obtain⟨t,q⟩:=(show ∃ t,u=Cu i t from rx); cases q; exact Bm PySem.W.kitx_int I.kIn True.intro e (fun z=>nomatch z) h
 | str y=>obtain⟨t,q⟩:=(show ∃ t,u=DI y t from rx); cases q; exact Bm PySem.W.kitx_str I.kIn True.intro e (fun z=>nomatch z) h
 | flt y=>obtain⟨t,q⟩:=(show ∃ t,u=Fe y t from rx); cases q; exact Bm PySem.W.kitx_float I.kIn True.intro e (fun z=>nomatch z) h
 | @lst a xs ea=>
  cases(show u=Aa a from rx)
  obtain⟨_,_,n,_,h1⟩:=(show ObjOk X.prog X.w H s.heap a (.lst xs) from I.hok a _ ea);exact Bm kitx_list I.kIn ⟨_,h1,rfl⟩ e (fun z=>nomatch z) h
 | @frz a ob xs ea=>
  cases(show u=Aa a from rx)
  obtain⟨_,_,_,n,_,h1⟩:=(show ObjOk X.prog X.w H s.heap a (.frz ob (.lst xs)) from I.hok a _ ea);exact Bm kitx_list I.kIn ⟨_,h1,rfl⟩ e (fun z=>nomatch z) h
 | @tup a xs ea=>
  cases(show u=Aa a from rx)
  obtain⟨_,_,_,p⟩:=(show ObjOk X.prog X.w H s.heap a (.tup xs) from I.hok a _ ea);obtain⟨o,h1,h2,_⟩:=p;exact Bm PySem.W.kitx_tuple I.kIn ⟨o,h1,h2⟩ e (fun z=>nomatch z) h
 | @dK a kvs ea=>
  cases(show u=Aa a from rx)
  obtain⟨_,_,vs,_,p⟩:=(show ObjOk X.prog X.w H s.heap a (.dK kvs) from I.hok a _ ea);obtain⟨o,es,ep,h1,h2,_⟩:=p;exact Bm Ex I.kIn ⟨o,h1,h2.1⟩ e (fun z=>nomatch z) h
 | @fdK a ob kvs ea=>
  cases(show u=Aa a from rx)
  obtain⟨_,_,_,vs,_,p⟩:=(show ObjOk X.prog X.w H s.heap a (.frz ob (.dK kvs)) from I.hok a _ ea);obtain⟨o,es,ep,h1,h2,_⟩:=p;exact Bm Ex I.kIn ⟨o,h1,h2.1⟩ e (fun z=>nomatch z) h
 | @dT a kvs ea=>
  cases(show u=Aa a from rx)
  obtain⟨_,_,xs,_,o,es,ep,h1,h2,_⟩:=(show ObjOk X.prog X.w H s.heap a (.dT kvs) from I.hok a _ ea);exact Bm Ex I.kIn ⟨o,h1,h2.1⟩ e (fun z=>nomatch z) h
 | @ins a C dx fs ea cl ha hn htk hm=>
  cases(show u=Aa a from rx)
  obtain⟨mA,O,_⟩:=a0P I.hok ea;obtain⟨od,J,_⟩:=O.look;exact Bm (PySem.W.kitx_own (cl.get _) cl.hd ha hn htk hm) I.kIn J e (fun z=>nomatch z) h
end
end L2
namespace L2
open PySem PySem.Spec PyProof.Rows
structure Room (k:Nat)(A:AU):Prop where
 hd:A.handled=none
 dp:A.depth+3*k+5<recursionLimit
 un:A.units+16*k+200<BJ
 gd:A.guards=some []
theorem Room.mono {j k:Nat}{A:AU}(r:Room k A)(h:j≤k):Room j A:=⟨r.hd,by have:=r.dp; omega,by have:=r.un; omega,r.gd⟩
theorem Room.deeper {k:Nat}{A:AU}(r:Room (k+1) A)(env:Env):Room k (A.deeper env):=
 ⟨r.hd,by have:=r.dp; show A.depth+1+3*k+5<_; omega,by have:=r.un; show A.units+3+16*k+200<_; omega,r.gd⟩
theorem a9I {A:AU}{C:AA}{us:List AB}{kw:List (Str×AB)}:(A.under (.builtin "type.__call__" ⟨.ref C::us,kw⟩)).depth=A.depth+1:=by
 first|rfl|simp[FF,Code.weight,Code.isCreation,Code.isGuard,Code.isCaller,Code.frames,Fo,guardIds]
theorem a96 {A:AU}{C:AA}{us:List AB}{kw:List (Str×AB)}:(A.under (.builtin "type.__call__" ⟨.ref C::us,kw⟩)).units=A.units+1:=by
 first|rfl|simp[FF,Code.cUnits,Code.frames,Fo]
theorem Room.make {k:Nat}{A:AU}(r:Room (k+1) A)(C:AA)(us:List AB)(kw:List (Str×AB)):Room k (A.under (.builtin "type.__call__" ⟨.ref C::us,kw⟩)):=
 ⟨r.hd,by have:=r.dp; rw[a9I]; omega,by have:=r.un; rw[a96]; omega,by simp[FF,r.gd,pushGuards,Code.guards,Code.isGuard,guardIds]⟩
theorem Room.depth {k:Nat}{A:AU}(r:Room k A):A.depth<recursionLimit:=by have:=r.dp; omega
theorem Room.units {k:Nat}{A:AU}(r:Room k A):A.units+64<BJ:=by have:=r.un; omega
noncomputable def nM:TA:=fun _ H Q=>Q [] H
noncomputable def cQ (ta:TE)(tr:TA):TA:=fun σ H Q=>ta σ H fun x H1=>tr σ H1 fun xs H2=>Q (x::xs) H2
section
variable {X:Cx}{e:AJ}{es:List AJ}{te:TE}{t:TA}{pos:Pos}
theorem aD:PA X [] nM:=fun _ _ _ _ H Q I h=>Fp ⟨[],H,I,.nil,h⟩
theorem aA (ha:PE X e te)(hr:PA X es t)(hs:AX (e::es) X.env=(false,eval e X.env)::AX es X.env:=by rfl):PA X (e::es) (cQ te t):=by
 intro pos pins s σ H Q I h;rw[hs];show AF _ _ (spliced ((false,eval e X.env)::BG pos (AX es X.env))) _ _ s;refine Cw (thn (ha pins s σ H _ I h) fun u s1 ⟨x,H1,I1,r1,q1⟩=>?_);exact thn (hr pos pins s1 σ H1 _ I1 q1) fun us s2 ⟨xs,H2,I2,r2,q2⟩=>⟨x::xs,H2,I2,.cons r1 r2,q2⟩
noncomputable def aMJ (t:TA):TE:=fun σ H Q=>t σ H fun xs H1=>xs.length≤sizeLine∧∀ p,H1 p=none→Q (.ref p) (upd H1 p (.tup xs))
noncomputable def aRH (t:TA):TE:=fun σ H Q=>t σ H fun xs H1=>xs.length≤sizeLine∧∀ p,H1 p=none→Q (.ref p) (upd H1 p (.lst xs))
theorem cT {x1}(h:PA X es t):PE X (.Tuple es x1 pos) (aMJ t):=by
 intro pins s σ H Q I hq;refine wpAny_Tuple_spliced (thn (h pos pins s σ H _ I hq) fun us s1 ⟨xs,H1,I1,r,z,q⟩=>⟨by rw[← r.length]; exact z,?_⟩);have hf:H1 s1.heap.objs.size=none:=I1.hok.fresh (AV _);refine⟨.ref s1.heap.objs.size,upd H1 s1.heap.objs.size (.tup xs),I1.laid (t':=s1.toks) (fun b u e=>AZ _ e) (AV _) ?_,rfl,q _ hf⟩;exact⟨z,us,r,⟨_,BE _ rfl,rfl,_,rfl⟩⟩
theorem eV (h:PA X es t):PE X (.List es pos) (aRH t):=by
 intro pins s σ H Q I hq;refine wpAny_List_spliced (thn (h pos pins s σ H _ I hq) fun us s1 ⟨xs,H1,I1,r,z,q⟩=>⟨by rw[← r.length]; exact z,?_⟩);have hf:H1 s1.heap.objs.size=none:=I1.hok.fresh (AV _);refine⟨.ref s1.heap.objs.size,upd H1 s1.heap.objs.size (.lst xs),I1.laid (t':=s1.toks) (fun b u e=>AZ _ e) (AV _) ?_,rfl,q _ hf⟩;exact⟨z,us,0,r,BE _ rfl⟩
end
abbrev Sp:=List V→Hp→VK→XK→Prop
abbrev CXT:=List Env→Hp→AD→XK→AB→AD→Prop
structure Env0 (P:AQ)(w:AK)(K:Ab)(mg:Str→Option AB)(base:AG)(A:AU)(outer:List Env)(s:AD)(H:Hp):Prop where
 frames:A.frames=some outer
 mod:Mod K mg base
 bs:∀ b o,base.get? b=some o→s.heap.get? b=some o∧H b=none
 bsz:base.objs.size≤s.heap.objs.size
 funs:s.heap.FunFrames base outer
 frf:∀ b∈frs outer,H b=none
 hok:HOk P w H s.heap
 bare:B9 s.gens
noncomputable def CE (outer:List Env)(P:AQ)(w:AK)(H:Hp)(s:AD)(Q:VK)(u:AB)(s':AD):Prop:=
 ∃ v H',s'.os=s.os∧B9 s'.gens∧Un (frs outer) [] H H' s.heap s'.heap∧HOk P w H' s'.heap∧RelV v u∧Q v H'
noncomputable def CR (CX:CXT)(outer:List Env)(P:AQ)(w:AK)(H:Hp)(s:AD)(Q:VK)(E:XK)(r:Result)(s':AD):Prop:=
 match r with
 | .ok (.ret u)=>CE outer P w H s Q u s'
 | .ok _=>False
 | .error e=>CX outer H s E e s'
structure FnOk (P:AQ)(w:AK)(K:Ab)(mg:Str→Option AB)(base:AG)(CX:CXT)(k:Nat)(f:AA)(fd:An)(ps:List Str)(sp:Sp):Prop where
 len:∀ vs H Q E,sp vs H Q E→vs.length=ps.length
 run:∀(A:AU) (outer:List Env) (s:AD) (H:Hp) (args:Args) (us:List AB) (vs:List V) (Q:VK) (E:XK),Room k A→Env0 P w K mg base A outer s H→Dn s fd args (ps.zip us)→Vals vs us→sp vs H Q E →
  CQ (AI P w) A (.call (.ref f) args) (CR CX outer P w H s Q E) s
theorem FnOk.imp {P:AQ}{w:AK}{K:Ab}{mg:Str→Option AB}{base:AG}{CX:CXT}{k:Nat}{f:AA}{fd:An}{ps:List Str}{sp sp':Sp}(F:FnOk P w K mg base CX k f fd ps sp)
  (h:∀ vs H Q E,sp' vs H Q E→sp vs H Q E):FnOk P w K mg base CX k f fd ps sp':=
 ⟨fun vs H Q E q=>F.len vs H Q E (h _ _ _ _ q),fun A outer s H args us vs Q E hr he hb hv hs=>F.run A outer s H args us vs Q E hr he hb hv (h _ _ _ _ hs)⟩
theorem Env0.make {P:AQ}{w:AK}{K:Ab}{mg:Str→Option AB}{base:AG}{A:AU}{outer:List Env}{s:AD}{H:Hp}(e:Env0 P w K mg base A outer s H)(C:AA)(us:List AB)(kw:List (Str×AB)) :
  Env0 P w K mg base (A.under (.builtin "type.__call__" ⟨.ref C::us,kw⟩)) outer s H:=⟨by first|exact e.frames|(simpa [FF,Code.envs,Fo,pushEnvs] using e.frames),e.mod,e.bs,e.bsz,e.funs,e.frf,e.hok,e.bare⟩
section
variable {X:Cx}{pins:List (AA×Obj)}{σ:St}{H:Hp}{s s':AD}
theorem Inv.env0 (I:Inv X pins σ H s):Env0 X.prog X.w X.K X.mg X.base X.A X.stack s H:=
 ⟨I.ok.frames,I.ok.mod,I.bs,Ac I.ok.bsz I.sz,I.stack,I.stkFree,I.hok,I.bare⟩
theorem Inv.after {Q:VK}{u:AB}(I:Inv X pins σ H s)(h:CE X.stack X.prog X.w H s Q u s'):EP X pins σ Q u s':=by
 obtain⟨v,H',os,bare,un,hok,r,q⟩:=h;obtain⟨hh,g,d,t,os'⟩:=s';obtain rfl:os'=s.os:=os;exact⟨v,H',I.call (h':=hh) (g':=g) (d':=d) (t':=t) (ch:=[]) un hok bare (fun b z=>absurd z (by simp)),r,q⟩
end
noncomputable def aDU (sp:Sp)(dvs:List V)(E:XK)(t:TA):TE:=fun σ H Q=>t σ H fun vs H1=>sp (vs++dvs) H1 Q E
noncomputable def aMS (C:AA)(m:Str)(sp:Sp)(dvs:List V)(E:XK)(ta:TE)(t:TA):TE:=fun σ H Q=>ta σ H fun x H1=>∃ a dx fs,x=.ref a∧H1 a=some (.ins C dx fs)∧fs.lookup m=none ∧
 t σ H1 fun vs H2=>sp (x::(vs++dvs)) H2 Q E
noncomputable def aN9 (C:AA)(sp:Sp)(dvs:List V)(E:XK)(t:TA):TE:=fun σ H Q=>t σ H fun vs H1=>∀ x dx,H1 x=none→H1 dx=none→dx≠x →
 sp (.ref x::(vs++dvs)) (upd (upd H1 dx (.own x)) x (.ins C dx [])) (fun v H2=>v=.non∧Q (.ref x) H2) E
noncomputable def Binds (K:Ab)(fd:An)(ps:List Str)(ds:List AB):Prop:=
 ∀(s:AD) (us:List AB),K.In s.heap→(us++ds).length=ps.length→Dn s fd ⟨us,[]⟩ (ps.zip (us++ds))
theorem Binds.all {K:Ab}{fd:An}{ps:List Str}(h:∀ us:List AB,us.length=ps.length→bindArgs fd ⟨us,[]⟩=pure (ps.zip us)):Binds K fd ps []:=fun s us _ hl=>by
 rw[Bb] at hl ⊢;exact .of_eq (h us hl)
noncomputable def vH (CX:CXT)(X:Cx)(E:XK):Prop:=∀(pins:List (AA×Obj)) (σ:St) (H:Hp) (s:AD) (e:AB) (s':AD),Inv X pins σ H s→CX X.stack H s E e s'→X.xe e s'
section
variable {X:Cx}{CX:CXT}{k:Nat}{f C:AA}{fd:An}{ps:List Str}{sp:Sp}{dvs:List V}{ds:List AB}{E:XK}{x m:Str}{p pos apos:Pos}{e o:AJ}{es:List AJ}{ta:TE}{t:TA}
theorem aHY {pins:List (AA×Obj)}{σ:St}{H:Hp}{s:AD}{Q:VK}{us:List AB}{vs:List V}(F:FnOk X.prog X.w X.K X.mg X.base CX k f fd ps sp)(hr:Room k X.A)(hb:Binds X.K fd ps ds)(hd:Vals dvs ds)(hx:vH CX X E)
  (I:Inv X pins σ H s) (r:Vals vs us) (h:sp (vs++dvs) H Q E):AF (AI X.prog X.w) X.A (call (.ref f) us) (EP X pins σ Q) X.xe s:=by
 have r2:Vals (vs++dvs) (us++ds):=r.append hd;have hl:(us++ds).length=ps.length:=by rw[← r2.length]; exact F.len _ _ _ _ h
 refine DN (Cy (F.run X.A X.stack s H ⟨us,[]⟩ (us++ds) (vs++dvs) Q E hr I.env0 (hb s us I.kIn hl) r2 h) fun r s' hq=>?_)
 cases r with
 | error e=>exact hx pins σ H s e s' I hq
 | ok fl=>
  cases fl with
  | ret u=>exact I.after hq
  | next=>exact A6 hq
  | brk=>exact A6 hq
  | cont=>exact A6 hq
theorem aBS (F:FnOk X.prog X.w X.K X.mg X.base CX k f fd ps sp)(hr:Room k X.A)(hg:Gl X x)(hm:X.mg x=some (.ref f))(hk:Bc X.K (.ref f)=true)(hb:Binds X.K fd ps ds)(hd:Vals dvs ds)(hx:vH CX X E)
  (ha:PA X (e::es) t) (hdb:(x==("__debug__" : Str))=false:=by decide) (he:AX (e::es) X.env=(false,eval e X.env)::AX es X.env:=by rfl) (hpl:(BG pos (AX es X.env)).any (·.1)=false:=by rfl) :
  PE X (.Call (.Name x p) (e::es) [] pos) (aDU sp dvs E t):=by
 intro pins s σ H Q I h;refine Cz (rC I hg hm ?_ hdb);refine EJ (h₀:=X.base) I.ok.mod.kin hk (thn (ha pos pins s σ H _ I h) fun us s1 ⟨vs,H1,I1,r,q⟩=>⟨I1.kIn,?_⟩) he hpl;exact aHY F hr hb hd hx I1 r q
theorem a6O {pl:Sem Bool}(he:PE X o ta)(c:Cls X.K C)(hm:Meth X.K C m f)(F:FnOk X.prog X.w X.K X.mg X.base CX k f fd ps sp)(hr:Room k X.A)(hb:Binds X.K fd ps ds)(hd:Vals dvs ds)(hx:vH CX X E)(ha:PA X (e::es) t)
  (hst:AX (e::es) X.env=(false,eval e X.env)::AX es X.env:=by rfl) (hpl:(BG pos (AX es X.env)).any (·.1)=false:=by rfl)
  (ht:eval (.Call (.Attribute o m apos) (e::es) [] pos) X.env=(do
   let ov←eval o X.env
   EU apos.atName
   let (f,first)←DJ [ov] (EZ ov m pl)
   Dk pos f first (BG pos (AX (e::es) X.env)) (Dl pos (Dm [] X.env))):=by rfl) :
  PE X (.Call (.Attribute o m apos) (e::es) [] pos) (aMS C m sp dvs E ta t):=by
 intro pins s σ H Q I h;refine Ey (pl:=pl) (thn (he pins s σ H _ I h) fun u s1 ⟨x,H1,I1,rx,a,dx,fs,ex,ea,l,q⟩=>?_) ht;subst ex;obtain rfl:u=Aa a:=rx;refine a07 I1 ea c hm l ?_;refine EJ (first:=[.ref a]) (h₀:=X.base) I.ok.mod.kin hm.kp (thn (ha pos pins s1 σ H1 _ I1 q) fun us s2 ⟨vs,H2,I2,r,q2⟩=>⟨I2.kIn,?_⟩) hst hpl;exact aHY (us:=.ref a::us) (vs:=.ref a::vs) F hr hb hd hx I2 (.cons rfl r) q2
structure Mk (K:Ab)(C f:AA):Prop where
 makes:makesIn K C=true
 init:Ag K (.ref C) "__init__" = some (some (.ref f))
 fn:isFn K (.ref f)=true
 kp:Bc K (.ref C)=true
theorem aGZ {pins:List (AA×Obj)}{σ:St}{H:Hp}{s:AD}{Q:VK}{us:List AB}{vs:List V}(M:Mk X.K C f)(F:FnOk X.prog X.w X.K X.mg X.base CX k f fd ps sp)(hr:Room (k+1) X.A)(hb:Binds X.K fd ps ds)(hd:Vals dvs ds)
  (hx:vH CX X E) (I:Inv X pins σ H s) (r:Vals vs us)
  (h:∀ x dx,H x=none→H dx=none→dx≠x→sp (.ref x::(vs++dvs)) (upd (upd H dx (.own x)) x (.ins C dx [])) (fun v H2=>v=.non∧Q (.ref x) H2) E) :
  AF (AI X.prog X.w) X.A (call (.ref C) us) (EP X pins σ Q) X.xe s:=by
 have hq:=h (s.heap.objs.size+1) s.heap.objs.size (I.hok.fresh (CV _)) (I.hok.fresh (AV _)) (Aw (DY _));have I2:=Inv.made (C:=C) I;have r2:Vals (V.ref (s.heap.objs.size+1)::(vs++dvs)) (Aa (s.heap.objs.size+1)::(us++ds)):=.cons rfl (r.append hd);have hl:(Aa (s.heap.objs.size+1)::us++ds).length=ps.length:=by
  have e:=r2.length;rw[F.len _ _ _ _ hq] at e;exact e.symm
 refine DN (aEM (f:=f) I.kIn M.makes M.init (beq_iff_eq.mp M.fn) (Cy (F.run _ X.stack _ _ ⟨Aa (s.heap.objs.size+1)::us,[]⟩ (Aa (s.heap.objs.size+1)::(us++ds)) _ _ E (hr.make C us [])
  (I2.env0.make C us []) (hb _ (Aa (s.heap.objs.size+1)::us) I2.kIn hl) r2 hq) fun r s' hq'=>?_))
 cases r with
 | error e=>exact hx pins σ _ _ e s' I2 hq'
 | ok fl=>
  cases fl with
  | ret u=>
   obtain⟨v,H',I3,rv,ev,q3⟩:=I2.after hq';subst ev;exact⟨rv,⟨V.ref (s.heap.objs.size+1),H',I3,rfl,q3⟩⟩
  | next=>exact A6 hq'
  | brk=>exact A6 hq'
  | cont=>exact A6 hq'
theorem aEU (M:Mk X.K C f)(F:FnOk X.prog X.w X.K X.mg X.base CX k f fd ps sp)(hr:Room (k+1) X.A)(hg:Gl X x)(hm:X.mg x=some (.ref C))(hb:Binds X.K fd ps ds)(hd:Vals dvs ds)(hx:vH CX X E)
  (hdb:(x==("__debug__" : Str))=false:=by decide):PE X (.Call (.Name x p) [] [] pos) (aN9 C sp dvs E nM):=by
 intro pins s σ H Q I h;refine Cz (rC I hg hm ?_ hdb);exact PySem.W.callWith_K0 I.kIn M.kp (aGZ (us:=[]) M F hr hb hd hx I .nil h)
end
section
variable {X:Cx}{CX:CXT}{k:Nat}{f C:AA}{fd:An}{ps ks:List Str}{sp:Sp}{E:XK}{x m:Str}{p pos apos kpos:Pos}{e o:AJ}{es:List AJ}{kws:List Ea}{te ta:TE}{t tk:TA}{nm:Option Str}
variable {g:List AB→List AB→List AB}{gV:List V→List V→List V}
end
structure FnScope (N P:List Str)(sc:BH):Prop where
 kind:sc.kind=.function
 co:sc.isCoroutine=false
 gen:sc.isGenerator=false
 nd:N.Nodup
 pre:N.take P.length=P
 par:∀ x∈P,sc.names.lookup x=some .local∨sc.names.lookup x=some .cell
 nofree:∀ y∈sc.names,y.2≠.free
theorem a3E {kindOf:Str→Option BC}{x:Str}:∀{binds:List (Str×AB)} {m:Str→Option AB},(∀ v,(x,v)∉binds)→bindL kindOf binds m x=m x
 | [],_,_=>rfl
 | (n,v)::r,m,h=>by
  unfold bindL;rw[a3E fun w hw=>h w (Ak _ hw)]
  split
  ·have:x≠n:=by rintro rfl; exact h v Ap
   simp[this]
  ·rfl
theorem a4X {kindOf:Str→Option BC}{x:Str}:∀{binds:List (Str×AB)} {m:Str→Option AB},(∀ v,(x,v)∉binds)→bindC kindOf binds m x=m x
 | [],_,_=>rfl
 | (n,v)::r,m,h=>by
  unfold bindC;rw[a4X fun w hw=>h w (Ak _ hw)]
  split
  ·rfl
  ·have:x≠n:=by rintro rfl; exact h v Ap
   simp[this]
theorem a4O {kindOf:Str→Option BC}{x:Str}{v:AB}:∀{P:List Str} {vs:List AB} {i:Nat} {m:Str→Option AB},P.Nodup→P[i]?=some x→vs[i]?=some v→kindOf x=some .local →
  bindL kindOf (P.zip vs) m x=some v
 | [],_,_,_,_,h,_,_=>by simp at h
 | _::_,[],_,_,_,_,h,_=>by simp at h
 | p::P,w::vs,0,m,nd,h1,h2,hk=>by
  simp at h1 h2; subst h1; subst h2;show bindL kindOf ((p,w)::P.zip vs) m p=_;unfold bindL;rw[a3E fun v hv=>(DD.mp nd).1 (Ev hv).1,if_pos hk];simp
 | p::P,w::vs,i+1,m,nd,h1,h2,hk=>by
  show bindL kindOf ((p,w)::P.zip vs) m x=_;unfold bindL;exact a4O (i:=i) (DD.mp nd).2 (by simpa using h1) (by simpa using h2) hk
theorem a3H {kindOf:Str→Option BC}{x:Str}{v:AB}:∀{P:List Str} {vs:List AB} {i:Nat} {m:Str→Option AB},P.Nodup→P[i]?=some x→vs[i]?=some v→kindOf x≠some .local →
  bindC kindOf (P.zip vs) m x=some v
 | [],_,_,_,_,h,_,_=>by simp at h
 | _::_,[],_,_,_,_,h,_=>by simp at h
 | p::P,w::vs,0,m,nd,h1,h2,hk=>by
  simp at h1 h2; subst h1; subst h2;show bindC kindOf ((p,w)::P.zip vs) m p=_;unfold bindC;rw[a4X fun v hv=>(DD.mp nd).1 (Ev hv).1,if_neg hk];simp
 | p::P,w::vs,i+1,m,nd,h1,h2,hk=>by
  show bindC kindOf ((p,w)::P.zip vs) m x=_;unfold bindC;exact a3H (i:=i) (DD.mp nd).2 (by simpa using h1) (by simpa using h2) hk
noncomputable def start (N:List Str)(vs:List V):St:=vs.map some++Ar (N.length-vs.length) none
noncomputable def aBQ (CX:CXT)(P:AQ)(w:AK)(K:Ab)(mg:Str→Option AB)(base:AG)(N:List Str)(qual:Str)(scope:BH)(f:AA)(cd:AB)(A:AU)(outer:List Env)(s:AD)(H:Hp)(E:XK):Cx where
 prog:=P
 w:=w
 K:=K
 mg:=mg
 base:=base
 A:=A.deeper (Bw qual scope s.heap.objs.size f cd)
 N:=N
 s₀:=s
 H₀:=H
 env:=Bw qual scope s.heap.objs.size f cd
 outer:=outer
 stack:=Bw qual scope s.heap.objs.size f cd::outer
 ex:=[]
 calm:=true
 fn:=fun _=>true
 pn:=[]
 xe:=fun e s'=>AF (AI P w) (A.deeper (Bw qual scope s.heap.objs.size f cd)) (DO (Bw qual scope s.heap.objs.size f cd) e) (fun _ s''=>CX outer H s E e s'') (fun e' s''=>CX outer H s E e' s'') s'
theorem a71 {sc:BH}{n:Nat}{x:Str}(h:sc.names.lookup x=some .cell):∃ c,(cellsFrom n sc.names []).lookup x=some c:=by
 have q:=Fb sc.names n [] (.inl h);exact EQ.mp q
theorem aE3 {CX:CXT}{P:AQ}{w:AK}{K:Ab}{mg:Str→Option AB}{base:AG}{N ps:List Str}{qual:Str}{scope:BH}{f:AA}{cd:AB}{A:AU}{outer:List Env}{s s1:AD}{H:Hp}{E:XK}{us:List AB}{vs:List V}
  (S:FnScope N ps scope) (hd:A.handled=none) (e0:Env0 P w K mg base A outer s H) (hl:vs.length=ps.length) (r:Vals vs us)
  (x:InCallC s s.heap.objs.size (bindL (Bw qual scope s.heap.objs.size f cd).kindOf (ps.zip us) fun _=>none) (cellsFrom (s.heap.objs.size+1) scope.names []) (bindC (Bw qual scope s.heap.objs.size f cd).kindOf (ps.zip us) fun _=>none) s1) :
  Inv (aBQ CX P w K mg base N qual scope f cd A outer s H E) [] (start N vs) H s1:=by
 have hpl:ps.length≤N.length:=by have:=congrArg List.length S.pre; rw[BK] at this; omega
 obtain⟨h1,tk,rfl,hk⟩:=x.done;have noA:∀ b:AA,b∉(aBQ CX P w K mg base N qual scope f cd A outer s H E).ex:=fun b z=>absurd (show b∈([]:List AA) from z) (by simp);refine⟨⟨e0.mod,S.kind,rfl,rfl,AV _,fun y z c h1 h2=>?_,fun y hy=>?_,fun y c _ h=>?_,fun _=>hd,AU.frames_deeper e0.frames,.inr ⟨rfl,rfl⟩,fun b z=>absurd z (noA b),e0.bs,e0.bsz,fun b _ _=>noA b,fun b z=>absurd z (noA b),e0.funs,e0.frf⟩,
  rfl,e0.bare,Un.kept hk,⟨_,x.toInCall.ns,fun i y v h1 h2 h3=>?_⟩,fun y c h=>⟨_,x.cell y c h⟩,e0.hok.fresh (AV _),fun y c h=>?_,fun p hp=>absurd (show p∈([]:List (AA×Obj)) from hp) (by simp),e0.hok.kept hk,?_⟩
 ·exact name_of_addr x.apart (Eb h1) (Eb h2)
 ·have hy:scope.names.lookup y=some .cell∨scope.names.lookup y=some .free:=hy;rcases hy with hy|hy
  ·exact a71 hy
  ·exact absurd rfl (S.nofree _ (Eb hy))
 ·exact Cr (x.above y c (Eb h))
 ·have hi:i<vs.length:=by
   unfold start at h2
   by_cases hi:i<vs.length
   ·exact hi
   ·rw[Bj (by simpa using hi)] at h2;rw[B5] at h2
    split at h2<;>cases h2
  have ha:vs[i]?=some v:=by
   unfold start at h2;rw[BN (by simpa using hi),Ao] at h2
   cases e:vs[i]? with
   | none=>rw[e] at h2; cases h2
   | some a=>rw[e] at h2; cases h2; rfl
  obtain⟨u,hu,rv⟩:=r.get ha;have hp:ps[i]?=some y:=by
   rw[← S.pre,GS (by omega)]; exact h1
  have ndP:ps.Nodup:=by rw[← S.pre]; exact S.nd.sublist (Ew _ _)
  refine⟨u,rv,?_⟩;rcases S.par y (BP hp) with k|k
  ·exact .inl ⟨k,a4O ndP hp hu k⟩
  ·obtain⟨c,e⟩:=a71 (n:=s.heap.objs.size+1) k;refine .inr ⟨.inl k,c,e,?_⟩;have q:=x.cell y c e;rw[a3H ndP hp hu (by show scope.names.lookup y≠_; rw[k]; decide)] at q;exact q
 ·exact e0.hok.fresh (Cr (x.above y c (Eb h)))
 ·unfold start;show _=N.length;rw[Ah,AO,CT];omega
theorem aRA {CX:CXT}{P:AQ}{w:AK}{K:Ab}{mg:Str→Option AB}{base:AG}{k:Nat}{f:AA}{name qual:Str}{params:Arguments}{body:List AL}{scope:BH}{dV kV doc pm cdv ct oc:AB}{an od:Option AA}
  {osl:Array (Option AB)} {N ps:List Str} {sp:Sp} (lk:K.lookup f=some ⟨oc,od,.func (fnOf name qual params body scope dV kV doc pm an cdv ct),osl⟩) (hcd:Cn K cdv qual=true) (S:FnScope N ps scope)
  (len:∀ vs H Q E,sp vs H Q E→vs.length=ps.length)
  (hbody:∀(A:AU) (outer:List Env) (s:AD) (H:Hp) (vs:List V) (Q:VK) (E:XK),Room k (A.deeper (Bw qual scope s.heap.objs.size f cdv))→sp vs H Q E →
   ∃ t,PSs (aBQ CX P w K mg base N qual scope f cdv A outer s H E) body t∧t { nx:=fun _ H'=>Q .non H',rt:=Q } (start N vs) H) :
  FnOk P w K mg base CX (k+1) f (fnOf name qual params body scope dV kV doc pm an cdv ct) ps sp:=by
 refine⟨len,fun A outer s H args us vs Q E hr e0 hb r hsp=>?_⟩;have hl:=len _ _ _ _ hsp;have KX:K.In s.heap:=e0.mod.kin.keeps fun b o e=>(e0.bs b o e).1;have lim:s.heap.NoLimit:=e0.mod.nolimit.keeps fun b o e=>(e0.bs b o e).1;have hkind:∀ y∈ps.zip us,scope.names.lookup y.1=some .local∨(scope.names.lookup y.1=some .cell∧((cellsFrom (s.heap.objs.size+1) scope.names []).lookup y.1).isSome=true):=fun⟨n,v⟩ hy=>by
  rcases S.par n (Ev hy).1 with q|q
  ·exact .inl q
  ·exact .inr ⟨q,Fb _ _ _ (.inl q)⟩
 refine codeAny_call_function hr.depth (KX _ _ lk) rfl S.co S.gen rfl (PySem.W.codeRec_of KX hcd) (hb _ _ _ _ ?_);refine wpAny_newFunctionEnv_cells S.kind hkind fun env he s1 x=>?_;subst he;refine⟨lim.keeps x.toInCall.keep,codeAny_func ?_⟩;obtain⟨t,ht,hq⟩:=hbody A outer s H vs Q E (hr.deeper _) hsp;have I:Inv (aBQ CX P w K mg base N qual scope f cdv A outer s H E) [] (start N vs) H s1:=aE3 S hr.hd e0 hl r x;refine Au (ht [] s1 (start N vs) H _ I hq) (fun fl s' hs=>?_) fun e s' hs=>hs;have fin:∀{σ':St} {H':Hp} {v:V} {u:AB},Inv (aBQ CX P w K mg base N qual scope f cdv A outer s H E) [] σ' H' s'→RelV v u→Q v H'→CE outer P w H s Q u s':=
  fun{σ' H' v u} J rv q=>⟨v,H',J.os,J.bare,J.base,J.hok,rv,q⟩
 cases fl with
 | ret u=>
  obtain⟨v,σ',H',J,rv,q⟩:=hs;exact fin J rv q
 | next=>
  obtain⟨σ',H',J,q⟩:=hs;exact fin (v:=V.non) (u:=BS) J rfl q
 | brk=>
  obtain⟨_,_,_,q⟩:=hs;exact A6 q
 | cont=>
  obtain⟨_,_,_,q⟩:=hs;exact A6 q
end L2
namespace L2
open PySem PySem.Spec PyProof.Rows
section
variable {X:Cx}{x:Str}{p pos:Pos}{e:AJ}{es:List AJ}{t:TA}{id T:String}{r:List V→Hp→VK→Prop}
noncomputable def tCB (r:List V→Hp→VK→Prop)(t:TA):TE:=fun σ H Q=>t σ H fun vs H1=>r vs H1 Q
theorem bD (hc:qX X (.builtin id) r)(hg:Gl X x)(hm:X.mg x=none)(hv:De x=some (.builtin id))(ha:PA X (e::es) t)(hn:x ≠ "__name__" := by decide)(hdb:(x==("__debug__" : Str))=false:=by decide)
  (he:AX (e::es) X.env=(false,eval e X.env)::AX es X.env:=by rfl) (hpl:(BG pos (AX es X.env)).any (·.1)=false:=by rfl):PE X (.Call (.Name x p) (e::es) [] pos) (tCB r t):=by
 intro pins s σ H Q I h;refine Cz (a02 I hg hm hv ?_ hn hdb);exact PyProof.Rows.callWith_builtin1 (thn (ha pos pins s σ H _ I h) fun us s1 ⟨vs,H1,I1,r1,q1⟩=>hc pins s1 σ H1 vs us Q I1 r1 q1) he hpl
theorem dW (hc:qX X (.type T) r)(hg:Gl X x)(hm:X.mg x=none)(hv:De x=some (.type T))(ha:PA X (e::es) t)(hn:x ≠ "__name__" := by decide)(hdb:(x==("__debug__" : Str))=false:=by decide)
  (he:AX (e::es) X.env=(false,eval e X.env)::AX es X.env:=by rfl) (hpl:(BG pos (AX es X.env)).any (·.1)=false:=by rfl):PE X (.Call (.Name x p) (e::es) [] pos) (tCB r t):=by
 intro pins s σ H Q I h;refine Cz (a02 I hg hm hv ?_ hn hdb);exact FC (thn (ha pos pins s σ H _ I h) fun us s1 ⟨vs,H1,I1,r1,q1⟩=>hc pins s1 σ H1 vs us Q I1 r1 q1) he hpl
end
end L2
namespace HT
open PySem PyProof.Rows
section
open PySem.SeqAt
open PySem.AutoSeq1 (wpAny_loadPart')
open PySem.MeetsSeq PySem.MeetsSeq2 PySem.MeetsSeq3
end
section
variable {prog:AQ}{w:AK}{A:AU}{E:AB→AD→Prop}{s:AD}
noncomputable def sIx (n d:Nat):Option Int→Nat
 | none=>d
 | some v=>if v<0 then(v+(n:Int)).toNat else min v.toNat n
theorem sIx_none (n d:Nat):sIx n d none=d:=rfl
theorem sIx_nat (n d k:Nat):sIx n d (some (k:Int))=min k n:=by
 show(if (k:Int)<0 then((k:Int)+(n:Int)).toNat else min (k:Int).toNat n)=min k n
 rw[if_neg (by omega),Dc]
theorem aN1 (n d:Nat)(hd:d≤n)(o:Option Int):sIx n d o≤n:=by
 cases o with
 | none=>exact hd
 | some v=>
  show(if v<0 then(v+(n:Int)).toNat else min v.toNat n)≤n
  by_cases hv:v<0
  ·rw[if_pos hv]; omega
  ·rw[if_neg hv]; exact Nat.min_le_right _ _
theorem aE5 (v:Int)(n d:Nat):(if v<0 then max (v+(n:Int)) 0 else min v (n:Int))=((sIx n d (some v):Nat):Int):=by
 show(if v<0 then max (v+(n:Int)) 0 else min v (n:Int))=(((if v<0 then(v+(n:Int)).toNat else min v.toNat n):Nat):Int)
 by_cases hv:v<0
 ·simp only[if_pos hv]; omega
 ·simp only[if_neg hv]; omega
theorem a9C (lo hi:Option Int)(n:Nat):Fq lo hi 1 (n:Int)=(((sIx n 0 lo:Nat):Int),((sIx n n hi:Nat):Int)):=by
 have h1:¬((1:Int)<0):=by omega
 unfold Fq;simp only[h1,if_false];refine Prod.ext ?_ ?_
 ·cases lo with
  | none=>rfl
  | some v=>exact aE5 v n 0
 ·cases hi with
  | none=>rfl
  | some v=>exact aE5 v n n
theorem a9F (i j:Nat):FG (i:Int) (j:Int) 1=j-i:=by
 unfold FG;have h1:(1:Int)>0:=by omega
 simp only[h1,if_true,Int.ediv_one]
 split<;>omega
theorem a08 {v:AB}{o:Option Int}{Q:Option Int→AD→Prop}(p:Cf v o)(h:Q o s):AF (AI prog w) A (AM.Slice.slicePartIndex v) Q E s:=by
 cases p with
 | none=>exact slicePart_none h
 | int i t=>exact slicePart_int h
theorem wM {sl:AA}{vl vu:AB}{lo hi:Option Int}{n:Nat}{Q:Int×Int×Nat→AD→Prop}(hs:s.heap.IsSliceOf sl vl vu .none)(pl:Cf vl lo)(pu:Cf vu hi)
  (h:Q (((sIx n 0 lo:Nat):Int),1,sIx n n hi-sIx n 0 lo) s):AF (AI prog w) A (GT (.ref sl) (pure (n:Int))) Q E s:=by
 obtain⟨os,hos,hcs,hds⟩:=id hs;unfold GT AM.Slice.sliceFields;refine AE (AE (BM hos hds (x:=vl) rfl (AE (BM hos hds (x:=vu) rfl (AE (BM hos hds (x:=.none) rfl (AR ?_)))))));refine AE (slicePart_none ?_);show AF _ _ (if ((1:Int)==0)=true then _ else _) _ _ s;rw[if_neg (by decide)];refine AE (a08 pl (AE (a08 pu (AE (AR ?_)))));show AF _ _ (match Fq lo hi 1 (n:Int) with|(lo,hi)=>pure (lo,(1:Int),FG lo hi 1)) _ _ s;rw[a9C lo hi n];show AF _ _ (pure (((sIx n 0 lo:Nat):Int),(1:Int),FG ((sIx n 0 lo:Nat):Int) ((sIx n n hi:Nat):Int) 1)) _ _ s;rw[a9F];exact AR h
theorem aGI (xs:Array AB)(i k:Nat):((B8 k).filterMap fun(m:Nat)=>xs[((i:Int)+(m:Int)*1).toNat]?).toArray=((xs.toList.drop i).take k).toArray:=by
 have e:(fun(m:Nat)=>xs[((i:Int)+(m:Int)*1).toNat]?)=fun m=>xs[i+m]?:=by
  funext m
  have:((i:Int)+(m:Int)*1).toNat=i+m:=by omega
  rw[this]
 rw[e];have:=pick_run xs i k;rw[List.filterMap_map] at this;have e2:((fun x=>xs[x]?)∘fun x=>i+x)=fun m=>xs[i+m]?:=rfl;rw[e2] at this;rw[this]
theorem getItem_tuple_cut {t sl:AA}{items:Array AB}{vl vu:AB}{lo hi:Option Int}{Q:AB→AD→Prop}(ht:IsTup s.heap t items)(hs:s.heap.IsSliceOf sl vl vu .none)(pl:Cf vl lo)(pu:Cf vu hi)
  (hw:¬(sIx items.size 0 lo=0∧sIx items.size items.size hi=items.size))
  (h:Q (.ref s.heap.objs.size) { s with heap:=s.heap.push { cls:=.type "tuple", data:=.seq ((items.toList.drop (sIx items.size 0 lo)).take (sIx items.size items.size hi-sIx items.size 0 lo)).toArray } })
  (hsz:items.size≤sizeLine):AF (AI prog w) A (C0 (.ref t) (.ref sl)) Q E s:=by
 have htake:sizeOk (.seq ((items.toList.drop (sIx items.size 0 lo)).take (sIx items.size items.size hi-sIx items.size 0 lo)).toArray):=by
  show((items.toList.drop (sIx items.size 0 lo)).take (sIx items.size items.size hi-sIx items.size 0 lo)).toArray.size≤sizeLine
  rw[A3,BK,Ck,CO];omega
 have hj:sIx items.size items.size hi≤items.size:=aN1 _ _ (AV _) hi;obtain⟨os,hos,hcs,hds⟩:=id hs;have hTs:s.TypeIs (.ref sl) "slice" := ⟨os,hos,hcs⟩;unfold C0
 try with_reducible refine CA ?_
 first|refine AE (AR ?_)|skip
 refine AE (wpAny_sequenceKey ht.typeIs (by decide) ?_);refine AE (FH (name:=FJ "__getitem__") ht.typeIs Fs
  (FK Fs ht.typeIs entry_tuple_getitem ?_ (args_tuple_getitem _ _)))
 show AF _ _ (AM.Tuple.tupleItemsOf (.ref t) >>= _) _ _ s;refine AE (tupleItemsOf_ ht ?_);refine AE (wpAny_typeOf hTs ?_);rw[if_pos (by decide)];refine AE (wM hs pl pu ?_);have hno:¬((((sIx items.size 0 lo:Nat):Int)==0&&(1:Int)==1&&(sIx items.size items.size hi-sIx items.size 0 lo)==items.size)=true):=by
  intro q;rw[BF,BF] at q;have q1:((sIx items.size 0 lo:Nat):Int)=0:=eq_of_beq q.1.1;have q2:sIx items.size items.size hi-sIx items.size 0 lo=items.size:=eq_of_beq q.2;exact hw ⟨by omega,by omega⟩
 show AF _ _ (if (((sIx items.size 0 lo:Nat):Int)==0&&(1:Int)==1&&(sIx items.size items.size hi-sIx items.size 0 lo)==items.size)=true then _ else _) _ _ s;rw[if_neg hno,aGI]
 first
  | exact AE (m:=FL _) (Ce (AR ⟨_,rfl,AR h⟩) htake)
  | exact AE (m:=FL _) (Ce (AE (AR (AR ⟨_,rfl,AR h⟩))) htake)
  | exact AE (AE (m:=FL _) (Ce (AR (AR ⟨_,rfl,AR h⟩)) htake))
  | exact AE (AE (m:=FL _) (Ce (AR ⟨_,rfl,AR h⟩) htake))
end
end HT
namespace L2
open PySem PySem.Spec PyProof.Rows
abbrev TO:=St→Hp→(Option Int→Hp→Prop)→Prop
noncomputable def PO (X:Cx)(e:Option AJ)(t:TO):Prop:=
 ∀(pins:List (AA×Obj)) (s:AD) (σ:St) (H:Hp) (Q:Option Int→Hp→Prop),Inv X pins σ H s→t σ H Q →
  AF (AI X.prog X.w) X.A (evalPart e X.env) (fun u s'=>∃ o H',Inv X pins σ H' s'∧Cf u o∧Q o H') X.xe s
noncomputable def aBR:TO:=fun _ H Q=>Q none H
noncomputable def aOE (t:TE):TO:=fun σ H Q=>t σ H fun x H1=>∃ i,x=.int i∧Q (some i) H1
section
variable {X:Cx}{e:AJ}{te:TE}{lo hi:Option AJ}{tl th:TO}{pos p2:Pos}
theorem jJ:PO X none aBR:=by
 intro pins s σ H Q I h;rw[evalPart_none];exact AR ⟨none,H,I,.none,h⟩
theorem jO (h:PE X e te):PO X (some e) (aOE te):=by
 intro pins s σ H Q I hw;rw[evalPart_some];refine thn (h pins s σ H _ I hw) fun u s1 ⟨x,H1,I1,r1,q1⟩=>?_;obtain⟨i,rfl,q⟩:=q1;obtain⟨t,rfl⟩:=r1;exact⟨some i,H1,I1,.int i t,q⟩
noncomputable def SlR (X:Cx)(r:V→Option Int→Option Int→Hp→VK→Prop):Prop:=
 ∀(pins:List (AA×Obj)) (s:AD) (σ:St) (H:Hp) (x:V) (v vl vu:AB) (lo hi:Option Int) (sl:AA) (Q:VK),Inv X pins σ H s→RelV x v→s.heap.IsSliceOf sl vl vu .none→Cf vl lo→Cf vu hi→r x lo hi H Q →
  ∃ T id,Ec (.type T) "__getitem__" = pure (some (.builtin id))∧s.TypeIs v T∧AF (AI X.prog X.w) X.A (C0 v (.ref sl)) (EP X pins σ Q) X.xe s
noncomputable def tSl (r:V→Option Int→Option Int→Hp→VK→Prop)(te:TE)(tl th:TO):TE:=fun σ H Q=>te σ H fun x H1=>tl σ H1 fun l H2=>th σ H2 fun u H3=>r x l u H3 Q
theorem gC {r:V→Option Int→Option Int→Hp→VK→Prop}(hr:SlR X r)(he:PE X e te)(hl:PO X lo tl)(hu:PO X hi th):PE X (.Subscript e (.Slice lo hi none p2) pos) (tSl r te tl th):=by
 intro pins s σ H Q I h;refine Subscript_ (thn (he pins s σ H _ I h) fun v s1 ⟨x,H1,I1,r1,q1⟩=>?_);refine wpAny_Slice (thn (hl pins s1 σ H1 _ I1 q1) fun vl s2 ⟨l,H2,I2,pl,q2⟩=>thn (hu pins s2 σ H2 _ I2 q2) fun vu s3 ⟨u,H3,I3,pu,q3⟩=>?_);rw[evalPart_none];refine AR ?_;have I4:Inv X pins σ H3 { s3 with heap:=s3.heap.push { cls:=.type "slice", data:=.fields #[vl,vu,.none] } }:=I3.kept (t':=s3.toks) fun b ob q=>AZ _ q;obtain⟨T,id,hT,ht,hg⟩:=hr pins { s3 with heap:=s3.heap.push { cls:=.type "slice", data:=.fields #[vl,vu,.none] } } σ H3 x v vl vu l u s3.heap.objs.size Q I4 r1 (AG.IsSliceOf.new ..) pl pu q3;show AF (AI X.prog X.w) X.A (Ft e (.Slice lo hi none p2) v (.ref s3.heap.objs.size)) (EP X pins σ Q) X.xe { s3 with heap:=s3.heap.push { cls:=.type "slice", data:=.fields #[vl,vu,.none] } };exact tail_any (ops:=[.ref s3.heap.objs.size,v]) ht hT hg (by with_unfolding_all rfl)
noncomputable def aH1 (xs:List V)(lo hi:Option Int):List V:=(xs.drop (HT.sIx xs.length 0 lo)).take (HT.sIx xs.length xs.length hi-HT.sIx xs.length 0 lo)
theorem z9 (xs:List V)(lo hi:Option Int):(aH1 xs lo hi).length≤xs.length:=by
 unfold aH1;rw[BK,Ck];omega
noncomputable def aUY (K:Ab):V→Option Int→Option Int→Hp→VK→Prop:=fun x lo hi H Q=>∃ a xs,x=.ref a∧SqT K H a xs ∧
 ¬(HT.sIx xs.length 0 lo=0∧HT.sIx xs.length xs.length hi=xs.length)∧∀ p,H p=none→Q (.ref p) (upd H p (.tup (aH1 xs lo hi)))
theorem aIJ:SlR X (aUY X.K):=by
 intro pins s σ H x v vl vu lo hi sl Q I rx hs pl pu h;obtain⟨a,xs,rfl,hx,hw,q⟩:=h
 cases rx
 obtain⟨its,r,ht,hz⟩:=I.tuple hx;have hlen:its.toArray.size=xs.length:=by rw[A3]; exact r.length.symm
 refine⟨"tuple", _,Fs.lookup,ht.typeIs,?_⟩;refine HT.getItem_tuple_cut ht hs pl pu (by rw[hlen]; exact hw) ?_ (by rw[hlen]; exact hz);rw[hlen];refine⟨.ref s.heap.objs.size,_,I.laid (t':=s.toks) (o:=.tup (aH1 xs lo hi)) (fun b ob q=>AZ _ q) (AV _) ?_,rfl,q _ (I.hok.fresh (AV _))⟩;exact⟨Ac (z9 xs lo hi) hz,_,(r.drop (HT.sIx xs.length 0 lo)).take (HT.sIx xs.length xs.length hi-HT.sIx xs.length 0 lo),IsTup.new _ _⟩
end
end L2
namespace L2
open PySem PySem.Spec PyProof.Rows
noncomputable def ixN (n:Nat)(i:Int):Option Nat:=if 0≤i then(if i<n then some i.toNat else none) else if -(n:Int)≤i then some (i+n).toNat else none
noncomputable def atI {α:Type}(xs:List α)(i:Int):Option α:=(ixN xs.length i).bind fun j=>xs[j]?
theorem aCM {n:Nat}{i:Int}{j:Nat}(h:ixN n i=some j):FM i n=some j∧j<n ∧ -(n:Int)≤i∧i<n:=by
 unfold ixN at h
 by_cases h0:0≤i
 ·rw[if_pos h0] at h
  by_cases h1:i<n
  ·rw[if_pos h1] at h;have e:i.toNat=j:=Option.some.inj h;exact⟨by rw[Fu h0 h1,e],by omega,by omega,h1⟩
  ·rw[if_neg h1] at h; cases h
 ·rw[if_neg h0] at h
  by_cases h1 : -(n:Int)≤i
  ·rw[if_pos h1] at h;have e:(i+n).toNat=j:=Option.some.inj h;exact⟨by rw[seqIndex_neg (by omega) h1,e],by omega,h1,by omega⟩
  ·rw[if_neg h1] at h; cases h
theorem a5H {α:Type}{xs:List α}{i:Int}{v:α}(h:atI xs i=some v):∃ j,FM i xs.length=some j∧xs[j]?=some v∧j<xs.length ∧ -(xs.length:Int)≤i∧i<xs.length:=by
 unfold atI at h
 cases e:ixN xs.length i with
 | none=>rw[e] at h; cases h
 | some j=>
  rw[e] at h;obtain⟨h1,h2,h3,h4⟩:=aCM e;exact⟨j,h1,h,h2,h3,h4⟩
theorem uN {α:Type}{xs:List α}{j:Nat}{v:α}(h:xs[j]?=some v):atI xs (j:Int)=some v:=by
 have hj:j<xs.length:=(Aq.mp h).1;have e:ixN xs.length (j:Int)=some j:=by
  unfold ixN;rw[if_pos (by omega),if_pos (by omega)]; simp
 unfold atI; rw[e]; exact h
noncomputable def aCR (b:AJ):Prop:=∀ o i,FN b false o i=operate [o,i] (C0 o i)
noncomputable def IxR (X:Cx)(r:R2):Prop:=
 ∀(value slice:AJ) (pins:List (AA×Obj)) (s:AD) (σ:St) (H:Hp) (x y:V) (v u:AB) (Q:VK),Inv X pins σ H s→RelV x v→RelV y u→r x y H Q →
  FN slice false v u=operate [v,u] (C0 v u)→AF (AI X.prog X.w) X.A (Ft value slice v u) (EP X pins σ Q) X.xe s
noncomputable def MtR (X:Cx)(id:String)(r:V→List V→Hp→VK→Prop):Prop:=
 ∀(pins:List (AA×Obj)) (s:AD) (σ:St) (H:Hp) (x:V) (xs:List V) (v:AB) (us:List AB) (Q:VK),Inv X pins σ H s→RelV x v→Vals xs us→r x xs H Q →
  AF (AI X.prog X.w) X.A (call (.builtin id) (v::us)) (EP X pins σ Q) X.xe s
section
variable {X:Cx}{a b:AJ}{ta tb:TE}{pos:Pos}
theorem IxR.or {r r':R2}(h:IxR X r)(h':IxR X r'):IxR X (fun x y H Q=>r x y H Q∨r' x y H Q):=by
 intro value slice pins s σ H x y v u Q I rx ry q hs;rcases q with q|q
 ·exact h value slice pins s σ H x y v u Q I rx ry q hs
 ·exact h' value slice pins s σ H x y v u Q I rx ry q hs
theorem bL {r:R2}(hr:IxR X r)(ha:PE X a ta)(hb:PE X b tb)(hs:aCR b):PE X (.Subscript a b pos) (tOp r ta tb):=by
 intro pins s σ H Q I h;exact Subscript_ (aS8 ha hb I h fun v u s2 x y H2 I2 rx ry q=>hr a b pins s2 σ H2 x y v u Q I2 rx ry q (hs _ _))
noncomputable def aW1 (K:Ab):R2:=fun x y H Q=>∃ p xs i v,x=.ref p∧y=.int i∧SqL K H p xs∧atI xs i=some v∧Q v H
noncomputable def aV5 (K:Ab):R2:=fun x y H Q=>∃ p xs i v,x=.ref p∧y=.int i∧SqT K H p xs∧atI xs i=some v∧Q v H
noncomputable def aVM:R2:=fun x y H Q=>∃ z i c,x=.str z∧y=.int i∧z.length≤sizeLine∧atI z.cps.toList i=some c∧Q (.str ⟨#[c]⟩) H
theorem ix_list:IxR X (aW1 X.K):=by
 intro value slice pins s σ H x y v u Q I rx ry h hs;obtain⟨p,xs,i,z,rfl,rfl,hq,he,q⟩:=h
 cases rx
 obtain⟨t,rfl⟩:=ry;obtain⟨its,r,pl,hz⟩:=I.list hq;obtain⟨j,h1,h2,h3,h4,h5⟩:=a5H he;obtain⟨w,ew,rw'⟩:=r.get h2;have hl:=r.length;have hn:=zZ;have fin:EP X pins σ Q w s:=⟨z,H,I,rw',q⟩
 by_cases h0:0≤i
 ·have hj:i.toNat=j:=by
   rw[Fu h0 h5] at h1;exact Option.some.inj h1
  exact item_listR pl.isList h0 (by omega) (by rw[hj]; simpa using ew) fin hs
 ·have hj:(i+(its.toArray.size:Int)).toNat=j:=by
   rw[seqIndex_neg (by omega) h4] at h1;rw[A3,←hl];exact Option.some.inj h1
  exact GU (x:=w) pl.isList.typeIs slot_list_getitem.lookup
   (wpAny_getItem_list_neg (Q:=fun r s'=>r=w∧EP X pins σ Q r s') pl.isList (by omega) (by rw[A3]<;>omega) (by omega) (by rw[hj]; simpa using ew) ⟨rfl,fin⟩) hs
theorem ix_tup:IxR X (aV5 X.K):=by
 intro value slice pins s σ H x y v u Q I rx ry h hs;obtain⟨p,xs,i,z,rfl,rfl,hq,he,q⟩:=h
 cases rx
 obtain⟨t,rfl⟩:=ry;obtain⟨its,r,pl,hz⟩:=I.tuple hq;obtain⟨j,h1,h2,h3,h4,h5⟩:=a5H he;obtain⟨w,ew,rw'⟩:=r.get h2;have hl:=r.length;have hn:=zZ;have fin:EP X pins σ Q w s:=⟨z,H,I,rw',q⟩;exact GU (x:=w) pl.typeIs slot_tuple_getitem.lookup
  (getItem_tuple (j:=j) (Q:=fun r s'=>r=w∧EP X pins σ Q r s') pl (by omega) (by omega) (by rw[A3,←hl]; exact h1) (by simpa using ew) ⟨rfl,fin⟩) hs
theorem a74:IxR X aVM:=by
 intro value slice pins s σ H x y v u Q I rx ry h hs;obtain⟨z,i,c,rfl,rfl,hz,he,q⟩:=h;obtain⟨t,rfl⟩:=rx;obtain⟨t',rfl⟩:=ry;obtain⟨j,h1,h2,h3,h4,h5⟩:=a5H he;have hl:z.cps.toList.length=z.length:=by simp[Str.length]
 rw[hl] at h1 h4 h5;have hn:=zZ;exact tail_any (C1 s z t) slot_str_getitem.lookup (getItem_str (c:=c) (by
  have e1:decide (i < -(2^63:Int))=false:=decide_eq_false (by omega);have e2:decide (i≥2^63)=false:=decide_eq_false (by omega);rw[e1,e2,Bool.or_false]) (by rw[h1]; simpa using h2) ⟨.str ⟨#[c]⟩,H,I.tok _,⟨_,rfl⟩,q⟩) hs
noncomputable def rIx (K:Ab):R2:=fun x y H Q=>aW1 K x y H Q∨aV5 K x y H Q∨aVM x y H Q
theorem aV:IxR X (rIx X.K):=ix_list.or (ix_tup.or a74)
theorem a8Y (its:List AB)(n j:Nat)(u:AB):Ed (·.setIfInBounds j u) { cls:=.type "list", data:=.seq its.toArray n }={ cls:=.type "list", data:=.seq (its.set j u).toArray n }:=by
 simp[Ed]
theorem Inv.lst {pins:List (AA×Obj)}{σ:St}{H:Hp}{s:AD}{p:AA}{xs:List V}(I:Inv X pins σ H s)(h:H p=some (.lst xs)) :
  ∃(its:List AB) (n:Nat),Vals xs its∧s.heap.get? p=some { cls:=.type "list", data:=.seq its.toArray n }∧xs.length≤sizeLine:=by
 obtain⟨z,its,n,r,e⟩:=I.hok p _ h;exact⟨its,n,r,e,z⟩
theorem Inv.lstUpd {pins:List (AA×Obj)}{σ:St}{H:Hp}{s:AD}{p:AA}{xs ys:List V}{its its':List AB}{n n':Nat}{f:Obj→Obj}(I:Inv X pins σ H s)(h:H p=some (.lst xs))
  (ho:s.heap.get? p=some { cls:=.type "list", data:=.seq its.toArray n }) (hf:f { cls:=.type "list", data:=.seq its.toArray n }={ cls:=.type "list", data:=.seq its'.toArray n' }) (r:Vals ys its') (hz:ys.length≤sizeLine) (t:Nat) :
  Inv X pins σ (upd H p (.lst ys)) { s with heap:=s.heap.update p f,toks:=t }:=by
 have e:(s.heap.update p f).get? p=some { cls:=.type "list", data:=.seq its'.toArray n' }:=by
  rw[DH f ho (by rw[hf]<;>rfl),hf]
 refine I.write (x:=p) (e:=p) (by rw[h]; trivial) (.inl rfl) (fun b u hb q=>(CW _ _ (Am hb)).trans q) ⟨_,e⟩ ?_;exact⟨hz,its',n',r,e⟩
noncomputable def aS4:V→V→V→Hp→(Hp→Prop)→Prop:=fun o i v H Q=>∃ p xs k j,o=.ref p∧i=.int k∧H p=some (.lst xs)∧ixN xs.length k=some j∧Q (upd H p (.lst (xs.set j v)))
theorem set_list:aVB X aS4:=by
 intro pins s σ H o i v ov iv u Q I ro ri rv h;obtain⟨p,xs,k,j,rfl,rfl,hp,hj,q⟩:=h
 cases ro
 obtain⟨t,rfl⟩:=ri;obtain⟨its,n,r,ho,hz⟩:=I.lst hp;obtain⟨h1,h2,h3,h4⟩:=aCM hj;have hl:=r.length;have hn:=zZ;have I':Inv X pins σ (upd H p (.lst (xs.set j v))) { s with heap:=s.heap.update p (Ed (·.setIfInBounds j u)) }:=
  I.lstUpd hp ho (a8Y its n j u) (r.set rv j) (by rw[Bk]; exact hz) s.toks
 by_cases h0:0≤k
 ·have hk:k.toNat=j:=by
   rw[Fu h0 h4] at h1;exact Option.some.inj h1
  exact PySem.W.ki_setAt ho h0 (by omega) (by rw[A3,←hl]; exact h4) (by rw[hk]; exact⟨_,I',q⟩)
 ·have hk:(k+(its.toArray.size:Int)).toNat=j:=by
   rw[seqIndex_neg (by omega) h3] at h1;rw[A3,←hl];exact Option.some.inj h1
  exact PySem.W.ki_setBack ho (by omega) (by rw[A3,←hl]; exact h3) (by omega) (by rw[hk]; exact⟨_,I',q⟩)
theorem a3Y (lo hi:Option Int)(n:Nat):(DP lo hi none n).1=((HT.sIx n 0 lo:Nat):Int)∧(DP lo hi none n).2.1=((HT.sIx n n hi:Nat):Int)∧(DP lo hi none n).2.2=1:=by
 refine⟨?_,?_,rfl⟩
 ·cases lo with
  | none=>simp[DP,HT.sIx]
  | some i=>
   simp only[DP,HT.sIx,E3,show(1:Int)>0 by decide,if_true]
   by_cases h:i<0
   ·simp only[h,if_true]<;>omega
   ·simp only[h,if_false]<;>omega
 ·cases hi with
  | none=>simp[DP,HT.sIx]
  | some i=>
   simp only[DP,HT.sIx,E3,show(1:Int)>0 by decide,if_true]
   by_cases h:i<0
   ·simp only[h,if_true]<;>omega
   ·simp only[h,if_false]<;>omega
theorem a0W (its:List AB)(lo hi:Option Int):slicePick its.toArray lo hi none=((its.drop (HT.sIx its.length 0 lo)).take (HT.sIx its.length its.length hi-HT.sIx its.length 0 lo)).toArray:=by
 obtain⟨h1,h2,h3⟩:=a3Y lo hi its.toArray.size;unfold slicePick;rw[h1,h2,h3];simp only[sliceRange_one,pick_run,A3]<;>rfl
noncomputable def aV2 (K:Ab):V→Option Int→Option Int→Hp→VK→Prop:=fun x lo hi H Q=>∃ a xs,x=.ref a∧SqL K H a xs∧∀ p,H p=none→Q (.ref p) (upd H p (.lst (aH1 xs lo hi)))
theorem oM:SlR X (aV2 X.K):=by
 intro pins s σ H x v vl vu lo hi sl Q I rx hs pl pu h;obtain⟨a,xs,rfl,hx,q⟩:=h
 cases rx
 obtain⟨its,r,ht,hz⟩:=I.list hx;have hlen:=r.length;refine⟨"list", _,slot_list_getitem.lookup,ht.isList.typeIs,?_⟩;refine wpAny_getItem_list_slice ht.isList hs pl pu .none (by simp) ?_ (by rw[A3]<;>omega);rw[a0W,←hlen];refine⟨.ref s.heap.objs.size,_,I.laid (t':=s.toks) (o:=.lst (aH1 xs lo hi)) (fun b ob q=>AZ _ q) (AV _) ?_,rfl,q _ (I.hok.fresh (AV _))⟩;exact⟨Ac (z9 xs lo hi) hz,_,0,(r.drop (HT.sIx xs.length 0 lo)).take (HT.sIx xs.length xs.length hi-HT.sIx xs.length 0 lo),BE _ rfl⟩
theorem bT:qX X (.builtin "len") (fun xs H Q=>∃ p ys,xs=[.ref p]∧(SqL X.K H p ys∨SqT X.K H p ys)∧Q (.int ys.length) H):=by
 intro pins s σ H xs us Q I r h;obtain⟨p,ys,rfl,hq,q⟩:=h;obtain⟨u,rfl,rx⟩:=vals1 r
 cases rx
 have hn:=zZ;rcases hq with hq|hq
 ·obtain⟨its,r',pl,hz⟩:=I.list hq;have hlen:=r'.length;exact Calls.call_len_list pl.isList (by simp only[A3]<;>omega) ⟨.int ys.length,H,I.tok _,⟨s.toks+1,by rw[A3,hlen]⟩,q⟩
 ·obtain⟨its,r',pl,hz⟩:=I.tuple hq;have hlen:=r'.length;exact len_tuple pl (by simp only[A3]<;>omega) ⟨.int ys.length,H,I.tok _,⟨s.toks+1,by rw[A3,hlen]⟩,q⟩
theorem a4R:qX X (.type "list") (fun xs H Q=>∃ p ys,xs=[.ref p]∧(SqL X.K H p ys∨SqT X.K H p ys)∧∀ l,H l=none→Q (.ref l) (upd H l (.lst ys))):=by
 intro pins s σ H xs us Q I r h;obtain⟨p,ys,rfl,hq,q⟩:=h;obtain⟨u,rfl,rx⟩:=vals1 r
 cases rx
 have fin:∀(its:List AB),Vals ys its→ys.length≤sizeLine→∀(h':AG) (c':Nat),(∀ b o',s.heap.get? b=some o'→h'.get? b=some o') →
   h'.get? s.heap.objs.size=some { cls:=.type "list", dict:=none,data:=.seq its.toArray c',slots:=#[] }→EP X pins σ Q (.ref s.heap.objs.size) { s with heap:=h' }:=fun its r' hz h' c' kp e=>
  ⟨.ref s.heap.objs.size,_,I.laid (t':=s.toks) kp (AV _) (show ObjOk X.prog X.w _ h' _ (.lst ys) from⟨hz,its,c',r',e⟩),rfl,q _ (I.hok.fresh (AV _))⟩
 rcases hq with hq|hq
 ·obtain⟨its,r',pl,hz⟩:=I.list hq;have hlen:=r'.length;obtain⟨o,ho,hc,n,hd⟩:=pl.isList;exact call_list_seq p (.inl rfl) ho hc hd (fun h' c' kp e=>fin its r' hz h' c' kp e) (by simp only[A3]<;>omega)
 ·obtain⟨its,r',pl,hz⟩:=I.tuple hq;have hlen:=r'.length;obtain⟨o,ho,hc,n,hd⟩:=pl;exact call_list_seq p (.inr rfl) ho hc hd (fun h' c' kp e=>fin its r' hz h' c' kp e) (by simp only[A3]<;>omega)
noncomputable def tyV (K:Ab)(T:String)(x:V)(H:Hp):Prop:=match x with
 | .str _=>T = "str"
 | .int _=>T = "int"
 | .ref p=>(T = "list" ∧ ∃ xs,SqL K H p xs)∨(T = "tuple" ∧ ∃ o,K.lookup p=some o∧o.cls=.type "tuple" ∧ o.dict=none) ∨
   (T = "dict" ∧ ((∃ kvs,H p=some (.dK kvs))∨∃ kvs,H p=some (.dT kvs)))∨(T = "set" ∧ ∃ S n,H p=some (.set S n))
 | _=>False
theorem aCO {pins:List (AA×Obj)}{σ:St}{H:Hp}{s:AD}{T:String}{x:V}{v:AB}(I:Inv X pins σ H s)(r:RelV x v)(ty:tyV X.K T x H) :
  s.TypeIs v T∧∀ a,v=.ref a→∃ ob,s.heap.get? a=some ob∧ob.dict=none:=by
 cases x with
 | str z=>
  obtain⟨t,rfl⟩:=r
  cases(show T = "str" from ty)
  exact⟨C1 s z t,fun _ e=>nomatch e⟩
 | int i=>
  obtain⟨t,rfl⟩:=r
  cases(show T = "int" from ty)
  exact⟨typeIs_int s i t,fun _ e=>nomatch e⟩
 | ref p=>
  cases r
  rcases ty with⟨rfl,xs,hq⟩|⟨rfl,o,hk,hc,hd⟩|⟨rfl,hk⟩|⟨rfl,S,n,hk⟩
  ·obtain⟨its,_,pl,_⟩:=I.list hq;refine⟨pl.isList.typeIs,fun a e=>?_⟩
   cases e
   obtain⟨o,n,e,c,hd,_⟩:=pl;exact⟨o,e,hd⟩
  ·refine⟨⟨o,I.kIn p o hk,hc⟩,fun a e=>?_⟩
   cases e
   exact⟨o,I.kIn _ o hk,hd⟩
  ·have z:∃ o,s.heap.get? p=some o∧o.ExactDict:=by
    rcases hk with⟨kvs,hk⟩|⟨kvs,hk⟩
    ·obtain⟨_,_,_,_,o,_,_,e,ex,_⟩:=I.hok p _ hk;exact⟨o,e,ex⟩
    ·obtain⟨_,_,_,_,o,_,_,e,ex,_⟩:=I.hok p _ hk;exact⟨o,e,ex⟩
   obtain⟨o,e,ex⟩:=z;refine⟨⟨o,e,ex.1⟩,fun a e2=>?_⟩
   cases e2
   exact⟨o,e,ex.2.1⟩
  ·obtain⟨o,_,_,_,e,ex,_⟩:=I.hok p _ hk;refine⟨⟨o,e,ex.1⟩,fun a e2=>?_⟩
   cases e2
   exact⟨o,e,ex.2.1⟩
 | _=>exact A6 ty
noncomputable def aV7 (K:Ab)(T:String)(r:V→List V→Hp→VK→Prop)(to:TE):TE:=fun σ H Q=>to σ H fun x H1=>tyV K T x H1∧r x [] H1 Q
noncomputable def tBM (K:Ab)(T:String)(r:V→List V→Hp→VK→Prop)(to:TE)(t:TA):TE:=fun σ H Q=>to σ H fun x H1=>tyV K T x H1∧t σ H1 fun xs H2=>r x xs H2 Q
variable {o e:AJ}{es:List AJ}{to:TE}{t:TA}{name:Str}{apos cpos:Pos}{T id:String}{r:V→List V→Hp→VK→Prop}
theorem aN3 (pa:PlainAttrs T)(slot:Slot T name id)(hty:typeOf (.builtin id)=pure (.type "method_descriptor"))(hm:MtR X id r)(ho:PE X o to)
  (hbase:DM o name X.env (eval o X.env)=eval o X.env:=by rfl) (hline:(apos.endLine==cpos.line)=true:=by rfl):PE X (.Call (.Attribute o name apos) [] [] cpos) (aV7 X.K T r to):=by
 intro pins s σ H Q I h;refine wpAny_Call_method0_late hbase hline (thn (ho pins s σ H _ I h) fun v s1 ⟨x,H1,I1,r1,ty,q1⟩=>?_);obtain⟨h1,h2⟩:=aCO I1 r1 ty;exact⟨T,id,pa,slot,hty,h1,h2,Do rfl (PySem.evalArgs_none (hm pins s1 σ H1 x [] v [] Q I1 r1 .nil q1))⟩
theorem jA (pa:PlainAttrs T)(slot:Slot T name id)(hty:typeOf (.builtin id)=pure (.type "method_descriptor"))(hm:MtR X id r)(ho:PE X o to)(ha:PA X (e::es) t)
  (hbase:DM o name X.env (eval o X.env)=eval o X.env:=by rfl)
  (hfew:((BG cpos (AX (e::es) X.env)).all (fun x => !x.1)&&(Dl cpos (Dm [] X.env)).all (fun x=>x.1.isSome)
   && decide ((e::es).length+([]:List Ea).length+(if ([]:List Ea).isEmpty then 0 else 1)<30))=true:=by rfl)
  (hline:(apos.endLine==cpos.line)=true:=by rfl) (hs:AX (e::es) X.env=(false,eval e X.env)::AX es X.env:=by rfl) (hplain:(BG cpos (AX es X.env)).any (·.1)=false:=by rfl) :
  PE X (.Call (.Attribute o name apos) (e::es) [] cpos) (tBM X.K T r to t):=by
 intro pins s σ H Q I h;refine GV hbase hfew hline rfl (thn (ho pins s σ H _ I h) fun v s1 ⟨x,H1,I1,r1,ty,q1⟩=>?_);obtain⟨h1,h2⟩:=aCO I1 r1 ty;refine⟨T,id,pa,slot,hty,h1,h2,?_⟩;have hA:=ha cpos pins s1 σ H1 _ I1 q1;rw[hs] at hA ⊢;refine Do (by show(false||(BG cpos (AX es X.env)).any (·.1))=false; rw[hplain]<;>rfl) (Dp ?_);exact thn hA fun us s2 ⟨vs,H2,I2,r2,q2⟩=>hm pins s2 σ H2 x vs v us Q I2 r1 r2 q2
end
end L2
namespace L2
open PySem PySem.Spec PyProof.Rows
noncomputable def MtM (X:Cx)(id:String)(r:V→List V→Hp→VK→Prop):Prop:=
 ∀(pins:List (AA×Obj)) (s:AD) (σ:St) (H:Hp) (x:V) (xs:List V) (v:AB) (us:List AB) (Q:VK),Inv X pins σ H s→RelV x v→Vals xs us→r x xs H Q →
  AF (AI X.prog X.w) X.A (call (.builtin id) (v::us)) (EP X pins σ Q) X.xe s
theorem Vals.one:∀{x:V} {us:List AB},Vals [x] us→∃ u,us=[u]∧RelV x u:=by
 intro x us h
 cases h with
 | cons r t=>cases t; exact⟨_,rfl,r⟩
theorem Vals.eraseIdx:∀{xs:List V} {us:List AB} (i:Nat),Vals xs us→Vals (xs.eraseIdx i) (us.eraseIdx i)
 | _,_,_,.nil=>.nil
 | _,_,0,.cons _ t=>t
 | _,_,i+1,.cons r t=>.cons r (Vals.eraseIdx i t)
theorem a3T {α:Type}:∀(l:List α) (i:Nat),(l.eraseIdx i).length≤l.length
 | [],_=>AV _
 | _::_,0=>CV _
 | _::r,i+1=>Fv (a3T r i)
section
variable {X:Cx}{pins:List (AA×Obj)}{σ:St}{H:Hp}{s:AD}{l b:AA}{xs ys zs:List V}
theorem Inv.lset {its its':List AB}{n:Nat}{f:Array AB→Array AB}{t':Nat}(I:Inv X pins σ H s)(hH:H l=some (.lst xs))
  (e:s.heap.get? l=some { cls:=.type "list", data:=.seq its.toArray n }) (hf:f its.toArray=its'.toArray) (hv:Vals ys its') (hz:ys.length≤sizeLine) :
  Inv X pins σ (upd H l (.lst ys)) { s with heap:=s.heap.update l (Ed f),toks:=t' }:=by
 have q:=PySem.IsL.update e f;rw[hf] at q;refine I.write (x:=l) (e:=l) (by rw[hH]; exact trivial) (.inl rfl) (fun b' u hb hu=>(CW s.heap (Ed f) (Am hb)).trans hu) ⟨_,q⟩ ?_;exact⟨hz,its',_,hv,q⟩
theorem Inv.lnew {its:List AB}{t':Nat}(I:Inv X pins σ H s)(hv:Vals ys its)(hz:ys.length≤sizeLine) :
  Inv X pins σ (upd H s.heap.objs.size (.lst ys)) { s with heap:=s.heap.push { cls:=.type "list", data:=.seq its.toArray },toks:=t' }:=
 I.laid (fun _ _ q=>AZ _ q) (AV _) ⟨hz,its,0,hv,BE _ rfl⟩
theorem Inv.fresh (I:Inv X pins σ H s):H s.heap.objs.size=none:=I.hok.fresh (AV _)
theorem Inv.lstM (I:Inv X pins σ H s)(hH:H l=some (.lst xs)):xs.length≤sizeLine∧∃(its:List AB) (n:Nat),Vals xs its∧xs.length=its.length∧s.heap.get? l=some { cls:=.type "list", data:=.seq its.toArray n }:=by
 obtain⟨z,its,n,r,e⟩:=I.hok l _ hH;exact⟨z,its,n,r,r.length,e⟩
end
section
variable {X:Cx}
noncomputable def aDH:V→List V→Hp→VK→Prop:=fun x vs H Q=>∃ l xs y,x=.ref l∧vs=[y]∧H l=some (.lst xs)∧xs.length<sizeLine∧Q .non (upd H l (.lst (xs++[y])))
theorem fH:MtM X "list.append" aDH:=by
 intro pins s σ H x vs v us Q I rx rv h;obtain⟨l,xs,y,rfl,rfl,hH,hz,q⟩:=h
 cases rx
 obtain⟨u,rfl,ru⟩:=rv.one;obtain⟨z,its,n,r,hl,e⟩:=I.lstM hH;refine Dq F.slot_list_append ⟨_,e,rfl⟩ F.entry_list_append (F.args_list_append_2 _ _) (PySem.list_append l its.toArray n u (by rw[A3]; omega)) ⟨e,?_⟩;refine⟨.non,_,I.lset (its':=its++[u]) hH e (by simp) (r.append (.cons ru .nil)) ?_,rfl,q⟩;rw[Ah,A1];omega
noncomputable def aJ0:V→List V→Hp→VK→Prop:=fun x vs H Q=>∃ l xs i k y,x=.ref l∧vs=[.int i]∧H l=some (.lst xs) ∧ -(2^63)≤i∧i<2^63∧FM i xs.length=some k∧xs[k]?=some y∧Q y (upd H l (.lst (xs.eraseIdx k)))
theorem aF5:MtM X "list.pop" aJ0:=by
 intro pins s σ H x vs v us Q I rx rv h;obtain⟨l,xs,i,k,y,rfl,rfl,hH,h1,h2,hk,hy,q⟩:=h
 cases rx
 obtain⟨u,rfl,ru⟩:=rv.one;obtain⟨t,rfl⟩:=ru;obtain⟨z,its,n,r,hl,e⟩:=I.lstM hH;obtain⟨w,hw,rw'⟩:=r.get hy;refine Dq F.slot_list_pop ⟨_,e,rfl⟩ F.entry_list_pop (F.args_list_pop_2 _ _)
  (MeetsSeq.list_pop_at l its.toArray n i t k w (fitsIndex_both h1 h2) (by rw[A3,←hl]; exact hk) (by rw[← E5]; exact hw) (by rw[A3]; omega)) ⟨e,?_⟩
 refine⟨y,_,I.lset (its':=its.eraseIdx k) hH e ?_ (r.eraseIdx k) ?_,rw',q⟩
 ·show its.toArray.eraseIdxIfInBounds k=(its.eraseIdx k).toArray;rw[List.eraseIdxIfInBounds_toArray]
 ·have:=a3T xs k;omega
noncomputable def aV0:R2:=fun x y H Q=>∃ l b xs zs,x=.ref l∧y=.ref b∧H l=some (.lst xs)∧H b=some (.lst zs)∧xs.length+zs.length≤sizeLine∧∀ p,H p=none→Q (.ref p) (upd H p (.lst (xs++zs)))
theorem nG:OpR X (Bu .Add) aV0:=by
 intro pins s σ H x y v u Q I rx ry h;obtain⟨l,b,xs,zs,rfl,rfl,hH,hB,hz,q⟩:=h
 cases rx
 cases ry
 obtain⟨z,its,n,r,hl,e⟩:=I.lstM hH;obtain⟨z2,its2,n2,r2,hl2,e2⟩:=I.lstM hB;refine PySem.P.add_list e e2 ?_ (by rw[A3,A3]; omega);have ea:its.toArray++its2.toArray=(its++its2).toArray:=by simp
 rw[ea];exact⟨.ref _,_,I.lnew (t':=s.toks) (r.append r2) (by rw[Ah]; omega),rfl,q _ I.fresh⟩
end
section
variable {prog:AQ}{w:AK}{A:AU}{E:AB→AD→Prop}{s:AD}
end
section
variable {X:Cx}
end
end L2
namespace Att
open PySem PySem.W PySem.Calls PyProof.Rows
theorem xV {P:Params}{h:AG}:∀(ns:List Int) (vs:List AB),WellAll P h vs (ns.map WData.int)→Ee vs ns:=by
 intro ns
 induction ns with
 | nil=>
  intro vs w;rw[ED] at w
  cases w
  exact .nil
 | cons n ns ih=>
  intro vs w;rw[A2] at w
  cases w with
  | cons a b=>
   cases a
   exact .cons _ _ (ih _ b)
theorem aCI {l:OpenLaw}{n:Nat}(hn:l.most=some n){P:Params}{h:AG}{args:List WData}{vals:List AB}
  (hpre:l.row.toRowW.claim.pre args=true) (hwl:WellAll P h vals args) :
  ∃ a vs ns,vals=[Aa a]∧args=[WData.list (ns.map WData.int)]∧h.get? a=some { cls:=.type "list", data:=.seq vs.toArray }∧Ee vs ns∧ns.length≤n:=by
 have hsh:WShape.hasAll [] args [.list .int]=true:=(pre_splitW hpre).1;have hc:l.pre.holds [] { args:=args }=true:=(pre_splitW hpre).2;obtain⟨d,r,rfl,h1,h2⟩:=hasAllW_cons hsh;obtain rfl:=hasAllW_nil h2;obtain⟨xs,rfl,h3⟩:=hasW_list h1;obtain⟨ns,rfl⟩:=items_int h3;have hlen:ns.length≤n:=by
  unfold OpenLaw.pre at hc;have h4:(WTm.not (.lt (.lit (.int (n:Int))) (.len (.arg 0)))).holds [] { args:=[.list (ns.map .int)] }=true:=by
   have h4:=(holds_andW hc).1;rw[hn] at h4;exact h4
  have h5:=condW_of h4 (w_not (w_lt w_lit (w_len_list (w_arg rfl))));rw[AO] at h5;refine Nat.le_of_not_lt fun q=>?_;have q':(n:Int)<((ns.length:Nat):Int):=by omega
  first
   | (rw[decide_eq_true q'] at h5; exact absurd h5 (by decide))
   | (simp at h5; omega)
 cases hwl with
 | cons w1 w2=>
  cases w2
  cases w1 with
  | list ho hall=>exact⟨_,_,ns,rfl,rfl,ho,xV ns _ hall,hlen⟩
theorem aDC (l:OpenLaw)(args:List WData):l.row.toRowW.claim.post args (.bool true) args=true:=
 postW_of (r:=l.row.toRowW) (X:=(true==true))
  (show WShape.has [] (.bool true) .bool=true by first|rfl|decide|simp[WShape.has,WShape.arms,WShape.armsAll])
  (show(WTm.eq .res (.lit (.bool true))).value [] { args:=args,res:=some (.bool true),after:=args }=some (.bool (true==true)) from w_eq_bool (w_res rfl) w_lit) rfl
theorem attach_call {l:OpenLaw}{n:Nat}{q:AQ}{loose:List Str}{XP:(Str→Option AB)→AG→Prop}{YP:AK→AG→Prop}{d:DefRec}
  (hn:l.most=some n) (hdf:d.params.defaults=[])
  (call:∀(w:AK) (s₀ s₁:AD) (mg mb:Str→Option AB) (fa:AA) (o:Obj) (pm cd doc:AB) (a:AA) (vs:List AB) (ns:List Int),
   Ground q loose [] XP w s₀ mg mb s₁.heap→YP w s₁.heap →
   s₁.heap.get? fa=some o→o.data=.func (docDef d.name d.params d.body d.scope pm cd doc)→s₁.heap.CodeRec cd d.name→mg d.name=some (.ref fa) →
   s₁.heap.get? a=some { cls:=.type "list", data:=.seq vs.toArray }→Ee vs ns→ns.length≤n→s₁.gens=#[] →
   CQ (AI l.prog w) DQ (.call (.ref fa) ⟨[.ref a],[]⟩) (fun r s'=>r=.ok (.ret (.bool true))∧OldK s₁.heap s'.heap∧s'.os=s₁.os∧B9 s'.gens) s₁) :
  WalkO q loose XP YP l.row.toRowW d [] (fun f vs=>PySem.call f vs):=by
 intro w s₀ s₁ mg mb G Y fa o pm cd doc dV kV ho hd hcd hD hmg hg args vals as hpre hlay hrd hwl hlo;obtain rfl:dV=.none:=Dflts.none hD hdf;obtain rfl:kV=.none:=Dflts.noKw hD;obtain⟨a,vs,ns,rfl,rfl,hobj,hints,hlen⟩:=aCI hn hpre hwl;refine enter_call (Cy (call w s₀ s₁ mg mb fa o pm cd doc a vs ns G Y ho (fd_plain hd) hcd hmg hobj hints hlen hg) fun r s' hq=>?_);obtain⟨rfl,h2,h3,h4⟩:=hq;exact⟨.inl ⟨.bool true,.bool true,[],rfl,fun _=>rfl,.bool true,aDC l _,fun _=>⟨Ef.nil,fun _ hm=>(nomatch hm)⟩⟩,h2,h3,h4⟩
section
variable {prog:AQ}{w:AK}{A:AU}{E:AB→AD→Prop}{s:AD}{K:Frag}
end
end Att
namespace L2
open PySem PySem.Spec PyProof.Rows
theorem aDB:∀{vs:List AB} {ns:List Int},Ee vs ns→Vals (ns.map V.int) vs:=by
 intro vs ns h
 induction h with
 | nil=>exact .nil
 | cons n t h ih=>exact .cons ⟨t,rfl⟩ ih
noncomputable def Only (H:Hp):Prop:=∀ b,H b=none∨∃ o xs,H b=some (.frz o (.lst xs))
theorem law_call {P:AQ}{w:AK}{K:Ab}{mg mb:Str→Option AB}{CX:CXT}{k:Nat}{fa a:AA}{fd:An}{x:Str}{sp:Sp}{s₁:AD}{vs:List AB}{ns:List Int}
  (KX:K.In s₁.heap) (hns:s₁.heap.Ns Ai mg) (hb:s₁.heap.Ns builtinsNs mb) (hbb:∀ x:Str,x ≠ "__name__" → mb x=De x) (hlim:s₁.heap.NoLimit) (hsy:∃ mm,s₁.heap.Ns Bq mm) (hg:s₁.gens=#[])
  (ha:s₁.heap.get? a=some { cls:=.type "list", data:=.seq vs.toArray }) (hi:Ee vs ns) (hl:ns.length≤sizeLine) (hr:Room k DQ)
  (F:∀ base:AG,K.In base→base.Ns Ai mg→FnOk P w K mg base CX k fa fd [x] sp) (hbind:∀(s:AD) (u:AB),Dn s fd ⟨[u],[]⟩ [(x,u)])
  (hsp:∀ H:Hp,Only H→SqL K H a (ns.map V.int)→sp [.ref a] H (fun v _=>v=.bl true) fun _ _ _=>False)
  (hCX:∀ H e s',CX [] H s₁ (fun _ _ _=>False) e s'→False) :
  CQ (AI P w) DQ (.call (.ref fa) ⟨[.ref a],[]⟩) (fun r s'=>r=.ok (.ret (.bool true))∧OldK s₁.heap s'.heap∧s'.os=s₁.os∧B9 s'.gens) s₁:=by
 have rv:=aDB hi;have lenV:=hi.length;have core:∀ H:Hp,Only H→SqL K H a (ns.map V.int)→HOk P w H s₁.heap→(∀ b,H b≠none→b=a)→(H a≠none→K.lookup a=none) →
   CQ (AI P w) DQ (.call (.ref fa) ⟨[.ref a],[]⟩) (fun r s'=>r=.ok (.ret (.bool true))∧OldK s₁.heap s'.heap∧s'.os=s₁.os∧B9 s'.gens) s₁:=by
  intro H hO hS hok hA hK;have base_of:∀{b:AA} {o:Obj},s₁.heap.get? b=some o→H b=none→(aG4 s₁.heap H).get? b=some o:=fun e n=>aF1 e n;have noA:∀{b:AA} {o:Obj} {es:Array DictEntry} {ep:Nat},s₁.heap.get? b=some o→o.data=.dict es ep→H b=none:=fun{b o es ep} e d=>by
   cases q:H b with
   | none=>rfl
   | some u=>
    have e':b=a:=hA b (by rw[q]; simp);subst e';rw[ha] at e; cases e;have d':Data.seq vs.toArray _=Data.dict es ep:=d
    cases d'
  have nsK:∀{b:AA} {m:Str→Option AB},s₁.heap.Ns b m→(aG4 s₁.heap H).Ns b m:=fun{b m} ⟨o,es,ep,e,d,r⟩=>⟨o,es,ep,base_of e (noA e d),d,r⟩;have hKb:K.In (aG4 s₁.heap H):=fun b o e=>base_of (KX b o e) (by
   cases q:H b with
   | none=>rfl
   | some u=>
    have e':b=a:=hA b (by rw[q]; simp);subst e';rw[hK (by rw[q]; simp)] at e; cases e)
  have hM:Mod K mg (aG4 s₁.heap H):=⟨hKb,nsK hns,⟨mb,nsK hb,hbb⟩,let ⟨mc,h1,h2⟩:=hlim; ⟨mc,nsK h1,h2⟩,let ⟨mm,h1⟩:=hsy; ⟨mm,nsK h1⟩⟩;have e0:Env0 P w K mg (aG4 s₁.heap H) DQ [] s₁ H:=⟨rfl,hM,fun b o e=>aKC e,Nat.le_of_eq (aCU _ _),trivial,fun b hb=>absurd (show b∈([]:List AA) from hb) (by simp),hok,.of_eq hg⟩;refine Cy ((F _ hKb (nsK hns)).run DQ [] s₁ H ⟨[.ref a],[]⟩ [.ref a] [.ref a] _ _ hr e0 (hbind s₁ (.ref a)) (.cons rfl .nil) (hsp H hO hS)) fun r s' h=>?_
  cases r with
  | error e=>exact(hCX H e s' h).elim
  | ok fl=>
   cases fl with
   | next=>exact A6 h
   | brk=>exact A6 h
   | cont=>exact A6 h
   | ret u=>
    obtain⟨v,H',os,bare,un,hok',r',q⟩:=h;have q':v=.bl true:=q;subst q';obtain rfl:u=E6 true:=r';refine⟨rfl,OldK.of_keep fun b o e=>?_,os,bare⟩
    cases q:H b with
    | none=>exact un.keep b o e q (by intro z; exact absurd (show b∈([]:List AA) from z) (by simp)) (by simp)
    | some u=>
     rcases hO b with z|⟨ob,xs,z⟩
     ·rw[q] at z; cases z
     ·have z2:=un.frzs b ob _ z;obtain⟨e1,_⟩:=hok b _ z;obtain⟨e2,_⟩:=hok' b _ z2;rw[e] at e1; cases e1;exact e2
 cases hk:K.lookup a with
 | some o=>
  have e:=KX a o hk;rw[ha] at e
  cases e
  refine core (fun _=>none) (fun _=>.inl rfl) (.inr ⟨_,vs.toArray,_,hk,rfl,rfl,rfl,by rw[A3,lenV]; exact hl,by simpa using rv⟩) (fun b u z=>by have z':(none:Option HO)=some u:=z; cases z') (fun b z=>absurd rfl z) fun z=>absurd rfl z
 | none=>
  refine core (fun b=>if b=a then some (.frz { cls:=.type "list", data:=.seq vs.toArray } (.lst (ns.map V.int))) else none) (fun b=>?_) (.inl (.inr ⟨{ cls:=.type "list", data:=.seq vs.toArray },if_pos rfl⟩)) (fun b u z=>?_) (fun b z=>?_) fun _=>hk
  ·by_cases hb:b=a
   ·exact .inr ⟨_,_,if_pos hb⟩
   ·exact .inl (if_neg hb)
  ·by_cases hb:b=a
   ·have z':=(if_pos hb).symm.trans z
    cases z'
    subst hb;exact⟨ha,by rw[AO]; exact hl,vs,_,rv,ha⟩
   ·have z':=(if_neg hb).symm.trans z
    cases z'
  ·by_cases hb:b=a
   ·exact hb
   ·exact absurd (if_neg hb) z
end L2
namespace L2
open PySem PySem.Spec PyProof.Rows
theorem aJG {l:Fw}{n k:Nat}{q:AQ}{loose:List Str}{XP:(Str→Option AB)→AG→Prop}{YP:AK→AG→Prop}{d:DefRec}{K:Params→Ab}{CX:AK→CXT}{sp:AK→Sp}{x:Str}
  (hn:l.most=some n) (hn2:n≤sizeLine) (hdf:d.params.defaults=[]) (him:GW q=true) (hr:Room k DQ)
  (hY:∀(w:AK) (h:AG),YP w h→(K w.params).In h)
  (F:∀(w:AK) (mg:Str→Option AB) (fa:AA) (h:AG),(K w.params).In h→h.Ns Ai mg→mg d.name=some (.ref fa) →
   ∃ fd:An,(∀(s:AD) (u:AB),Dn s fd ⟨[u],[]⟩ [(x,u)]) ∧
    ∀ base:AG,(K w.params).In base→base.Ns Ai mg→FnOk l.prog w (K w.params) mg base (CX w) k fa fd [x] (sp w))
  (hsp:∀(w:AK) (H:Hp) (a:AA) (ns:List Int),ns.length≤n→Only H→SqL (K w.params) H a (ns.map V.int)→sp w [.ref a] H (fun v _=>v=.bl true) fun _ _ _=>False)
  (hCX:∀(w:AK) (H:Hp) (s:AD) (e:AB) (s':AD),CX w [] H s (fun _ _ _=>False) e s'→False) :
  PySem.W.WalkO q loose XP YP l.row.toRowW d [] (fun f vs=>PySem.call f vs):=by
 refine Att.attach_call hn hdf fun w s₀ s₁ mg mb fa o pm cd doc a vs ns G Y ho hd hcd hmg hobj hints hlen hg=>?_;have KX:=hY w _ Y;obtain⟨fd,hb,hF⟩:=F w mg fa _ KX G.T.g hmg;exact law_call KX G.T.g G.T.b G.T.builtins G.T.nolimit (let ⟨mm,h1,_⟩:=(G.T.seer him).mods; ⟨mm,h1⟩) hg hobj hints (Ac hlen hn2) hr hF hb (fun H hO hS=>hsp w H a ns hlen hO hS) fun H e s'=>hCX w H s₁ e s'
end L2
namespace L2
open PySem PySem.Spec PyProof.Rows
noncomputable def inClass (s:AL)(j:Nat):AL:=match s with
 | .ClassDef _ _ _ body _ _ _ _ _ _ _=>body.getD j (.Pass ⟨0,0,0,0⟩)
 | _=>.Pass ⟨0,0,0,0⟩
noncomputable def o7 (s:AL):Arguments:=match s with
 | .FunctionDef _ a _ _ _ _ _ _ _ _=>a
 | _=>{ posonlyargs:=[],args:=[],vararg:=none,kwonlyargs:=[],kw_defaults:=[],kwarg:=none,defaults:=[] }
noncomputable def iT (s:AL):List AL:=match s with
 | .FunctionDef _ _ b _ _ _ _ _ _ _=>b
 | _=>[]
noncomputable def aQ (s:AL):BH:=match s with
 | .FunctionDef _ _ _ _ _ _ sc _ _ _=>sc
 | _=>{ kind:=.function,names:=[],isGenerator:=false,isCoroutine:=false }
abbrev CX0:CXT:=fun _ _ _ _ _ _=>False
abbrev E0:XK:=fun _ _ _=>False
theorem aDY {X:Cx}:vH CX0 X E0:=fun _ _ _ _ _ _ _ h=>h.elim
structure Fun (K:Ab)(x qual:Str)(st:AL)(f:AA)(fd:An):Prop where
 ex:∃(oc:AB) (od:Option AA) (kV doc pm:AB) (an:Option AA) (cdv ct:AB) (osl:Array (Option AB)),
  fd=fnOf x qual (o7 st) (iT st) (aQ st) .none kV doc pm an cdv ct∧K.lookup f=some ⟨oc,od,.func fd,osl⟩∧Cn K cdv qual=true
 kp:Bc K (.ref f)=true
section
variable {P:AQ}{w:AK}{K:Ab}{mg:Str→Option AB}{base:AG}
theorem Fun.ok {x qual:Str}{st:AL}{f:AA}{fd:An}{N ps:List Str}{k:Nat}{sp:Sp}(F:Fun K x qual st f fd)(S:FnScope N ps (aQ st))(len:∀ vs H Q E,sp vs H Q E→vs.length=ps.length)
  (hbody:∀(cdv:AB) (A:AU) (outer:List Env) (s:AD) (H:Hp) (vs:List V) (Q:VK) (E:XK),Room k (A.deeper (Bw qual (aQ st) s.heap.objs.size f cdv))→sp vs H Q E →
   ∃ t,PSs (aBQ CX0 P w K mg base N qual (aQ st) f cdv A outer s H E).nox (iT st) t∧t { nx:=fun _ H'=>Q .non H',rt:=Q } (start N vs) H):FnOk P w K mg base CX0 (k+1) f fd ps sp:=by
 obtain⟨oc,od,kV,doc,pm,an,cdv,ct,osl,rfl,lk,hcd⟩:=F.ex;refine aRA lk hcd S len fun A outer s H vs Q E hr hsp=>?_;obtain⟨t,h,q⟩:=hbody cdv A outer s H vs Q E hr hsp;exact⟨t,h.nox,q⟩
theorem Fun.binds {x qual:Str}{st:AL}{f:AA}{fd:An}{ps:List Str}(F:Fun K x qual st f fd)
  (h:∀(kV doc pm:AB) (an:Option AA) (cdv ct:AB) (us:List AB),us.length=ps.length→bindArgs (fnOf x qual (o7 st) (iT st) (aQ st) .none kV doc pm an cdv ct) ⟨us,[]⟩=pure (ps.zip us)):Binds K fd ps []:=by
 obtain⟨oc,od,kV,doc,pm,an,cdv,ct,osl,rfl,lk,hcd⟩:=F.ex;exact .all (h kV doc pm an cdv ct)
theorem a88 {x qual:Str}{st:AL}{f:AA}{oc:AB}{od an:Option AA}{osl:Array (Option AB)}{kV doc pm cdv ct:AB}(l:K.lookup f=some ⟨oc,od,.func (fnOf x qual (o7 st) (iT st) (aQ st) .none kV doc pm an cdv ct),osl⟩)
  (c:Cn K cdv qual=true) (k:Bc K (.ref f)=true):Fun K x qual st f (fnOf x qual (o7 st) (iT st) (aQ st) .none kV doc pm an cdv ct):=⟨⟨oc,od,kV,doc,pm,an,cdv,ct,osl,rfl,l,c⟩,k⟩
end
theorem a3M {n:Nat}(h:n≤1000):n<sizeLine:=B2 h (by decide)
section
variable {X:Cx}
theorem pv (i:Nat){x:Str}{pos:Pos}(hN:X.N[i]?=some x:=by rfl)(hv:Vis X.env.scope x:=by first|exact B3 rfl|exact DR (B3 rfl)|exact DR (DR rfl))(hd:(x==("__debug__" : Str))=false:=by decide)
  (hcd:(x==("__classdict__" : Str))=false:=by decide):PE X (.Name x pos) (uA i):=aIR hN hv hd hcd
end
theorem a2O {A B:Prop}(h:B):if false=true then A else B:=by
 rw[if_neg BB];exact h
theorem a0T {A B:Prop}(h:A):if true=true then A else B:=by
 rw[if_pos rfl];exact h
theorem aSV {c A B:Prop}[Decidable c](hc:c)(h:B):if (!decide c)=true then A else B:=by
 rw[decide_eq_true hc];exact a2O h
noncomputable def Same (H H':Hp):Prop:=∀ b o,H b=some o→H' b=some o
theorem Same.refl (H:Hp):Same H H:=fun _ _ h=>h
theorem Same.trans {H H1 H2:Hp}(a:Same H H1)(b:Same H1 H2):Same H H2:=fun c o h=>b c o (a c o h)
theorem Same.free {H H':Hp}(e:Same H H'){l:AA}(h:H' l=Option.none):H l=Option.none:=by
 cases q:H l with
 | none=>rfl
 | some o=>
  rw[e l o q] at h
  cases h
theorem Same.seq {K:Ab}{H H':Hp}{a:AA}{xs:List V}(e:Same H H')(h:SqL K H a xs):SqL K H' a xs:=by
 rcases h with(h|⟨o,h⟩)|h
 ·exact .inl (.inl (e _ _ h))
 ·exact .inl (.inr ⟨o,e _ _ h⟩)
 ·exact .inr h
end L2
set_option maxHeartbeats 4000000
namespace LT
theorem nO (a:Rat):(a.den:Int)≠0:=by have:=a.den_nz; omega
theorem den_pos (a:Rat):(0:Int)<a.den:=by have:=a.den_nz; omega
theorem a7X (a b:Rat):Rat.divInt (a.num*b.den+b.num*a.den) (a.den*b.den)=a+b:=by
 rw[← Rat.divInt_add_divInt _ _ (nO a) (nO b),ES,ES]
theorem aQX (a b:Rat):Rat.divInt (a.num*b.den-b.num*a.den) (a.den*b.den)=a-b:=by
 rw[Rat.sub_eq_add_neg,←a7X a (-b),Rat.neg_num,Rat.neg_den,Int.neg_mul,Int.sub_eq_add_neg]
theorem aHR (a b:Rat):Rat.divInt (a.num*b.num) (a.den*b.den)=a*b:=by
 rw[← Rat.divInt_mul_divInt,ES,ES]
theorem aUI (a b:Rat):decide (a.num*b.den<b.num*a.den)=decide (a<b):=by
 rw[decide_eq_decide,Rat.lt_iff]
theorem fd (t:Int)(g:Nat):t.fdiv (g:Int)=t/(g:Int):=GQ t (by omega)
theorem n6 {t b:Int}(h:0<b):t.fdiv (Az t b:Nat)=(Rat.divInt t b).num∧b.fdiv (Az t b:Nat)=((Rat.divInt t b).den:Int):=by
 rw[Rat.num_divInt,Rat.den_divInt,fd,fd,if_neg (by omega),Int.sign_eq_one_of_pos h,Int.one_mul,Int.gcd_comm b t];refine⟨rfl,?_⟩;obtain⟨n,rfl⟩:∃ n:Nat,b=(n:Int):=⟨b.toNat,by omega⟩;rw[← Int.natCast_ediv,Int.natAbs_natCast]
theorem aFH {t b:Int}(h:b<0):t.fdiv (-(Az t b:Nat))=(Rat.divInt t b).num∧b.fdiv (-(Az t b:Nat))=((Rat.divInt t b).den:Int):=by
 have h1:=n6 (t := -t) (b := -b) (by omega);have e:Rat.divInt (-t) (-b)=Rat.divInt t b:=by
  have:=Rat.divInt_mul_right (n:=t) (d:=b) (a := -1) (by decide);rw[← this]; congr 1<;>omega
 rw[e,Int.gcd_neg,Int.neg_gcd] at h1;rw[← h1.1,←h1.2];constructor
 ·rw[← Int.neg_neg t,Int.neg_fdiv_neg]; simp
 ·rw[← Int.neg_neg b,Int.neg_fdiv_neg]; simp
theorem a7Y {d r:Int}(hd:0≤d)(h:0<r):Az r (d%r)=Az d r:=by
 obtain⟨m,rfl⟩:∃ n:Nat,d=(n:Int):=⟨d.toNat,by omega⟩;obtain⟨n,rfl⟩:∃ n:Nat,r=(n:Int):=⟨r.toNat,by omega⟩;rw[← Int.natCast_emod];show Nat.gcd n (m%n)=Nat.gcd m n;rw[Nat.gcd_comm n,←Nat.gcd_rec,Nat.gcd_comm]
theorem aAK {d:Int}(h:0≤d):(Az d 0:Int)=d:=by
 rw[Int.gcd_zero_right]; omega
theorem a83 (i:Int):0≤(if i<0 then -i else i):=by split<;>omega
theorem aEB (i j:Int):Az (if i<0 then -i else i) (if j<0 then -j else j)=Az i j:=by
 split<;>split<;>simp only[Int.gcd_neg,Int.neg_gcd]
noncomputable def Bt (k:Nat)(i:Int):Prop:=i.natAbs<2^k
noncomputable def Sz (k:Nat)(q:Rat):Prop:=Bt k q.num∧Bt k q.den
theorem Bt.mono {k m:Nat}{i:Int}(h:Bt k i)(l:k≤m):Bt m i:=As h (Fx (by decide) l)
theorem Sz.mono {k m:Nat}{q:Rat}(h:Sz k q)(l:k≤m):Sz m q:=⟨h.1.mono l,h.2.mono l⟩
theorem Bt.mul {k m:Nat}{i j:Int}(h:Bt k i)(g:Bt m j):Bt (k+m) (i*j):=by
 unfold Bt at *; rw[Db,Nat.pow_add];exact Nat.mul_lt_mul'' h g
theorem Bt.add {k:Nat}{i j:Int}(h:Bt k i)(g:Bt k j):Bt (k+1) (i+j):=by
 unfold Bt at *; have:=Int.natAbs_add_le i j; rw[Nat.pow_succ]; omega
theorem Bt.neg {k:Nat}{i:Int}(h:Bt k i):Bt k (-i):=by unfold Bt at *; omega
theorem Bt.ediv {k:Nat}{i:Int}(h:Bt k i)(g:Nat):Bt k (i/(g:Int)):=by
 unfold Bt at *;exact B2 (by exact FO _ _) h
theorem Sz.divInt {k:Nat}{t b:Int}(h:Bt k t)(g:Bt k b)(h0:b≠0):Sz k (Rat.divInt t b):=by
 rcases Int.lt_or_gt_of_ne h0 with hb|hb
 ·have e:Rat.divInt (-t) (-b)=Rat.divInt t b:=by
   have:=Rat.divInt_mul_right (n:=t) (d:=b) (a := -1) (by decide);rw[← this]; congr 1<;>omega
  rw[← e];have n:=n6 (t := -t) (b := -b) (by omega);rw[fd,fd] at n;exact⟨by rw[← n.1]; exact h.neg.ediv _,by rw[← n.2]; exact g.neg.ediv _⟩
 ·have n:=n6 (t:=t) (b:=b) hb;rw[fd,fd] at n;exact⟨by rw[← n.1]; exact h.ediv _,by rw[← n.2]; exact g.ediv _⟩
theorem Sz.add {k m:Nat}{a b:Rat}(h:Sz k a)(g:Sz m b):Sz (k+m+1) (a+b):=by
 rw[← a7X];refine Sz.divInt (Bt.add (h.1.mul g.2) ?_) ((h.2.mul g.2).mono (by omega)) (Da (nO a) (nO b));exact(g.1.mul h.2).mono (by omega)
theorem Sz.mul {k m:Nat}{a b:Rat}(h:Sz k a)(g:Sz m b):Sz (k+m) (a*b):=by
 rw[← aHR];exact Sz.divInt (h.1.mul g.1) (h.2.mul g.2) (Da (nO a) (nO b))
end LT
namespace LT
theorem dI {t b:Int}{q:Rat}(hb:b≠0)(h:(t:Rat)=q*(b:Rat)):Rat.divInt t b=q:=by
 have h0:(b:Rat)≠0:=fun e=>hb (by exact_mod_cast e);rw[Ct,h];grind
end LT
namespace LT
end LT
namespace L2
open PySem PySem.Spec PyProof.Rows
mutual
inductive Dt (H:Hp):V→AH→Prop
 | non:Dt H .non .none
 | bl (b:Bool):Dt H (.bl b) (.bool b)
 | int (i:Int):Dt H (.int i) (.int i)
 | str (x:Str):Dt H (.str x) (.str x)
 | tup {p:AA} {xs:List V} {ds:List AH}:H p=some (.tup xs)→Dts H xs ds→Dt H (.ref p) (.tuple ds)
 | lst {p:AA} {xs:List V} {ds:List AH}:H p=some (.lst xs)→Dts H xs ds→Dt H (.ref p) (.list ds)
 | dic {p:AA} {kvs:List (Key×V)} {kds:List (AH×AH)}:Rd H p (.dK kvs)→Dtk H kvs kds→Dt H (.ref p) (.dict kds)
inductive Dts (H:Hp):List V→List AH→Prop
 | nil:Dts H [] []
 | cons {x:V} {xs:List V} {d:AH} {ds:List AH}:Dt H x d→Dts H xs ds→Dts H (x::xs) (d::ds)
inductive Dtk (H:Hp):List (Key×V)→List (AH×AH)→Prop
 | nil:Dtk H [] []
 | cons {n:Int} {x:V} {d:AH} {kvs:List (Key×V)} {kds:List (AH×AH)}:Dt H x d→Dtk H kvs kds→Dtk H ((A5 n,x)::kvs) ((.int n,d)::kds)
end
mutual
theorem Dt.reads {P:AQ}{w:AK}{H:Hp}{h:AG}(ok:HOk P w H h):∀(d:AH) (x:V) (v:AB),Dt H x d→RelV x v→∃ as,Reads h v d as
 | .none,_,_,e,r=>by cases e; cases r; exact⟨_,.none⟩
 | .bool _,_,_,e,r=>by cases e; cases r; exact⟨_,.bool _⟩
 | .int _,_,_,e,r=>by cases e; obtain⟨t,rfl⟩:=r; exact⟨_,.int _ _⟩
 | .str _,_,_,e,r=>by cases e; obtain⟨t,rfl⟩:=r; exact⟨_,.str _ _⟩
 | .list ds,_,_,e,r=>by
  cases e with
  | @lst p xs _ hp rs=>
   cases r
   obtain⟨_,its,n,r',hg⟩:=(show ObjOk P w H h p (.lst xs) from ok p _ hp);obtain⟨as,q⟩:=Dts.reads ok ds xs its rs r';exact⟨_,.list hg rfl rfl (by simpa using q)⟩
 | .tuple ds,_,_,e,r=>by
  cases e with
  | @tup p xs _ hp rs=>
   cases r
   obtain⟨_,its,r',o,h1,h2,n,h3⟩:=(show ObjOk P w H h p (.tup xs) from ok p _ hp);obtain⟨as,q⟩:=Dts.reads ok ds xs its rs r';exact⟨_,.tuple h1 h2 h3 (by simpa using q)⟩
 | .dict kds,_,_,e,r=>by
  cases e with
  | @dic p kvs _ hp rs=>
   cases r
   obtain⟨_,_,vs,kv,o,es,ep,h1,h2,h3,_,h4,_⟩:=(show ObjOk P w H h p (.dK kvs) from hp.ok ok);obtain⟨as,bs,q1,q2⟩:=Dtk.reads ok kds kvs vs es.toList rs kv h4;exact⟨_,.dict h1 h2.1 h3 q1 q2⟩
theorem Dts.reads {P:AQ}{w:AK}{H:Hp}{h:AG}(ok:HOk P w H h):∀(ds:List AH) (xs:List V) (vs:List AB),Dts H xs ds→Vals xs vs→∃ as,ReadsAll h vs ds as
 | [],_,_,e,r=>by cases e; cases r; exact⟨_,.nil⟩
 | d::ds,_,_,e,r=>by
  cases e with
  | cons e1 e2=>
   cases r with
   | cons r1 r2=>
    obtain⟨as,q1⟩:=Dt.reads ok d _ _ e1 r1;obtain⟨bs,q2⟩:=Dts.reads ok ds _ _ e2 r2;exact⟨_,.cons q1 q2⟩
theorem Dtk.reads {P:AQ}{w:AK}{H:Hp}{h:AG}(ok:HOk P w H h):∀(kds:List (AH×AH)) (kvs:List (Key×V)) (vs:List (Key×AB)) (es:List DictEntry),Dtk H kvs kds→KV kvs vs→Pairs (dJ P w) es vs →
  ∃ as bs,ReadsAll h (es.map (·.key)) (kds.map (·.1)) as∧ReadsAll h (es.map (·.val)) (kds.map (·.2)) bs
 | [],_,_,_,e,r,z=>by cases e; cases r; cases z; exact⟨_,_,.nil,.nil⟩
 | (k,d)::kds,_,_,_,e,r,z=>by
  cases e with
  | @cons n _ _ _ _ e1 e2=>
   cases r with
   | cons r1 r2=>
    cases z with
    | @cons en kv _ _ z1 z2 z3=>
     obtain⟨k1,rv⟩:=r1;obtain⟨as,q1⟩:=Dt.reads ok d _ _ e1 rv;obtain⟨as2,bs2,q3,q4⟩:=Dtk.reads ok kds _ _ _ e2 r2 z3;have kr:∃ cs,Reads h en.key (.int n) cs:=by
      rcases dM ((a90 P w _ _).symm.trans z1) with⟨i,t,a,b⟩|⟨_,_,a,_⟩
      ·rw[← k1] at a
       cases a
       rw[b];exact⟨_,.int _ _⟩
      ·rw[← k1] at a
       cases a
     obtain⟨cs,kr⟩:=kr;exact⟨_,_,.cons kr q3,.cons (z2▸q1:Reads h en.val d as) q4⟩
end
theorem Rd.same {H H':Hp}(g:Same H H'){a:AA}{u:HO}(r:Rd H a u):Rd H' a u:=r.elim (fun e=>.inl (g _ _ e)) fun⟨o,e⟩=>.inr ⟨o,g _ _ e⟩
mutual
theorem Dt.same {H H':Hp}(g:Same H H'):∀(d:AH) (x:V),Dt H x d→Dt H' x d
 | .none,_,e=>by cases e; exact .non
 | .bool _,_,e=>by cases e; exact .bl _
 | .int _,_,e=>by cases e; exact .int _
 | .str _,_,e=>by cases e; exact .str _
 | .list ds,_,e=>by
  cases e with
  | lst hp rs=>exact .lst (g _ _ hp) (Dts.same g ds _ rs)
 | .tuple ds,_,e=>by
  cases e with
  | tup hp rs=>exact .tup (g _ _ hp) (Dts.same g ds _ rs)
 | .dict kds,_,e=>by
  cases e with
  | dic hp rs=>exact .dic (hp.same g) (Dtk.same g kds _ rs)
theorem Dts.same {H H':Hp}(g:Same H H'):∀(ds:List AH) (xs:List V),Dts H xs ds→Dts H' xs ds
 | [],_,e=>by cases e; exact .nil
 | d::ds,_,e=>by
  cases e with
  | cons e1 e2=>exact .cons (Dt.same g d _ e1) (Dts.same g ds _ e2)
theorem Dtk.same {H H':Hp}(g:Same H H'):∀(kds:List (AH×AH)) (kvs:List (Key×V)),Dtk H kvs kds→Dtk H' kvs kds
 | [],_,e=>by cases e; exact .nil
 | (_,d)::kds,_,e=>by
  cases e with
  | cons e1 e2=>exact .cons (Dt.same g d _ e1) (Dtk.same g kds _ e2)
end
noncomputable def SameX (x:AA)(H H':Hp):Prop:=∀ b o,b≠x→H b=some o→H' b=some o
theorem SameX.refl (x:AA)(H:Hp):SameX x H H:=fun _ _ _ e=>e
theorem SameX.trans {x:AA}{H H1 H2:Hp}(a:SameX x H H1)(b:SameX x H1 H2):SameX x H H2:=fun c o n e=>b c o n (a c o n e)
theorem fM {H:Hp}{p:AA}(h:H p=none)(o:HO):Same H (upd H p o):=fun b u q=>by rw[bA (bJ q h)]; exact q
theorem iD {H:Hp}{p:AA}(o:HO):SameX p H (upd H p o):=fun b u n q=>by rw[bA n]; exact q
structure Good (d:AH):Prop where
 lay:d.canLay0=true
 dep:d.depth≤60
section
variable {X:Cx}
theorem aP4 {u a b:Nat}(h:u+64<BJ)(ha:a≤60):u+min a b<BJ:=by
 have:min a b≤a:=Nat.min_le_left _ _;omega
noncomputable def aVT:R2:=fun x y H Q=>∃ dx dy,Dt H x dx∧Dt H y dy∧Good dx∧Good dy∧Q (.bl (Ae dx dy)) H
noncomputable def aVD:R2:=fun x y H Q=>∃ dx dy,Dt H x dx∧Dt H y dy∧Good dx∧Good dy∧Q (.bl (!PyData.eqv dx dy)) H
theorem dB (hu:X.A.units+64<BJ):OpR X (Bf .Eq) aVT:=by
 intro pins s σ H x y v u Q I rx ry h;obtain⟨dx,dy,ex,ey,gx,gy,q⟩:=h;obtain⟨as,r1⟩:=Dt.reads I.hok dx x v ex rx;obtain⟨bs,r2⟩:=Dt.reads I.hok dy y u ey ry;exact SeqAt.compareEq_reads r1 r2 gx.lay gy.lay (aP4 hu gx.dep) ⟨.bl _,H,I,rfl,q⟩
theorem q9 (hu:X.A.units+64<BJ):OpR X (Bf .NotEq) aVD:=by
 intro pins s σ H x y v u Q I rx ry h;obtain⟨dx,dy,ex,ey,gx,gy,q⟩:=h;obtain⟨as,r1⟩:=Dt.reads I.hok dx x v ex rx;obtain⟨bs,r2⟩:=Dt.reads I.hok dy y u ey ry;exact SeqAt.compareNe_reads r1 r2 gx.lay gy.lay (aP4 hu gx.dep) ⟨.bl _,H,I,rfl,q⟩
theorem gR:OpR X (Bu .Mult) (rI Dj fun i j=>.int (i*j)):=opI fun _ _ _ _ _ _ _ hc q=>mul_int q hc
noncomputable def aF7 (_ j:Int):Prop:=j≠0∧LT.Bt 9000 j
theorem aWL {i j:Int}(h:aF7 i j):AM.divisionGoesByPylong i j=false:=by
 refine PyProof.noPylong_of_log2 ((EO ?_).mpr h.2);have:=h.1;omega
theorem sY:OpR X (Bu .FloorDiv) (rI aF7 fun i j=>.int (i.fdiv j)):=opI fun _ _ _ _ _ _ _ hc q=>floordiv_int hc.1 q (.inl (aWL hc))
theorem bits_le {k:Nat}{i:Int}(h:LT.Bt k i):GX i≤k:=by
 unfold GX
 split
 ·exact Be _
 ·rename_i h0
  have:i.natAbs≠0:=by
   intro e;exact h0 (by simpa using e)
  exact(EO this).mpr h
theorem aSY {k m:Nat}{i j:Int}(h:LT.Bt k i)(g:LT.Bt m j)(hk:k≤1048576:=by decide)(hm:m≤1048576:=by decide):Dj i j:=
 Dj.of_bits (Ac (bits_le h) hk) (Ac (bits_le g) hm)
theorem a0X {a b v:Int}{j j':Nat}{p p' pos:Pos}(h:a^b.toNat=v)(hc:aVA a b):PE X (.BinOp (.Constant (.int a) j p) .Pow (.Constant (.int b) j' p') pos) (tC (.int v)):=by
 intro pins s σ H Q I hq;subst h;exact cC aND aF aF pins s σ H Q I ⟨_,_,rfl,rfl,hc,hq⟩
theorem aES {x c y:Int}(h:0<c)(h2:c<2^64):CMul (x%c) y:=by
 have h3:=Ca x (b:=c) (by omega);have h4:=CZ x h;exact .inl ⟨by omega,by omega⟩
noncomputable def aWB:V→Option AB
 | .ty n=>some (.type n)
 | .ref a=>some (.ref a)
 | _=>none
noncomputable def aVS (K:Ab):List V→Hp→VK→Prop:=fun xs H Q=>∃ x c cv t b,xs=[x,c]∧aWB c=some cv∧TyOf K H x t∧AS K t cv=some b∧Q (.bl b) H
theorem j4:qX X (.builtin "isinstance") (aVS X.K):=by
 intro pins s σ H xs us Q I r h;obtain⟨x,c,cv,t,b,rfl,ec,ty,e,q⟩:=h;obtain⟨u,v,rfl,rx,rc⟩:=vals2 r;have ev:v=cv:=by
  cases c<;>first
   | (cases ec; exact rc)
   | cases ec
 subst ev;exact aCS I rx ty e fun tk=>⟨.bl b,H,I.tok tk,rfl,q⟩
structure Cal (P:AQ)(w:AK)(K:Ab)(mg:Str→Option AB)(base:AG)(k:Nat)(x:Str)(ps:List Str)(sp:Sp):Prop where
 ex:∃(f:AA) (fd:An),FnOk P w K mg base CX0 k f fd ps sp∧mg x=some (.ref f)∧Bc K (.ref f)=true∧Binds K fd ps []
variable {j k:Nat}{x:Str}{ps:List Str}{sp:Sp}{e:AJ}{es:List AJ}{t:TA}{p pos:Pos}
theorem aJ (c:Cal X.prog X.w X.K X.mg X.base j x ps sp)(hr:Room k X.A)(hg:Gl X x)(ha:PA X (e::es) t)(hjk:j≤k:=by decide)
  (hdb:(x==("__debug__" : Str))=false:=by decide) (he:AX (e::es) X.env=(false,eval e X.env)::AX es X.env:=by rfl) (hpl:(BG pos (AX es X.env)).any (·.1)=false:=by rfl) :
  PE X (.Call (.Name x p) (e::es) [] pos) (aDU sp [] E0 t):=by
 obtain⟨f,fd,F,hm,hk,hb⟩:=c.ex;exact aBS F (hr.mono hjk) hg hm hk hb .nil aDY ha hdb he hpl
end
structure Bl (K:Ab)(mg:Str→Option AB):Prop where
 len_:mg "len" = none
 abs_:mg "abs" = none
 range_:mg "range" = none
 isinstance_:mg "isinstance" = none
 int_:mg "int" = none
 bool_:mg "bool" = none
 tuple_:mg "tuple" = none
 max_:mg "max" = none
 min_:mg "min" = none
 list_:mg "list" = none
 all_:mg "all" = none
 any_:mg "any" = none
 sorted_:mg "sorted" = none
 zip_:mg "zip" = none
 set_:mg "set" = none
 sum_:mg "sum" = none
 str_:mg "str" = none
 enumerate_:mg "enumerate" = none
 repr_:mg "repr" = none
 kib:AS K (.type "int") (.type "bool")=some false
 kbi:AS K (.type "bool") (.type "int")=some true
theorem aGE (K:Ab)(t:AB):AS K t t=some true:=by
 unfold AS;rw[if_pos (beq_self_eq_true t)]
end L2
namespace L2
open PySem PySem.Spec PyProof.Rows LT
theorem aU6 {c A B:Prop}[Decidable c](h:c)(a:A):if decide c=true then A else B:=by rw[decide_eq_true h]; exact a0T a
theorem aJM {c A B:Prop}[Decidable c](h:¬c)(b:B):if decide c=true then A else B:=by rw[decide_eq_false h]; exact a2O b
theorem aTZ {c A B:Prop}[Decidable c](h:¬c)(a:A):if (!decide c)=true then A else B:=by rw[decide_eq_false h]; exact a0T a
theorem gF {c A B:Prop}[Decidable c](h1:c→A)(h2:¬c→B):if decide c=true then A else B:=by
 by_cases h:c
 ·exact aU6 h (h1 h)
 ·exact aJM h (h2 h)
theorem aFI {c A B:Prop}[Decidable c](h1:¬c→A)(h2:c→B):if (!decide c)=true then A else B:=by
 by_cases h:c
 ·exact aSV h (h2 h)
 ·exact aTZ h (h1 h)
theorem aAP {i j:Int}(h:V.int i=V.int j):i=j:=V.int.inj h
theorem lB {n:Nat}(h:n≤1000):n≤sizeLine:=Cr (a3M h)
theorem aDW {n:Nat}(h:Nat.ble n 1000=true):n≤sizeLine:=lB (DE h)
noncomputable def cO (q:Rat):AH:=.tuple [.int q.num,.int (q.den:Int)]
theorem wX (q:Rat):Good (cO q):=⟨rfl,by show 1≤60; decide⟩
theorem aL7 (a b:Rat):Ae (cO a) (cO b)=decide (a=b):=by
 show((a.num==b.num)&&(((a.den:Int)==(b.den:Int))&&true))=decide (a=b)
 rw[Bool.and_true]
 by_cases e:a=b
 ·subst e; simp
 ·rw[decide_eq_false e];refine E4.mpr fun h=>e ?_;rw[BF] at h;have h1:a.num=b.num:=beq_iff_eq.mp h.1;have h2:(a.den:Int)=(b.den:Int):=beq_iff_eq.mp h.2;exact Rat.ext h1 (by omega)
noncomputable def mX (l:Rat×Rat):AH:=.tuple [cO l.1,cO l.2]
noncomputable def aGM (K:Ab):Sp:=fun vs H Q _=>∃(a:AA) (ns:List Int),vs=[.ref a]∧SqL K H a (ns.map V.int)∧ns.length≤63∧∀ H',Q (.bl true) H'
theorem aHQ {k:Nat}{t b:Int}(h:Bt k b)(h0:b≠0):Bt k (Az t b:Nat):=by
 unfold Bt at *;refine B2 ?_ h;show Az t b≤b.natAbs;exact Nat.le_of_dvd (by omega) (Nat.gcd_dvd_right _ _)
theorem aIZ {t b:Int}(h0:b≠0):((Az t b:Nat):Int)≠0:=by
 have:=Int.gcd_pos_of_ne_zero_right t h0;omega
end L2
namespace L2
open PySem PySem.Spec PyProof.Rows
section
variable {κ:Type}[DecidableEq κ]
noncomputable def xF (kvs:List (κ×V))(k:κ):Option V:=(kvs.find? fun kv=>decide (kv.1=k)).map (·.2)
noncomputable def putK (kvs:List (κ×V))(k:κ)(v:V):List (κ×V):=
 if (kvs.any fun kv=>decide (kv.1=k))=true then kvs.map (fun kv=>if kv.1=k then(kv.1,v) else kv) else kvs++[(k,v)]
noncomputable def v6 (kvs:List (κ×V))(k:κ):List (κ×V):=kvs.filter fun kv=>decide (kv.1≠k)
theorem sS {p:κ×V}{r:List (κ×V)}{k:κ}(e:p.1=k):xF (p::r) k=some p.2:=by simp[xF,C9,e]
theorem rM {p:κ×V}{r:List (κ×V)}{k:κ}(e:¬p.1=k):xF (p::r) k=xF r k:=by simp[xF,C9,e]
theorem tU (k:κ):∀ kvs:List (κ×V),(kvs.any fun kv=>decide (kv.1=k))=(xF kvs k).isSome
 | []=>rfl
 | p::r=>by
  rw[D4]
  by_cases e:p.1=k
  ·simp only[sS e,decide_eq_true e,Bool.true_or,Option.isSome_some]
  ·rw[rM e,decide_eq_false e,Bool.false_or]; exact tU k r
theorem qU (kvs:List (κ×V))(k:κ)(v:V):(putK kvs k v).length≤kvs.length+1:=by
 unfold putK
 split
 ·rw[AO]; omega
 ·rw[Ah,Af,Cm]; omega
theorem aG9 {kvs:List (κ×V)}{k:κ}(v:V)(h:xF kvs k=none):putK kvs k v=kvs++[(k,v)]:=by
 unfold putK;rw[tU,h];exact if_neg (by decide)
theorem RelO.isSome_eq {o:Option V}{u:Option AB}(r:RelO o u):o.isSome=u.isSome:=by
 cases o with
 | none=>cases u with
  | none=>rfl
  | some _=>exact(show False from r).elim
 | some _=>cases u with
  | none=>exact(show False from r).elim
  | some _=>rfl
theorem RelO.getD {o:Option V}{u:Option AB}{d:V}{d':AB}(r:RelO o u)(rd:RelV d d'):RelV (o.getD d) (u.getD d'):=by
 cases o with
 | none=>cases u with
  | none=>exact rd
  | some _=>exact(show False from r).elim
 | some _=>cases u with
  | none=>exact(show False from r).elim
  | some _=>exact r
theorem KV.val {kvs:List (κ×V)}{vs:List (κ×AB)}(r:KV kvs vs)(k:κ):RelO (xF kvs k) (C2 vs k):=by
 unfold KV at r
 induction r with
 | nil=>exact True.intro
 | @cons p q ps qs h t ih=>
  obtain⟨h1,h2⟩:=h
  by_cases e:p.1=k
  ·have e':q.1=k:=h1.symm.trans e;have b:C2 (q::qs) k=some q.2:=by simp[C2,C9,e']
   rw[sS e,b]; exact h2
  ·have e':¬q.1=k:=fun z=>e (h1.trans z);have b:C2 (q::qs) k=C2 qs k:=by simp[C2,C9,e']
   rw[rM e,b]; exact ih
theorem KV.any {kvs:List (κ×V)}{vs:List (κ×AB)}(r:KV kvs vs)(k:κ):(kvs.any fun kv=>decide (kv.1=k))=vs.any fun kv=>decide (kv.1=k):=by
 unfold KV at r
 induction r with
 | nil=>rfl
 | cons h t ih=>rw[D4,D4,ih,h.1]
theorem KV.repl {kvs:List (κ×V)}{vs:List (κ×AB)}(r:KV kvs vs)(k:κ){y:V}{u:AB}(ry:RelV y u) :
  KV (kvs.map fun kv=>if kv.1=k then(kv.1,y) else kv) (vs.map fun kv=>if kv.1=k then(kv.1,u) else kv):=by
 unfold KV at r ⊢
 induction r with
 | nil=>exact .nil
 | @cons p q ps qs h t ih=>
  rw[A2,A2];refine .cons ?_ ih;obtain⟨h1,h2⟩:=h
  by_cases e:p.1=k
  ·rw[if_pos e,if_pos (h1.symm.trans e)]; exact⟨h1,ry⟩
  ·rw[if_neg e,if_neg (fun z=>e (h1.trans z))]; exact⟨h1,h2⟩
theorem KV.put {kvs:List (κ×V)}{vs:List (κ×AB)}(r:KV kvs vs)(k:κ){y:V}{u:AB}(ry:RelV y u):KV (putK kvs k y) (stored vs k u):=by
 unfold putK stored;rw[r.any k]
 by_cases e:(vs.any fun kv=>decide (kv.1=k))=true
 ·rw[if_pos e,if_pos e]; exact r.repl k ry
 ·rw[if_neg e,if_neg e]; exact Al.snoc r ⟨rfl,ry⟩
theorem KV.drop {kvs:List (κ×V)}{vs:List (κ×AB)}(r:KV kvs vs)(k:κ):KV (v6 kvs k) (without vs k):=by
 unfold KV at r ⊢;unfold v6 without
 induction r with
 | nil=>exact .nil
 | @cons p q ps qs h t ih=>
  obtain⟨h1,h2⟩:=h;rw[C8,C8]
  by_cases e:p.1=k
  ·have a:¬decide (p.1≠k)=true:=by simp[e]
   have b:¬decide (q.1≠k)=true:=by simp[h1.symm.trans e]
   rw[if_neg a,if_neg b]; exact ih
  ·have e':¬q.1=k:=fun z=>e (h1.trans z);have a:decide (p.1≠k)=true:=by simp[e]
   have b:decide (q.1≠k)=true:=by simp[e']
   rw[if_pos a,if_pos b]; exact .cons ⟨h1,h2⟩ ih
theorem KV.length {kvs:List (κ×V)}{vs:List (κ×AB)}(r:KV kvs vs):kvs.length=vs.length:=Al.length r
theorem a7V (kvs:List (κ×V))(k:κ):(v6 kvs k).length≤kvs.length:=GY _ _
end
theorem a3I {P:AQ}{w:AK}{k:Key}{u:AB}(r:RelV (kV k) u):(dJ P w).is k u=true:=by
 cases k with
 | inl i=>obtain⟨t,e⟩:=(show ∃ t,u=Cu i t from r); subst e; exact a5S P w i t
 | inr x=>obtain⟨t,e⟩:=(show ∃ t,u=DI x t from r); subst e; exact a66 P w x t
theorem a2S {P:AQ}{w:AK}:∀{ks:List Key} {us:List AB},Vals (ks.map kV) us→ItemsAre (dJ P w) ks us
 | [],_,r=>by rw[ED] at r; cases r; exact .nil
 | k::ks,_,r=>by
  rw[A2] at r
  cases r with
  | cons h t=>exact .cons (a3I h) (a2S t)
abbrev KT (H:Hp):List (List Key×V)→List (List Key×AA×AB)→Prop:=Al fun p q=>p.1=q.1∧H q.2.1=some (.tup (p.1.map kV))∧RelV p.2 q.2.2
theorem KT.val {H:Hp}{kvs:List (List Key×V)}{xs:List (List Key×AA×AB)}(r:KT H kvs xs)(k:List Key):RelO (xF kvs k) ((Cg xs k).map (·.2)):=by
 induction r with
 | nil=>exact True.intro
 | @cons p q ps qs h t ih=>
  obtain⟨h1,_,h2⟩:=h
  by_cases e:p.1=k
  ·have e':q.1=k:=h1.symm.trans e;have b:Cg (q::qs) k=some q.2:=by simp[Cg,C9,e']
   rw[sS e,b]; exact h2
  ·have e':¬q.1=k:=fun z=>e (h1.trans z);have b:Cg (q::qs) k=Cg qs k:=by simp[Cg,C9,e']
   rw[rM e,b]; exact ih
theorem KT.repl {H:Hp}{kvs:List (List Key×V)}{xs:List (List Key×AA×AB)}(r:KT H kvs xs)(k:List Key){y:V}{u:AB}(ry:RelV y u) :
  KT H (kvs.map fun kv=>if kv.1=k then(kv.1,y) else kv) (xs.map (putAt k u)):=by
 induction r with
 | nil=>exact .nil
 | @cons p q ps qs h t ih=>
  rw[A2,A2];refine .cons ?_ ih;obtain⟨h1,h2,h3⟩:=h;unfold putAt
  by_cases e:p.1=k
  ·rw[if_pos e,if_pos (h1.symm.trans e)]; exact⟨h1,h2,ry⟩
  ·rw[if_neg e,if_neg (fun z=>e (h1.trans z))]; exact⟨h1,h2,h3⟩
theorem KT.put {H:Hp}{kvs:List (List Key×V)}{xs:List (List Key×AA×AB)}(r:KT H kvs xs)(k:List Key){b:AA}{y:V}{u:AB}(hb:H b=some (.tup (k.map kV)))(ry:RelV y u) :
  KT H (putK kvs k y) (storedH xs k b u):=by
 have e:(kvs.any fun kv=>decide (kv.1=k))=(Cg xs k).isSome:=by
  rw[tU,(r.val k).isSome_eq,isSome_map]
 unfold putK storedH;rw[e]
 by_cases q:(Cg xs k).isSome=true
 ·rw[if_pos q,if_pos q]; exact r.repl k ry
 ·rw[if_neg q,if_neg q]; exact Al.snoc r ⟨rfl,hb,ry⟩
theorem KT.keeps {H H':Hp}{kvs:List (List Key×V)}{xs:List (List Key×AA×AB)}(r:KT H kvs xs)(ht:∀ b ys,H b=some (.tup ys)→H' b=some (.tup ys)):KT H' kvs xs:=
 Al.mapP r fun _ _ z=>⟨z.1,ht _ _ z.2.1,z.2.2⟩
section
variable {P:AQ}{w:AK}{H:Hp}{h:AG}{a:AA}
theorem aMV {u:HO}(ok:HOk P w H h)(e:Rd H a u):ObjOk P w H h a u:=e.ok ok
theorem a5Z {kvs:List (Key×V)}(ok:HOk P w H h)(e:Rd H a (.dK kvs)):kvs.length≤sizeLine∧(a==Bq)=false∧∃ vs,KV kvs vs∧h.DictOf (dJ P w) a vs:=
 show ObjOk P w H h a (.dK kvs) from aMV ok e
theorem aFX {kvs:List (Key×V)}(ok:HOk P w H h)(e:H a=some (.dK kvs)):kvs.length≤sizeLine∧(a==Bq)=false∧∃ vs,KV kvs vs∧h.DictOf (dJ P w) a vs:=a5Z ok (.inl e)
theorem a3F {ks:List Key}(ok:HOk P w H h)(e:H a=some (.tup (ks.map kV))):(Dd (dJ P w)).is h ks a:=by
 obtain⟨_,its,r,o,h1,h2,n,h3⟩:=(show ObjOk P w H h a (.tup (ks.map kV)) from ok a _ e);exact⟨o,its.toArray,n,h1,h2,h3,by simpa using a2S r⟩
theorem a8M {kvs:List (List Key×V)}(ok:HOk P w H h)(e:Rd H a (.dT kvs)):kvs.length≤sizeLine∧(a==Bq)=false ∧
  ∃ xs,KT H kvs xs∧h.DictOfH (Dd (dJ P w)) a xs:=by
 obtain⟨z,y,xs,r,o,es,ep,h1,h2,h3,h4,h5⟩:=(show ObjOk P w H h a (.dT kvs) from aMV ok e);refine⟨z,y,xs,r,o,es,ep,h1,h2,h3,h4,fun x hx=>?_,h5⟩;have all:∀{l:List (List Key×V)} {m:List (List Key×AA×AB)},KT H l m→∀ x∈m,(Dd (dJ P w)).is h x.1 x.2.1:=by
  intro l m q
  induction q with
  | nil=>intro x hx; exact nomatch hx
  | @cons p q ps qs hq t ih=>
   intro x hx;rcases AT.mp hx with e|hx
   ·subst e;exact a3F ok (by rw[← hq.1]; exact hq.2.1)
   ·exact ih x hx
 exact all r x hx
theorem aTY {kvs:List (List Key×V)}(ok:HOk P w H h)(e:H a=some (.dT kvs)):kvs.length≤sizeLine∧(a==Bq)=false ∧
  ∃ xs,KT H kvs xs∧h.DictOfH (Dd (dJ P w)) a xs:=a8M ok (.inl e)
end
noncomputable def DGet (H:Hp)(a:AA)(y:V)(r:Option V):Prop:=
 (∃ kvs k,Rd H a (.dK kvs)∧y=kV k∧r=xF kvs k)∨∃ kvs k b,Rd H a (.dT kvs)∧y=.ref b∧H b=some (.tup (k.map kV))∧r=xF kvs k
noncomputable def DPut (H:Hp)(a:AA)(y v:V)(H':Hp):Prop:=
 (∃ kvs k,H a=some (.dK kvs)∧y=kV k∧kvs.length<sizeLine∧H'=upd H a (.dK (putK kvs k v))) ∨
 ∃ kvs k b,H a=some (.dT kvs)∧y=.ref b∧H b=some (.tup (k.map kV))∧kvs.length<sizeLine∧H'=upd H a (.dT (putK kvs k v))
theorem DGet.k {H:Hp}{a:AA}{kvs:List (Key×V)}{k:Key}(e:H a=some (.dK kvs)):DGet H a (kV k) (xF kvs k):=.inl ⟨kvs,k,.inl e,rfl,rfl⟩
theorem DPut.k {H:Hp}{a:AA}{kvs:List (Key×V)}{k:Key}{v:V}(e:H a=some (.dK kvs))(hl:kvs.length<sizeLine):DPut H a (kV k) v (upd H a (.dK (putK kvs k v))):=.inl ⟨kvs,k,e,rfl,hl,rfl⟩
section
variable {X:Cx}{pins:List (AA×Obj)}{σ:St}{H:Hp}{s:AD}{a:AA}{y v:V}{u r:AB}{o:Option V}{A:AU}{E:AB→AD→Prop}
theorem Inv.big (I:Inv X pins σ H s):Bq<s.heap.objs.size:=by
 have h:Ai<s.heap.objs.size:=(I.mod.glob.keeps I.bk).lt;exact DF (by decide) h
theorem aBT {Q:AB→AD→Prop}(hu:A.units+1<BJ)(I:Inv X pins σ H s)(g:DGet H a y (some v))(ry:RelV y u)(h:∀ w' s',Inv X pins σ H s'→RelV v w'→Q w' s') :
  AF (AI X.prog X.w) A (C0 (.ref a) u) Q E s:=by
 rcases g with⟨kvs,k,e,ey,l⟩|⟨kvs,k,b,e,ey,eb,l⟩
 ·subst ey;obtain⟨z,hd,vs,rel,dd⟩:=a5Z I.hok e;obtain⟨w',hw,rw'⟩:=RelO.some_of (v:=v) (o:=C2 vs k) (by rw[l]; exact rel.val k);exact wpAny_getItem_of (a3I ry) dd.mapOf hw (h w' _ (I.tok _) rw')
 ·subst ey
  cases(show u=Aa b from ry)
  obtain⟨z,hd,xs,rel,dd⟩:=a8M I.hok e;obtain⟨w',hw,rw'⟩:=RelO.some_of (v:=v) (o:=(Cg xs k).map (·.2)) (by rw[l]; exact rel.val k);obtain⟨p,hp,hp2⟩:=CN.mp hw;refine wpAny_getItem_heap (FP hu) (a3F I.hok eb) dd hp ?_;rw[hp2];exact h w' _ (I.tok _) rw'
theorem aWT {Q:AB→AD→Prop}(hu:A.units+1<BJ)(I:Inv X pins σ H s)(g:DGet H a y o)(ry:RelV y u)(h:∀ s',Inv X pins σ H s'→Q (.bool o.isSome) s') :
  AF (AI X.prog X.w) A (Bf .In u (.ref a)) Q E s:=by
 rcases g with⟨kvs,k,e,ey,l⟩|⟨kvs,k,b,e,ey,eb,l⟩
 ·subst ey;obtain⟨z,hd,vs,rel,dd⟩:=a5Z I.hok e;refine wpAny_in_of (a3I ry) hd dd.mapOf ?_;rw[← (rel.val k).isSome_eq,←l];exact h _ (I.tok _)
 ·subst ey
  cases(show u=Aa b from ry)
  obtain⟨z,hd,xs,rel,dd⟩:=a8M I.hok e;refine wpAny_in_heap (FP hu) (a3F I.hok eb) hd dd ?_;have q:=(rel.val k).isSome_eq;rw[isSome_map] at q;rw[← q,←l];exact h _ (I.tok _)
theorem zM {h':AG}{t':Nat}{ob:HO}(I:Inv X pins σ H s)(mu:Mut (H a))(hs:BU a s.heap h')(he:∃ q,h'.get? a=some q)(new:ObjOk X.prog X.w (upd H a ob) h' a ob) :
  Inv X pins σ (upd H a ob) { s with heap:=h',toks:=t' }:=
 I.write (x:=a) (e:=a) mu (.inl rfl) (fun b q hb z=>(hs.2 b hb).trans z) he new
theorem a6U {P:AQ}{w:AK}{H':Hp}{h':AG}{kvs:List (Key×V)}{vs:List (Key×AB)}(z:kvs.length≤sizeLine)(hd:(a==Bq)=false)(rel:KV kvs vs)(dd:h'.DictOf (dJ P w) a vs) :
  ObjOk P w H' h' a (.dK kvs):=⟨z,hd,vs,rel,dd⟩
theorem aC9 {H':Hp}{Q:Unit→AD→Prop}(hu:A.units+1<BJ)(I:Inv X pins σ H s)(g:DPut H a y v H')(ry:RelV y u)(rv:RelV v r)(h:∀ s',Inv X pins σ H' s'→Q () s') :
  AF (AI X.prog X.w) A (setItem (.ref a) u r) Q E s:=by
 rcases g with⟨kvs,k,e,ey,l,eH⟩|⟨kvs,k,b,e,ey,eb,l,eH⟩
 ·subst ey eH;obtain⟨z,hd,vs,rel,dd⟩:=aFX I.hok e;have hz:vs.length≤sizeLine:=by rw[← rel.length]; exact z
  have hl:(putK kvs k v).length≤sizeLine:=by have:=qU kvs k v; omega
  refine wpAny_setItem_pairs (hsz:=hz) (a3I ry) dd fun h' dd' hs=>h _ ?_;have he:∃ q,h'.get? a=some q:=let ⟨q,_,_,hq,_⟩:=dd'; ⟨q,hq⟩;exact zM I (by rw[e]; exact True.intro) hs he (a6U hl hd (rel.put k rv) dd')
 ·subst ey eH
  cases(show u=Aa b from ry)
  obtain⟨z,hd,xs,rel,dd⟩:=aTY I.hok e;have hz:xs.length≤sizeLine:=by rw[← Al.length rel]; exact z
  have hl:(putK kvs k v).length≤sizeLine:=by have:=qU kvs k v; omega
  refine wpAny_setItem_heap (hsz:=hz) (FP hu) (a3F I.hok eb) dd fun h' dd' hs=>h _ ?_;obtain⟨q,es,ep,hq,h2,h3,h4,_,h5⟩:=dd';refine zM I (by rw[e]; exact True.intro) hs ⟨q,hq⟩ ⟨hl,hd,_,(rel.put k eb rv).keeps fun c ys ec=>?_,q,es,ep,hq,h2,h3,h4,h5⟩;rw[bA (aAH ec e (fun z=>nomatch z))];exact ec
end
section
variable {X:Cx}{pins:List (AA×Obj)}{σ:St}{H:Hp}{s:AD}{a:AA}{kvs:List (Key×V)}{k:Key}{u:AB}{A:AU}{E:AB→AD→Prop}
theorem aR0 {Q:Unit→AD→Prop}(I:Inv X pins σ H s)(e:H a=some (.dK kvs))(ry:RelV (kV k) u)(l:(xF kvs k).isSome=true)(h:∀ s',Inv X pins σ (upd H a (.dK (v6 kvs k))) s'→Q () s') :
  AF (AI X.prog X.w) A (delItem (.ref a) u) Q E s:=by
 obtain⟨z,hd,vs,rel,dd⟩:=aFX I.hok e;refine wpAny_delItem_slot dd.typeIs (by decide) GZ
  (FQ GZ dd.typeIs PySem.F.entry_dict_delitem (PySem.F.args_dict_delitem_2 _ _) (meets_dict_delitem_pairs (dJ X.prog X.w) a (a3I ry)) ⟨vs,dd,by rw[← rel.length]; exact z,by rw[← (rel.val k).isSome_eq]; exact l,fun h' dd' hs=>h _ ?_⟩)
 have he:∃ q,h'.get? a=some q:=let ⟨q,_,_,hq,_⟩:=dd'; ⟨q,hq⟩;exact zM I (by rw[e]; exact True.intro) hs he (a6U (Ac (a7V kvs k) z) hd (rel.drop k) dd')
theorem aT9 {v:V}{more:List AB}{Q:AB→AD→Prop}(I:Inv X pins σ H s)(e:H a=some (.dK kvs))(ry:RelV (kV k) u)(l:xF kvs k=some v)(hm:more=[]∨∃ x,more=[x])
  (h:∀ w' s',Inv X pins σ (upd H a (.dK (v6 kvs k))) s'→RelV v w'→Q w' s'):AF (AI X.prog X.w) A (call (.builtin "dict.pop") (.ref a::u::more)) Q E s:=by
 obtain⟨z,hd,vs,rel,dd⟩:=aFX I.hok e;obtain⟨w',hw,rw'⟩:=RelO.some_of (v:=v) (o:=C2 vs k) (by rw[← l]; exact rel.val k);have hp:(keyPart u).isSome=true:=by
  cases k with
  | inl i=>obtain⟨t,q⟩:=(show ∃ t,u=Cu i t from ry); subst q; rfl
  | inr x=>obtain⟨t,q⟩:=(show ∃ t,u=DI x t from ry); subst q; rfl
 have ha:argsOk "dict.pop" ⟨.ref a::u::more,[]⟩:=by
  rcases hm with q|⟨x,q⟩
  ·subst q; exact PySem.F.args_dict_pop_2 _ _
  ·subst q; exact PySem.F.args_dict_pop_3 _ _ _
 refine FQ Ga dd.typeIs PySem.F.entry_dict_pop ha (meets_dict_pop_there (dJ X.prog X.w) a (a3I ry) more hm hp)
  ⟨vs,w',dd,by rw[← rel.length]; exact z,hw,fun h' dd' hs=>h w' _ ?_ rw'⟩
 have he:∃ q,h'.get? a=some q:=let ⟨q,_,_,hq,_⟩:=dd'; ⟨q,hq⟩;exact zM I (by rw[e]; exact True.intro) hs he (a6U (Ac (a7V kvs k) z) hd (rel.drop k) dd')
theorem aU7 {Q:AB→AD→Prop}(I:Inv X pins σ H s)(e:Rd H a (.dK kvs))(h:∀ t s',Inv X pins σ H s'→Q (.int kvs.length t) s'):AF (AI X.prog X.w) A (call (.builtin "len") [.ref a]) Q E s:=by
 obtain⟨z,hd,vs,rel,dd⟩:=a5Z I.hok e;refine call_len_dict hd dd (by rw[← rel.length]; rw[Bv] at z; omega) ?_;rw[← rel.length];exact h _ _ (I.tok _)
end
noncomputable def aVO (i:AJ):Prop:=∀ ov iv,FN i false ov iv=operate [ov,iv] (C0 ov iv)
theorem aKW {prog:AQ}{w:AK}{A:AU}{E:AB→AD→Prop}{s:AD}{env:Env}{value slice:AJ}{pos:Pos}{T id:String}{Q:AB→AD→Prop}
  (hl:Ec (.type T) "__getitem__" = pure (some (.builtin id))) (hs:aVO slice)
  (h:AF (AI prog w) A (eval value env) (fun o s₁=>AF (AI prog w) A (eval slice env) (fun i s₂=>s₂.TypeIs o T∧AF (AI prog w) A (C0 o i) Q E s₂) E s₁) E s) :
  AF (AI prog w) A (eval (.Subscript value slice pos) env) Q E s:=by
 refine Subscript_ (Au h (fun o s₁ h₁=>Au h₁ (fun i s₂ h₂=>?_) fun _ _ x=>x) fun _ _ x=>x);obtain⟨hT,h₂⟩:=h₂;unfold Ft;refine AE ?_;rw[getitemInPython_of_ne hT.not_modules];refine AE (wpAny_specialOf hT hl ?_);have fin:AF (AI prog w) A (FN slice false o i) (fun r s₃=>AF (AI prog w) A (letTemporaryGo value o r >>= fun _=>pure r) Q E s₃) E s₂:=by
  rw[hs o i];exact wpAny_operating (Au h₂ (fun r s₃ h₃=>AE (wpAny_letTemporaryGo (AR h₃))) fun _ _ x=>x)
 first
  | exact AR (AE fin)
  | exact AE (AR (AE fin))
  | exact AE fin
theorem a5U {X:Cx}{pins:List (AA×Obj)}{σ:St}{H:Hp}{s:AD}{a:AA}{y:V}{o:Option V}(I:Inv X pins σ H s)(g:DGet H a y o):s.TypeIs (.ref a) "dict" := by
 rcases g with⟨kvs,k,e,_,_⟩|⟨kvs,k,b,e,_,_,_⟩
 ·obtain⟨_,_,vs,_,dd⟩:=a5Z I.hok e;exact dd.typeIs
 ·obtain⟨_,_,xs,_,dd⟩:=a8M I.hok e;exact dd.typeIs
noncomputable def aOG (td ty:TE):TE:=fun σ H Q=>td σ H fun x H1=>ty σ H1 fun y H2=>∃ a v,x=.ref a∧DGet H2 a y (some v)∧Q v H2
noncomputable def aVP (ty td:TE):TE:=fun σ H Q=>ty σ H fun y H1=>td σ H1 fun x H2=>∃ a o,x=.ref a∧DGet H2 a y o∧Q (.bl o.isSome) H2
noncomputable def aR4 (td ty tv:TE):TS:=fun D σ H=>tv σ H fun v H1=>td σ H1 fun x H2=>ty σ H2 fun y H3=>∃ a H4,x=.ref a∧DPut H3 a y v H4∧D.nx σ H4
section
variable {X:Cx}{o i e value:AJ}{pos pos' tpos:Pos}{td ty tv:TE}
theorem aKJ (hu:X.A.units+1<BJ)(ho:PE X o td)(hi:PE X i ty)(hs:aVO i):PE X (.Subscript o i pos) (aOG td ty):=by
 intro pins s σ H Q I h;refine aKW PySem.F.slot_dict_getitem.lookup hs (thn (ho pins s σ H _ I h) fun u s1 ⟨x,H1,I1,rx,q1⟩=>thn (hi pins s1 σ H1 _ I1 q1) fun iv s2 ⟨y,H2,I2,ry,a,v,ex,g,q2⟩=>?_);subst ex;obtain rfl:u=Aa a:=rx;exact⟨a5U I2 g,aBT hu I2 g ry fun w' s3 I3 rw'=>⟨v,H2,I3,rw',q2⟩⟩
theorem aNL (hu:X.A.units+1<BJ)(hi:PE X i ty)(ho:PE X o td):PC X .In i o (aVP ty td):=by
 intro pins s σ H Q I h;refine thn (hi pins s σ H _ I h) fun iv s1 ⟨y,H1,I1,ry,q1⟩=>thn (ho pins s1 σ H1 _ I1 q1) fun u s2 ⟨x,H2,I2,rx,a,ov,ex,g,q2⟩=>?_;subst ex;obtain rfl:u=Aa a:=rx;exact aWT hu I2 g ry fun s3 I3=>⟨.bl ov.isSome,H2,I3,rfl,q2⟩
theorem aBL (hu:X.A.units+1<BJ)(ho:PE X o td)(hi:PE X i ty)(hv:PE X value tv)(hs:Br value (some (.Subscript o i pos')) pos.line X.env=pure false) :
  PS X (.Assign [.Subscript o i pos'] value pos) (aR4 td ty tv):=by
 intro pins s σ H D I h;refine wpAny_Assign_Subscript (thn (hv pins s σ H _ I h) fun r s1 ⟨v,H1,I1,rv,q1⟩=>thn (ho pins s1 σ H1 _ I1 q1) fun u s2 ⟨x,H2,I2,rx,q2⟩=>thn (hi pins s2 σ H2 _ I2 q2) fun iv s3 ⟨y,H3,I3,ry,a,H4,ex,g,q3⟩=>?_) hs;subst ex;obtain rfl:u=Aa a:=rx;exact aC9 hu I3 g ry rv fun s4 I4=>⟨σ,H4,I4,q3⟩
end
theorem a7U {P:AQ}{w:AK}{H:Hp}(h:AG)(hb:Bq<h.objs.size):ObjOk P w H (h.push { cls:=.type "dict", data:=.dict #[] }) h.objs.size (.dK []):=
 ⟨Be _,beq_eq_false_iff_ne.mpr (Am (Aw hb)),[],.nil,AG.DictOf.new h⟩
noncomputable def aO7:TE:=fun _ H Q=>∀ p,H p=none→Q (.ref p) (upd H p (.dK []))
section
variable {X:Cx}{pos:Pos}
theorem aGO:PE X (.Dict [] [] pos) aO7:=fun pins s σ H Q I h=>
 wpAny_Dict_empty ⟨.ref s.heap.objs.size,_,I.laid (a:=s.heap.objs.size) (o:=.dK []) (t':=s.toks) (fun _ _ q=>AZ _ q) (AV _) (a7U s.heap I.big),rfl,h _ (I.hok.fresh (AV _))⟩
end
noncomputable def a7B:List (TE×TE)→St→Hp→(List (V×V)→Hp→Prop)→Prop
 | [],_,H,Q=>Q [] H
 | (tk,tv)::r,σ,H,Q=>tk σ H fun x H1=>tv σ H1 fun y H2=>a7B r σ H2 fun ps H3=>Q ((x,y)::ps) H3
abbrev VV:List (V×V)→List (AB×AB)→Prop:=Al fun p q=>RelV p.1 q.1∧RelV p.2 q.2
noncomputable def PPs (X:Cx)(pos:Pos)(keys:List (Option AJ))(values:List AJ)(trs:List (TE×TE)):Prop:=
 ∀(pins:List (AA×Obj)) (s:AD) (σ:St) (H:Hp) (Q:List (V×V)→Hp→Prop),Inv X pins σ H s→a7B trs σ H Q →
  AF (AI X.prog X.w) X.A (evalPairs (pairTrees keys values X.env pos)) (fun vs s'=>∃ ps H',Inv X pins σ H' s'∧VV ps vs∧Q ps H') X.xe s
theorem aJN {X:Cx}{pos:Pos}:PPs X pos [] [] []:=fun pins s σ H Q I h=>pairTrees_nil_walk ⟨[],H,I,.nil,h⟩
theorem aEY {X:Cx}{pos:Pos}{k v:AJ}{ks:List (Option AJ)}{vs:List AJ}{tk tv:TE}{trs:List (TE×TE)}(hk:PE X k tk)(hv:PE X v tv)(hr:PPs X pos ks vs trs) :
  PPs X pos (some k::ks) (v::vs) ((tk,tv)::trs):=fun pins s σ H Q I h=>
 pairTrees_cons_walk (thn (hk pins s σ H _ I h) fun u s1 ⟨x,H1,I1,rx,q1⟩=>thn (hv pins s1 σ H1 _ I1 q1) fun w2 s2 ⟨y,H2,I2,ry,q2⟩=>
  thn (hr pins s2 σ H2 _ I2 q2) fun ws s3 ⟨ps,H3,I3,rel,q3⟩=>⟨(x,y)::ps,H3,I3,.cons ⟨rx,ry⟩ rel,q3⟩)
noncomputable def wC (kvs more:List (Key×V)):List (Key×V):=more.foldl (fun acc kv=>putK acc kv.1 kv.2) kvs
theorem KV.merge:∀{more:List (Key×V)} {rs:List (Key×AB)} {kvs:List (Key×V)} {vs:List (Key×AB)},KV more rs→KV kvs vs→KV (wC kvs more) (merged vs rs):=by
 intro more rs kvs vs r;unfold KV at r
 induction r generalizing kvs vs with
 | nil=>intro q; exact q
 | @cons p q ps qs h t ih=>
  intro r0;have e:KV (putK kvs p.1 p.2) (stored vs q.1 q.2):=by
   have:=r0.put p.1 h.2;rw[← h.1]; exact this
  exact ih e
theorem sW:∀(more kvs:List (Key×V)),(wC kvs more).length≤kvs.length+more.length
 | [],kvs=>by show kvs.length≤kvs.length+0; omega
 | p::r,kvs=>by
  have h1:=sW r (putK kvs p.1 p.2);have h2:=qU kvs p.1 p.2
  show(wC (putK kvs p.1 p.2) r).length≤_
  rw[Af]; omega
theorem a0E {P:AQ}{w:AK}:∀{kvs:List (Key×V)} {ws:List (AB×AB)},VV (kvs.map fun kv=>(kV kv.1,kv.2)) ws→∃ rs,Carries (dJ P w) ws rs∧KV kvs rs
 | [],_,r=>by rw[ED] at r; cases r; exact⟨[],True.intro,.nil⟩
 | p::kvs,_,r=>by
  rw[A2] at r
  cases r with
  | @cons a b as bs h t=>
   obtain⟨rs,c,q⟩:=a0E (P:=P) (w:=w) t;obtain⟨b1,b2⟩:=b;exact⟨(p.1,b2)::rs,⟨a3I h.1,rfl,c⟩,.cons ⟨rfl,h.2⟩ q⟩
noncomputable def aLV (trs:List (TE×TE)):TE:=fun σ H Q=>∀ p,H p=none→a7B trs σ (upd H p (.dK [])) fun ps H2=>H2 p=some (.dK [])∧∃ kvs:List (Key×V),ps=kvs.map (fun kv=>(kV kv.1,kv.2))∧kvs.length≤15∧Q (.ref p) (upd H2 p (.dK (wC [] kvs)))
theorem aJ2 {X:Cx}{pos:Pos}{keys:List (Option AJ)}{values:List AJ}{trs:List (TE×TE)}(h:PPs X pos keys values trs)(hall:keys.all (·.isSome)=true)(hl:keys.length=values.length)(h0:keys≠[])
  (h15:keys.length≤15):PE X (.Dict keys values pos) (aLV trs):=by
 intro pins s σ H Q I q;have hn:=I.hok.fresh (AV s.heap.objs.size);have I1:=I.laid (a:=s.heap.objs.size) (o:=.dK []) (h':=s.heap.push { cls:=.type "dict", data:=.dict #[] }) (t':=s.toks) (fun _ _ q=>AZ _ q) (AV _) (a7U s.heap I.big);refine wpAny_Dict_walk (knd:=dJ X.prog X.w) hall hl h0 h15 (thn (h pins _ σ _ _ I1 (q _ hn)) fun ws s2 ⟨ps,H2,I2,rel,e,kvs,ep,lk,q2⟩=>?_);subst ep;obtain⟨rs,c,rk⟩:=a0E (P:=X.prog) (w:=X.w) rel;obtain⟨z,hd,vs0,r0,dd⟩:=aFX I2.hok e
 cases r0
 refine⟨rs,c,dd,fun h' dd' hs=>⟨.ref s.heap.objs.size,_,?_,rfl,q2⟩⟩;have hz:(wC [] kvs).length≤sizeLine:=by
  have h1:=sW kvs [];rw[Cm] at h1;rw[Bv]; omega
 have he:∃ q,h'.get? s.heap.objs.size=some q:=let ⟨q,_,_,hq,_⟩:=dd'; ⟨q,hq⟩;exact zM I2 (by rw[e]; exact True.intro) hs he (a6U hz hd (rk.merge .nil) dd')
structure M1 (X:Cx)(o:AJ)(m:Str)(apos:Pos)(e:AJ)(cpos:Pos):Prop where
 base:DM o m X.env (eval o X.env)=eval o X.env
 few:((BG cpos (AX [e] X.env)).all (fun x => !x.1)&&(Dl cpos (Dm [] X.env)).all (fun x=>x.1.isSome)
  && decide (([e]:List AJ).length+([]:List Ea).length+(if ([]:List Ea).isEmpty then 0 else 1)<30))=true
 line:(apos.endLine==cpos.line)=true
 trees:BG cpos (AX [e] X.env)=[(false,eval e X.env)]
noncomputable def IsD (H:Hp)(a:AA):Prop:=(∃ kvs,Rd H a (.dK kvs))∨∃ kvs,Rd H a (.dT kvs)
theorem aIM {X:Cx}{pins:List (AA×Obj)}{σ:St}{H:Hp}{s:AD}{a:AA}(I:Inv X pins σ H s)(d:IsD H a) :
  s.TypeIs (.ref a) "dict" ∧ (∀ b,Aa a=.ref b→∃ ob,s.heap.get? b=some ob∧ob.dict=none)∧(a==Bq)=false:=by
 rcases d with⟨kvs,e⟩|⟨kvs,e⟩
 ·obtain⟨_,hd,vs,_,dd⟩:=a5Z I.hok e;refine⟨dd.typeIs,fun b q=>?_,hd⟩
  cases q
  obtain⟨ob,_,_,h1,h2,_⟩:=dd;exact⟨ob,h1,h2.2.1⟩
 ·obtain⟨_,hd,xs,_,dd⟩:=a8M I.hok e;refine⟨dd.typeIs,fun b q=>?_,hd⟩
  cases q
  obtain⟨ob,_,_,h1,h2,_⟩:=dd;exact⟨ob,h1,h2.2.1⟩
section
variable {X:Cx}{pins:List (AA×Obj)}{σ:St}{H:Hp}{s:AD}{a:AA}{y d:V}{u r:AB}{o:Option V}{A:AU}{E:AB→AD→Prop}
theorem aNX {Q:AB→AD→Prop}(hu:A.units+1<BJ)(I:Inv X pins σ H s)(g:DGet H a y o)(ry:RelV y u)(h:∀ w' s',Inv X pins σ H s'→RelV (o.getD .non) w'→Q w' s') :
  AF (AI X.prog X.w) A (call (.builtin "dict.get") [.ref a,u]) Q E s:=by
 rcases g with⟨kvs,k,e,ey,l⟩|⟨kvs,k,b,e,ey,eb,l⟩
 ·subst ey;obtain⟨z,hd,vs,rel,dd⟩:=a5Z I.hok e;refine FQ Fy dd.typeIs Gb (Gc _ _) (meets_dict_get (dJ X.prog X.w) a (a3I ry) hd) ⟨_,dd.mapOf,h _ _ (I.tok _) ?_⟩;rw[l];exact(rel.val k).getD rfl
 ·subst ey
  cases(show u=Aa b from ry)
  obtain⟨z,hd,xs,rel,dd⟩:=a8M I.hok e;refine FQ Fy dd.typeIs Gb (Gc _ _) (meetsH_dict_get (Dd (dJ X.prog X.w)) a b hd) ⟨FP hu,k,xs,a3F I.hok eb,dd,h _ _ (I.tok _) ?_⟩;rw[l];exact(rel.val k).getD rfl
end
noncomputable def aHT (td ty:TE):TE:=fun σ H Q=>td σ H fun x H1=>∃ a,x=.ref a∧IsD H1 a∧ty σ H1 fun y H2=>∃ o,DGet H2 a y o∧Q (o.getD .non) H2
noncomputable def aI3 (td ty:TE):TE:=fun σ H Q=>td σ H fun x H1=>∃ a,x=.ref a∧IsD H1 a∧ty σ H1 fun y H2=>∃ kvs k v,H2 a=some (.dK kvs)∧y=kV k∧xF kvs k=some v∧Q v (upd H2 a (.dK (v6 kvs k)))
section
variable {X:Cx}{o e f:AJ}{apos cpos:Pos}{td ty tx:TE}
theorem aEN (hu:X.A.units+1<BJ)(ho:PE X o td)(he:PE X e ty)(m:M1 X o "get" apos e cpos):PE X (.Call (.Attribute o "get" apos) [e] [] cpos) (aHT td ty):=by
 intro pins s σ H Q I h;refine wpAny_Call_method m.base m.few m.line Ge Fy PySem.F.type_dict_get (thn (ho pins s σ H _ I h) fun u s1 ⟨x,H1,I1,rx,a,ex,d,q1⟩=>?_);subst ex;obtain rfl:u=Aa a:=rx;obtain⟨t1,t2,_⟩:=aIM I1 d;refine⟨t1,t2,?_⟩;rw[m.trees];refine Do rfl (Dp (Cw (thn (he pins s1 σ H1 _ I1 q1) fun iv s2 ⟨y,H2,I2,ry,ov,g,q2⟩=>Fp ?_)));exact aNX hu I2 g ry fun w' s3 I3 rw'=>⟨_,H2,I3,rw',q2⟩
theorem aGG (ho:PE X o td)(he:PE X e ty)(m:M1 X o "pop" apos e cpos):PE X (.Call (.Attribute o "pop" apos) [e] [] cpos) (aI3 td ty):=by
 intro pins s σ H Q I h;refine wpAny_Call_method m.base m.few m.line Ge Ga PySem.F.type_dict_pop (thn (ho pins s σ H _ I h) fun u s1 ⟨x,H1,I1,rx,a,ex,d,q1⟩=>?_);subst ex;obtain rfl:u=Aa a:=rx;obtain⟨t1,t2,_⟩:=aIM I1 d;refine⟨t1,t2,?_⟩;rw[m.trees];refine Do rfl (Dp (Cw (thn (he pins s1 σ H1 _ I1 q1) fun iv s2 ⟨y,H2,I2,ry,kvs,k,v,ea,ey,l,q2⟩=>Fp ?_)));subst ey;exact aT9 I2 ea ry l (.inl rfl) fun w' s3 I3 rw'=>⟨v,_,I3,rw',q2⟩
end
section
variable {X:Cx}{pins:List (AA×Obj)}{σ:St}{H:Hp}{s:AD}{a:AA}{kvs:List (Key×V)}{A:AU}{E:AB→AD→Prop}
end
section
variable {X:Cx}{pins:List (AA×Obj)}{σ:St}{H:Hp}{s:AD}{a:AA}{y:V}{u:AB}{A:AU}{E:AB→AD→Prop}
end
end L2
namespace L2
open PySem PySem.Spec PyProof.Rows
section
variable {κ:Type}[DecidableEq κ]
theorem aM7 {kvs:List (κ×V)}{k:κ}{v:V}(h:xF kvs k=some v):k∈kvs.map (·.1):=by
 have q:(kvs.any fun kv=>decide (kv.1=k))=true:=by
  rw[tU,h]
  all_goals rfl
 obtain⟨p,hp,e⟩:=D5.mp q;exact Ax.mpr ⟨p,hp,of_decide_eq_true e⟩
theorem aEE {p:κ×V}{r:List (κ×V)}{k:κ}(e:p.1=k):v6 (p::r) k=v6 r k:=by
 unfold v6;rw[C8,if_neg (by simp[e])]
theorem aC0 {p:κ×V}{r:List (κ×V)}{k:κ}(e:¬p.1=k):v6 (p::r) k=p::v6 r k:=by
 unfold v6;rw[C8,if_pos (by simp[e])]
end
end L2
abbrev Fg:=Ab
abbrev Mg:=AC→Option PySem.Value
namespace L2.VS
open PySem PySem.Spec PyProof.Rows
section
abbrev D:=AH
structure Pb where
 P:V→Hp→Prop
 mono:∀{v G G'},Same G G'→P v G→P v G'
structure Bx where
 P:V→List AA→Hp→Hp→Prop
 mono:∀{v fp G G' H},Same G G'→P v fp G H→P v fp G' H
 loc:∀{v fp G H H'},(∀ b∈fp,H' b=H b)→P v fp G H→P v fp G H'
 dom:∀{v fp G H},P v fp G H→∀ b∈fp,∃ o,H b=some o
 uniq:∀{v fp fp' G H},P v fp G H→P v fp' G H→fp=fp'
 nt:∀{v fp G H},P v fp G H→∀ b∈fp,∀ xs,H b=some (.tup xs)→∃ q∈fp,V.ref q∈xs∧∃ vs,H q=some (.lst vs)
 view:Option D
 vok:∀{v fp G H G' d},P v fp G H→view=some d→Same G G'→(∀ b∈fp,G' b=H b)→Dt G' v d
 pv:Option Pb:=none
 pok:∀{v fp G H G' B},P v fp G H→pv=some B→Same G G'→(∀ b∈fp,G' b=H b)→B.P v G':=by intro _ _ _ _ _ _ _ z; cases z
inductive Sl where
 | no|val (d:D)|own (ds:List D)|pen|con (p:AA)|box (B:Bx)|pub (B:Pb)
abbrev En:=List Sl
inductive Rv where
 | val (d:D)|own (ds:List D)|box (B:Bx)
def Rv.d:Rv→D
 | .val d=>d
 | .own ds=>.list ds
 | .box B=>B.view.getD .none
def Rv.sl:Rv→Sl
 | .val d=>.val d
 | .own ds=>.own ds
 | .box B=>.box B
inductive Fl where
 | nx (Γ:En)|rt (r:Rv)|bk (Γ:En)|ct (Γ:En)
variable {P0:AA→Hp→Prop}
structure Fra (P0:AA→Hp→Prop) where
 H0:Hp
 G0:Hp
 pen:Option AA
 stab:∀ p,pen=some p→∀ H H',(∀ b o,H0 b=some o→H' b=H b)→P0 p H→P0 p H'
 pin:∀ p,pen=some p→∀ H,P0 p H→∃ o,H p=some o
 pin0:∀ p,pen=some p→∃ o,H0 p=some o
 pg:∀ p,pen=some p→G0 p=none
def Fra.PI (F:Fra P0)(H:Hp):Prop:=∀ p,F.pen=some p→P0 p H
theorem Fra.stab' (F:Fra P0):∀ H H',(∀ b o,F.H0 b=some o→H' b=H b)→F.PI H→F.PI H':=fun H H' h pi p e=>F.stab p e H H' h (pi p e)
structure Rf (F:Fra P0)(G H:Hp):Prop where
 sub:Same G H
 g0:∀ b o,F.H0 b=some o→G b=F.G0 b
 h0:∀ b o,F.H0 b=some o→F.pen≠some b→H b=some o
 pn:F.PI H
def SlF (F:Fra P0)(G H:Hp)(x:Option (Option V))(fp:List AA):Sl→Prop
 | .no=>fp=[]
 | .val d=>fp=[]∧∃ v,x=some (some v)∧Dt G v d
 | .own ds=>∃ p vs,fp=[p]∧x=some (some (.ref p))∧F.H0 p=none∧G p=none∧H p=some (.lst vs)∧Dts G vs ds
 | .pen=>fp=[]∧∃ p,x=some (some (.ref p))∧F.pen=some p
 | .con p=>fp=[]∧x=some (some (.ref p))
 | .pub B=>fp=[]∧∃ v,x=some (some v)∧B.P v G
 | .box B=>∃ v,x=some (some v)∧B.P v fp G H∧∀ b∈fp,F.H0 b=none∧G b=none
def aSG (F:Fra P0)(G H:Hp)(x:Option (Option V)):Sl→Prop
 | .no=>True
 | .val d=>∃ v,x=some (some v)∧Dt G v d
 | .own ds=>∃ p vs,x=some (some (.ref p))∧F.H0 p=none∧G p=none∧H p=some (.lst vs)∧Dts G vs ds
 | .pen=>∃ p,x=some (some (.ref p))∧F.pen=some p
 | .con p=>x=some (some (.ref p))
 | .pub B=>∃ v,x=some (some v)∧B.P v G
 | .box B=>∃ v fp,x=some (some v)∧B.P v fp G H∧∀ b∈fp,F.H0 b=none∧G b=none
theorem SlF.ok {F:Fra P0}{G H:Hp}{x:Option (Option V)}{fp:List AA}:∀{s:Sl},SlF F G H x fp s→aSG F G H x s
 | .no,_=>trivial
 | .val _,h=>h.2
 | .own _,h=>let ⟨p,vs,_,r⟩:=h; ⟨p,vs,r⟩
 | .pen,h=>h.2
 | .con _,h=>h.2
 | .pub _,h=>h.2
 | .box _,h=>let ⟨v,r⟩:=h; ⟨v,fp,r⟩
theorem SlF.mine {F:Fra P0}{G H:Hp}{x:Option (Option V)}{fp:List AA}{b:AA}(hb:b∈fp):∀{s:Sl},SlF F G H x fp s→F.H0 b=none∧G b=none∧∃ o,H b=some o
 | .no,h=>by rw[show fp=[] from h] at hb; cases hb
 | .val _,h=>by rw[h.1] at hb; cases hb
 | .own _,h=>by
  obtain⟨p,vs,e,_,h1,h2,h3,_⟩:=h;rw[e] at hb;rw[AW.mp hb];exact⟨h1,h2,_,h3⟩
 | .pen,h=>by rw[h.1] at hb; cases hb
 | .con _,h=>by rw[h.1] at hb; cases hb
 | .pub _,h=>by rw[h.1] at hb; cases hb
 | .box B,h=>by
  obtain⟨v,_,h2,h3⟩:=h;exact⟨(h3 b hb).1,(h3 b hb).2,B.dom h2 b hb⟩
theorem SlF.go {F:Fra P0}{G H G' H':Hp}{x:Option (Option V)}{fp:List AA}(g:Same G G')(k:∀ b∈fp,G' b=none∧H' b=H b):∀{s:Sl},SlF F G H x fp s→SlF F G' H' x fp s
 | .no,h=>h
 | .val _,h=>let ⟨e,v,e1,d1⟩:=h; ⟨e,v,e1,Dt.same g _ _ d1⟩
 | .own _,h=>by
  obtain⟨p,vs,e,e1,e2,e3,e4,e5⟩:=h;have:=k p (by rw[e]; exact AW.mpr rfl);exact⟨p,vs,e,e1,e2,this.1,this.2.trans e4,Dts.same g _ _ e5⟩
 | .pen,h=>h
 | .con _,h=>h
 | .pub B,h=>let ⟨e,v,e1,d1⟩:=h; ⟨e,v,e1,B.mono g d1⟩
 | .box B,h=>by
  obtain⟨v,h1,h2,h3⟩:=h;exact⟨v,h1,B.loc (fun b hb=>(k b hb).2) (B.mono g h2),fun b hb=>⟨(h3 b hb).1,(k b hb).1⟩⟩
structure R (F:Fra P0)(Γ:En)(σ:St)(G H:Hp):Prop where
 fr:Rf F G H
 len:Γ.length=σ.length
 fps:∃ fps:Nat→List AA,(∀(i:Nat) s,Γ[i]?=some s→SlF F G H σ[i]? (fps i) s)∧∀(i j:Nat) (s t:Sl),Γ[i]?=some s→Γ[j]?=some t→i≠j→∀ b∈fps i,b∉fps j
theorem R.sl {F:Fra P0}{Γ:En}{σ:St}{G H:Hp}(r:R F Γ σ G H)(i:Nat)(s:Sl)(e:Γ[i]?=some s):aSG F G H σ[i]? s:=
 let ⟨_,h,_⟩:=r.fps; (h i s e).ok
theorem R.of {F:Fra P0}{Γ:En}{σ:St}{G H:Hp}(fr:Rf F G H)(len:Γ.length=σ.length)(sl:∀(i:Nat) s,Γ[i]?=some s→aSG F G H σ[i]? s)(nb:∀(i:Nat) B,Γ[i]?≠some (.box B))
  (ap:∀(i j:Nat) x y,i≠j→Γ[i]?=some (.own x)→Γ[j]?=some (.own y)→σ[i]?≠σ[j]?):R F Γ σ G H:=by
 refine⟨fr,len,fun i=>match Γ[i]?,σ[i]? with|some (.own _),some (some (.ref p))=>[p]|_,_=>[],fun i s e=>?_,fun i j s t ei ej hij b hb hc=>?_⟩
 ·have h:=sl i s e
  cases s with
  | no=>simp only[e]; rfl
  | val d=>simp only[e]; exact⟨rfl,h⟩
  | own ds=>
   obtain⟨p,vs,e1,r⟩:=h;simp only[e,e1];exact⟨p,vs,rfl,rfl,r⟩
  | pen=>simp only[e]; exact⟨rfl,h⟩
  | con q=>simp only[e]; exact⟨rfl,h⟩
  | pub B=>simp only[e]; exact⟨rfl,h⟩
  | box B=>exact absurd e (nb i B)
 ·simp only[ei] at hb;simp only[ej] at hc
  cases s with
  | own x=>
   cases t with
   | own y=>
    split at hb
    ·rename_i p _ e1
     split at hc
     ·rename_i q _ e2
      have e1:=AW.mp hb;have e2:=AW.mp hc;exact ap i j x y hij ei ej (by simp_all)
     ·cases hc
    ·cases hb
   | _=>simp at hc
  | _=>simp at hb
section
variable {F:Fra P0}{Γ:En}{σ:St}{G H G' H':Hp}{p:AA}{o:HO}
theorem Rf.dom (h:Rf F G H){b:AA}(e:F.H0 b=some o):∃ o',H b=some o':=by
 by_cases hb:F.pen=some b
 ·exact F.pin b hb H (h.pn b hb)
 ·exact⟨o,h.h0 b o e hb⟩
theorem Rf.fresh (h:Rf F G H)(hp:H p=none):F.H0 p=none:=by
 cases e:F.H0 p with
 | none=>rfl
 | some o=>
  obtain⟨o',e'⟩:=h.dom e;rw[hp] at e'; cases e'
theorem Rf.gfresh (h:Rf F G H)(hp:H p=none):G p=none:=h.sub.free hp
theorem Rf.pub (h:Rf F G H)(hp:H p=none):Rf F (upd G p o) (upd H p o):=by
 have hf:=h.fresh hp;have hn:∀ b u,F.H0 b=some u→b≠p:=fun b u e z=>by rw[z,hf] at e; cases e
 refine⟨fun b u e=>?_,fun b u e=>?_,fun b u e hb=>?_,F.stab' H _ (fun b u e=>bA (hn b u e)) h.pn⟩
 ·by_cases hb:b=p
  ·subst hb; rw[aW] at e; cases e; exact aW
  ·rw[bA hb] at e ⊢; exact h.sub b u e
 ·rw[bA (hn b u e)]; exact h.g0 b u e
 ·rw[bA (hn b u e)]; exact h.h0 b u e hb
theorem Rf.priv (h:Rf F G H)(hp:F.H0 p=none)(hg:G p=none):Rf F G (upd H p o):=by
 have hn:∀ b u,F.H0 b=some u→b≠p:=fun b u e z=>by rw[z,hp] at e; cases e
 refine⟨fun b u e=>?_,h.g0,fun b u e hb=>?_,F.stab' H _ (fun b u e=>bA (hn b u e)) h.pn⟩
 ·rw[bA (bJ e hg)]; exact h.sub b u e
 ·rw[bA (hn b u e)]; exact h.h0 b u e hb
theorem Rf.give (h:Rf F G H)(hp:F.H0 p=none)(hH:H p=some o):Rf F (upd G p o) H:=by
 have hn:∀ b u,F.H0 b=some u→b≠p:=fun b u e z=>by rw[z,hp] at e; cases e
 refine⟨fun b u e=>?_,fun b u e=>?_,h.h0,h.pn⟩
 ·by_cases hb:b=p
  ·subst hb; rw[aW] at e; cases e; exact hH
  ·rw[bA hb] at e; exact h.sub b u e
 ·rw[bA (hn b u e)]; exact h.g0 b u e
def R.Has (_:R F Γ σ G H)(b:AA):Prop:=∃(i:Nat) (s:Sl) (fp:List AA),Γ[i]?=some s∧SlF F G H σ[i]? fp s∧b∈fp
theorem R.keep (r:R F Γ σ G H)(f:Rf F G' H')(g:Same G G')
  (k:∀ b o,r.Has b→F.H0 b=none→G b=none→H b=some o→G' b=none∧H' b=some o):R F Γ σ G' H':=by
 obtain⟨fps,h1,h2⟩:=r.fps;refine⟨f,r.len,fps,fun i s e=>(h1 i s e).go g fun b hb=>?_,h2⟩;obtain⟨m1,m2,o,m3⟩:=(h1 i s e).mine hb;obtain⟨k1,k2⟩:=k b o ⟨i,s,fps i,e,h1 i s e,hb⟩ m1 m2 m3;exact⟨k1,k2.trans m3.symm⟩
theorem R.new (r:R F Γ σ G H)(hp:H p=none):R F Γ σ (upd G p o) (upd H p o):=by
 refine r.keep (r.fr.pub hp) (fM (r.fr.gfresh hp) o) fun q u _ _ g h=>?_;have hq:q≠p:=bJ h hp;rw[bA hq,bA hq];exact⟨g,h⟩
theorem R.newP (r:R F Γ σ G H)(hp:H p=none):R F Γ σ G (upd H p o):=by
 refine r.keep (r.fr.priv (r.fr.fresh hp) (r.fr.gfresh hp)) (Same.refl _) fun q u _ _ g h=>?_;have hq:q≠p:=bJ h hp;rw[bA hq];exact⟨g,h⟩
def RvO (F:Fra P0)(G H:Hp)(r:V):Rv→Prop
 | .val d=>Dt G r d
 | .own ds=>∃ p vs,r=.ref p∧F.H0 p=none∧G p=none∧H p=some (.lst vs)∧Dts G vs ds
 | .box B=>∃ fp,B.P r fp G H∧∀ b∈fp,F.H0 b=none∧G b=none
def Apart (F:Fra P0)(Γ:En)(σ:St)(G H:Hp)(r:V):Rv→Prop
 | .val _=>True
 | .own _=>∀(i:Nat) s fp,Γ[i]?=some s→SlF F G H σ[i]? fp s→∀ p,r=.ref p→p∉fp
 | .box B=>∀(i:Nat) s fp f,Γ[i]?=some s→SlF F G H σ[i]? fp s→B.P r f G H→∀ b∈f,b∉fp
theorem R.give (r:R F Γ σ G H){v:V}{ds:List D}(h:RvO F G H v (.own ds))(ha:Apart F Γ σ G H v (.own ds)):∃ G',Same G G'∧R F Γ σ G' H∧Dt G' v (.list ds):=by
 obtain⟨p,vs,rfl,e1,e2,e3,e4⟩:=h;have g:=fM e2 (.lst vs);refine⟨upd G p (.lst vs),g,r.keep (r.fr.give e1 e3) g fun q u hq _ eg eh=>⟨?_,eh⟩,.lst aW (Dts.same g _ _ e4)⟩;have hqp:q≠p:=fun z=>by
  obtain⟨i,s,fp,a1,a2,a3⟩:=hq;rw[z] at a3;exact ha i s fp a1 a2 p rfl a3
 rw[bA hqp];exact eg
theorem R.giveB (r:R F Γ σ G H){v:V}{B:Bx}{d:D}(h:RvO F G H v (.box B))(ha:Apart F Γ σ G H v (.box B))(hv:B.view=some d):∃ G',Same G G'∧R F Γ σ G' H∧Dt G' v d:=by
 obtain⟨fp,e1,e2⟩:=h;have g:Same G (fun b=>if b∈fp then H b else G b):=fun b o e=>by
  show(if b∈fp then H b else G b)=some o
  rw[if_neg (fun z=>by rw[(e2 b z).2] at e; cases e)];exact e
 refine⟨fun b=>if b∈fp then H b else G b,g,r.keep ⟨fun b o e=>?_,fun b o e=>?_,r.fr.h0,r.fr.pn⟩ g fun q u hq _ eg eh=>⟨?_,eh⟩,B.vok e1 hv g fun b hb=>if_pos hb⟩
 ·have e:(if b∈fp then H b else G b)=some o:=e
  split at e
  ·exact e
  ·exact r.fr.sub b o e
 ·show(if b∈fp then H b else G b)=_
  rw[if_neg (fun z=>by rw[(e2 b z).1] at e; cases e)];exact r.fr.g0 b o e
 ·obtain⟨i,s,f,a1,a2,a3⟩:=hq
  show(if q∈fp then H q else G q)=none
  rw[if_neg fun z=>ha i s f fp a1 a2 e1 q z a3];exact eg
theorem R.set (r:R F Γ σ G H){i:Nat}{v:V}{rv:Rv}(h:RvO F G H v rv)(ha:Apart F Γ σ G H v rv):R F (Γ.set i rv.sl) (σ.set i (some v)) G H:=by
 obtain⟨fps,h1,h2⟩:=r.fps;obtain⟨fp,hf,hd⟩:∃ fp,SlF F G H (some (some v)) fp rv.sl∧∀(j:Nat) s,Γ[j]?=some s→∀ b∈fp,b∉fps j:=by
  cases rv with
  | val d=>exact⟨[],⟨rfl,v,rfl,h⟩,fun j s _ b hb=>nomatch hb⟩
  | own ds=>
   obtain⟨p,vs,rfl,q⟩:=h;exact⟨[p],⟨p,vs,rfl,rfl,q⟩,fun j s ej b hb=>by rw[AW.mp hb]; exact ha j s (fps j) ej (h1 j s ej) p rfl⟩
  | box B=>
   obtain⟨fp,q1,q2⟩:=h;exact⟨fp,⟨v,rfl,q1,q2⟩,fun j s ej b hb=>ha j s (fps j) fp ej (h1 j s ej) q1 b hb⟩
 have lt:∀{m:Nat} {z},(Γ.set i rv.sl)[m]?=some z→m<Γ.length:=fun e=>by
  have:=(Aq.mp e).1;simpa using this
 have old:∀{m:Nat} {z},m≠i→(Γ.set i rv.sl)[m]?=some z→Γ[m]?=some z:=fun hm e=>by rw[BO (Am hm)] at e; exact e
 refine⟨r.fr,by rw[Bk,Bk]; exact r.len,fun j=>if j=i then fp else fps j,fun j s e=>?_,fun j k s t ej ek hjk b hb hc=>?_⟩
 ·dsimp only
  by_cases hj:j=i
  ·subst hj;have hi:=lt e;rw[BX hi] at e;rw[if_pos rfl,BX (by rw[← r.len]; exact hi)]
   cases e
   exact hf
  ·rw[if_neg hj,BO (Am hj)];exact h1 j s (old hj e)
 ·dsimp only at hb hc
  by_cases hj:j=i
  ·have hk:k≠i:=fun z=>hjk (hj.trans z.symm);rw[if_pos hj] at hb;rw[if_neg hk] at hc;exact hd k t (old hk ek) b hb hc
  ·rw[if_neg hj] at hb
   by_cases hk:k=i
   ·rw[if_pos hk] at hc;exact hd j s (old hj ej) b hc hb
   ·rw[if_neg hk] at hc;exact h2 j k s t (old hj ej) (old hk ek) hjk b hb hc
theorem R.setV (r:R F Γ σ G H){i:Nat}{v:V}{d:D}(h:Dt G v d):R F (Γ.set i (.val d)) (σ.set i (some v)) G H:=r.set (rv:=.val d) h trivial
theorem R.drop (r:R F Γ σ G H)(i:Nat):R F (Γ.set i .no) σ G H:=by
 obtain⟨fps,h1,h2⟩:=r.fps;have back:∀{m z},m≠i→(Γ.set i .no)[m]?=some z→Γ[m]?=some z:=fun{m z} hm e=>by rw[BO (Am hm)] at e; exact e
 refine⟨r.fr,by rw[Bk]; exact r.len,fun j=>if j=i then[] else fps j,fun j s e=>?_,fun j k s t ej ek hjk b hb hc=>?_⟩
 ·dsimp only
  by_cases hj:j=i
  ·subst hj;have hi:j<Γ.length:=by
    have:=(Aq.mp e).1;simpa using this
   rw[BX hi] at e
   cases e
   rw[if_pos rfl];rfl
  ·rw[if_neg hj];exact h1 j s (back hj e)
 ·dsimp only at hb hc
  by_cases hj:j=i
  ·rw[if_pos hj] at hb; cases hb
  ·rw[if_neg hj] at hb
   by_cases hk:k=i
   ·rw[if_pos hk] at hc; cases hc
   ·rw[if_neg hk] at hc;exact h2 j k s t (back hj ej) (back hk ek) hjk b hb hc
theorem R.writeF (r:R F Γ σ G H){i:Nat}{s0 s1:Sl}{H':Hp}(e:Γ[i]?=some s0)(fr:Rf F G H')(h:∀ fp,SlF F G H σ[i]? fp s0→∃ fp',SlF F G H' σ[i]? fp' s1∧(∀ b,b∉fp→(∃ o,H b=some o)→H' b=H b∧b∉fp')):R F (Γ.set i s1) σ G H':=by
 obtain⟨fps,h1,h2⟩:=r.fps;obtain⟨fp',w1,w2⟩:=h (fps i) (h1 i s0 e);have hi:i<Γ.length:=(Aq.mp e).1;have back:∀{m z},m≠i→(Γ.set i s1)[m]?=some z→Γ[m]?=some z:=fun{m z} hm e=>by rw[BO (Am hm)] at e; exact e
 have away:∀{j:Nat} {s:Sl},j≠i→Γ[j]?=some s→∀ b∈fps j,H' b=H b∧b∉fp':=fun hj ej b hb=>
  w2 b (fun z=>h2 _ i _ s0 ej e hj b hb z) ((h1 _ _ ej).mine hb).2.2
 refine⟨fr,by rw[Bk]; exact r.len,fun j=>if j=i then fp' else fps j,fun j s ej=>?_,fun j k s t ej ek hjk b hb hc=>?_⟩
 ·dsimp only
  by_cases hj:j=i
  ·subst hj;rw[BX hi] at ej
   cases ej
   rw[if_pos rfl];exact w1
  ·rw[if_neg hj];have e0:=back hj ej;exact(h1 j s e0).go (Same.refl _) fun b hb=>⟨((h1 j s e0).mine hb).2.1,(away hj e0 b hb).1⟩
 ·dsimp only at hb hc
  by_cases hj:j=i
  ·have hk:k≠i:=fun z=>hjk (hj.trans z.symm);rw[if_pos hj] at hb;rw[if_neg hk] at hc;exact(away hk (back hk ek) b hc).2 hb
  ·rw[if_neg hj] at hb
   by_cases hk:k=i
   ·rw[if_pos hk] at hc;exact(away hj (back hj ej) b hb).2 hc
   ·rw[if_neg hk] at hc;exact h2 j k s t (back hj ej) (back hk ek) hjk b hb hc
theorem R.write (r:R F Γ σ G H){i:Nat}{ds es:List D}{p:AA}{ws:List V}(e:Γ[i]?=some (.own ds))(ep:σ[i]?=some (some (.ref p)))(hw:Dts G ws es):R F (Γ.set i (.own es)) σ G (upd H p (.lst ws)):=by
 obtain⟨p',vs,e1,e2,e3,e4,e5⟩:=r.sl i _ e;rw[ep] at e1; cases e1;refine r.writeF e (r.fr.priv e2 e3) fun fp h=>?_;obtain⟨q,us,f0,f1,f2,f3,f4,f5⟩:=h;rw[ep] at f1; cases f1;refine⟨[p],⟨p,ws,rfl,ep,e2,e3,aW,hw⟩,fun b hb _=>?_⟩;have hbp:b≠p:=fun z=>hb (by rw[f0,z]; exact AW.mpr rfl);exact⟨bA hbp,fun z=>hbp (AW.mp z)⟩
end
abbrev ME:=En→(D→En→Prop)→Prop
abbrev MO:=En→(Rv→En→Prop)→Prop
abbrev MT:=En→(Bool→En→Prop)→Prop
abbrev MA:=En→(List Sl→En→Prop)→Prop
abbrev MD:=En→(List D→En→Prop)→Prop
abbrev MG:=D→En→(En→Prop)→Prop
abbrev MGs:=List D→En→(En→Prop)→Prop
abbrev MS:=En→(Fl→Prop)→Prop
abbrev Fm:=List Sl→(Rv→Prop)→Prop
def VT (P0:AA→Hp→Prop)(t:TE)(m:ME):Prop:=∀(F:Fra P0) (Γ:En) (σ:St) (G H:Hp) (Q:VK) (Qm:D→En→Prop),R F Γ σ G H→m Γ Qm →
 (∀ d Γ' r G' H',Qm d Γ'→Same G G'→R F Γ' σ G' H'→Dt G' r d→Q r H')→t σ H Q
def VO (P0:AA→Hp→Prop)(t:TE)(m:MO):Prop:=∀(F:Fra P0) (Γ:En) (σ:St) (G H:Hp) (Q:VK) (Qm:Rv→En→Prop),R F Γ σ G H→m Γ Qm →
 (∀ rv Γ' r G' H',Qm rv Γ'→Same G G'→R F Γ' σ G' H'→RvO F G' H' r rv→Apart F Γ' σ G' H' r rv→Q r H')→t σ H Q
def VTT (P0:AA→Hp→Prop)(t:TT)(m:MT):Prop:=∀(F:Fra P0) (Γ:En) (σ:St) (G H:Hp) (Q:Bool→Hp→Prop) (Qm:Bool→En→Prop),R F Γ σ G H→m Γ Qm →
 (∀ b Γ' G' H',Qm b Γ'→Same G G'→R F Γ' σ G' H'→Q b H')→t σ H Q
def VD (P0:AA→Hp→Prop)(t:TA)(m:MD):Prop:=∀(F:Fra P0) (Γ:En) (σ:St) (G H:Hp) (Q:List V→Hp→Prop) (Qm:List D→En→Prop),R F Γ σ G H→m Γ Qm →
 (∀ ds Γ' rs G' H',Qm ds Γ'→Same G G'→R F Γ' σ G' H'→Dts G' rs ds→Q rs H')→t σ H Q
def qQ (F:Fra P0)(G:Hp)(r:V):Sl→Prop
 | .val d=>Dt G r d
 | .pen=>∃ p,r=.ref p∧F.pen=some p
 | .con p=>r=.ref p
 | .pub B=>B.P r G
 | _=>False
def VA (P0:AA→Hp→Prop)(t:TA)(m:MA):Prop:=∀(F:Fra P0) (Γ:En) (σ:St) (G H:Hp) (Q:List V→Hp→Prop) (Qm:List Sl→En→Prop),R F Γ σ G H→m Γ Qm →
 (∀ as Γ' rs G' H',Qm as Γ'→Same G G'→R F Γ' σ G' H'→Al (qQ F G') rs as→Q rs H')→t σ H Q
def VG (P0:AA→Hp→Prop)(A:Nat→Bool)(g:TG)(m:MG):Prop:=∀(F:Fra P0) (Γ:En) (σ:St) (G H:Hp) (v:V) (d:D) (Q:St→Hp→Prop) (Qm:En→Prop),R F Γ σ G H→Dt G v d→m d Γ Qm →
 (∀ Γ' σ',Qm Γ'→R F Γ' σ' G H→(∀ i,A i=false→σ'[i]?=σ[i]?)→Q σ' H)→g v σ H Q
def VGs (P0:AA→Hp→Prop)(A:Nat→Bool)(g:TGs)(m:MGs):Prop:=∀(F:Fra P0) (Γ:En) (σ:St) (G H:Hp) (vs:List V) (ds:List D) (Q:St→Hp→Prop) (Qm:En→Prop),R F Γ σ G H→Dts G vs ds→m ds Γ Qm →
 (∀ Γ' σ',Qm Γ'→R F Γ' σ' G H→(∀ i,A i=false→σ'[i]?=σ[i]?)→Q σ' H)→g vs σ H Q
def Post (F:Fra P0)(A:Nat→Bool)(σ0:St)(G:Hp)(E:Ends):Fl→Prop
 | .nx Γ=>∀ σ G' H',Same G G'→R F Γ σ G' H'→(∀ i,A i=false→σ[i]?=σ0[i]?)→E.nx σ H'
 | .rt rv=>∀ r G' H',Same G G'→Rf F G' H'→RvO F G' H' r rv→E.rt r H'
 | .bk Γ=>∀ σ G' H',Same G G'→R F Γ σ G' H'→(∀ i,A i=false→σ[i]?=σ0[i]?)→E.bk σ H'
 | .ct Γ=>∀ σ G' H',Same G G'→R F Γ σ G' H'→(∀ i,A i=false→σ[i]?=σ0[i]?)→E.ct σ H'
def VSA (P0:AA→Hp→Prop)(A:Nat→Bool)(t:TS)(m:MS):Prop:=∀(F:Fra P0) (Γ:En) (σ:St) (G H:Hp) (E:Ends) (Qm:Fl→Prop),R F Γ σ G H→m Γ Qm→(∀ fl,Qm fl→Post F A σ G E fl)→t E σ H
abbrev aI8:Nat→Bool:=fun _=>true
abbrev VS (P0:AA→Hp→Prop)(t:TS)(m:MS):Prop:=VSA P0 aI8 t m
theorem Post.same {F:Fra P0}{A:Nat→Bool}{σ0 σ1:St}{G G':Hp}{E:Ends}(g:Same G G')(hσ:∀ i,A i=false→σ1[i]?=σ0[i]?):∀{fl:Fl},Post F A σ0 G E fl→Post F A σ1 G' E fl
 | .nx _,h=>fun σ G2 H2 s r e=>h σ G2 H2 (g.trans s) r fun i hi=>(e i hi).trans (hσ i hi)
 | .rt _,h=>fun r G2 H2 s=>h r G2 H2 (g.trans s)
 | .bk _,h=>fun σ G2 H2 s r e=>h σ G2 H2 (g.trans s) r fun i hi=>(e i hi).trans (hσ i hi)
 | .ct _,h=>fun σ G2 H2 s r e=>h σ G2 H2 (g.trans s) r fun i hi=>(e i hi).trans (hσ i hi)
def SsX (P0:AA→Hp→Prop)(X:Cx)(sts:List AL)(m:MS):Prop:=∃ t,PSs X sts t∧VS P0 t m
end
section
variable {P0:AA→Hp→Prop}
theorem _root_.L2.Dts.get {G:Hp}:∀{vs:List V} {ds:List D} {i:Nat} {d:D},Dts G vs ds→ds[i]?=some d→∃ v,vs[i]?=some v∧Dt G v d
 := by
  intro vs ds i d h e
  induction ds generalizing vs i with
  | nil=>cases e
  | cons x ds ih=>
    cases h with
    | cons a b=>
      cases i with
      | zero=>cases e; exact⟨_,rfl,a⟩
      | succ i=>
        have q:=ih b (show ds[i]?=some d from e);exact q
theorem _root_.L2.Dts.len {G:Hp}:∀{vs:List V} {ds:List D},Dts G vs ds→vs.length=ds.length
 := by
  intro vs ds h
  induction ds generalizing vs with
  | nil=>cases h; rfl
  | cons x ds ih=>cases h with|cons a b=>exact congrArg Nat.succ (ih b)
theorem _root_.L2.Dts.app {G:Hp}:∀{vs ws:List V} {ds es:List D},Dts G vs ds→Dts G ws es→Dts G (vs++ws) (ds++es)
 := by
  intro vs ws ds es h g
  induction ds generalizing vs with
  | nil=>cases h; exact g
  | cons x ds ih=>cases h with|cons a b=>exact .cons a (ih b)
theorem _root_.L2.Dts.drp {G:Hp}:∀{vs:List V} {ds:List D} (n:Nat),Dts G vs ds→Dts G (vs.drop n) (ds.drop n)
 | _,_,0,h=>h
 | _,_,_+1,.nil=>.nil
 | _,_,n+1,.cons _ b=>Dts.drp n b
theorem _root_.L2.Dts.tak {G:Hp}:∀{vs:List V} {ds:List D} (n:Nat),Dts G vs ds→Dts G (vs.take n) (ds.take n)
 | _,_,0,_=>.nil
 | _,_,_+1,.nil=>.nil
 | _,_,n+1,.cons a b=>.cons a (Dts.tak n b)
def oQ (o:Option D)(k:D→Prop):Prop:=match o with
 | some d=>k d
 | none=>False
theorem aAD {o:Option D}{k:D→Prop}(h:oQ o k):∃ d,o=some d∧k d:=by
 cases o with
 | none=>exact h.elim
 | some d=>exact⟨d,rfl,h⟩
def mC (d:D):ME:=fun Γ Q=>Q d Γ
def aY (i:Nat):ME:=fun Γ Q=>match Γ[i]? with
 | some (.val d)=>Q d Γ
 | _=>False
def mI0 (g:Int→Int→D)(ma mb:ME):ME:=fun Γ Q=>ma Γ fun x Γ1=>mb Γ1 fun y Γ2=>match x,y with
 | .int i,.int j=>Q (g i j) Γ2
 | _,_=>False
def mI (C:Int→Int→Prop)(g:Int→Int→D)(ma mb:ME):ME:=fun Γ Q=>ma Γ fun x Γ1=>mb Γ1 fun y Γ2=>match x,y with
 | .int i,.int j=>C i j∧Q (g i j) Γ2
 | _,_=>False
def mU (g:Int→D)(ma:ME):ME:=fun Γ Q=>ma Γ fun x Γ1=>match x with
 | .int i=>Q (g i) Γ1
 | _=>False
def mEq (ma mb:ME):ME:=fun Γ Q=>ma Γ fun x Γ1=>mb Γ1 fun y Γ2=>Good x∧Good y∧Q (.bool (Ae x y)) Γ2
def mNe (ma mb:ME):ME:=fun Γ Q=>ma Γ fun x Γ1=>mb Γ1 fun y Γ2=>Good x∧Good y∧Q (.bool (!PyData.eqv x y)) Γ2
def isN:D→Bool
 | .none=>true
 | _=>false
def aMO (ma:ME):ME:=fun Γ Q=>ma Γ fun x Γ1=>Q (.bool (isN x)) Γ1
def aM9 (ma:ME):ME:=fun Γ Q=>ma Γ fun x Γ1=>Q (.bool (!isN x)) Γ1
def z6 (ma mb:ME):ME:=fun Γ Q=>ma Γ fun x Γ1=>match x with
 | .bool c=>if c=true then mb Γ1 Q else Q (.bool false) Γ1
 | _=>False
def a99 (ma:ME):ME:=fun Γ Q=>ma Γ fun x Γ1=>match x with
 | .bool c=>Q (.bool (!c)) Γ1
 | _=>False
def dY (ma:ME):MT:=fun Γ Q=>ma Γ fun x Γ1=>match x with
 | .bool c=>Q c Γ1
 | _=>False
def aAZ (ma mb:MT):MT:=fun Γ Q=>ma Γ fun c Γ1=>if c=true then mb Γ1 Q else Q false Γ1
def mOr (ma mb:MT):MT:=fun Γ Q=>ma Γ fun c Γ1=>if c=true then Q true Γ1 else mb Γ1 Q
def zO (ma:MT):MT:=fun Γ Q=>ma Γ fun c Γ1=>Q (!c) Γ1
def aI9 (mc:MT)(ma mb:MO):MO:=fun Γ Q=>mc Γ fun c Γ1=>if c=true then ma Γ1 Q else mb Γ1 Q
def cY:MD:=fun Γ Q=>Q [] Γ
def aM (ma:ME)(mr:MD):MD:=fun Γ Q=>ma Γ fun x Γ1=>mr Γ1 fun xs Γ2=>Q (x::xs) Γ2
def cU:MA:=fun Γ Q=>Q [] Γ
def cF (ma:ME)(mr:MA):MA:=fun Γ Q=>ma Γ fun x Γ1=>mr Γ1 fun xs Γ2=>Q (.val x::xs) Γ2
def lY (i:Nat)(mr:MA):MA:=fun Γ Q=>match Γ[i]? with
 | some .pen=>mr Γ fun xs Γ2=>Q (.pen::xs) Γ2
 | _=>False
def j7 (md:MD):ME:=fun Γ Q=>md Γ fun ds Γ1=>ds.length≤1000∧Q (.tuple ds) Γ1
def pJ (md:MD):MO:=fun Γ Q=>md Γ fun ds Γ1=>ds.length≤1000∧Q (.own ds) Γ1
def ixD:D→D→Option D
 | .tuple ds,.int i=>atI ds i
 | .list ds,.int i=>atI ds i
 | _,_=>none
def mIx (ma mb:ME):ME:=fun Γ Q=>ma Γ fun x Γ1=>mb Γ1 fun y Γ2=>oQ (ixD x y) fun d=>Q d Γ2
def nbQ:Rv→Prop→Prop
 | .box B,p=>B.view.isSome=true∧p
 | _,p=>p
def cD (mo:MO):ME:=fun Γ Q=>mo Γ fun rv Γ1=>nbQ rv (Q rv.d Γ1)
def cR (m:ME):MO:=fun Γ Q=>m Γ fun d Γ1=>Q (.val d) Γ1
def a9T (i:Nat):MO:=fun Γ Q=>match Γ[i]? with
 | some (.val d)=>Q (.val d) Γ
 | some (.own ds)=>Q (.own ds) (Γ.set i .no)
 | some (.box B)=>Q (.box B) (Γ.set i .no)
 | _=>False
def bQ (n:Nat)(f:Fm)(ma:MA):MO:=fun Γ Q=>ma Γ fun as Γ1=>as.length=n∧f as fun rv=>Q rv Γ1
def a9Y:D→Option D
 | .tuple ds=>some (.int ds.length)
 | .list ds=>some (.int ds.length)
 | _=>none
def a2V (ma:ME):ME:=fun Γ Q=>ma Γ fun x Γ1=>oQ (a9Y x) fun d=>Q d Γ1
def vM:D→Option (List D)
 | .tuple ds=>some ds
 | .list ds=>some ds
 | _=>none
def a6C (ma:ME):MO:=fun Γ Q=>ma Γ fun x Γ1=>match vM x with
 | some ds=>Q (.own ds) Γ1
 | none=>False
def cutD (xs:List D)(lo hi:Option Int):List D:=(xs.drop (HT.sIx xs.length 0 lo)).take (HT.sIx xs.length xs.length hi-HT.sIx xs.length 0 lo)
abbrev MP:=En→(Option Int→En→Prop)→Prop
def pNo:MP:=fun Γ Q=>Q none Γ
def pSo (m:ME):MP:=fun Γ Q=>m Γ fun x Γ1=>match x with
 | .int i=>Q (some i) Γ1
 | _=>False
def aEK (ma:ME)(ml mh:MP):MO:=fun Γ Q=>ma Γ fun x Γ1=>ml Γ1 fun lo Γ2=>mh Γ2 fun hi Γ3=>match x with
 | .list ds=>Q (.own (cutD ds lo hi)) Γ3
 | _=>False
def a7Q (ma mb:ME):MO:=fun Γ Q=>ma Γ fun x Γ1=>mb Γ1 fun y Γ2=>match x,y with
 | .list ds,.list es=>ds.length+es.length≤1000∧Q (.own (ds++es)) Γ2
 | _,_=>False
def VP (P0:AA→Hp→Prop)(t:TO)(m:MP):Prop:=∀(F:Fra P0) (Γ:En) (σ:St) (G H:Hp) (Q:Option Int→Hp→Prop) (Qm:Option Int→En→Prop),R F Γ σ G H→m Γ Qm →
 (∀ d Γ' G' H',Qm d Γ'→Same G G'→R F Γ' σ G' H'→Q d H')→t σ H Q
section
variable {ta tb tc:TE}{ma mb:ME}{tA tB':TT}{mA mB:MT}{K:Fg}
theorem aRM {v:V}{d:D}(h:∀ G,Dt G v d):VT P0 (tC v) (mC d):=fun _ _ _ G _ _ _ r m k=>k _ _ _ _ _ m (Same.refl _) r (h G)
theorem aB {i:Nat}:VT P0 (uA i) (aY i):=by
 intro F Γ σ G H Q Qm r m k;unfold aY at m
 split at m
 ·rename_i d e
  obtain⟨v,e1,d1⟩:=r.sl i _ e;exact⟨v,e1,k _ _ _ _ _ m (Same.refl _) r d1⟩
 ·exact m.elim
theorem aMN {r2:R2}{m2:D→D→(D→Prop)→Prop}(ha:VT P0 ta ma)(hb:VT P0 tb mb)
  (h:∀(F:Fra P0) (Γ:En) (σ:St) (G H:Hp) (x y:V) (d e:D) (Q:VK) (Qm:D→Prop),R F Γ σ G H→Dt G x d→Dt G y e→m2 d e Qm→(∀ u r G' H',Qm u→Same G G'→R F Γ σ G' H'→Dt G' r u→Q r H')→r2 x y H Q) :
  VT P0 (tOp r2 ta tb) (fun Γ Q=>ma Γ fun x Γ1=>mb Γ1 fun y Γ2=>m2 x y fun d=>Q d Γ2):=by
 intro F Γ σ G H Q Qm r m k;refine ha F Γ σ G H _ _ r m fun d Γ1 x G1 H1 m1 s1 r1 d1=>?_;refine hb F Γ1 σ G1 H1 _ _ r1 m1 fun e Γ2 y G2 H2 m2 s2 r2 d2=>?_;exact h F Γ2 σ G2 H2 x y d e _ _ r2 (Dt.same s2 _ _ d1) d2 m2 fun u w G3 H3 q s3 r3 d3=>k _ _ _ _ _ q ((s1.trans s2).trans s3) r3 d3
theorem a8F {gv:Int→Int→V}{g:Int→Int→D}(hg:∀ G i j,Dt G (gv i j) (g i j))(ha:VT P0 ta ma)(hb:VT P0 tb mb):VT P0 (tOp (rI0 gv) ta tb) (mI0 g ma mb):=by
 refine aMN (m2:=fun x y Q=>match x,y with|.int i,.int j=>Q (g i j)|_,_=>False) ha hb fun F Γ σ G H x y d e Q Qm r d1 d2 m k=>?_
 split at m
 ·cases d1; cases d2
  exact⟨_,_,rfl,rfl,k _ _ _ _ m (Same.refl _) r (hg _ _ _)⟩
 ·exact m.elim
theorem aUN {C:Int→Int→Prop}{gv:Int→Int→V}{g:Int→Int→D}(hg:∀ G i j,Dt G (gv i j) (g i j))(ha:VT P0 ta ma)(hb:VT P0 tb mb):VT P0 (tOp (rI C gv) ta tb) (mI C g ma mb):=by
 refine aMN (m2:=fun x y Q=>match x,y with|.int i,.int j=>C i j∧Q (g i j)|_,_=>False) ha hb fun F Γ σ G H x y d e Q Qm r d1 d2 m k=>?_
 split at m
 ·cases d1; cases d2
  exact⟨_,_,rfl,rfl,m.1,k _ _ _ _ m.2 (Same.refl _) r (hg _ _ _)⟩
 ·exact m.elim
theorem aW2 {gv:Int→V}{g:Int→D}(hg:∀ G i,Dt G (gv i) (g i))(ha:VT P0 ta ma):VT P0 (tUn (rU gv) ta) (mU g ma):=by
 intro F Γ σ G H Q Qm r m k;refine ha F Γ σ G H _ _ r m fun d Γ1 x G1 H1 m1 s1 r1 d1=>?_
 split at m1
 ·cases d1
  exact⟨_,rfl,k _ _ _ _ _ m1 s1 r1 (hg _ _)⟩
 ·exact m1.elim
theorem gM (ha:VT P0 ta ma)(hb:VT P0 tb mb):VT P0 (tOp aVT ta tb) (mEq ma mb):=by
 refine aMN (m2:=fun x y Q=>Good x∧Good y∧Q (.bool (Ae x y))) ha hb fun F Γ σ G H x y d e Q Qm r d1 d2 m k=>?_;exact⟨d,e,Dt.same r.fr.sub _ _ d1,Dt.same r.fr.sub _ _ d2,m.1,m.2.1,k _ _ _ _ m.2.2 (Same.refl _) r (.bl _)⟩
theorem zV (ha:VT P0 ta ma)(hb:VT P0 tb mb):VT P0 (tOp aVD ta tb) (mNe ma mb):=by
 refine aMN (m2:=fun x y Q=>Good x∧Good y∧Q (.bool (!PyData.eqv x y))) ha hb fun F Γ σ G H x y d e Q Qm r d1 d2 m k=>?_;exact⟨d,e,Dt.same r.fr.sub _ _ d1,Dt.same r.fr.sub _ _ d2,m.1,m.2.1,k _ _ _ _ m.2.2 (Same.refl _) r (.bl _)⟩
theorem aI6 {G:Hp}{x:V}{d:D}(h:Dt G x d):decide (x=V.non)=isN d:=by
 cases h<;>first|rfl|exact decide_eq_false (by intro z; cases z)
theorem a7O (ha:VT P0 ta ma):VT P0 (tOp (fun x y H Q=>y=.non∧Q (.bl (decide (x=.non))) H) ta (tC .non)) (aMO ma):=by
 intro F Γ σ G H Q Qm r m k;refine ha F Γ σ G H _ _ r m fun d Γ1 x G1 H1 m1 s1 r1 d1=>⟨rfl,?_⟩;rw[aI6 d1];exact k _ _ _ _ _ m1 s1 r1 (.bl _)
theorem aKH (ha:VT P0 ta ma):VT P0 (tOp (fun x y H Q=>y=.non∧Q (.bl (!decide (x=.non))) H) ta (tC .non)) (aM9 ma):=by
 intro F Γ σ G H Q Qm r m k;refine ha F Γ σ G H _ _ r m fun d Γ1 x G1 H1 m1 s1 r1 d1=>⟨rfl,?_⟩;rw[aI6 d1];exact k _ _ _ _ _ m1 s1 r1 (.bl _)
theorem tM (ha:VT P0 ta ma)(hb:VT P0 tb mb):VT P0 (aMW ta tb) (z6 ma mb):=by
 intro F Γ σ G H Q Qm r m k;refine ha F Γ σ G H _ _ r m fun d Γ1 x G1 H1 m1 s1 r1 d1=>?_
 split at m1
 ·rename_i c
  cases d1
  refine⟨c,rfl,?_⟩
  cases c with
  | true=>exact a0T (hb F Γ1 σ G1 H1 _ _ r1 m1 fun e Γ2 y G2 H2 m2 s2 r2 d2=>k _ _ _ _ _ m2 (s1.trans s2) r2 d2)
  | false=>exact a2O (k _ _ _ _ _ m1 s1 r1 (.bl _))
 ·exact m1.elim
theorem a81 (ha:VT P0 ta ma):VT P0 (aNE ta) (a99 ma):=by
 intro F Γ σ G H Q Qm r m k;refine ha F Γ σ G H _ _ r m fun d Γ1 x G1 H1 m1 s1 r1 d1=>?_
 split at m1
 ·cases d1
  exact⟨_,rfl,k _ _ _ _ _ m1 s1 r1 (.bl _)⟩
 ·exact m1.elim
theorem bO (ha:VT P0 ta ma):VTT P0 (aPK ta) (dY ma):=by
 intro F Γ σ G H Q Qm r m k;refine ha F Γ σ G H _ _ r m fun d Γ1 x G1 H1 m1 s1 r1 d1=>?_
 split at m1
 ·cases d1
  exact⟨_,rfl,k _ _ _ _ m1 s1 r1⟩
 ·exact m1.elim
theorem iK (ha:VT P0 ta ma):VTT P0 (tB ta) (dY ma):=bO ha
theorem mL (ha:VTT P0 tA mA)(hb:VTT P0 tB' mB):VTT P0 (aV1 tA tB') (aAZ mA mB):=by
 intro F Γ σ G H Q Qm r m k;refine ha F Γ σ G H _ _ r m fun c Γ1 G1 H1 m1 s1 r1=>?_
 cases c with
 | true=>exact a0T (hb F Γ1 σ G1 H1 _ _ r1 m1 fun e Γ2 G2 H2 m2 s2 r2=>k _ _ _ _ m2 (s1.trans s2) r2)
 | false=>exact a2O (k _ _ _ _ m1 s1 r1)
theorem jZ (ha:VTT P0 tA mA)(hb:VTT P0 tB' mB):VTT P0 (tOr tA tB') (mOr mA mB):=by
 intro F Γ σ G H Q Qm r m k;refine ha F Γ σ G H _ _ r m fun c Γ1 G1 H1 m1 s1 r1=>?_
 cases c with
 | true=>exact a0T (k _ _ _ _ m1 s1 r1)
 | false=>exact a2O (hb F Γ1 σ G1 H1 _ _ r1 m1 fun e Γ2 G2 H2 m2 s2 r2=>k _ _ _ _ m2 (s1.trans s2) r2)
theorem dH (ha:VTT P0 tA mA):VTT P0 (aVR tA) (zO mA):=by
 intro F Γ σ G H Q Qm r m k;exact ha F Γ σ G H _ _ r m fun c Γ1 G1 H1 m1 s1 r1=>k _ _ _ _ m1 s1 r1
theorem a0A {oa ob:MO}(hc:VTT P0 tA mA)(ha:VO P0 ta oa)(hb:VO P0 tb ob):VO P0 (tIf tA ta tb) (aI9 mA oa ob):=by
 intro F Γ σ G H Q Qm r m k;refine hc F Γ σ G H _ _ r m fun c Γ1 G1 H1 m1 s1 r1=>?_
 cases c with
 | true=>exact a0T (ha F Γ1 σ G1 H1 _ _ r1 m1 fun e Γ2 y G2 H2 m2 s2 r2 d2 a2=>k _ _ _ _ _ m2 (s1.trans s2) r2 d2 a2)
 | false=>exact a2O (hb F Γ1 σ G1 H1 _ _ r1 m1 fun e Γ2 y G2 H2 m2 s2 r2 d2 a2=>k _ _ _ _ _ m2 (s1.trans s2) r2 d2 a2)
theorem bC:VD P0 nM cY:=fun _ _ _ _ _ _ _ r m k=>k _ _ _ _ _ m (Same.refl _) r .nil
theorem aC {tr:TA}{mr:MD}(ha:VT P0 ta ma)(hr:VD P0 tr mr):VD P0 (cQ ta tr) (aM ma mr):=by
 intro F Γ σ G H Q Qm r m k;refine ha F Γ σ G H _ _ r m fun d Γ1 x G1 H1 m1 s1 r1 d1=>?_;exact hr F Γ1 σ G1 H1 _ _ r1 m1 fun e Γ2 y G2 H2 m2 s2 r2 d2=>k _ _ _ _ _ m2 (s1.trans s2) r2 (.cons (Dt.same s2 _ _ d1) d2)
theorem aR:VA P0 nM cU:=fun _ _ _ _ _ _ _ r m k=>k _ _ _ _ _ m (Same.refl _) r .nil
theorem aO {tr:TA}{mr:MA}(ha:VT P0 ta ma)(hr:VA P0 tr mr):VA P0 (cQ ta tr) (cF ma mr):=by
 intro F Γ σ G H Q Qm r m k;refine ha F Γ σ G H _ _ r m fun d Γ1 x G1 H1 m1 s1 r1 d1=>?_;exact hr F Γ1 σ G1 H1 _ _ r1 m1 fun e Γ2 y G2 H2 m2 s2 r2 d2=>k _ _ _ _ _ m2 (s1.trans s2) r2 (.cons (Dt.same s2 _ _ d1) d2)
theorem cL {i:Nat}{tr:TA}{mr:MA}(hr:VA P0 tr mr):VA P0 (cQ (uA i) tr) (lY i mr):=by
 intro F Γ σ G H Q Qm r m k;unfold lY at m
 split at m
 ·rename_i e
  obtain⟨p,e1,e2⟩:=r.sl i _ e;exact⟨_,e1,hr F Γ σ G H _ _ r m fun as Γ2 y G2 H2 m2 s2 r2 d2=>k _ _ _ _ _ m2 s2 r2 (.cons ⟨p,rfl,e2⟩ d2)⟩
 ·exact m.elim
theorem cA {t:TA}{md:MD}(h:VD P0 t md):VT P0 (aMJ t) (j7 md):=by
 intro F Γ σ G H Q Qm r m k;refine h F Γ σ G H _ _ r m fun ds Γ1 xs G1 H1 m1 s1 r1 d1=>⟨lB (by rw[d1.len]; exact m1.1),fun p hp=>?_⟩;have g:=fM (r1.fr.gfresh hp) (.tup xs);exact k _ _ _ _ _ m1.2 (s1.trans g) (r1.new hp) (.tup aW (Dts.same g _ _ d1))
theorem SlF.det {F:Fra P0}{G H:Hp}{x:Option (Option V)}{fp fp':List AA}:∀{s:Sl},SlF F G H x fp s→SlF F G H x fp' s→fp=fp'
 | .no,h,g=>(show fp=[] from h).trans (show fp'=[] from g).symm
 | .val _,h,g=>h.1.trans g.1.symm
 | .pen,h,g=>h.1.trans g.1.symm
 | .con _,h,g=>h.1.trans g.1.symm
 | .pub _,h,g=>h.1.trans g.1.symm
 | .own _,h,g=>by
  obtain⟨p,vs,e,e1,_⟩:=h;obtain⟨q,ws,f,f1,_⟩:=g;rw[e1] at f1; cases f1;rw[e,f]
 | .box B,h,g=>by
  obtain⟨v,e1,e2,_⟩:=h;obtain⟨v',f1,f2,_⟩:=g;rw[e1] at f1; cases f1;exact B.uniq e2 f2
theorem R.before {F:Fra P0}{Γ:En}{σ:St}{G H G' H':Hp}(r:R F Γ σ G H)(g:Same G G')(k:∀ b o,F.H0 b=none→G b=none→H b=some o→G' b=none∧H' b=some o){i:Nat}{s:Sl}{fp:List AA}(e:Γ[i]?=some s)(h:SlF F G' H' σ[i]? fp s):∀ b∈fp,∃ o,H b=some o:=by
 obtain⟨fps,h1,h2⟩:=r.fps;have h0:=h1 i s e;have h3:SlF F G' H' σ[i]? (fps i) s:=h0.go g fun b hb=>by
  obtain⟨m1,m2,o,m3⟩:=h0.mine hb;obtain⟨k1,k2⟩:=k b o m1 m2 m3;exact⟨k1,k2.trans m3.symm⟩
 rw[h.det h3];exact fun b hb=>(h0.mine hb).2.2
theorem Apart.new {F:Fra P0}{Γ:En}{σ:St}{G H G' H':Hp}(r:R F Γ σ G H){p:AA}(hp:H p=none){ds:List D}(g:Same G G')(k:∀ b o,F.H0 b=none→G b=none→H b=some o→G' b=none∧H' b=some o):Apart F Γ σ G' H' (.ref p) (.own ds):=by
 intro i s fp e h q eq hq
 cases eq
 obtain⟨o,eo⟩:=r.before g k e h p hq;rw[hp] at eo; cases eo
theorem Apart.newB {F:Fra P0}{Γ:En}{σ:St}{G H G' H':Hp}(r:R F Γ σ G H){v:V}{B:Bx}(hp:∀ fp,B.P v fp G' H'→∀ b∈fp,H b=none)(g:Same G G')(k:∀ b o,F.H0 b=none→G b=none→H b=some o→G' b=none∧H' b=some o):Apart F Γ σ G' H' v (.box B):=by
 intro i s fp f e h hf b hb hc;obtain⟨o,eo⟩:=r.before g k e h b hc;rw[hp f hf b hb] at eo; cases eo
theorem oA {F:Fra P0}{Γ:En}{σ:St}{G H:Hp}(r:R F Γ σ G H){p:AA}{xs:List V}{ds:List D}(hp:H p=none)(d:Dts G xs ds) :
  R F Γ σ G (upd H p (.lst xs))∧RvO F G (upd H p (.lst xs)) (.ref p) (.own ds)∧Apart F Γ σ G (upd H p (.lst xs)) (.ref p) (.own ds):=
 ⟨r.newP hp,⟨p,xs,rfl,r.fr.fresh hp,r.fr.gfresh hp,aW,d⟩,Apart.new r hp (Same.refl _) fun b o _ g e=>⟨g,by rw[bA (bJ e hp)]; exact e⟩⟩
theorem cW {t:TA}{md:MD}(h:VD P0 t md):VO P0 (aRH t) (pJ md):=by
 intro F Γ σ G H Q Qm r m k;refine h F Γ σ G H _ _ r m fun ds Γ1 xs G1 H1 m1 s1 r1 d1=>⟨lB (by rw[d1.len]; exact m1.1),fun p hp=>?_⟩;obtain⟨a,b,c⟩:=oA r1 hp d1;exact k _ _ _ _ _ m1.2 s1 a b c
theorem aN {mo:MO}(h:VO P0 ta mo):VT P0 ta (cD mo):=by
 intro F Γ σ G H Q Qm r m k;refine h F Γ σ G H _ _ r m fun rv Γ1 x G1 H1 m1 s1 r1 d1 a1=>?_
 cases rv with
 | val d=>exact k _ _ _ _ _ m1 s1 r1 d1
 | own ds=>
  obtain⟨G2,s2,r2,d2⟩:=r1.give d1 a1;exact k _ _ _ _ _ m1 (s1.trans s2) r2 d2
 | box B=>
  obtain⟨hv,m1⟩:=m1;obtain⟨d,hd⟩:=EQ.mp hv;obtain⟨G2,s2,r2,d2⟩:=r1.giveB d1 a1 hd;have m1:Qm (B.view.getD .none) Γ1:=m1;rw[hd] at m1;exact k _ _ _ _ _ m1 (s1.trans s2) r2 d2
theorem aU (h:VT P0 ta ma):VO P0 ta (cR ma):=by
 intro F Γ σ G H Q Qm r m k;exact h F Γ σ G H _ _ r m fun d Γ1 x G1 H1 m1 s1 r1 d1=>k _ _ _ _ _ m1 s1 r1 d1 trivial
theorem R.apart {F:Fra P0}{Γ:En}{σ:St}{G H:Hp}(r:R F Γ σ G H){i j:Nat}{s t:Sl}{fp fq:List AA}(hij:i≠j)(ei:Γ[i]?=some s)(ej:Γ[j]?=some t)(hi:SlF F G H σ[i]? fp s)(hj:SlF F G H σ[j]? fq t):∀ b∈fp,b∉fq:=by
 obtain⟨fps,h1,h2⟩:=r.fps;rw[hi.det (h1 i s ei),hj.det (h1 j t ej)];exact h2 i j s t ei ej hij
theorem aC5 {i:Nat}:VO P0 (uA i) (a9T i):=by
 intro F Γ σ G H Q Qm r m k;have other:∀{j:Nat} {s s0:Sl} {fp fq:List AA},Γ[i]?=some s0→SlF F G H σ[i]? fp s0→(Γ.set i .no)[j]?=some s→SlF F G H σ[j]? fq s→∀ b∈fp,b∉fq:=by
  intro j s s0 fp fq e h ej hj b hb hc
  by_cases hij:i=j
  ·subst hij;have hi:i<Γ.length:=(Aq.mp e).1;rw[BX hi] at ej
   cases ej
   rw[show fq=[] from hj] at hc; cases hc
  ·rw[BO hij] at ej;exact r.apart hij e ej h hj b hb hc
 unfold a9T at m
 split at m
 ·rename_i d e
  obtain⟨v,e1,d1⟩:=r.sl i _ e;exact⟨v,e1,k _ _ _ _ _ m (Same.refl _) r d1 trivial⟩
 ·rename_i ds e
  obtain⟨p,vs,e1,e2⟩:=r.sl i _ e;refine⟨_,e1,k _ _ _ _ _ m (Same.refl _) (r.drop i) ⟨p,vs,rfl,e2⟩ fun j s fp ej hj q eq hq=>?_⟩
  cases eq
  exact other e (fp:=[p]) ⟨p,vs,rfl,e1,e2⟩ ej hj p (AW.mpr rfl) hq
 ·rename_i B e
  obtain⟨v,fp,e1,e2,e3⟩:=r.sl i _ e;refine⟨_,e1,k _ _ _ _ _ m (Same.refl _) (r.drop i) ⟨fp,e2,e3⟩ fun j s fq f ej hj hf b hb=>?_⟩;rw[B.uniq hf e2] at hb;exact other e (fp:=fp) ⟨v,e1,e2,e3⟩ ej hj b hb
 ·exact m.elim
theorem bR (ha:VT P0 ta ma)(hb:VT P0 tb mb):VT P0 (tOp (rIx K) ta tb) (mIx ma mb):=by
 refine aMN (m2:=fun x y Q=>oQ (ixD x y) Q) ha hb fun F Γ σ G H x y d e Q Qm r d1 d2 m k=>?_;obtain⟨u,hu,q⟩:=aAD m;unfold ixD at hu
 split at hu
 ·rename_i ds i
  cases d2
  cases d1 with
  | @tup p xs _ hp rs=>
   obtain⟨j,h1,h2⟩:∃ j,ixN ds.length i=some j∧ds[j]?=some u:=by
    unfold atI at hu
    cases e:ixN ds.length i with
    | none=>rw[e] at hu; cases hu
    | some j=>rw[e] at hu; exact⟨j,rfl,hu⟩
   obtain⟨v,hv,dv⟩:=Dts.get rs h2;refine .inr (.inl ⟨p,xs,i,v,rfl,rfl,SqT.of (r.fr.sub _ _ hp),?_,k _ _ _ _ q (Same.refl _) r dv⟩);unfold atI;rw[rs.len,h1];exact hv
 ·rename_i ds i
  cases d2
  cases d1 with
  | @lst p xs _ hp rs=>
   obtain⟨j,h1,h2⟩:∃ j,ixN ds.length i=some j∧ds[j]?=some u:=by
    unfold atI at hu
    cases e:ixN ds.length i with
    | none=>rw[e] at hu; cases hu
    | some j=>rw[e] at hu; exact⟨j,rfl,hu⟩
   obtain⟨v,hv,dv⟩:=Dts.get rs h2;refine .inl ⟨p,xs,i,v,rfl,rfl,SqL.of (r.fr.sub _ _ hp),?_,k _ _ _ _ q (Same.refl _) r dv⟩;unfold atI;rw[rs.len,h1];exact hv
 ·cases hu
theorem aDZ {rr:List V→Hp→VK→Prop}{m1:D→(D→Prop)→Prop}(ha:VT P0 ta ma)
  (h:∀(F:Fra P0) (Γ:En) (σ:St) (G H:Hp) (x:V) (d:D) (Q:VK) (Qm:D→Prop),R F Γ σ G H→Dt G x d→m1 d Qm→(∀ u r G' H',Qm u→Same G G'→R F Γ σ G' H'→Dt G' r u→Q r H')→rr [x] H Q) :
  VT P0 (tCB rr (cQ ta nM)) (fun Γ Q=>ma Γ fun x Γ1=>m1 x fun d=>Q d Γ1):=by
 intro F Γ σ G H Q Qm r m k;refine ha F Γ σ G H _ _ r m fun d Γ1 x G1 H1 m1 s1 r1 d1=>?_;exact h F Γ1 σ G1 H1 x d _ _ r1 d1 m1 fun u w G3 H3 q s3 r3 d3=>k _ _ _ _ _ q (s1.trans s3) r3 d3
theorem aOS {rr:List V→Hp→VK→Prop}{m2:D→D→(D→Prop)→Prop}(ha:VT P0 ta ma)(hb:VT P0 tb mb)
  (h:∀(F:Fra P0) (Γ:En) (σ:St) (G H:Hp) (x y:V) (d e:D) (Q:VK) (Qm:D→Prop),R F Γ σ G H→Dt G x d→Dt G y e→m2 d e Qm→(∀ u r G' H',Qm u→Same G G'→R F Γ σ G' H'→Dt G' r u→Q r H')→rr [x,y] H Q) :
  VT P0 (tCB rr (cQ ta (cQ tb nM))) (fun Γ Q=>ma Γ fun x Γ1=>mb Γ1 fun y Γ2=>m2 x y fun d=>Q d Γ2):=by
 intro F Γ σ G H Q Qm r m k;refine ha F Γ σ G H _ _ r m fun d Γ1 x G1 H1 m1 s1 r1 d1=>?_;refine hb F Γ1 σ G1 H1 _ _ r1 m1 fun e Γ2 y G2 H2 m2 s2 r2 d2=>?_;exact h F Γ2 σ G2 H2 x y d e _ _ r2 (Dt.same s2 _ _ d1) d2 m2 fun u w G3 H3 q s3 r3 d3=>k _ _ _ _ _ q ((s1.trans s2).trans s3) r3 d3
theorem kY (ha:VT P0 ta ma):VT P0 (tCB (fun xs H Q=>∃ p ys,xs=[.ref p]∧(SqL K H p ys∨SqT K H p ys)∧Q (.int ys.length) H) (cQ ta nM)) (a2V ma):=by
 refine aDZ (m1:=fun x Q=>oQ (a9Y x) Q) ha fun F Γ σ G H x d Q Qm r d1 m k=>?_;obtain⟨u,hu,q⟩:=aAD m;unfold a9Y at hu
 split at hu
 ·cases hu
  cases d1 with
  | @tup p xs _ hp rs=>exact⟨p,xs,rfl,.inr (SqT.of (r.fr.sub _ _ hp)),by rw[rs.len]; exact k _ _ _ _ q (Same.refl _) r (.int _)⟩
 ·cases hu
  cases d1 with
  | @lst p xs _ hp rs=>exact⟨p,xs,rfl,.inl (SqL.of (r.fr.sub _ _ hp)),by rw[rs.len]; exact k _ _ _ _ q (Same.refl _) r (.int _)⟩
 ·cases hu
def aMP (ma:ME):ME:=fun Γ Q=>ma Γ fun x Γ1=>match x with
 | .int i=>Q (.int (if i<0 then -i else i)) Γ1
 | _=>False
theorem a6V (ha:VT P0 ta ma):VT P0 (tCB (fun xs H Q=>∃ i,xs=[.int i]∧Q (.int (if i<0 then -i else i)) H) (cQ ta nM)) (aMP ma):=by
 refine aDZ (m1:=fun x Q=>match x with|.int i=>Q (.int (if i<0 then -i else i))|_=>False) ha fun F Γ σ G H x d Q Qm r d1 m k=>?_
 split at m
 ·cases d1
  exact⟨_,rfl,k _ _ _ _ m (Same.refl _) r (.int _)⟩
 ·exact m.elim
def a2U (ma:ME):ME:=fun Γ Q=>ma Γ fun x Γ1=>match x with
 | .int i=>Q (.int i) Γ1
 | .bool b=>Q (.int (if b then 1 else 0)) Γ1
 | _=>False
theorem v8 (ha:VT P0 ta ma):VT P0 (tCB (fun xs H Q=>(∃ i,xs=[.int i]∧Q (.int i) H)∨∃ k,xs=[.bl k]∧Q (.int (if k then 1 else 0)) H) (cQ ta nM)) (a2U ma):=by
 refine aDZ (m1:=fun x Q=>match x with|.int i=>Q (.int i)|.bool b=>Q (.int (if b then 1 else 0))|_=>False) ha fun F Γ σ G H x d Q Qm r d1 m k=>?_
 split at m
 ·cases d1
  exact .inl ⟨_,rfl,k _ _ _ _ m (Same.refl _) r (.int _)⟩
 ·cases d1
  exact .inr ⟨_,rfl,k _ _ _ _ m (Same.refl _) r (.int _)⟩
 ·exact m.elim
def m2I (g:Int→Int→Int)(ma mb:ME):ME:=fun Γ Q=>ma Γ fun x Γ1=>mb Γ1 fun y Γ2=>match x,y with
 | .int i,.int j=>Q (.int (g i j)) Γ2
 | _,_=>False
theorem aT0 {g:Int→Int→Int}(ha:VT P0 ta ma)(hb:VT P0 tb mb):VT P0 (tCB (fun xs H Q=>∃ i j,xs=[.int i,.int j]∧Q (.int (g i j)) H) (cQ ta (cQ tb nM))) (m2I g ma mb):=by
 refine aOS (m2:=fun x y Q=>match x,y with|.int i,.int j=>Q (.int (g i j))|_,_=>False) ha hb fun F Γ σ G H x y d e Q Qm r d1 d2 m k=>?_
 split at m
 ·cases d1; cases d2
  exact⟨_,_,rfl,k _ _ _ _ m (Same.refl _) r (.int _)⟩
 ·exact m.elim
theorem aBE (ha:VT P0 ta ma):VO P0 (tCB (fun xs H Q=>∃ p ys,xs=[.ref p]∧(SqL K H p ys∨SqT K H p ys)∧∀ l,H l=none→Q (.ref l) (upd H l (.lst ys))) (cQ ta nM)) (a6C ma):=by
 intro F Γ σ G H Q Qm r m k;refine ha F Γ σ G H _ _ r m fun d Γ1 x G1 H1 m1 s1 r1 d1=>?_
 split at m1
 ·rename_i ds e
  cases d1<;>simp only[vM] at e<;>try (cases e)
  ·rename_i p xs hp rs
   refine⟨p,xs,rfl,.inr (SqT.of (r1.fr.sub _ _ hp)),fun l hl=>?_⟩;obtain⟨a,b,c⟩:=oA r1 hl rs;exact k _ _ _ _ _ m1 s1 a b c
  ·rename_i p xs hp rs
   refine⟨p,xs,rfl,.inl (SqL.of (r1.fr.sub _ _ hp)),fun l hl=>?_⟩;obtain⟨a,b,c⟩:=oA r1 hl rs;exact k _ _ _ _ _ m1 s1 a b c
 ·exact m1.elim
theorem wL:VP P0 aBR pNo:=fun _ _ _ _ _ _ _ r m k=>k _ _ _ _ m (Same.refl _) r
theorem wH (ha:VT P0 ta ma):VP P0 (aOE ta) (pSo ma):=by
 intro F Γ σ G H Q Qm r m k;refine ha F Γ σ G H _ _ r m fun d Γ1 x G1 H1 m1 s1 r1 d1=>?_
 split at m1
 ·cases d1
  exact⟨_,rfl,k _ _ _ _ m1 s1 r1⟩
 ·exact m1.elim
theorem _root_.L2.Dts.cut {G:Hp}{vs:List V}{ds:List D}(h:Dts G vs ds)(lo hi:Option Int):Dts G (aH1 vs lo hi) (cutD ds lo hi):=by
 unfold aH1 cutD;rw[h.len];exact Dts.tak _ (Dts.drp _ h)
theorem vZ {tl th:TO}{ml mh:MP}(ha:VT P0 ta ma)(hl:VP P0 tl ml)(hh:VP P0 th mh):VO P0 (tSl (aV2 K) ta tl th) (aEK ma ml mh):=by
 intro F Γ σ G H Q Qm r m k;refine ha F Γ σ G H _ _ r m fun d Γ1 x G1 H1 m1 s1 r1 d1=>?_;refine hl F Γ1 σ G1 H1 _ _ r1 m1 fun lo Γ2 G2 H2 m2 s2 r2=>?_;refine hh F Γ2 σ G2 H2 _ _ r2 m2 fun hi Γ3 G3 H3 m3 s3 r3=>?_
 split at m3
 ·have d1:=Dt.same (s2.trans s3) _ _ d1
  cases d1 with
  | @lst p xs _ hp rs=>
   refine⟨p,xs,rfl,SqL.of (r3.fr.sub _ _ hp),fun l hl=>?_⟩;obtain⟨a,b,c⟩:=oA r3 hl (rs.cut lo hi);exact k _ _ _ _ _ m3 ((s1.trans s2).trans s3) a b c
 ·exact m3.elim
theorem nH (ha:VT P0 ta ma)(hb:VT P0 tb mb):VO P0 (tOp aV0 ta tb) (a7Q ma mb):=by
 intro F Γ σ G H Q Qm r m k;refine ha F Γ σ G H _ _ r m fun d Γ1 x G1 H1 m1 s1 r1 d1=>?_;refine hb F Γ1 σ G1 H1 _ _ r1 m1 fun e Γ2 y G2 H2 m2 s2 r2 d2=>?_;have d1:=Dt.same s2 _ _ d1
 split at m2
 ·cases d1 with
  | @lst p xs _ hp rs=>
   cases d2 with
   | @lst q ys _ hq ss=>
    refine⟨p,q,xs,ys,rfl,rfl,r2.fr.sub _ _ hp,r2.fr.sub _ _ hq,lB (by rw[rs.len,ss.len]; exact m2.1),fun l hl=>?_⟩;obtain⟨a,b,c⟩:=oA r2 hl (rs.app ss);exact k _ _ _ _ _ m2.2 (s1.trans s2) a b c
 ·exact m2.elim
def spM (P0:AA→Hp→Prop)(n:Nat)(f:Fm):Sp:=fun vs H Q _=>∃(F:Fra P0) (as:List Sl) (Qm:Rv→Prop),F.H0=H∧Rf F F.G0 H∧Al (qQ F F.G0) vs as∧as.length=n∧f as Qm ∧
 ∀ rv r G' H',Qm rv→Rf F G' H'→RvO F G' H' r rv→Q r H'
def Fra.sub (F:Fra P0){G H:Hp}(r:Rf F G H):Fra P0 where
 H0:=H
 G0:=G
 pen:=F.pen
 stab:=fun p e H1 H2 h=>F.stab p e H1 H2 fun b o e=>let ⟨o',e'⟩:=r.dom e; h b o' e'
 pin:=F.pin
 pin0:=fun p e=>F.pin p e H (r.pn p e)
 pg:=fun p e=>by
  obtain⟨o,e0⟩:=F.pin0 p e;rw[r.g0 p o e0];exact F.pg p e
theorem Fra.subRf (F:Fra P0){G H:Hp}(r:Rf F G H):Rf (F.sub r) G H:=⟨r.sub,fun _ _ _=>rfl,fun _ _ e _=>e,r.pn⟩
theorem Rf.back {F:Fra P0}{G H G' H':Hp}(r:Rf F G H)(h:Rf (F.sub r) G' H'):Rf F G' H'∧Same G G':=by
 refine⟨⟨h.sub,fun b o e=>?_,fun b o e hb=>?_,h.pn⟩,fun b o e=>?_⟩
 ·obtain⟨o',e'⟩:=r.dom e;exact(h.g0 b o' e').trans (r.g0 b o e)
 ·exact h.h0 b o (r.h0 b o e hb) hb
 ·exact(h.g0 b o (r.sub b o e)).trans e
theorem Fra.pen_ne (F:Fra P0){p:AA}(h:F.H0 p=none):F.pen≠some p:=fun e=>by
 obtain⟨o,e0⟩:=F.pin0 p e;rw[h] at e0; cases e0
theorem R.after {F:Fra P0}{Γ:En}{σ:St}{G H G' H':Hp}(r:R F Γ σ G H)(h:Rf (F.sub r.fr) G' H'):R F Γ σ G' H'∧Same G G':=by
 obtain⟨a,b⟩:=r.fr.back h;refine⟨r.keep a b fun p u _ e1 e2 e3=>⟨(h.g0 p _ e3).trans e2,h.h0 p _ e3 (F.pen_ne e1)⟩,b⟩
theorem aP {n:Nat}{f:Fm}{t:TA}{m:MA}{E:XK}(h:VA P0 t m):VO P0 (aDU (spM P0 n f) [] E t) (bQ n f m):=by
 intro F Γ σ G H Q Qm r hm k;refine h F Γ σ G H _ _ r hm fun as Γ1 rs G1 H1 m1 s1 r1 d1=>?_;refine⟨F.sub r1.fr,as,fun rv=>Qm rv Γ1,rfl,F.subRf r1.fr,?_,m1.1,m1.2,fun rv v G2 H2 q f2 v2=>?_⟩
 ·rw[Bb];exact Al.imp' (fun a s h=>by cases s<;>exact h) d1
 ·obtain⟨r2,s2⟩:=r1.after f2;refine k _ _ _ _ _ q (s1.trans s2) r2 ?_ ?_
  ·cases rv with
   | val d=>exact v2
   | own ds=>
    obtain⟨p,vs,e,e1,e2,e3,e4⟩:=v2;exact⟨p,vs,e,r1.fr.fresh e1,e2,e3,e4⟩
   | box B=>
    obtain⟨fp,e1,e2⟩:=v2;exact⟨fp,e1,fun b hb=>⟨r1.fr.fresh (e2 b hb).1,(e2 b hb).2⟩⟩
  ·have kp:∀ b o,F.H0 b=none→G1 b=none→H1 b=some o→G2 b=none∧H2 b=some o:=fun b o h1 h2 h3=>⟨(f2.g0 b _ h3).trans h2,f2.h0 b _ h3 (F.pen_ne h1)⟩
   cases rv with
   | val d=>trivial
   | own ds=>
    obtain⟨p,vs,rfl,e1,e2,e3,e4⟩:=v2;exact Apart.new r1 e1 s2 kp
   | box B=>
    obtain⟨fp,e1,e2⟩:=v2;exact Apart.newB r1 (fun f hf b hb=>by rw[B.uniq hf e1] at hb; exact(e2 b hb).1) s2 kp
end
end
section
variable {P0:AA→Hp→Prop}{A:Nat→Bool}
def gN (i:Nat):MG:=fun d Γ Q=>Q (Γ.set i (.val d))
def aGT:MGs:=fun ds Γ Q=>match ds with
 | []=>Q Γ
 | _=>False
def a0I (g:MG)(gs:MGs):MGs:=fun ds Γ Q=>match ds with
 | d::r=>g d Γ fun Γ1=>gs r Γ1 Q
 | []=>False
def gT (n:Nat)(gs:MGs):MG:=fun d Γ Q=>match d with
 | .tuple ds=>ds.length=n∧gs ds Γ Q
 | _=>False
theorem zG {i:Nat}{v:Option V}{σ:St}(hA:A i=true):∀ j,A j=false→(σ.set i v)[j]?=σ[j]?:=fun j hj=>BO (fun z=>by rw[z,hj] at hA; cases hA)
theorem fW {i:Nat}(hA:A i=true:=by rfl):VG P0 A (zR i) (gN i):=fun _ _ _ _ _ _ _ _ _ r h m k=>k _ _ m (r.setV h) (zG hA)
theorem aAB:VGs P0 A aVV aGT:=by
 intro F Γ σ G H vs ds Q Qm r h m k
 cases h with
 | nil=>exact⟨rfl,k _ _ m r fun _ _=>rfl⟩
 | cons _ _=>exact m.elim
theorem xG {g:TG}{gs:TGs}{m:MG}{ms:MGs}(h1:VG P0 A g m)(h2:VGs P0 A gs ms):VGs P0 A (aPE g gs) (a0I m ms):=by
 intro F Γ σ G H vs ds Q Qm r h hm k
 cases h with
 | nil=>exact hm.elim
 | cons a b=>exact⟨_,_,rfl,h1 F Γ σ G H _ _ _ _ r a hm fun Γ1 σ1 m1 r1 e1=>h2 F Γ1 σ1 G H _ _ _ _ r1 b m1 fun Γ2 σ2 m2 r2 e2=>k _ _ m2 r2 fun i hi=>(e2 i hi).trans (e1 i hi)⟩
theorem aIK {K:Fg}{n:Nat}{gs:TGs}{ms:MGs}(h:VGs P0 A gs ms):VG P0 A (aVJ K n gs) (gT n ms):=by
 intro F Γ σ G H v d Q Qm r hd m k;unfold gT at m
 split at m
 ·cases hd with
  | @tup p xs _ hp rs=>exact⟨p,xs,rfl,SqT.of (r.fr.sub _ _ hp),by rw[rs.len]; exact m.1,h F Γ σ G H _ _ _ _ r rs m.2 k⟩
 ·exact m.elim
def Walk (P0:AA→Hp→Prop)(J:It)(G0:Hp)(ds:List D):Prop:=∀(F:Fra P0) (Γ:En) (σ:St) (G H:Hp),Same G0 G→R F Γ σ G H →
 (∀ i d,ds[i]?=some d→J.go i H∧∀ x H',J.yld i H x H'→∃ G',Same G G'∧R F Γ σ G' H'∧Dt G' x d)∧J.stop ds.length H
def VI (P0:AA→Hp→Prop)(wi:TI)(m:MD):Prop:=∀(F:Fra P0) (Γ:En) (σ:St) (G H:Hp) (Q:It→Hp→Prop) (Qm:List D→En→Prop),R F Γ σ G H→m Γ Qm →
 (∀ ds Γ' J G' H',Qm ds Γ'→Same G G'→R F Γ' σ G' H'→Walk P0 J G' ds→Q J H')→wi σ H Q
def aSS (ma:ME):MD:=fun Γ Q=>ma Γ fun x Γ1=>match x with
 | .list ds=>Q ds Γ1
 | _=>False
def aQO (ma:ME):MD:=fun Γ Q=>ma Γ fun x Γ1=>match x with
 | .tuple ds=>Q ds Γ1
 | _=>False
def pY (lo:Int)(n:Nat):List D:=(B8 n).map fun(k:Nat)=>Ch (lo+k)
def a5W (md:MD):MD:=fun Γ Q=>md Γ fun ds Γ1=>match ds with
 | [.int j] => -(2^62)≤j∧j<2^62∧Q (pY 0 j.toNat) Γ1
 | _=>False
theorem aJV {K:Fg}{ta:TE}{ma:ME}(ha:VT P0 ta ma):VI P0 (aMC K ta) (aSS ma):=by
 intro F Γ σ G H Q Qm r m k;refine ha F Γ σ G H _ _ r m fun d Γ1 x G1 H1 m1 s1 r1 d1=>?_
 split at m1
 ·cases d1 with
  | @lst p xs ds hp rs=>
   refine⟨p,rfl,⟨xs,SqL.of (r1.fr.sub _ _ hp)⟩,k _ _ _ _ _ m1 s1 r1 fun F2 Γ2 σ2 G2 H2 s2 r2=>⟨fun i d e=>?_,?_⟩⟩
   ·have hq:H2 p=some (.lst xs):=r2.fr.sub _ _ (s2 _ _ hp);obtain⟨v,ev,dv⟩:=Dts.get rs e;refine⟨⟨xs,v,SqL.of hq,ev⟩,fun y H3 hy=>⟨G2,Same.refl _,?_⟩⟩;obtain⟨rfl,hy⟩:=hy;have:=hy xs (SqL.of hq);rw[ev] at this
    cases this
    exact⟨r2,Dt.same s2 _ _ dv⟩
   ·exact⟨xs,SqL.of (r2.fr.sub _ _ (s2 _ _ hp)),by rw[rs.len]; exact AV _⟩
 ·exact m1.elim
theorem aE6 {K:Fg}{ta:TE}{ma:ME}(ha:VT P0 ta ma):VI P0 (aVK K ta) (aQO ma):=by
 intro F Γ σ G H Q Qm r m k;refine ha F Γ σ G H _ _ r m fun d Γ1 x G1 H1 m1 s1 r1 d1=>?_
 split at m1
 ·cases d1 with
  | @tup p xs ds hp rs=>
   refine⟨p,rfl,⟨xs,SqT.of (r1.fr.sub _ _ hp)⟩,k _ _ _ _ _ m1 s1 r1 fun F2 Γ2 σ2 G2 H2 s2 r2=>⟨fun i d e=>?_,?_⟩⟩
   ·have hq:H2 p=some (.tup xs):=r2.fr.sub _ _ (s2 _ _ hp);obtain⟨v,ev,dv⟩:=Dts.get rs e;refine⟨⟨xs,v,SqT.of hq,ev⟩,fun y H3 hy=>⟨G2,Same.refl _,?_⟩⟩;obtain⟨rfl,hy⟩:=hy;have:=hy xs (SqT.of hq);rw[ev] at this
    cases this
    exact⟨r2,Dt.same s2 _ _ dv⟩
   ·exact⟨xs,SqT.of (r2.fr.sub _ _ (s2 _ _ hp)),by rw[rs.len]; exact AV _⟩
 ·exact m1.elim
theorem a8J {G:Hp}(lo:Int)(n:Nat):Walk P0 (Itr lo n) G (pY lo n):=by
 intro F Γ σ G2 H2 _ r;have hl:(pY lo n).length=n:=by simp[pY]
 refine⟨fun i d e=>?_,by rw[hl]; exact AV _⟩;have hi:i<n:=by have:=(Aq.mp e).1; omega
 refine⟨hi,fun x H' hy=>?_⟩;obtain⟨rfl,rfl⟩:=hy;refine⟨G2,Same.refl _,r,?_⟩;unfold pY at e;rw[Ao,EB hi] at e
 cases e
 exact .int _
theorem yM {t:TA}{md:MD}(h:VD P0 t md):VI P0 (aQS t) (a5W md):=by
 intro F Γ σ G H Q Qm r m k;refine h F Γ σ G H _ _ r m fun ds Γ1 xs G1 H1 m1 s1 r1 d1=>?_
 split at m1
 ·rename_i j
  cases d1 with
  | cons a b=>
   cases a; cases b
   exact⟨j,rfl,m1.1,m1.2.1,k _ _ _ _ _ m1.2.2 s1 r1 (a8J _ _)⟩
 ·exact m1.elim
def mNx:MS:=fun Γ Q=>Q (.nx Γ)
def cI (a b:MS):MS:=fun Γ Q=>a Γ fun fl=>match fl with
 | .nx Γ1=>b Γ1 Q
 | fl=>Q fl
def aGK (m:ME):MS:=fun Γ Q=>m Γ fun _ Γ1=>Q (.nx Γ1)
def iJ (i:Nat)(m:MO):MS:=fun Γ Q=>m Γ fun rv Γ1=>Q (.nx (Γ1.set i rv.sl))
def aTN (i j:Nat)(m:MD):MS:=fun Γ Q=>m Γ fun ds Γ1=>match ds with
 | [d,e]=>Q (.nx ((Γ1.set i (.val d)).set j (.val e)))
 | _=>False
def fK (m:MO):MS:=fun Γ Q=>m Γ fun rv _=>Q (.rt rv)
def mIf (c:MT)(a b:MS):MS:=fun Γ Q=>c Γ fun k Γ1=>if k=true then a Γ1 Q else b Γ1 Q
def aIP:MS:=fun _ _=>False
def forL (g:MG)(b:MS):List D→En→(Fl→Prop)→Prop
 | [],Γ,Q=>Q (.nx Γ)
 | d::ds,Γ,Q=>g d Γ fun Γ1=>b Γ1 fun fl=>match fl with
  | .nx Γ2=>forL g b ds Γ2 Q
  | .ct Γ2=>forL g b ds Γ2 Q
  | .bk Γ2=>Q (.nx Γ2)
  | .rt rv=>Q (.rt rv)
def a9X (mi:MD)(g:MG)(b:MS):MS:=fun Γ Q=>mi Γ fun ds Γ1=>forL g b ds Γ1 Q
def a7K (c:MT)(b:MS):MS:=fun Γ Q=>∃ W:Nat→En→Prop,(∃ n,W n Γ)∧∀ n Γ,W n Γ→c Γ fun k Γ1=>if k=true then b Γ1 fun fl=>match fl with
  | .nx Γ2=>∃ n',n'<n∧W n' Γ2
  | .ct Γ2=>∃ n',n'<n∧W n' Γ2
  | .bk Γ2=>Q (.nx Γ2)
  | .rt rv=>Q (.rt rv)
 else Q (.nx Γ1)
def gD (i:Nat)(m:ME):MS:=fun Γ Q=>match Γ[i]? with
 | some (.own _)=>m Γ fun d Γ1=>match Γ1[i]? with
  | some (.own ds)=>ds.length<1000∧Q (.nx (Γ1.set i (.own (ds++[d]))))
  | _=>False
 | _=>False
def zL (i:Nat)(m:MS):MS:=fun Γ Q=>match Γ[i]? with
 | some (.own ds)=>m (Γ.set i (.val (.list ds))) Q
 | _=>m Γ Q
theorem dZ:VSA P0 A aLD mNx:=fun _ _ _ _ _ _ _ r m k=>k _ m _ _ _ (Same.refl _) r fun _ _=>rfl
theorem aF0:VSA P0 A aI7 aIP:=fun _ _ _ _ _ _ _ _ m _=>m.elim
theorem aX {t u:TS}{a b:MS}(ha:VSA P0 A t a)(hb:VSA P0 A u b):VSA P0 A (aRL t u) (cI a b):=by
 intro F Γ σ G H E Qm r m k;refine ha F Γ σ G H _ _ r m fun fl q=>?_
 cases fl with
 | nx Γ1=>exact fun σ1 G1 H1 s1 r1 e1=>hb F Γ1 σ1 G1 H1 E Qm r1 q fun fl q=>(k fl q).same s1 e1
 | rt rv=>exact k _ q
 | bk Γ1=>exact k _ q
 | ct Γ1=>exact k _ q
theorem aCW {t:TE}{m:ME}(h:VT P0 t m):VSA P0 A (aGW t) (aGK m):=by
 intro F Γ σ G H E Qm r hm k;exact h F Γ σ G H _ _ r hm fun d Γ1 x G1 H1 m1 s1 r1 d1=>k _ m1 _ _ _ s1 r1 fun _ _=>rfl
theorem bY {i:Nat}{t:TE}{m:MO}(h:VO P0 t m)(hA:A i=true:=by rfl):VSA P0 A (aHM t (zR i)) (iJ i m):=by
 intro F Γ σ G H E Qm r hm k;exact h F Γ σ G H _ _ r hm fun rv Γ1 x G1 H1 m1 s1 r1 d1 a1=>k _ m1 _ _ _ s1 (r1.set d1 a1) (zG hA)
theorem aOH {i j:Nat}{t:TA}{m:MD}(h:VD P0 t m)(hA:A i=true:=by rfl)(hB:A j=true:=by rfl):VSA P0 A (aVE i j t) (aTN i j m):=by
 intro F Γ σ G H E Qm r hm k;refine h F Γ σ G H _ _ r hm fun ds Γ1 x G1 H1 m1 s1 r1 d1=>?_
 split at m1
 ·cases d1 with
  | cons a b=>
   cases b with
   | cons b c=>
    cases c
    exact⟨_,_,rfl,k _ m1 _ _ _ s1 ((r1.setV a).setV b) fun q hq=>(zG hB q hq).trans (zG hA q hq)⟩
 ·exact m1.elim
theorem bV {t:TE}{m:MO}(h:VO P0 t m):VSA P0 A (aPC t) (fK m):=by
 intro F Γ σ G H E Qm r hm k;exact h F Γ σ G H _ _ r hm fun rv Γ1 x G1 H1 m1 s1 r1 d1 _=>k _ m1 _ _ _ s1 r1.fr d1
theorem dR {c:TT}{t u:TS}{mc:MT}{a b:MS}(hc:VTT P0 c mc)(ha:VSA P0 A t a)(hb:VSA P0 A u b):VSA P0 A (aRI c t u) (mIf mc a b):=by
 intro F Γ σ G H E Qm r m k;refine hc F Γ σ G H _ _ r m fun k1 Γ1 G1 H1 m1 s1 r1=>?_
 cases k1 with
 | true=>exact a0T (ha F Γ1 σ G1 H1 E Qm r1 m1 fun fl q=>(k fl q).same s1 fun _ _=>rfl)
 | false=>exact a2O (hb F Γ1 σ G1 H1 E Qm r1 m1 fun fl q=>(k fl q).same s1 fun _ _=>rfl)
theorem a6X {c:TT}{t:TS}{mc:MT}{b:MS}(hc:VTT P0 c mc)(hb:VSA P0 A t b):VSA P0 A (aHH c t) (a7K mc b):=by
 intro F Γ σ G H E Qm r m k;obtain⟨W,⟨n0,w0⟩,turn⟩:=m;refine⟨fun n σ1 H1=>∃ Γ1 G1,Same G G1∧R F Γ1 σ1 G1 H1∧W n Γ1∧∀ i,A i=false→σ1[i]?=σ[i]?,⟨n0,Γ,G,Same.refl _,r,w0,fun _ _=>rfl⟩,?_⟩;rintro n σ1 H1 ⟨Γ1,G1,s1,r1,w1,e1⟩;refine hc F Γ1 σ1 G1 H1 _ _ r1 (turn n Γ1 w1) fun k2 Γ2 G2 H2 m2 s2 r2=>?_
 cases k2 with
 | true=>
  refine a0T ⟨_,fun _ _ h=>h,?_⟩;refine hb F Γ2 σ1 G2 H2 _ _ r2 m2 fun fl q=>?_
  cases fl with
  | nx Γ3=>
   obtain⟨n',hn,w3⟩:=q;exact fun σ3 G3 H3 s3 r3 e3=>⟨n',hn,Γ3,G3,(s1.trans s2).trans s3,r3,w3,fun i hi=>(e3 i hi).trans (e1 i hi)⟩
  | ct Γ3=>
   obtain⟨n',hn,w3⟩:=q;exact fun σ3 G3 H3 s3 r3 e3=>⟨n',hn,Γ3,G3,(s1.trans s2).trans s3,r3,w3,fun i hi=>(e3 i hi).trans (e1 i hi)⟩
  | bk Γ3=>exact fun σ3 G3 H3 s3 r3 e3=>k _ q _ _ _ ((s1.trans s2).trans s3) r3 fun i hi=>(e3 i hi).trans (e1 i hi)
  | rt rv=>exact fun v G3 H3 s3 r3=>k _ q _ _ _ ((s1.trans s2).trans s3) r3
 | false=>exact a2O (k _ m2 _ _ _ (s1.trans s2) r2 e1)
theorem vN {wi:TI}{g:TG}{t:TS}{mi:MD}{mg:MG}{b:MS}(hi:VI P0 wi mi)(hg:VG P0 A g mg)(hb:VSA P0 A t b):VSA P0 A (aTD wi g t) (a9X mi mg b):=by
 intro F Γ σ G H E Qm r m k;refine hi F Γ σ G H _ _ r m fun ds Γ1 J G1 H1 m1 s1 r1 wk=>?_;refine⟨fun i n σ2 H2=>n=ds.length-i∧i≤ds.length∧∃ Γ2 G2,Same G1 G2∧R F Γ2 σ2 G2 H2∧forL mg b (ds.drop i) Γ2 Qm∧∀ i,A i=false→σ2[i]?=σ[i]?,⟨ds.length,by simp,Be _,Γ1,G1,Same.refl _,r1,m1,fun _ _=>rfl⟩,?_⟩;rintro i n σ2 H2 ⟨rfl,hle,Γ2,G2,s2,r2,m2,e2⟩;obtain⟨go,stop⟩:=wk F Γ2 σ2 G2 H2 s2 r2
 by_cases hlt:i<ds.length
 ·refine .inr ⟨(go i ds[i] (by simp[hlt])).1,fun σ' H'=>ds.length-(i+1)<ds.length-i∧i+1≤ds.length∧∃ Γ3 G3,Same G1 G3∧R F Γ3 σ' G3 H'∧forL mg b (ds.drop (i+1)) Γ3 Qm∧∀ i,A i=false→σ'[i]?=σ[i]?,fun σ' H' h=>⟨_,h.1,rfl,h.2⟩,fun x H' hy=>?_⟩;obtain⟨G3,s3,r3,d3⟩:=(go i ds[i] (by simp[hlt])).2 x H' hy;rw[FR hlt] at m2;refine hg F Γ2 σ2 G3 H' x _ _ _ r3 d3 m2 fun Γ4 σ4 m4 r4 e4=>?_;refine hb F Γ4 σ4 G3 H' _ _ r4 m4 fun fl q=>?_
  cases fl with
  | nx Γ5=>exact fun σ5 G5 H5 s5 r5 e5=>⟨by omega,hlt,Γ5,G5,(s2.trans s3).trans s5,r5,q,fun i hi=>((e5 i hi).trans (e4 i hi)).trans (e2 i hi)⟩
  | ct Γ5=>exact fun σ5 G5 H5 s5 r5 e5=>⟨by omega,hlt,Γ5,G5,(s2.trans s3).trans s5,r5,q,fun i hi=>((e5 i hi).trans (e4 i hi)).trans (e2 i hi)⟩
  | bk Γ5=>exact fun σ5 G5 H5 s5 r5 e5=>k _ q _ _ _ ((s1.trans s2).trans (s3.trans s5)) r5 fun i hi=>((e5 i hi).trans (e4 i hi)).trans (e2 i hi)
  | rt rv=>exact fun v G5 H5 s5 r5=>k _ q _ _ _ ((s1.trans s2).trans (s3.trans s5)) r5
 ·have e:i=ds.length:=by omega
  subst e;rw[D7] at m2;exact .inl ⟨stop,k _ m2 _ _ _ (s1.trans s2) r2 e2⟩
theorem fG {K:Fg}{i:Nat}{t:TE}{m:ME}(h:VT P0 t m):VSA P0 A (aGW (tBM K "list" aDH (uA i) (cQ t nM))) (gD i m):=by
 intro F Γ σ G H E Qm r hm k;unfold gD at hm
 split at hm
 ·rename_i ds0 e0
  obtain⟨p,vs,e1,e2,e3,e4,e5⟩:=r.sl i _ e0;refine⟨_,e1,.inl ⟨rfl,_,SqL.of e4⟩,?_⟩;refine h F Γ σ G H _ _ r hm fun d Γ1 x G1 H1 m1 s1 r1 d1=>?_
  split at m1
  ·rename_i ds e
   obtain⟨p',ws,f1,f2,f3,f4,f5⟩:=r1.sl i _ e;rw[e1] at f1; cases f1;refine⟨p,ws,x,rfl,rfl,f4,a3M (by rw[f5.len]; exact Cr m1.1),?_⟩;exact k _ m1.2 _ _ _ s1 (r1.write e e1 (f5.app (.cons d1 .nil))) fun _ _=>rfl
  ·exact m1.elim
 ·exact hm.elim
theorem R.pub1 {F:Fra P0}{Γ:En}{σ:St}{G H:Hp}(r:R F Γ σ G H){i:Nat}{ds:List D}(e:Γ[i]?=some (.own ds)):∃ G',Same G G'∧R F (Γ.set i (.val (.list ds))) σ G' H:=by
 obtain⟨p,vs,e1,e2,e3,e4,e5⟩:=r.sl i _ e;have hap:Apart F (Γ.set i .no) σ G H (.ref p) (.own ds):=fun j s fp ej hj q eq hq=>by
  cases eq
  by_cases hji:i=j
  ·subst hji;have hi:i<Γ.length:=(Aq.mp e).1;rw[BX hi] at ej
   cases ej
   rw[show fp=[] from hj] at hq; cases hq
  ·rw[BO hji] at ej;exact r.apart hji e ej (fp:=[p]) ⟨p,vs,rfl,e1,e2,e3,e4,e5⟩ hj p (AW.mpr rfl) hq
 obtain⟨G',s,r',d'⟩:=(r.drop i).give (ds:=ds) ⟨p,vs,rfl,e2,e3,e4,e5⟩ hap;refine⟨G',s,?_⟩;have q:=r'.setV (i:=i) d';rw[set_set] at q;have hs:σ.set i (some (.ref p))=σ:=by
  apply List.ext_getElem?;intro j
  by_cases hj:i=j
  ·subst hj;have hi:i<σ.length:=(Aq.mp e1).1;rw[BX hi,e1]
  ·rw[BO hj]
 rw[hs] at q;exact q
theorem a4D {i:Nat}{t:TS}{m:MS}(h:VSA P0 A t m):VSA P0 A t (zL i m):=by
 intro F Γ σ G H E Qm r hm k;unfold zL at hm
 split at hm
 ·rename_i ds e
  obtain⟨G',s,r'⟩:=r.pub1 e;exact h F _ σ G' H E Qm r' hm fun fl q=>(k fl q).same s fun _ _=>rfl
 ·exact h F Γ σ G H E Qm r hm k
def mFn (n:Nat)(b:MS):Fm:=fun as Q=>b (as++Ar n .no) fun fl=>match fl with
 | .rt rv=>Q rv
 | .nx _=>Q (.val .none)
 | _=>False
theorem aEQ {n k:Nat}{N:List Str}{t:TS}{b:MS}(h:VS P0 t b)(hN:N.length=n+k){vs:List V}{H:Hp}{Q:VK}{E:XK}(hs:spM P0 n (mFn k b) vs H Q E) :
  t { nx:=fun _ H'=>Q .non H',rt:=Q } (start N vs) H:=by
 obtain⟨F,as,Qm,rfl,rf,pr,hl,hm,q⟩:=hs;have hlen:vs.length=as.length:=Al.length pr;have get:∀{vs:List V} {as:List Sl} {i:Nat} {s:Sl},Al (qQ F F.G0) vs as→as[i]?=some s→∃ v,vs[i]?=some v∧qQ F F.G0 v s:=by
  intro vs as i s pr
  induction pr generalizing i with
  | nil=>intro e; simp at e
  | cons a b ih=>
   cases i with
   | zero=>intro e; simp at e; subst e; exact⟨_,rfl,a⟩
   | succ i=>intro e; simpa using ih (i:=i) (by simpa using e)
 have at_:∀{i:Nat} {s:Sl},(as++Ar k Sl.no)[i]?=some s→s≠.no→∃ v,(start N vs)[i]?=some (some v)∧qQ F F.G0 v s:=by
  intro i s e hne
  by_cases hi:i<as.length
  ·rw[BN hi] at e;obtain⟨v,ev,av⟩:=get pr e;refine⟨v,?_,av⟩;unfold start;rw[BN (by rw[AO]; omega),Ao,ev];rfl
  ·rw[Bj (by omega),B5] at e
   split at e
   ·cases e; exact absurd rfl hne
   ·cases e
 have r:R F (as++Ar k .no) (start N vs) F.G0 F.H0:=by
  refine R.of rf ?_ (fun i s e=>?_) (fun i B e=>?_) (fun i j x y _ e _=>?_)
  ·unfold start;simp only[Ah,CT,AO];omega
  ·cases s with
   | no=>trivial
   | val d=>
    obtain⟨v,ev,av⟩:=at_ e (by intro z; cases z)
    exact⟨v,ev,av⟩
   | own ds=>
    obtain⟨v,ev,av⟩:=at_ e (by intro z; cases z)
    exact av.elim
   | pen=>
    obtain⟨v,ev,p,rfl,ep⟩:=at_ e (by intro z; cases z)
    exact⟨p,ev,ep⟩
   | con q=>
    obtain⟨v,ev,av⟩:=at_ e (by intro z; cases z)
    have av:v=.ref q:=av;rw[av] at ev;exact ev
   | pub B=>
    obtain⟨v,ev,av⟩:=at_ e (by intro z; cases z)
    exact⟨v,ev,av⟩
   | box B=>
    obtain⟨v,ev,av⟩:=at_ e (by intro z; cases z)
    exact av.elim
  ·obtain⟨v,ev,av⟩:=at_ e (by intro z; cases z)
   exact av.elim
  ·obtain⟨v,ev,av⟩:=at_ e (by intro z; cases z)
   exact av.elim
 refine h F _ _ _ _ _ _ r hm fun fl hq=>?_
 cases fl with
 | nx Γ=>exact fun σ G' H' _ r' _=>q _ _ _ _ hq r'.fr .non
 | rt rv=>exact fun v G' H' _ f' v'=>q _ _ _ _ hq f' v'
 | bk Γ=>exact hq.elim
 | ct Γ=>exact hq.elim
theorem aLP {n:Nat}{f:Fm}{ps:List Str}(h:ps.length=n):∀ vs H Q E,spM P0 n f vs H Q E→vs.length=ps.length:=by
 rintro vs H Q E ⟨F,as,Qm,_,_,pr,hl,_⟩;rw[Al.length pr,hl,h]
theorem _root_.L2.Fun.okV {P:AQ}{w:AK}{K:Fg}{mg:Mg}{base:AG}{x qual:Str}{st:AL}{f:AA}{fd:An}{N ps:List Str}{k n j:Nat}{b:MS}
  (F:Fun K x qual st f fd) (S:FnScope N ps (aQ st)) (hn:ps.length=n) (hN:N.length=n+j)
  (hbody:∀(cdv:AB) (A:AU) (outer:List Env) (s:AD) (H:Hp) (E:XK),Room k (A.deeper (Bw qual (aQ st) s.heap.objs.size f cdv)) →
   SsX P0 (aBQ CX0 P w K mg base N qual (aQ st) f cdv A outer s H E).nox (iT st) b):FnOk P w K mg base CX0 (k+1) f fd ps (spM P0 n (mFn j b)):=by
 refine F.ok S (aLP hn) fun cdv A outer s H vs Q E hr hs=>?_;obtain⟨t,h1,h2⟩:=hbody cdv A outer s H E hr;exact⟨t,h1,aEQ h2 hN hs⟩
end
section
variable {P0:AA→Hp→Prop}
def jF:D→String
 | .none => "NoneType"
 | .bool _ => "bool"
 | .int _ => "int"
 | .str _ => "str"
 | .list _ => "list"
 | .tuple _ => "tuple"
 | .dict _ => "dict"
def a0Y (a b:String):Bool:=a==b||(a == "bool" && b == "int")
def tyL:List String:=["NoneType", "bool", "int", "str", "list", "tuple", "dict"]
def Kit (K:Fg):Prop:=∀ a∈tyL,∀ b∈tyL,AS K (.type a) (.type b)=some (a0Y a b)
theorem Kit.mk' {K:Fg}(h:∀ a∈tyL,∀ b∈tyL,(a==b)=false→AS K (.type a) (.type b)=some (a == "bool" && b == "int")):Kit K:=by
 intro a ha b hb
 by_cases e:a=b
 ·subst e;rw[aGE];simp[a0Y]
 ·have e':(a==b)=false:=by simpa using e
  rw[h a ha b hb e'];simp[a0Y,e']
theorem aLX {K:Fg}{H:Hp}{x:V}{d:D}(h:Dt H x d):TyOf K H x (.type (jF d))∧jF d∈tyL:=by
 cases h with
 | non=>exact⟨.non,by simp[jF,tyL]⟩
 | bl b=>exact⟨.bl b,by simp[jF,tyL]⟩
 | int i=>exact⟨.int i,by simp[jF,tyL]⟩
 | str x=>exact⟨.str x,by simp[jF,tyL]⟩
 | tup hp _=>exact⟨.tup hp,by simp[jF,tyL]⟩
 | lst hp _=>exact⟨.lst hp,by simp[jF,tyL]⟩
 | dic hp _=>exact⟨hp.elim .dK fun⟨_,q⟩=>.fdK q,by simp[jF,tyL]⟩
def a9W (n:String)(ma:ME):ME:=fun Γ Q=>ma Γ fun x Γ1=>Q (.bool (a0Y (jF x) n)) Γ1
theorem qC {K:Fg}{n:String}{ta:TE}{ma:ME}(hk:Kit K)(hn:n∈tyL)(ha:VT P0 ta ma):VT P0 (tCB (aVS K) (cQ ta (cQ (tC (.ty n)) nM))) (a9W n ma):=by
 intro F Γ σ G H Q Qm r m k;refine ha F Γ σ G H _ _ r m fun d Γ1 x G1 H1 m1 s1 r1 d1=>?_;obtain⟨h1,h2⟩:=aLX (K:=K) (Dt.same r1.fr.sub _ _ d1);exact⟨x,.ty n,.type n,_,_,rfl,rfl,h1,hk _ h2 _ hn,k _ _ _ _ _ m1 s1 r1 (.bl _)⟩
section
variable {X:Cx}
structure Goods (ds:List D):Prop where
 lay:Fz ds=true
 dep:F0 ds≤59
def aVW (neg:Bool):R2:=fun x y H Q=>∃ dx ds,Dt H x dx∧(Dt H y (.list ds)∨Dt H y (.tuple ds))∧Good dx∧Goods ds∧Q (.bl (if neg then !(ds.any fun e=>Ae e dx) else ds.any fun e=>Ae e dx)) H
theorem aKO {u a b:Nat}(h:u+64<BJ)(ha:a≤59):u+1+min a b<BJ:=by
 have:min a b≤a:=Nat.min_le_left _ _;omega
theorem aHZ (hu:X.A.units+64<BJ):OpR X (Bf .In) (aVW false):=by
 intro pins s σ H x y v u Q I rx ry h;obtain⟨dx,ds,ex,ey,gx,gs,q⟩:=h;obtain⟨as,r1⟩:=Dt.reads I.hok dx x v ex rx;rcases ey with ey|ey
 ·obtain⟨bs,r2⟩:=Dt.reads I.hok _ y u ey ry;exact SeqAt.in_list_reads r2 r1 gs.lay gx.lay (aKO hu gs.dep) ⟨.bl _,H,I,rfl,q⟩
 ·obtain⟨bs,r2⟩:=Dt.reads I.hok _ y u ey ry;exact SeqAt.in_tuple_reads r2 r1 gs.lay gx.lay (aKO hu gs.dep) ⟨.bl _,H,I,rfl,q⟩
def mIn (neg:Bool)(ma mb:ME):ME:=fun Γ Q=>ma Γ fun x Γ1=>mb Γ1 fun y Γ2=>match vM y with
 | some ds=>Good x∧Goods ds∧Q (.bool (if neg then !(ds.any fun e=>Ae e x) else ds.any fun e=>Ae e x)) Γ2
 | none=>False
theorem aMX {neg:Bool}{ta tb:TE}{ma mb:ME}(ha:VT P0 ta ma)(hb:VT P0 tb mb):VT P0 (tOp (aVW neg) ta tb) (mIn neg ma mb):=by
 refine aMN (m2:=fun x y Q=>match vM y with|some ds=>Good x∧Goods ds∧Q (.bool (if neg then !(ds.any fun e=>Ae e x) else ds.any fun e=>Ae e x))|none=>False) ha hb fun F Γ σ G H x y d e Q Qm r d1 d2 m k=>?_
 split at m
 ·rename_i ds hds
  refine⟨d,ds,Dt.same r.fr.sub _ _ d1,?_,m.1,m.2.1,k _ _ _ _ m.2.2 (Same.refl _) r (.bl _)⟩;have d2:=Dt.same r.fr.sub _ _ d2
  cases d2<;>simp only[vM] at hds<;>try (cases hds)
  ·exact .inr (.tup (by assumption) (by assumption))
  ·exact .inl (.lst (by assumption) (by assumption))
 ·exact m.elim
end
def aOX (H H':Hp):Prop:=∀ b xs,H b=some (.tup xs)→H' b=some (.tup xs)∨∃ q vs,V.ref q∈xs∧H q=some (.lst vs)
def aD9:En→En:=B4 fun s=>match s with
 | .own ds=>.val (.list ds)
 | .box B=>match B.view with
  | some d=>.val d
  | none=>match B.pv with
   | some b=>.pub b
   | none=>.no
 | s=>s
def aA9 (m:MT):MT:=fun Γ Q=>m (aD9 Γ) fun b Γ1=>Γ1=aD9 Γ∧Q b Γ
def OwnA (F:Fra P0)(Γ:En)(σ:St)(G H:Hp)(b:AA):Prop:=∃(i:Nat) (s:Sl) (fp:List AA),Γ[i]?=some s∧SlF F G H σ[i]? fp s∧b∈fp
section
variable {F:Fra P0}{Γ:En}{σ:St}{G H:Hp}
open Classical in
noncomputable def a9H (F:Fra P0)(Γ:En)(σ:St)(G H:Hp):Hp:=fun b=>if OwnA F Γ σ G H b then H b else G b
noncomputable def uJ (F:Fra P0)(Γ:En)(σ:St)(G H:Hp)(G1:Hp):Hp:=fun b=>open Classical in if OwnA F Γ σ G H b then none else G1 b
theorem OwnA.at {b:AA}(h:OwnA F Γ σ G H b):F.H0 b=none∧G b=none∧∃ o,H b=some o:=by
 obtain⟨i,s,fp,_,e,hb⟩:=h;exact e.mine hb
theorem OwnA.tup {b:AA}(h:OwnA F Γ σ G H b){xs:List V}(e:H b=some (.tup xs)):∃ q vs,V.ref q∈xs∧OwnA F Γ σ G H q∧H q=some (.lst vs):=by
 obtain⟨i,s,fp,e0,e1,hb⟩:=h
 cases s with
 | no=>rw[show fp=[] from e1] at hb; cases hb
 | val d=>rw[e1.1] at hb; cases hb
 | pen=>rw[e1.1] at hb; cases hb
 | con q=>rw[e1.1] at hb; cases hb
 | pub B=>rw[e1.1] at hb; cases hb
 | own ds=>
  obtain⟨p,vs,f0,_,_,_,f3,_⟩:=e1;rw[f0] at hb;rw[AW.mp hb,f3] at e
  cases e
 | box B=>
  have e1':=e1;obtain⟨v,_,h2,_⟩:=e1;obtain⟨q,q1,q2,vs,q3⟩:=B.nt h2 b hb xs e;exact⟨q,vs,q2,⟨i,_,fp,e0,e1',q1⟩,q3⟩
theorem R.pubAll (r:R F Γ σ G H):Same G (a9H F Γ σ G H)∧R F (aD9 Γ) σ (a9H F Γ σ G H) H:=by
 have g:Same G (a9H F Γ σ G H):=fun b o e=>by
  unfold a9H
  by_cases h:OwnA F Γ σ G H b
  ·have:=h.at.2.1;rw[e] at this; cases this
  ·rw[if_neg h]; exact e
 have nob:∀(i:Nat) s,(aD9 Γ)[i]?=some s→(∀ x,s≠.own x)∧∀ B,s≠.box B:=by
  intro i s e;unfold aD9 at e;rw[Ao] at e
  cases e0:Γ[i]? with
  | none=>rw[e0] at e; cases e
  | some s0=>
   rw[e0] at e
   cases s0 with
   | box B=>
    have e:(match B.view with|some d=>Sl.val d|none=>match B.pv with|some b=>Sl.pub b|none=>Sl.no)=s:=Option.some.inj e
    cases hv:B.view with
    | none=>
     cases hw:B.pv with
     | none=>rw[hv,hw] at e; subst e; exact⟨fun x z=>(nomatch z),fun x z=>(nomatch z)⟩
     | some b=>rw[hv,hw] at e; subst e; exact⟨fun x z=>(nomatch z),fun x z=>(nomatch z)⟩
    | some d=>rw[hv] at e; subst e; exact⟨fun x z=>(nomatch z),fun x z=>(nomatch z)⟩
   | _=>cases e; exact⟨fun x z=>(nomatch z),fun x z=>(nomatch z)⟩
 refine⟨g,R.of ⟨fun b o e=>?_,fun b o e=>?_,r.fr.h0,r.fr.pn⟩ ?_ (fun i s e=>?_) (fun i B e=>(nob i _ e).2 B rfl) (fun i j x y _ e=>((nob i _ e).1 x rfl).elim)⟩
 ·unfold a9H at e
  split at e
  ·exact e
  ·exact r.fr.sub b o e
 ·have h:¬OwnA F Γ σ G H b:=fun h=>by
   have:=h.at.1;rw[e] at this; cases this
  unfold a9H;rw[if_neg h];exact r.fr.g0 b o e
 ·unfold aD9;rw[AO];exact r.len
 ·unfold aD9 at e;rw[Ao] at e
  cases e0:Γ[i]? with
  | none=>rw[e0] at e; cases e
  | some s0=>
   rw[e0] at e;have h:=r.sl i s0 e0
   cases s0 with
   | no=>cases e; trivial
   | val d=>cases e; obtain⟨v,e1,d1⟩:=h; exact⟨v,e1,Dt.same g _ _ d1⟩
   | own ds=>
    cases e
    obtain⟨p,vs,e1,e2,e3,e4,e5⟩:=h;refine⟨_,e1,.lst ?_ (Dts.same g _ _ e5)⟩;unfold a9H;rw[if_pos ⟨i,_,[p],e0,⟨p,vs,rfl,e1,e2,e3,e4,e5⟩,AW.mpr rfl⟩];exact e4
   | pen=>cases e; exact h
   | con q=>cases e; exact h
   | pub B=>cases e; obtain⟨v,e1,e2⟩:=h; exact⟨v,e1,B.mono g e2⟩
   | box B=>
    have e:(match B.view with|some d=>Sl.val d|none=>match B.pv with|some b=>Sl.pub b|none=>Sl.no)=s:=Option.some.inj e;obtain⟨v,fp,e1,e2,e3⟩:=h
    cases hv:B.view with
    | none=>
     cases hw:B.pv with
     | none=>rw[hv,hw] at e; subst e; trivial
     | some b0=>
      rw[hv,hw] at e;subst e;refine⟨v,e1,B.pok e2 hw g fun b hb=>?_⟩;unfold a9H;rw[if_pos ⟨i,_,fp,e0,⟨v,e1,e2,e3⟩,hb⟩]
    | some d=>
     rw[hv] at e;subst e;refine⟨v,e1,B.vok e2 hv g fun b hb=>?_⟩;unfold a9H;rw[if_pos ⟨i,_,fp,e0,⟨v,e1,e2,e3⟩,hb⟩]
theorem R.backG (r:R F Γ σ G H){G1 H1:Hp}(s:Same (a9H F Γ σ G H) G1)(f1:Rf F G1 H1) :
  (∀ b,OwnA F Γ σ G H b→G1 b=H b∧H1 b=H b)∧Same G (uJ F Γ σ G H G1)∧Rf F (uJ F Γ σ G H G1) H1∧aOX G1 (uJ F Γ σ G H G1):=by
 have s0:=(r.pubAll).1;have own:∀ b,OwnA F Γ σ G H b→G1 b=H b∧H1 b=H b:=fun b h=>by
  obtain⟨_,_,o,e⟩:=h.at;have q:a9H F Γ σ G H b=H b:=by unfold a9H; rw[if_pos h]
  rw[e] at q ⊢;exact⟨s b _ q,f1.sub b _ (s b _ q)⟩
 have g:Same G (uJ F Γ σ G H G1):=fun b o e=>by
  have h:¬OwnA F Γ σ G H b:=fun h=>by
   have:=h.at.2.1;rw[e] at this; cases this
  unfold uJ;rw[if_neg h];exact s b o (s0 b o e)
 refine⟨own,g,⟨fun b o e=>?_,fun b o e=>?_,f1.h0,f1.pn⟩,fun b xs e=>?_⟩
 ·unfold uJ at e
  split at e
  ·cases e
  ·exact f1.sub b o e
 ·have h:¬OwnA F Γ σ G H b:=fun h=>by
   have:=h.at.1;rw[e] at this; cases this
  unfold uJ;rw[if_neg h];exact f1.g0 b o e
 ·by_cases h:OwnA F Γ σ G H b
  ·have e':H b=some (.tup xs):=by rw[← (own b h).1]; exact e
   obtain⟨q,vs,q1,q2,q3⟩:=h.tup e';exact .inr ⟨q,vs,q1,by rw[(own q q2).1]; exact q3⟩
  ·refine .inl ?_;unfold uJ;rw[if_neg h];exact e
theorem aBO {G1:Hp}{b:AA}(h:OwnA F Γ σ G H b):uJ F Γ σ G H G1 b=none:=by
 unfold uJ;rw[if_pos h]
theorem R.back (r:R F Γ σ G H){G' H':Hp}(s:Same (a9H F Γ σ G H) G')(r':R F (aD9 Γ) σ G' H'):Same G (uJ F Γ σ G H G')∧R F Γ σ (uJ F Γ σ G H G') H'∧aOX G' (uJ F Γ σ G H G'):=by
 obtain⟨own,g,f,t⟩:=r.backG s r'.fr;obtain⟨fps,h1,h2⟩:=r.fps;refine⟨g,⟨f,r.len,fps,fun i sl e=>(h1 i sl e).go g fun b hb=>?_,h2⟩,t⟩;have ho:OwnA F Γ σ G H b:=⟨i,sl,fps i,e,h1 i sl e,hb⟩;exact⟨aBO ho,(own b ho).2⟩
end
theorem aFC {t:TT}{m:MT}(h:VTT P0 t m):VTT P0 t (aA9 m):=by
 intro F Γ σ G H Q Qm r hm k;obtain⟨s0,r0⟩:=r.pubAll;refine h F _ σ _ H _ _ r0 hm fun b Γ1 G1 H1 m1 s1 r1=>?_;obtain⟨rfl,q⟩:=m1;obtain⟨s2,r2,t2⟩:=r.back s1 r1;exact k _ _ _ _ q s2 r2
section
variable {ta tb:TE}{ma mb:ME}
abbrev a4Y:=mI0 fun i j=>Ch (i+j)
abbrev aEL:=mI0 fun i j=>Ch (i-j)
abbrev a5Q:=mI Dj fun i j=>Ch (i*j)
abbrev a91:=mI aF7 fun i j=>Ch (i.fdiv j)
abbrev aRD:=mI (fun _ j=>0<j) fun i j=>Ch (i%j)
abbrev aMK:=mU fun i=>Ch (-i)
abbrev mLt:=mI0 fun i j=>C3 (decide (i<j))
abbrev mLe:=mI0 fun i j=>C3 (decide (i≤j))
abbrev mGt:=mI0 fun i j=>C3 (decide (j<i))
abbrev mGe:=mI0 fun i j=>C3 (decide (j≤i))
theorem kO (ha:VT P0 ta ma)(hb:VT P0 tb mb):VT P0 (tOp (rI0 fun i j=>.int (i+j)) ta tb) (a4Y ma mb):=a8F (fun _ _ _=>.int _) ha hb
theorem u9 (ha:VT P0 ta ma)(hb:VT P0 tb mb):VT P0 (tOp (rI0 fun i j=>.int (i-j)) ta tb) (aEL ma mb):=a8F (fun _ _ _=>.int _) ha hb
theorem lF (ha:VT P0 ta ma)(hb:VT P0 tb mb):VT P0 (tOp (rI Dj fun i j=>.int (i*j)) ta tb) (a5Q ma mb):=aUN (fun _ _ _=>.int _) ha hb
theorem yR (ha:VT P0 ta ma)(hb:VT P0 tb mb):VT P0 (tOp (rI aF7 fun i j=>.int (i.fdiv j)) ta tb) (a91 ma mb):=aUN (fun _ _ _=>.int _) ha hb
theorem aBM (ha:VT P0 ta ma)(hb:VT P0 tb mb):VT P0 (tOp (rI (fun _ j=>0<j) fun i j=>.int (i%j)) ta tb) (aRD ma mb):=aUN (fun _ _ _=>.int _) ha hb
theorem a4S (ha:VT P0 ta ma):VT P0 (tUn (rU fun i=>.int (-i)) ta) (aMK ma):=aW2 (fun _ _=>.int _) ha
theorem a6P (ha:VT P0 ta ma)(hb:VT P0 tb mb):VT P0 (tOp (rI0 fun i j=>.bl (decide (i<j))) ta tb) (mLt ma mb):=a8F (fun _ _ _=>.bl _) ha hb
theorem aQA (ha:VT P0 ta ma)(hb:VT P0 tb mb):VT P0 (tOp (rI0 fun i j=>.bl (decide (i≤j))) ta tb) (mLe ma mb):=a8F (fun _ _ _=>.bl _) ha hb
theorem aFA (ha:VT P0 ta ma)(hb:VT P0 tb mb):VT P0 (tOp (rI0 fun i j=>.bl (decide (j<i))) ta tb) (mGt ma mb):=a8F (fun _ _ _=>.bl _) ha hb
theorem aUO (ha:VT P0 ta ma)(hb:VT P0 tb mb):VT P0 (tOp (rI0 fun i j=>.bl (decide (j≤i))) ta tb) (mGe ma mb):=a8F (fun _ _ _=>.bl _) ha hb
abbrev aV9:=m2I fun i j=>if j<i then j else i
theorem aPS (ha:VT P0 ta ma)(hb:VT P0 tb mb):VT P0 (tCB (fun xs H Q=>∃ i j,xs=[.int i,.int j]∧Q (.int (if j<i then j else i)) H) (cQ ta (cQ tb nM))) (aV9 ma mb):=aT0 ha hb
theorem aG {i:Int}:VT P0 (tC (.int i)) (mC (.int i)):=aRM fun _=>.int i
theorem m7 {b:Bool}:VT P0 (tC (.bl b)) (mC (.bool b)):=aRM fun _=>.bl b
theorem bB {s:Str}:VT P0 (tC (.str s)) (mC (.str s)):=aRM fun _=>.str s
theorem iC:VT P0 (tC .non) (mC .none):=aRM fun _=>.non
end
end
section
def aH4:Fm:=fun as Q=>match as with
 | [.pen,.val (.int m)]=>0<m∧m<1073741824∧∀ r:Int,0≤r→r<m→Q (.val (.int r))
 | _=>False
def qI:Fl→Prop:=fun fl=>fl=.rt (.val (.bool true))
end
end L2.VS
namespace L2.VS
open PySem PySem.Spec PyProof.Rows LT
section
variable {Γ:En}{i j n:Nat}{d e x y:D}{ma mb:ME}{oa ob:MO}{ta tb:MT}{md:MD}{aa:MA}{sa sb:MS}{g:MG}{gs:MGs}{mp mq:MP}
theorem aU8 {Q:Fl→Prop}(h:sa Γ fun fl=>match fl with|.nx Γ1=>sb Γ1 Q|fl=>Q fl):cI sa sb Γ Q:=h
theorem aWQ {Q:Fl→Prop}(h:Q (.nx Γ)):mNx Γ Q:=h
theorem aQR {Q:Fl→Prop}(h:ma Γ fun _ Γ1=>Q (.nx Γ1)):aGK ma Γ Q:=h
theorem aRX {Q:Fl→Prop}(h:oa Γ fun rv Γ1=>Q (.nx (Γ1.set i rv.sl))):iJ i oa Γ Q:=h
theorem aSI {Q:Fl→Prop}(h:md Γ fun ds Γ1=>match ds with|[d,e]=>Q (.nx ((Γ1.set i (.val d)).set j (.val e)))|_=>False):aTN i j md Γ Q:=h
theorem aUQ {Q:Fl→Prop}(h:oa Γ fun rv _=>Q (.rt rv)):fK oa Γ Q:=h
theorem aWE {Q:Fl→Prop}(h:ta Γ fun k Γ1=>if k=true then sa Γ1 Q else sb Γ1 Q):mIf ta sa sb Γ Q:=h
theorem aU2 {Q:Fl→Prop}(h:md Γ fun ds Γ1=>forL g sa ds Γ1 Q):a9X md g sa Γ Q:=h
def aUD (i:Nat)(d:D)(Γ1:En)(Q:Fl→Prop):Prop:=match Γ1[i]? with
 | some (.own ds)=>ds.length<1000∧Q (.nx (Γ1.set i (.own (ds++[d]))))
 | _=>False
theorem aGS {Q:Fl→Prop}{ds:List D}(h0:Γ[i]?=some (.own ds))(h:ma Γ fun d Γ1=>aUD i d Γ1 Q):gD i ma Γ Q:=by
 unfold gD;rw[h0];exact h
theorem vJ {Q:Fl→Prop}{Γ1:En}{ds:List D}(h0:Γ1[i]?=some (.own ds))(h1:ds.length<1000)(h:Q (.nx (Γ1.set i (.own (ds++[d]))))):aUD i d Γ1 Q:=by
 unfold aUD;rw[h0];exact⟨h1,h⟩
theorem aQ7 {Q:Fl→Prop}{ds:List D}(h0:Γ[i]?=some (.own ds))(h:sa (Γ.set i (.val (.list ds))) Q):zL i sa Γ Q:=by
 unfold zL;rw[h0];exact h
theorem aLL {Q:Fl→Prop}(h0:Γ[i]?=some (.val d))(h:sa Γ Q):zL i sa Γ Q:=by
 unfold zL;rw[h0];exact h
theorem i_c {Q:D→En→Prop}(h:Q d Γ):mC d Γ Q:=h
theorem aSW {Q:D→En→Prop}(h0:Γ[i]?=some (.val d))(h:Q d Γ):aY i Γ Q:=by
 unfold aY;rw[h0];exact h
theorem aWK {f:Int→Int→D}{Q:D→En→Prop}(h:ma Γ fun x Γ1=>mb Γ1 fun y Γ2=>match x,y with|.int i,.int j=>Q (f i j) Γ2|_,_=>False):mI0 f ma mb Γ Q:=h
theorem i_I {C:Int→Int→Prop}{f:Int→Int→D}{Q:D→En→Prop}(h:ma Γ fun x Γ1=>mb Γ1 fun y Γ2=>match x,y with|.int i,.int j=>C i j∧Q (f i j) Γ2|_,_=>False):mI C f ma mb Γ Q:=h
theorem i_U {f:Int→D}{Q:D→En→Prop}(h:ma Γ fun x Γ1=>match x with|.int i=>Q (f i) Γ1|_=>False):mU f ma Γ Q:=h
theorem aTL {Q:D→En→Prop}(h:ma Γ fun x Γ1=>match x with|.int i=>Q (.int (if i<0 then -i else i)) Γ1|_=>False):aMP ma Γ Q:=h
theorem aNI {Q:D→En→Prop}(h:ma Γ fun x Γ1=>match x with|.int i=>Q (.int i) Γ1|.bool b=>Q (.int (if b then 1 else 0)) Γ1|_=>False):a2U ma Γ Q:=h
theorem aWR {f:Int→Int→Int}{Q:D→En→Prop}(h:ma Γ fun x Γ1=>mb Γ1 fun y Γ2=>match x,y with|.int i,.int j=>Q (.int (f i j)) Γ2|_,_=>False):m2I f ma mb Γ Q:=h
theorem aW9 {Q:D→En→Prop}(h:ma Γ fun x Γ1=>mb Γ1 fun y Γ2=>Good x∧Good y∧Q (.bool (Ae x y)) Γ2):mEq ma mb Γ Q:=h
theorem aW6 {Q:D→En→Prop}(h:ma Γ fun x Γ1=>mb Γ1 fun y Γ2=>Good x∧Good y∧Q (.bool (!PyData.eqv x y)) Γ2):mNe ma mb Γ Q:=h
theorem aT1 {Q:D→En→Prop}(h:ma Γ fun x Γ1=>Q (.bool (isN x)) Γ1):aMO ma Γ Q:=h
theorem aPP {Q:D→En→Prop}(h:ma Γ fun x Γ1=>Q (.bool (!isN x)) Γ1):aM9 ma Γ Q:=h
theorem aPQ {Q:D→En→Prop}(h:ma Γ fun x Γ1=>match x with|.bool c=>if c=true then mb Γ1 Q else Q (.bool false) Γ1|_=>False):z6 ma mb Γ Q:=h
theorem aOV {Q:D→En→Prop}(h:ma Γ fun x Γ1=>match x with|.bool c=>Q (.bool (!c)) Γ1|_=>False):a99 ma Γ Q:=h
theorem aTP {Q:Bool→En→Prop}(h:ma Γ fun x Γ1=>match x with|.bool c=>Q c Γ1|_=>False):dY ma Γ Q:=h
theorem aUF {Q:Bool→En→Prop}(h:ta Γ fun c Γ1=>if c=true then tb Γ1 Q else Q false Γ1):aAZ ta tb Γ Q:=h
theorem aWN {Q:Bool→En→Prop}(h:ta Γ fun c Γ1=>if c=true then Q true Γ1 else tb Γ1 Q):mOr ta tb Γ Q:=h
theorem aTF {Q:Bool→En→Prop}(h:ta Γ fun c Γ1=>Q (!c) Γ1):zO ta Γ Q:=h
theorem aTT {Q:Rv→En→Prop}(h:ta Γ fun c Γ1=>if c=true then oa Γ1 Q else ob Γ1 Q):aI9 ta oa ob Γ Q:=h
theorem aRQ {Q:List D→En→Prop}(h:Q [] Γ):cY Γ Q:=h
theorem aOB {Q:List D→En→Prop}(h:ma Γ fun x Γ1=>md Γ1 fun xs Γ2=>Q (x::xs) Γ2):aM ma md Γ Q:=h
theorem aMY {Q:List Sl→En→Prop}(h:Q [] Γ):cU Γ Q:=h
theorem aQ6 {Q:List Sl→En→Prop}(h:ma Γ fun x Γ1=>aa Γ1 fun xs Γ2=>Q (.val x::xs) Γ2):cF ma aa Γ Q:=h
theorem aQF {Q:List Sl→En→Prop}(h0:Γ[i]?=some .pen)(h:aa Γ fun xs Γ2=>Q (.pen::xs) Γ2):lY i aa Γ Q:=by
 unfold lY;rw[h0];exact h
theorem aUE {Q:D→En→Prop}(h:md Γ fun ds Γ1=>ds.length≤1000∧Q (.tuple ds) Γ1):j7 md Γ Q:=h
theorem aTX {Q:Rv→En→Prop}(h:md Γ fun ds Γ1=>ds.length≤1000∧Q (.own ds) Γ1):pJ md Γ Q:=h
theorem aWC {Q:D→En→Prop}(h:ma Γ fun x Γ1=>mb Γ1 fun y Γ2=>oQ (ixD x y) fun d=>Q d Γ2):mIx ma mb Γ Q:=h
theorem aTB {Q:D→En→Prop}(h:ma Γ fun x Γ1=>oQ (a9Y x) fun d=>Q d Γ1):a2V ma Γ Q:=h
theorem aUH {s:String}{Q:D→En→Prop}(h:ma Γ fun x Γ1=>Q (.bool (a0Y (jF x) s)) Γ1):a9W s ma Γ Q:=h
theorem aUJ {Q:D→En→Prop}(h:oa Γ fun rv Γ1=>nbQ rv (Q rv.d Γ1)):cD oa Γ Q:=h
theorem aUP {Q:Rv→En→Prop}(h:ma Γ fun d Γ1=>Q (.val d) Γ1):cR ma Γ Q:=h
theorem aPH {Q:Rv→En→Prop}{ds:List D}(h0:Γ[i]?=some (.own ds))(h:Q (.own ds) (Γ.set i .no)):a9T i Γ Q:=by
 unfold a9T;rw[h0];exact h
theorem aP0 {f:Fm}{Q:Rv→En→Prop}(h:aa Γ fun as Γ1=>as.length=n∧f as fun rv=>Q rv Γ1):bQ n f aa Γ Q:=h
theorem aFZ {Q:Rv→En→Prop}(h:ma Γ fun x Γ1=>match vM x with|some ds=>Q (.own ds) Γ1|none=>False):a6C ma Γ Q:=h
theorem aSB {Q:Rv→En→Prop}(h:ma Γ fun x Γ1=>mp Γ1 fun lo Γ2=>mq Γ2 fun hi Γ3=>match x with|.list ds=>Q (.own (cutD ds lo hi)) Γ3|_=>False):aEK ma mp mq Γ Q:=h
theorem aU3 {Q:Option Int→En→Prop}(h:Q none Γ):pNo Γ Q:=h
theorem aSZ {Q:Option Int→En→Prop}(h:ma Γ fun x Γ1=>match x with|.int i=>Q (some i) Γ1|_=>False):pSo ma Γ Q:=h
theorem aSN {Q:Rv→En→Prop}(h:ma Γ fun x Γ1=>mb Γ1 fun y Γ2=>match x,y with|.list ds,.list es=>ds.length+es.length≤1000∧Q (.own (ds++es)) Γ2|_,_=>False):a7Q ma mb Γ Q:=h
theorem aWD {neg:Bool}{Q:D→En→Prop}(h:ma Γ fun x Γ1=>mb Γ1 fun y Γ2=>match vM y with|some ds=>Good x∧Goods ds∧Q (.bool (if neg then !(ds.any fun e=>Ae e x) else ds.any fun e=>Ae e x)) Γ2|none=>False):mIn neg ma mb Γ Q:=h
theorem aK2 {Q:Bool→En→Prop}(h:ta (aD9 Γ) fun b Γ1=>Γ1=aD9 Γ∧Q b Γ):aA9 ta Γ Q:=h
theorem aTJ {Q:List D→En→Prop}(h:ma Γ fun x Γ1=>match x with|.list ds=>Q ds Γ1|_=>False):aSS ma Γ Q:=h
theorem aRT {Q:List D→En→Prop}(h:ma Γ fun x Γ1=>match x with|.tuple ds=>Q ds Γ1|_=>False):aQO ma Γ Q:=h
theorem aNV {Q:List D→En→Prop}(h:md Γ fun ds Γ1=>match ds with|[.int j] => -(2^62)≤j∧j<2^62∧Q (pY 0 j.toNat) Γ1|_=>False):a5W md Γ Q:=h
theorem aWU {Q:En→Prop}(h:Q (Γ.set i (.val d))):gN i d Γ Q:=h
theorem aWF {Q:En→Prop}{ds:List D}(hl:ds.length=n)(h:gs ds Γ Q):gT n gs (.tuple ds) Γ Q:=⟨hl,h⟩
theorem aJJ {Q:En→Prop}(h:Q Γ):aGT [] Γ Q:=h
theorem aH0 {Q:En→Prop}{ds:List D}(h:g d Γ fun Γ1=>gs ds Γ1 Q):a0I g gs (d::ds) Γ Q:=h
theorem lG {k:Nat}{as:List Sl}{Q:Rv→Prop}(h:sa (as++Ar k .no) fun fl=>match fl with|.rt rv=>Q rv|.nx _=>Q (.val .none)|_=>False):mFn k sa as Q:=h
theorem cN {o:Option D}{k:D→Prop}(h0:o=some d)(h:k d):oQ o k:=by rw[h0]; exact h
theorem dX {m:Int}{Q:Rv→Prop}(h1:0<m)(h2:m<1073741824)(h:∀ r:Int,0≤r→r<m→Q (.val (.int r))):aH4 [.pen,.val (.int m)] Q:=⟨h1,h2,h⟩
structure KOk (I:En→Prop)(Q K:Fl→Prop):Prop where
 nx:∀ Γ,I Γ→K (.nx Γ)
 ct:∀ Γ,I Γ→K (.ct Γ)
 bk:∀ Γ,Q (.nx Γ)→K (.bk Γ)
 rt:∀ rv,Q (.rt rv)→K (.rt rv)
theorem vA {ds:List D}{Q:Fl→Prop}(I:Nat→En→Prop)(h0:I 0 Γ)(hs:∀ i d Γ K,ds[i]?=some d→I i Γ→KOk (I (i+1)) Q K→g d Γ fun Γ1=>sa Γ1 K)(he:∀ Γ,I ds.length Γ→Q (.nx Γ)):forL g sa ds Γ Q:=by
 have aux:∀(es:List D) (k:Nat) (Γ:En),(∀ i d,es[i]?=some d→ds[k+i]?=some d)→k+es.length=ds.length→I k Γ→forL g sa es Γ Q:=by
  intro es
  induction es with
  | nil=>intro k Γ _ hl hi; exact he Γ (by rw[← hl]; simpa using hi)
  | cons d es ih=>
   intro k Γ hd hl hi;have next:∀ Γ2,I (k+1) Γ2→forL g sa es Γ2 Q:=fun Γ2 h3=>ih (k+1) Γ2 (fun i e he'=>by
    have:=hd (i+1) e (by simpa using he');rw[show k+1+i=k+(i+1) by omega]; exact this) (by rw[← hl,Af]; omega) h3
   exact hs k d Γ _ (by simpa using hd 0 d rfl) hi ⟨next,next,fun _ h=>h,fun _ h=>h⟩
 exact aux ds 0 Γ (fun i d h=>by simpa using h) (by simp) h0
theorem tQ {lo:Int}{n:Nat}{Q:Fl→Prop}(I:Nat→En→Prop)(h0:I 0 Γ)(hs:∀ i Γ K,i<n→I i Γ→KOk (I (i+1)) Q K→g (.int (lo+i)) Γ fun Γ1=>sa Γ1 K)(he:∀ Γ,I n Γ→Q (.nx Γ)):forL g sa (pY lo n) Γ Q:=by
 have hl:(pY lo n).length=n:=by simp[pY]
 refine vA I h0 (fun i d Γ K e hi hk=>?_) (by rw[hl]; exact he);have hi':i<n:=by have:=(Aq.mp e).1; omega
 unfold pY at e;rw[Ao,EB hi'] at e
 cases e
 exact hs i Γ K hi' hi hk
theorem a2M {Q:Fl→Prop}(I:Nat→En→Prop)(m0:Nat)(h0:I m0 Γ)(hs:∀ m Γ,I m Γ→ta Γ fun k Γ1=>if k=true then sa Γ1 fun fl=>match fl with
  | .nx Γ2=>∃ n',n'<m∧I n' Γ2
  | .ct Γ2=>∃ n',n'<m∧I n' Γ2
  | .bk Γ2=>Q (.nx Γ2)
  | .rt rv=>Q (.rt rv)
 else Q (.nx Γ1)):a7K ta sa Γ Q:=⟨I,⟨m0,h0⟩,hs⟩
end
theorem aSR {A B:Prop}(h:B):if (!true)=true then A else B:=a2O h
theorem aSM {A B:Prop}(h:A):if (!false)=true then A else B:=a0T h
theorem good_int (i:Int):Good (.int i):=⟨rfl,by show 0≤60; decide⟩
theorem good_none:Good .none:=⟨rfl,by show 0≤60; decide⟩
theorem aMA (i j:Int):Ae (.int i) (.int j)=decide (i=j):=by
 show(i==j)=_
 exact Bool.beq_eq_decide_eq i j
section
variable {P:D→Prop}{Γ:En}{Q:D→En→Prop}
end
def Gd (n:Nat)(d:D):Prop:=d.canLay0=true∧d.depth≤n
theorem Gd.good {n:Nat}{d:D}(h:Gd n d)(hn:n≤60:=by decide):Good d:=⟨h.1,Ac h.2 hn⟩
theorem Gd.mono {n m:Nat}{d:D}(h:Gd n d)(hn:n≤m:=by decide):Gd m d:=⟨h.1,Ac h.2 hn⟩
theorem gds {n:Nat}:∀{ds:List D},(∀ d∈ds,Gd n d)→Fz ds=true∧F0 ds≤n
 | [],_=>⟨rfl,Be _⟩
 | d::ds,h=>by
  have h1:=h d Ap;have h2:=gds (ds:=ds) fun e he=>h e (Ak _ he);refine⟨by show(d.canLay0&&Fz ds)=true; rw[h1.1,h2.1]; rfl,?_⟩;show max d.depth (F0 ds)≤n;exact Nat.max_le.mpr ⟨h1.2,h2.2⟩
theorem a4C {n:Nat}{ds:List D}(h:∀ d∈ds,Gd n d):Gd (n+1) (.tuple ds):=⟨(gds h).1,Fv (gds h).2⟩
theorem a73 {n:Nat}{ds:List D}(h:∀ d∈ds,Gd n d):Gd (n+1) (.list ds):=⟨(gds h).1,Fv (gds h).2⟩
theorem a2I {n:Nat}{ds:List D}(h:∀ d∈ds,Gd n d)(hn:n≤59:=by decide):Goods ds:=⟨(gds h).1,Ac (gds h).2 hn⟩
theorem vD (i:Int):Gd 0 (.int i):=⟨rfl,AV _⟩
theorem gd_none:Gd 0 .none:=⟨rfl,AV _⟩
theorem aHK (s:Str)(h:(Ad s).canLay0=true:=by decide +kernel):Gd 0 (.str s):=⟨h,AV _⟩
theorem good_str (s:Str)(h:(Ad s).canLay0=true:=by decide +kernel):Good (.str s):=(aHK s h).good
theorem aNT (q:Rat):Gd 1 (cO q):=a4C (n:=0) fun d h=>by
 rcases AT.mp h with rfl|h
 ·exact vD _
 ·rw[AW.mp h]; exact vD _
theorem iZ {d:D}(h:Good d):Ae d d=true:=SeqAt.eqv_refl d h.lay
theorem isT {d:D}{n:String}{A B:Prop}(h:a0Y (jF d) n=true)(a:A):if a0Y (jF d) n=true then A else B:=by rw[h]; exact a0T a
theorem isF {d:D}{n:String}{A B:Prop}(h:a0Y (jF d) n=false)(b:B):if a0Y (jF d) n=true then A else B:=by rw[h]; exact a2O b
theorem aWI {d:D}{n:String}{A B:Prop}(h:a0Y (jF d) n=true)(b:B):if (!a0Y (jF d) n)=true then A else B:=by rw[h]; exact a2O b
theorem aWS {d:D}{n:String}{A B:Prop}(h:a0Y (jF d) n=false)(a:A):if (!a0Y (jF d) n)=true then A else B:=by rw[h]; exact a0T a
theorem aJU (q:Rat):ixD (cO q) (.int 0)=some (.int q.num):=rfl
theorem aM5 (q:Rat):ixD (cO q) (.int 1)=some (.int (q.den:Int)):=rfl
theorem aGB (l:Rat×Rat):ixD (mX l) (.int 0)=some (cO l.1):=rfl
theorem aG7 (l:Rat×Rat):ixD (mX l) (.int 1)=some (cO l.2):=rfl
end L2.VS
namespace L2
open PySem PySem.Spec PyProof.Rows
def a5C (env:Env):List (Str×BC)→List (Str×AA)→List (Str×AA)
 | [],cs=>cs
 | (n,k)::r,cs=>if (k==.free)=true then a5C env r ((n,(env.cells.lookup n).getD 0)::cs) else a5C env r cs
theorem aBU {env:Env}:∀(names:List (Str×BC)) (cs:List (Str×AA)),(∀ y∈names,y.2=.free→∃ c,env.cells.lookup y.1=some c) →
  (forIn names cs fun(x:Str×BC) (r:List (Str×AA))=>(do
   if (x.2==BC.free)=true then do
    let a←cellOf env x.1
    pure (Dr ((x.1,a)::r))
   else pure (Dr r):Sem (ForInStep (List (Str×AA)))))=pure (a5C env names cs)
 | [],cs,_=>rfl
 | (n,k)::r,cs,h=>by
  have ih:=fun cs=>aBU (env:=env) r cs fun y hy=>h y (Ak _ hy);rw[Cj];unfold a5C
  by_cases hk:(k==BC.free)=true
  ·obtain⟨c,hc⟩:=h (n,k) Ap (by simpa using hk);have hc':env.cells.lookup n=some c:=hc;have e:cellOf env n=pure c:=by unfold cellOf; rw[hc']
   simp only[hk,if_true,e,hc',getD_some];simp only[pure_bind];exact ih _
  ·have hk':(k==BC.free)=false:=by simpa using hk
   simp only[hk',Cc,if_false,pure_bind];exact ih _
theorem aC1 {scope:BH}{env:Env}(h:∀ y∈scope.names,y.2=.free→∃ c,env.cells.lookup y.1=some c):closureFor scope env=pure (a5C env scope.names []):=by
 have e:=aBU (env:=env) scope.names [] h;unfold closureFor;rw[← e];simp only[bind_pure]
theorem rO {env:Env}:∀(names:List (Str×BC)) (cs:List (Str×AA)),(∀ y∈names,y.2=.free→∃ c,env.cells.lookup y.1=some c)→(∀ x c,cs.lookup x=some c→env.cells.lookup x=some c) →
  ∀ x c,(a5C env names cs).lookup x=some c→env.cells.lookup x=some c
 | [],cs,_,h=>h
 | (n,k)::r,cs,hf,h=>by
  have ih:=fun cs=>rO (env:=env) r cs fun y hy=>hf y (Ak _ hy);unfold a5C
  by_cases hk:(k==BC.free)=true
  ·rw[if_pos hk];obtain⟨c0,hc⟩:=hf (n,k) Ap (by simpa using hk);have hc':env.cells.lookup n=some c0:=hc;refine ih _ fun x c e=>?_;rw[DC] at e
   cases hx:x==n with
   | true=>
    rw[hx,hc'] at e;have:x=n:=by simpa using hx
    rw[this,hc'];exact e
   | false=>rw[hx] at e; exact h x c e
  ·rw[if_neg hk];exact ih _ h
theorem wY {env:Env}:∀(names:List (Str×BC)) (cs:List (Str×AA)) (x:Str),((∃ k,(x,k)∈names∧k=.free)∨(cs.lookup x).isSome=true)→((a5C env names cs).lookup x).isSome=true
 | [],cs,x,h=>by
  rcases h with⟨k,hm,_⟩|h
  ·cases hm
  ·exact h
 | (n,k)::r,cs,x,h=>by
  unfold a5C
  by_cases hk:(k==BC.free)=true
  ·rw[if_pos hk];refine wY r _ x ?_
   by_cases hx:x=n
   ·right
    rw[DC,hx];simp
   ·rcases h with⟨k',hm,hf⟩|h
    ·rcases AT.mp hm with e|hm
     ·cases e; exact absurd rfl hx
     ·exact .inl ⟨k',hm,hf⟩
    ·right
     rw[DC];have:(x==n)=false:=by simpa using hx
     rw[this];exact h
  ·rw[if_neg hk];refine wY r _ x ?_;rcases h with⟨k',hm,hf⟩|h
   ·rcases AT.mp hm with e|hm
    ·cases e; subst hf; exact absurd rfl hk
    ·exact .inl ⟨k',hm,hf⟩
   ·exact .inr h
theorem nR {env:Env}:∀{names:List (Str×BC)} {x:Str},(∀ y∈names,y.2≠.cell) →
    ((names.map fun(n,k)=>if (k==BC.free&&env.scope.kind==.function&&env.kindOf n==some .cell) then(n,BC.cell) else(n,k)).lookup x=some .cell ∨
     (names.map fun(n,k)=>if (k==BC.free&&env.scope.kind==.function&&env.kindOf n==some .cell) then(n,BC.cell) else(n,k)).lookup x=some .free)→(x,BC.free)∈names
  | [],_,_,h=>by simp at h
  | (n,k)::r,x,hc,h=>by
    have ih:=@nR env r x (fun y hy=>hc y (Ak _ hy));have hk:k≠.cell:=hc (n,k) Ap;rw[A2] at h
    by_cases hf:(k==BC.free&&env.scope.kind==.function&&env.kindOf n==some .cell)=true
    · have kf:k=.free:=by
        have:=(BF _ _▸hf:_∧_).1;have:=(BF _ _▸this:_∧_).1;simpa using this
      simp only[hf,if_true] at h;rw[DC] at h
      cases hx:x==n with
      | true=>
        have:x=n:=by simpa using hx
        subst this; subst kf;exact Ap
      | false=>rw[hx] at h; exact Ak _ (ih h)
    · simp only[hf,Cc,if_false] at h;rw[DC] at h
      cases hx:x==n with
      | true=>
        have:x=n:=by simpa using hx
        subst this;rw[hx] at h;rcases h with h|h
        · exact absurd (Option.some.inj h) hk
        · have:k=.free:=Option.some.inj h;subst this;exact Ap
      | false=>rw[hx] at h; exact Ak _ (ih h)
def kZ (X:Cx)(N:List Str)(scope:BH)(C:AA)(s₀:AD)(H₀:Hp)(ex:List AA):Cx where
 prog:=X.prog
 w:=X.w
 K:=X.K
 mg:=X.mg
 base:=X.base
 A:=X.A
 N:=N
 s₀:=s₀
 H₀:=H₀
 env:=compEnvC scope (a5C X.env scope.names []) C X.env
 outer:=X.stack
 stack:=X.stack
 ex:=ex
 fn:=fun _=>false
 calm:=X.calm
 pn:=[]
 xe:=fun _ _=>False
def blk (nt:Nat)(fv:List Nat)(σ:St):St:=Ar nt none++fv.map fun j=>(σ[j]?).getD none
def aHB (nt:Nat)(fv:List Nat)(wi:TI)(g:TG)(ti:TT)(te:TE):TE:=fun σ H Q=>wi σ H fun J H1=>∃ W:Nat→Nat→List V→Hp→Prop,(∃ m,W 0 m [] H1)∧∀ i m ys H,W i m ys H →
 (J.stop i H∧ys.length≤sizeLine∧∀ p,H p=none→Q (.ref p) (upd H p (.lst ys))) ∨
 (J.go i H∧ys.length≤sizeLine∧∀ x H',J.yld i H x H'→g x (blk nt fv σ) H' fun σ2 H2=>(∀ i,nt≤i→σ2[i]?=(blk nt fv σ)[i]?)∧ti σ2 H2 fun b H3=>if b=true then te σ2 H3 fun v H4=>∃ m',m'<m∧W (i+1) m' (ys++[v]) H4 else ∃ m',m'<m∧W (i+1) m' ys H3)
def PTs (X:Cx)(cs:List AJ)(t:TT):Prop:=
 ∀(pins:List (AA×Obj)) (s:AD) (σ:St) (H:Hp) (Q:Bool→Hp→Prop),Inv X pins σ H s→t σ H Q →
  AF (AI X.prog X.w) X.A (forIn cs true fun c r=>if r=true then do let ok←isTrue c X.env (eval c X.env); pure (Dr ok) else pure (Dr r)) (TP X pins σ Q) X.xe s
def aO0:TT:=fun _ H Q=>Q true H
theorem zJ {X:Cx}:PTs X [] aO0:=fun _ _ _ H _ I h=>wpAny_tests_nil ⟨H,I,h⟩
structure BlkOk (X:Cx)(N:List Str)(scope:BH)(nt:Nat)(fv:List Nat):Prop where
 kind:scope.kind=.function
 ncell:∀ y∈scope.names,y.2≠.cell
 names:∀ y∈scope.names,y.2=.local→scope.names.lookup y.1=some .local
 free:∀ y∈scope.names,y.2=.free→X.env.kindOf y.1=some .cell
 len:N.length=nt+fv.length
 fv:∀ i x,N[nt+i]?=some x→∃ j,fv[i]?=some j∧X.N[j]?=some x∧X.env.kindOf x=some .cell∧(relabel scope X.env).names.lookup x=some .cell
section
variable {X:Cx}{N:List Str}{scope:BH}{nt:Nat}{fv:List Nat}{pins:List (AA×Obj)}{σ:St}{H:Hp}{s:AD}
theorem BlkOk.cells (B:BlkOk X N scope nt fv)(I:Inv X pins σ H s):∀ y∈scope.names,y.2=.free→∃ c,X.env.cells.lookup y.1=some c:=fun y hy hf=>I.ok.has y.1 (.inl (B.free y hy hf))
theorem aR5 (B:BlkOk X N scope nt fv)(I:Inv X pins σ H s){C:AA}{fp:List AA}(hC:s.heap.objs.size≤C)(hf:∀ b∈fp,a92 X pins H b)(hlt:∀ b∈fp,b<s.heap.objs.size) :
  (kZ X N scope C s H fp).Ok:=by
 have sub:∀ x c,(a5C X.env scope.names []).lookup x=some c→X.env.cells.lookup x=some c:=rO _ _ (B.cells I) (fun x c e=>by simp at e);refine⟨I.ok.mod,B.kind,I.ok.glob,I.ok.blt,hC,fun x y c e1 e2=>I.ok.inj x y c (sub x c e1) (sub y c e2),fun x hx=>?_,fun x c h=>absurd h (by show ¬(false=true); decide),I.ok.hd,I.ok.frames,.inl rfl,fun b hb=>⟨?_,fun x c e=>?_⟩,I.bs,Ac I.ok.bsz I.sz,fun b o e hb=>?_,fun b hb z=>?_,I.stack,I.stkFree⟩
 ·have hm:(x,BC.free)∈scope.names:=nR B.ncell hx;exact EQ.mp (wY scope.names [] x (.inl ⟨_,hm,rfl⟩))
 ·exact Aw (As (hlt b hb) hC)
 ·exact(hf b hb).2.2.2.2.1 x c (sub x c e)
 ·rcases(hf b hb).2.2.2.1 with z|z
  ·exact I.ok.noex b o e z
  ·exact absurd (As (AY e) (Ac I.ok.bsz z)) (Bd _)
 ·rcases AT.mp (I.stkSub b z) with z|z
  ·exact(hf b hb).2.1 z
  ·exact(hf b hb).2.2.1 z
theorem aCX (B:BlkOk X N scope nt fv)(I:Inv X pins σ H s){C:AA}{fp:List AA}(hC:s.heap.objs.size≤C)(hf:∀ b∈fp,a92 X pins H b)(hlt:∀ b∈fp,b<s.heap.objs.size){h':AG}{tk:Nat}
  (k:∀ b o,s.heap.get? b=some o→h'.get? b=some o) (hn:∃ m,h'.Ns C m):Inv (kZ X N scope C s H fp) [] (blk nt fv σ) H { s with heap:=h',toks:=tk }:=by
 have sub:∀ x c,(a5C X.env scope.names []).lookup x=some c→X.env.cells.lookup x=some c:=rO _ _ (B.cells I) (fun x c e=>by simp at e);obtain⟨m,hn⟩:=hn;refine⟨aR5 B I hC hf hlt,rfl,I.bare,Un.kept k,⟨m,hn,fun i x v e1 e2 e3=>?_⟩,fun x c e=>?_,I.hok.fresh hC,fun x c e=>I.freeC x c (sub x c e),fun p hp=>(nomatch hp),I.hok.kept k,?_⟩
 ·have hi:nt≤i:=by
   refine Nat.le_of_not_lt fun hlt=>?_;unfold blk at e2;rw[BN (by simpa using hlt),B5] at e2
   split at e2<;>cases e2
  obtain⟨j,hj⟩:∃ j,i=nt+j:=⟨i-nt,by omega⟩;subst hj;obtain⟨o,f1,f2,f3,f4⟩:=B.fv j x e1;unfold blk at e2;rw[Bj (by simp),CT,Gf,Ao,f1] at e2;have e2':(σ[o]?).getD none=some v:=Option.some.inj e2;have e4:σ[o]?=some (some v):=by
   cases q:σ[o]? with
   | none=>rw[q] at e2'; cases e2'
   | some z=>rw[q] at e2'; exact congrArg some e2'
  obtain⟨m0,hn0,hl⟩:=I.loc;obtain⟨u,ru,lk⟩:=hl o x v f2 e4 (.inr (.inl f3));refine⟨u,ru,.inr ⟨.inl f4,?_⟩⟩;rcases lk with⟨z,_⟩|⟨_,c,hc,hcell⟩
  ·rw[f3] at z; cases z
  ·have hm:(x,BC.free)∈scope.names:=nR B.ncell (.inl f4);obtain⟨c',hc'⟩:=EQ.mp (wY (env:=X.env) scope.names [] x (.inl ⟨_,hm,rfl⟩));have:=sub x c' hc';rw[hc] at this
   cases this
   obtain⟨oc,h1,h2⟩:=hcell;exact⟨c,hc',oc,k c oc h1,h2⟩
 ·obtain⟨v,oc,h1,h2⟩:=I.cell x c (sub x c e);exact⟨v,oc,k c oc h1,h2⟩
 ·show(blk nt fv σ).length=N.length
  unfold blk;rw[Ah,CT,AO];exact B.len.symm
end
section
variable {prog:AQ}{w:AK}{A:AU}{R:Result→AD→Prop}{s:AD}
theorem a4J {elt target iter:AJ}{ifs:List AJ}{scope:BH}{pos:Pos}{it acc:AB}{env:Env}(I:Nat→AD→Prop)
  (turn:∀ n s,I n s→AF (AI prog w) A (pyNext it) (fun r s₁=>match r with
   | none=>R (.ok .next) s₁
   | some v=>AF (AI prog w) A (FA target it v) (fun _ s₁'=>AF (AI prog w) A (Cd target env v) (fun _ s₂=>
     AF (AI prog w) A (forIn ifs true fun c r=>if r=true then do let ok←isTrue c env (eval c env); pure (Dr ok) else pure (Dr r)) (fun ok s₃=>
      if ok=true then AF (AI prog w) A (eval elt env) (fun x s₄=>
       AF (AI prog w) A (call (.builtin "list.append") [acc,x]) (fun _ s₅=>∃ m,m<n∧I m s₅) (fun _ _=>False) s₄) (fun _ _=>False) s₃
      else ∃ m,m<n∧I m s₃) (fun _ _=>False) s₂) (fun _ _=>False) s₁') (fun _ _=>False) s₁) (fun _ _=>False) s)
  (n:Nat) (h:I n s) :
  CQ (AI prog w) A (.compLoop (.ListComp elt [⟨target,iter,ifs,0⟩] scope pos) 0 it acc env) R s:=by
 refine codeAny_loop rfl I (fun n s hI=>?_) n h;show AF _ A ((compTurn (.ListComp elt [⟨target,iter,ifs,0⟩] scope pos) 0 it acc env).onRaise (fun x=>do Ds x env; theTreesLotGoes x)) _ _ s;refine wpAny_noted ?_;rw[compTurn_list];refine AE (DK (AE (Au (turn n s hI) (fun r s₁ h₁=>?_) fun _ _ f=>f.elim)))
 cases r with
 | none=>exact AR h₁
 | some v=>
  refine AE (Au h₁ (fun _ s₁' h₁'=>?_) fun _ _ f=>f.elim);refine AE (Au h₁' (fun _ s₂ h₂=>AE (Au h₂ (fun ok s₃ h₃=>?_) fun _ _ f=>f.elim)) fun _ _ f=>f.elim)
  cases ok with
  | false=>exact AR ⟨rfl,h₃⟩
  | true=>
   exact AE (AE (Au h₃ (fun x s₄ h₄=>AE (Au h₄ (fun _ s₅ h₅=>AR (AR ⟨rfl,h₅⟩)) fun _ _ f=>f.elim)) fun _ _ f=>f.elim))
end
end L2
namespace L2
open PySem PySem.Spec PyProof.Rows
section
variable {X:Cx}{N:List Str}{scope:BH}{nt:Nat}{fv:List Nat}{elt tg iter:AJ}{ifs:List AJ}{wi:TI}{g:TG}{ti:TT}{te:TE}{pos:Pos}
def zE (its:List AB)(n:Nat):Obj:={ cls:=.type "list", dict:=none,data:=.seq its.toArray n }
theorem a84 (hc:X.calm=true)(B:BlkOk X N scope nt fv)
  (hg:∀ C s₀ H₀ ex,PG (kZ X N scope C s₀ H₀ ex) tg g) (ht:∀ C s₀ H₀ ex,PTs (kZ X N scope C s₀ H₀ ex) ifs ti) (he:∀ C s₀ H₀ ex,PE (kZ X N scope C s₀ H₀ ex) elt te)
  {pins:List (AA×Obj)} {σ:St} {s2:AD} {H2:Hp} {it:AA} {fp:List AA} {tn:Nat→AG→Prop} {J:It} (I2:Inv X pins σ H2 s2) (T:Turn X.prog X.w X.K tg J fp it tn) (st2:tn 0 s2.heap) (f2:∀ b∈fp,a92 X pins H2 b)
  {W:Nat→Nat→List V→Hp→Prop} {m0:Nat} (w0:W 0 m0 [] H2) {Q:VK}
  (turn:∀ i m ys H,W i m ys H→(J.stop i H∧ys.length≤sizeLine∧∀ p,H p=none→Q (.ref p) (upd H p (.lst ys))) ∨
   (J.go i H∧ys.length≤sizeLine∧∀ x H',J.yld i H x H'→g x (blk nt fv σ) H' fun σ2 H2=>(∀ i,nt≤i→σ2[i]?=(blk nt fv σ)[i]?)∧ti σ2 H2 fun b H3=>if b=true then te σ2 H3 fun v H4=>∃ m',m'<m∧W (i+1) m' (ys++[v]) H4 else ∃ m',m'<m∧W (i+1) m' ys H3))
  {RR:AB→AA→Result→AD→Prop}
  (hR:∀ D C s',s2.heap.objs.size≤C→(∃ m,s'.heap.Ns C m)→(∀ h',BU C s'.heap h'→∃ H',Inv X pins σ H' { s' with heap:=h' }∧H' C=none∧Q (.ref D) H')→RR (.ref D) C (.ok .next) s') :
  AF (AI X.prog X.w) X.A (newList []) (fun acc s₃=>AF (AI X.prog X.w) X.A (newFunctionEnv scope X.env.globals (a5C X.env scope.names []) [] X.env.qual none .none (some X.env)) (fun cenv s₄=>
   CQ (AI X.prog X.w) X.A (.compStart (.ListComp elt [⟨tg,iter,ifs,0⟩] scope pos) 0 (.ref it) acc { cenv with scope:=relabel scope X.env }) (RR acc cenv.locals) s₄) X.xe s₃) X.xe s2:=by
 refine Ce (wpAny_newFunctionEnv B.ncell (by intro y hy; simp at hy) (fun h₁ hns₁ hsb₁=>?_) B.kind);dsimp only at hns₁ hsb₁ ⊢;generalize hH2:s2.heap.push { cls:=.type "list", dict:=none,data:=.seq ([]:List AB).toArray }=Hh at hns₁ hsb₁ ⊢;have hC:Hh.objs.size=s2.heap.objs.size+1:=by rw[← hH2,CY]
 have hDC:s2.heap.objs.size≠Hh.objs.size:=by rw[hC]; exact Aw (DY _)
 have hCle:s2.heap.objs.size≤Hh.objs.size:=by rw[hC]; exact CV _
 have below:∀ b,b<s2.heap.objs.size→b≠Hh.objs.size∧b≠s2.heap.objs.size:=fun b hb=>⟨by rw[hC]; exact Aw (Nat.lt_succ_of_lt hb),Aw hb⟩;have old:∀ b o,s2.heap.get? b=some o→h₁.get? b=some o:=fun b o e=>hsb₁.extBut b o (below b (AY e)).1 (AZ _ (hH2▸AZ _ e));have hacc:h₁.get? s2.heap.objs.size=some (zE [] 0):=hsb₁.extBut _ _ hDC (AZ _ (hH2▸BE _ rfl));have flt:∀ b∈fp,b<s2.heap.objs.size:=fun b hb=>by obtain⟨o,e,_⟩:=T.obj 0 _ st2 b hb; exact AY e
 have fresh:∀ a,s2.heap.objs.size≤a→s2.heap.get? a=none:=fun a ha=>by
  cases e:s2.heap.get? a with
  | none=>rfl
  | some o'=>exact absurd (AY e) (not_lt.mpr ha)
 have ftk:∀{H':Hp} {pl:List (AA×Obj)},(∀ b∈fp,H' b=none)→(∀ p∈pl,p.1∉fp)→∀ b∈fp,a92 (kZ X N scope Hh.objs.size s2 H2 fp) pl H' b:=fun{H' pl} hn hp b hb=>
  ⟨hn b hb,(below b (flt b hb)).1,fun z=>by
   rcases AT.mp (I2.stkSub b z) with z|z
   ·exact(f2 b hb).2.1 z
   ·exact(f2 b hb).2.2.1 z,.inl hb,fun x c e=>(f2 b hb).2.2.2.2.1 x c (rO _ _ (B.cells I2) (fun x c e=>by simp at e) x c e),fun p hp' z=>hp p hp' (z▸hb)⟩
 have Dfp:s2.heap.objs.size∉fp:=fun hm=>Bd _ (flt _ hm);have Dfs:s2.heap.objs.size∉frs X.stack:=fun z=>by
  rcases AT.mp (I2.stkSub _ z) with z|z
  ·exact Bd _ (z▸I2.lt)
  ·exact I2.nofs (AV _) z
 have Dcell:∀ x c,(a5C X.env scope.names []).lookup x=some c→c≠s2.heap.objs.size:=fun x c e z=>by
  obtain⟨v,q⟩:=I2.cell x c (rO _ _ (B.cells I2) (fun x c e=>by simp at e) x c e);exact Bd _ (z▸q.lt)
 have Iblk:Inv (kZ X N scope Hh.objs.size s2 H2 fp) [] (blk nt fv σ) H2 { s2 with heap:=h₁,toks:=s2.toks+([]:List (Str×AB)).length }:=aCX B I2 hCle f2 flt old ⟨_,hns₁⟩;have pinD:∀{s':AD} {H':Hp} {σ':St} {its:List AB} {n:Nat} {pl:List (AA×Obj)},Inv (kZ X N scope Hh.objs.size s2 H2 fp) pl σ' H' s'→s'.heap.get? s2.heap.objs.size=some (zE its n)→H' s2.heap.objs.size=none →
   Inv (kZ X N scope Hh.objs.size s2 H2 fp) [(s2.heap.objs.size,zE its n)] σ' H' s':=fun I e hn=>I.pins_of fun p hp=>by
  rw[AW.mp hp];exact⟨e,hn,hDC,Dfs,fun v z=>by cases z⟩
 have loop:∀ s₃:AD,s₃={ s2 with heap:=h₁,toks:=s2.toks+([]:List (Str×AB)).length } →
   CQ (AI X.prog X.w) X.A (.compLoop (.ListComp elt [⟨tg,iter,ifs,0⟩] scope pos) 0 (.ref it) (.ref s2.heap.objs.size) (compEnvC scope (a5C X.env scope.names []) Hh.objs.size X.env)) (RR (.ref s2.heap.objs.size) Hh.objs.size) s₃:=by
  rintro s₃ rfl;refine a4J (fun n s'=>∃ i ys its k H',Inv (kZ X N scope Hh.objs.size s2 H2 fp) [(s2.heap.objs.size,zE its k)] (blk nt fv σ) H' s'∧tn i s'.heap∧(∀ b∈fp,H' b=none)∧W i n ys H'∧Vals ys its) ?_ m0
   ⟨0,[],[],0,H2,pinD Iblk hacc (I2.hok.fresh (AV _)),T.keep _ _ _ st2 fun b _ o e=>old b o e,fun b hb=>(f2 b hb).1,w0,.nil⟩
  rintro n s' ⟨i,ys,its,k,H',I',st',fr',w',vs'⟩;obtain⟨pd,pn,_,_,_⟩:=I'.pin (s2.heap.objs.size,zE its k) (by exact Ap);have pfp:∀{o:Obj},∀ p∈[(s2.heap.objs.size,o)],p.1∉fp:=fun p hp=>by rw[AW.mp hp]; exact Dfp
  rcases turn i n ys H' w' with⟨stop,hz,q⟩|⟨go,hz,step⟩
  ·refine Au (T.done (kZ X N scope Hh.objs.size s2 H2 fp) rfl rfl rfl hc i _ s' _ H' (fun _ _=>False) I' (ftk fr' pfp) st' stop) (fun r s1 ⟨hr,I1⟩=>?_) fun _ _ f=>f;subst hr;obtain⟨pd1,pn1,_,_,_⟩:=I1.pin (s2.heap.objs.size,zE its k) (by exact Ap);obtain⟨m,hm,_⟩:=I1.loc;refine hR _ _ s1 hCle ⟨m,hm⟩ fun h' sb=>⟨upd H' s2.heap.objs.size (.lst ys),?_,by rw[bA (Am hDC)]; exact I1.free,q _ pn1⟩;have keepT:∀ b u,H' b=some u→b≠Hh.objs.size:=fun b u e z=>by
    have e0:H' Hh.objs.size=none:=I1.free;rw[z,e0] at e
    cases e
   have kept:∀ b o,b≠Hh.objs.size→s1.heap.get? b=some o→h'.get? b=some o:=fun b o hb e=>sb.extBut b o hb e;have un:=I1.base;refine I2.call' (s':={ s1 with heap:=h' }) (ch:=fp) I1.os ⟨fun b o e hn hb hx=>?_,fun b o e hn hb hx=>?_,fun b o e hn hx=>?_,fun b o e hx=>?_,fun b xs e=>?_,fun b o u e=>?_,fun b ps e=>?_⟩ ?_ I1.bare fun b hb=>?_
   ·exact kept b o (below b (AY e)).1 (un.keep b o e hn hb hx)
   ·obtain⟨sl,e1⟩:=un.slot b o e hn hb hx;exact⟨sl,kept b _ (below b (AY e)).1 e1⟩
   ·rw[bA (below b (AY e)).2];exact un.free b o e hn hx
   ·obtain⟨o',e1⟩:=un.there b o e hx;exact⟨o',kept b o' (below b (AY e)).1 e1⟩
   ·have e1:=un.tups b xs e;rw[bA (bJ e1 pn1)];exact e1
   ·have e1:=un.frzs b o u e;rw[bA (bJ e1 pn1)];exact e1
   ·obtain⟨mo,e1⟩:=un.tbls b ps e;exact⟨mo,by rw[bA (bJ e1 pn1)]; exact e1⟩
   ·intro b u e
    by_cases hb:b=s2.heap.objs.size
    ·subst hb;rw[aW] at e
     cases e
     exact⟨hz,its,k,vs',kept _ _ hDC pd1⟩
    ·rw[bA hb] at e;refine(I1.hok b u e).stay (fun c v hc' q'=>kept c v ?_ q') (fun c q'=>by rw[bA (bJ q' pn1)]; exact q') fun c xs q'=>by rw[bA (bJ q' pn1)]; exact q'
     rcases hc' with z|z
     ·rw[z]; exact keepT b u e
     ·exact keepT c _ z
   ·exact⟨(f2 b hb).2.2.2.1,(f2 b hb).2.1,(f2 b hb).2.2.2.2.1,(f2 b hb).2.2.2.2.2⟩
  ·refine Au (T.item (kZ X N scope Hh.objs.size s2 H2 fp) rfl rfl rfl hc i _ s' _ H' (fun _ _=>False) I' (ftk fr' pfp) st' go) (fun r s3 ⟨u,hr,h3⟩=>?_) fun _ _ f=>f;subst hr;refine Au h3 (fun _ s4 ⟨x,H4,I4,r4,y4,st4,fr4⟩=>?_) fun _ _ f=>f;have I4':=I4.pinned (ftk fr4 pfp) (T.obj _ _ st4);refine Au (hg Hh.objs.size s2 H2 fp _ s4 _ H4 x u _ I4' r4 (step x H4 y4)) (fun _ s5 ⟨σ5,H5,I5,x5,q5⟩=>?_) fun _ _ f=>f;refine Au (ht Hh.objs.size s2 H2 fp _ s5 σ5 H5 _ I5 q5) (fun b s6 ⟨H6,I6,q6⟩=>?_) fun _ _ f=>f;have weak:∀{s':AD} {H':Hp} {pl:List (AA×Obj)},Inv (kZ X N scope Hh.objs.size s2 H2 fp) pl σ5 H' s'→Inv (kZ X N scope Hh.objs.size s2 H2 fp) pl (blk nt fv σ) H' s':=by
    intro s' H' pl I;refine I.weak ((aCX B I2 hCle f2 flt old ⟨_,hns₁⟩ (tk:=0)).len.trans I.len.symm) fun j v e=>?_
    by_cases hj:nt≤j
    ·rw[x5 j hj]; exact e
    ·unfold blk at e;rw[BN (by simpa using hj),B5] at e
     split at e<;>cases e
   have pnew:∀{s':AD} {H':Hp} {σ':St},Inv (kZ X N scope Hh.objs.size s2 H2 fp) ([(s2.heap.objs.size,zE its k)]++a2W fp s4.heap) σ' H' s' →
     s'.heap.get? s2.heap.objs.size=some (zE its k)∧H' s2.heap.objs.size=none∧tn (i+1) s'.heap∧∀ b∈fp,H' b=none:=fun{s' H' σ'} I=>by
    obtain⟨p1,p2,_⟩:=I.pin (s2.heap.objs.size,zE its k) (by exact Ap);refine⟨p1,p2,T.keep _ _ _ st4 fun b hb o e=>(I.pin (b,o) (BY _ (BY _ (oY hb e)))).1,fun b hb=>?_⟩;obtain⟨o,e,d⟩:=T.obj _ _ st4 b hb;exact(I.pin (b,o) (BY _ (BY _ (oY hb e)))).2.1
   cases b with
   | false=>
    obtain⟨m',hm,w6⟩:=q6;obtain⟨p1,p2,p3,p4⟩:=pnew I6;exact⟨m',hm,i+1,ys,its,k,H6,weak (pinD I6 p1 p2),p3,p4,w6,vs'⟩
   | true=>
    refine Au (he Hh.objs.size s2 H2 fp _ s6 σ5 H6 _ I6 q6) (fun v s7 ⟨y,H7,I7,r7,q7⟩=>?_) fun _ _ f=>f;obtain⟨m',hm,w7⟩:=q7;obtain⟨p1,p2,p3,p4⟩:=pnew I7;have hl:=vs'.length;refine wpAny_list_append_plain (l:=s2.heap.objs.size) (items:=its.toArray) ⟨k,p1⟩ (fun h8 pl8 sb8=>?_) (by rw[A3]; omega);obtain⟨k8,e8⟩:=pl8;have e8':h8.get? s2.heap.objs.size=some (zE (its++[v]) k8):=by
     rw[e8];unfold zE;simp
    have I7':=(weak I7).pins_of (pins':=[]) fun p hp=>(nomatch hp);have I8:Inv (kZ X N scope Hh.objs.size s2 H2 fp) [] (blk nt fv σ) H7 { s7 with heap:=h8 }:=I7'.turned (t':=s7.toks) (it:=s2.heap.objs.size) (fun b o hb e=>(sb8.2 b hb).trans e) p2 hDC (.inr (AV _)) Dcell (fun p hp=>(nomatch hp));exact⟨m',hm,i+1,ys++[y],its++[v],k8,H7,pinD I8 e8' p2,T.keep _ _ _ p3 fun b hb o e=>(sb8.2 b (fun z=>Dfp (z▸hb))).trans e,p4,w7,vs'.append (.cons r7 .nil)⟩
 exact codeAny_compStart_list (loop _ rfl) (T.self X.A 0 _ _ _ (T.keep _ _ _ st2 fun b _ o e=>old b o e) (loop _ rfl))
theorem a1E (hc:X.calm=true)(B:BlkOk X N scope nt fv)(hi:PI X tg iter wi)
  (hg:∀ C s₀ H₀ ex,PG (kZ X N scope C s₀ H₀ ex) tg g) (ht:∀ C s₀ H₀ ex,PTs (kZ X N scope C s₀ H₀ ex) ifs ti) (he:∀ C s₀ H₀ ex,PE (kZ X N scope C s₀ H₀ ex) elt te)
  (hs:∀ x,Fn iter X.env x=pure x:=by intro _; rfl):PE X (.ListComp elt [⟨tg,iter,ifs,0⟩] scope pos) (aHB nt fv wi g ti te):=by
 intro pins s σ H Q I h;rw[eval_ListComp];refine Gg (use:=none) rfl hs (aC1 (B.cells I)) B.kind B.names (thn (hi pins s σ H _ I h) fun xv s1 h1=>thn h1 fun itv s2 h2=>?_);obtain⟨it,fp,tn,J,H2,rfl,I2,T,st2,f2,W,⟨m0,w0⟩,turn⟩:=h2;refine a84 hc B hg ht he I2 T st2 f2 w0 turn (RR:=fun acc C=>compPost (AI X.prog X.w) X.A X.xe none (EP X pins σ Q) acc C) fun D C s' hC hn hq=>?_;obtain⟨m,hm⟩:=hn;refine⟨m,hm,fun h' sb=>?_⟩;obtain⟨H',I',_,q'⟩:=hq h' sb;exact⟨.ref D,H',I',rfl,q'⟩
theorem aB1 {i:Nat}{x:Str}{pos' spos:Pos}(hN:X.N.Nodup)(hi':X.N[i]?=some x)(hx:X.env.scope.names.lookup x=some .local)(hc:X.calm=true)(B:BlkOk X N scope nt fv)(hi:PI X tg iter wi)
  (hg:∀ C s₀ H₀ ex,PG (kZ X N scope C s₀ H₀ ex) tg g) (ht:∀ C s₀ H₀ ex,PTs (kZ X N scope C s₀ H₀ ex) ifs ti) (he:∀ C s₀ H₀ ex,PE (kZ X N scope C s₀ H₀ ex) elt te)
  (hsw:Br (.ListComp elt [⟨tg,iter,ifs,0⟩] scope pos) (some (.Name x pos')) spos.line X.env=pure true:=by rfl)
  (hs:∀ x,Fn iter X.env x=pure x:=by intro _; rfl):PS X (.Assign [.Name x pos'] (.ListComp elt [⟨tg,iter,ifs,0⟩] scope pos) spos) (aHM (aHB nt fv wi g ti te) (zR i)):=by
 intro pins s σ H D I h;rw[exec_Assign_Name_used _ _ _ _ hsw];refine AE (DK (AE ?_));show AF _ X.A (do let _←comprehension (.ListComp elt [⟨tg,iter,ifs,0⟩] scope pos) scope X.env _ (newList []) false (eval iter X.env) (some (Cd (.Name x pos') X.env))) _ _ s;refine AE (Au (Gg (use:=some (Cd (.Name x pos') X.env)) (Q:=fun _ s'=>SP X pins D .next s') rfl hs (aC1 (B.cells I)) B.kind B.names
  (thn (hi pins s σ H _ I h) fun xv s1 h1=>thn h1 fun itv s2 h2=>?_)) (fun _ s' h'=>AR (AR h')) fun _ _ e=>e)
 obtain⟨it,fp,tn,J,H2,rfl,I2,T,st2,f2,W,⟨m0,w0⟩,turn⟩:=h2;refine a84 (Q:=fun v H1=>zR i v σ H1 D.nx) hc B hg ht he I2 T st2 f2 w0 turn (RR:=fun acc C=>compPost (AI X.prog X.w) X.A X.xe (some (Cd (.Name x pos') X.env)) (fun _ s'=>SP X pins D .next s') acc C) fun L C s' hC hn hq=>?_;obtain⟨m,hm⟩:=hn;obtain⟨H',I',hC',q'⟩:=hq s'.heap (BU.refl ..);have hCL:C≠X.env.locals:=fun z=>by
  have:=I2.lt;rw[← z] at this;exact Bd _ (As this hC)
 have Ccell:∀ y c,X.env.cells.lookup y=some c→c≠C:=fun y c e z=>by
  obtain⟨v,qc⟩:=I2.cell y c e;exact Bd _ (As (z▸qc.lt) hC)
 show AF _ X.A (Cd (.Name x pos') X.env (.ref L)) _ _ s';refine wpAny_assign_Name (zB (v:=.ref L) I' hN hi' (.inl hx) rfl (fun s'' I'' sb''=>?_) (.inr hx));obtain⟨a,sb,ha⟩:=sb'';have haC:C≠a:=by
  rcases ha with z|z
  ·rw[z]; exact hCL
  ·exact(Ccell x a z).symm
 refine⟨m,hm.sameBut sb haC,fun h' sb'=>?_⟩;refine⟨_,H',I''.turned (t':=s''.toks) (it:=C) (fun b o hb e=>(sb'.2 b hb).trans e) hC' hCL (.inr (Ac I2.sz hC)) Ccell fun p hp z=>?_,q'⟩;have e:=(I2.pin p hp).1;exact Bd _ (As (z▸AY e) hC)
end
end L2
namespace L2
open PySem PySem.Spec PyProof.Rows
def aW8 (scope osc:BH):List (Str×BC):=scope.names.map fun(n,k)=>if (k==.free&&osc.kind==.function&&osc.names.lookup n==some .cell) then(n,.cell) else(n,k)
def aUZ (osc:BH)(ON N:List Str)(scope:BH)(nt:Nat)(fv:List Nat):Bool:=
 scope.kind==.function&&scope.names.all (fun y=>y.2 != .cell)&&scope.names.all (fun y=>y.2 != .local||scope.names.lookup y.1==some .local) &&
 scope.names.all (fun y=>y.2 != .free||osc.names.lookup y.1==some .cell)&&N.length==nt+fv.length &&
 (B8 fv.length).all fun i=>match N[nt+i]?,fv[i]? with
  | some x,some j=>ON[j]?==some x&&osc.names.lookup x==some .cell&&(aW8 scope osc).lookup x==some .cell
  | _,_=>false
theorem a4N {X:Cx}{osc:BH}{ON N:List Str}{scope:BH}{nt:Nat}{fv:List Nat}(h:aUZ osc ON N scope nt fv=true)(e1:X.env.scope=osc:=by rfl)(e2:X.N=ON:=by rfl):BlkOk X N scope nt fv:=by
 subst e1 e2;unfold aUZ at h;simp only[BF,Bz,Bool.or_eq_true,bne_iff_ne,ne_eq,beq_iff_eq] at h;obtain⟨⟨⟨⟨⟨h1,h2⟩,h3⟩,h4⟩,h5⟩,h6⟩:=h;refine⟨h1,h2,fun y hy e=>?_,fun y hy e=>?_,h5,fun i x e=>?_⟩
 ·rcases h3 y hy with z|z
  ·exact absurd e z
  ·exact z
 ·rcases h4 y hy with z|z
  ·exact absurd e z
  ·exact z
 ·have hi:i<fv.length:=by
   have:=(Aq.mp e).1;omega
  have q:=h6 i (EF.mpr hi);rw[e,A0 hi] at q;simp only[BF,beq_iff_eq] at q;obtain⟨⟨q1,q2⟩,q3⟩:=q;exact⟨fv[i],A0 hi,q1,q2,q3⟩
end L2
namespace L2.VS
open PySem PySem.Spec PyProof.Rows
section
variable {P0:AA→Hp→Prop}
def a3U:MT:=fun Γ Q=>Q true Γ
theorem tE:VTT P0 aO0 a3U:=fun _ _ _ _ _ _ _ r m k=>k _ _ _ _ m (Same.refl _) r
def aTA:Option Sl→Sl
 | some (.val d)=>.val d
 | some .pen=>.pen
 | some (.pub B)=>.pub B
 | _=>.no
def aEH (nt:Nat)(fv:List Nat)(Γ:En):En:=Ar nt .no++fv.map fun j=>aTA Γ[j]?
def rJ (g:MG)(t:MT)(e:ME)(Γb:En):List D→List D→(List D→Prop)→Prop
 | [],acc,Q=>Q acc
 | d::ds,acc,Q=>g d Γb fun Γ1=>t Γ1 fun b Γ2=>if b=true then e Γ2 fun v _=>rJ g t e Γb ds (acc++[v]) Q else rJ g t e Γb ds acc Q
def aBA (nt:Nat)(fv:List Nat)(mi:MD)(g:MG)(t:MT)(e:ME):MO:=fun Γ Q=>mi Γ fun ds Γ1=>ds.length≤1000∧rJ g t e (aEH nt fv Γ1) ds [] fun out=>Q (.own out) Γ1
theorem aO2 {F:Fra P0}{Γ:En}{σ:St}{G H G' H':Hp}{nt:Nat}{fv:List Nat}(r:R F Γ σ G H)(rf:Rf (F.sub r.fr) G' H')(s:Same G G'):R (F.sub r.fr) (aEH nt fv Γ) (blk nt fv σ) G' H':=by
 have at_:∀{i:Nat} {sl:Sl},(aEH nt fv Γ)[i]?=some sl→sl≠.no→∃(j:Nat) (s0:Sl),Γ[j]?=some s0∧sl=aTA (some s0)∧(blk nt fv σ)[i]?=some ((σ[j]?).getD none):=by
  intro i sl e hn;unfold aEH at e
  by_cases hi:i<nt
  ·rw[BN (by simpa using hi),B5] at e;rw[if_pos hi] at e
   cases e
   exact absurd rfl hn
  ·rw[Bj (by simpa using hi),CT,Ao] at e
   cases ej:fv[i-nt]? with
   | none=>rw[ej] at e; cases e
   | some j=>
    rw[ej] at e;have e':aTA Γ[j]?=sl:=Option.some.inj e
    cases es:Γ[j]? with
    | none=>rw[es] at e'; exact absurd e'.symm hn
    | some s0=>
     rw[es] at e';refine⟨j,s0,es,e'.symm,?_⟩;unfold blk;rw[Bj (by simpa using hi),CT,Ao,ej];rfl
 refine R.of rf (by simp[aEH,blk]) (fun i sl e=>?_) (fun i B e=>?_) (fun i j x y _ e=>?_)
 ·cases sl with
  | no=>trivial
  | val d=>
   obtain⟨j,s0,h1,h2,h3⟩:=at_ e (by intro z; cases z)
   cases s0 with
   | val d0=>
    cases h2
    obtain⟨v,e1,d1⟩:=r.sl j _ h1;rw[e1] at h3;exact⟨v,h3,Dt.same s _ _ d1⟩
   | _=>cases h2
  | own ds=>
   obtain⟨j,s0,h1,h2,h3⟩:=at_ e (by intro z; cases z)
   cases s0<;>cases h2
  | pen=>
   obtain⟨j,s0,h1,h2,h3⟩:=at_ e (by intro z; cases z)
   cases s0 with
   | pen=>
    obtain⟨p,e1,e2⟩:=r.sl j _ h1;rw[e1] at h3;exact⟨p,h3,e2⟩
   | _=>cases h2
  | con q=>
   obtain⟨j,s0,h1,h2,h3⟩:=at_ e (by intro z; cases z)
   cases s0<;>cases h2
  | pub B=>
   obtain⟨j,s0,h1,h2,h3⟩:=at_ e (by intro z; cases z)
   cases s0 with
   | pub B'=>
    cases h2
    obtain⟨v,e1,e2⟩:=r.sl j _ h1;rw[e1] at h3;exact⟨v,h3,B.mono s e2⟩
   | _=>cases h2
  | box B=>
   obtain⟨j,s0,h1,h2,h3⟩:=at_ e (by intro z; cases z)
   cases s0<;>cases h2
 ·obtain⟨j,s0,h1,h2,h3⟩:=at_ e (by intro z; cases z)
  cases s0<;>cases h2
 ·obtain⟨j,s0,h1,h2,h3⟩:=at_ e (by intro z; cases z)
  cases s0<;>cases h2
theorem a5M {nt:Nat}{fv:List Nat}{wi:TI}{g:TG}{ti:TT}{te:TE}{mi:MD}{mg:MG}{mt:MT}{me:ME}(hi:VI P0 wi mi)(hg:VG P0 (fun i=>decide (i<nt)) g mg)(ht:VTT P0 ti mt)(he:VT P0 te me) :
  VO P0 (aHB nt fv wi g ti te) (aBA nt fv mi mg mt me):=by
 intro F Γ σ G H Q Qm r m k;refine hi F Γ σ G H _ _ r m fun ds Γ1 J G1 H1 m1 s1 r1 wk=>?_;obtain⟨hsz,m1⟩:=m1;refine⟨fun i n ys H2=>n=ds.length-i∧i≤ds.length∧ys.length≤i∧∃ G2 out,Rf (F.sub r1.fr) G2 H2∧Same G1 G2∧Dts G2 ys out∧rJ mg mt me (aEH nt fv Γ1) (ds.drop i) out fun out=>Qm (.own out) Γ1,
  ⟨ds.length,by simp,Be _,Be _,G1,[],F.subRf r1.fr,Same.refl _,.nil,by simpa using m1⟩,?_⟩
 rintro i n ys H2 ⟨rfl,hle,hy,G2,out,rf2,s2,d2,m2⟩;have rb:=aO2 (nt:=nt) (fv:=fv) r1 rf2 s2;obtain⟨go,stop⟩:=wk (F.sub r1.fr) _ _ G2 H2 s2 rb;have small:ys.length≤sizeLine:=lB (by omega)
 by_cases hlt:i<ds.length
 ·refine .inr ⟨(go i ds[i] (by simp[hlt])).1,small,fun x H' hyl=>?_⟩;obtain⟨G3,s3,r3,d3⟩:=(go i ds[i] (by simp[hlt])).2 x H' hyl;rw[FR hlt] at m2;refine hg (F.sub r1.fr) _ _ G3 H' x _ _ _ r3 d3 m2 fun Γ4 σ4 m4 r4 e4=>⟨fun j hj=>e4 j (decide_eq_false (by omega)),?_⟩;refine ht (F.sub r1.fr) _ _ G3 H' _ _ r4 m4 fun b Γ5 G5 H5 m5 s5 r5=>?_
  cases b with
  | true=>
   refine a0T (he (F.sub r1.fr) _ _ G5 H5 _ _ r5 m5 fun d Γ6 v G6 H6 m6 s6 r6 d6=>?_);refine⟨ds.length-(i+1),by omega,rfl,hlt,by rw[Ah,A1]; omega,G6,out++[d],r6.fr,((s2.trans s3).trans s5).trans s6,?_,m6⟩;exact(Dts.same ((s3.trans s5).trans s6) _ _ d2).app (.cons d6 .nil)
  | false=>
   refine a2O ?_;exact⟨ds.length-(i+1),by omega,rfl,hlt,by omega,G5,out,r5.fr,(s2.trans s3).trans s5,Dts.same (s3.trans s5) _ _ d2,m5⟩
 ·have e:i=ds.length:=by omega
  subst e;rw[D7] at m2;refine .inl ⟨stop,small,fun p hp=>?_⟩;obtain⟨r7,s7⟩:=r1.after rf2;obtain⟨a,b,c⟩:=oA r7 hp d2;exact k _ _ _ _ _ m2 (s1.trans s7) a b c
theorem aR1 {nt:Nat}{fv:List Nat}{mi:MD}{mg:MG}{mt:MT}{me:ME}{Γ:En}{Q:Rv→En→Prop}(h:mi Γ fun ds Γ1=>ds.length≤1000∧rJ mg mt me (aEH nt fv Γ1) ds [] fun out=>Q (.own out) Γ1):aBA nt fv mi mg mt me Γ Q:=h
theorem qM {α:Type}{mg:MG}{mt:MT}{me:ME}{Γb:En}(p:α→Bool)(f:α→D)(enc:α→D):∀(xs:List α) (acc:List D) (Q:List D→Prop),
  (∀ x∈xs,∀(K:List D→Prop) (k:D→Prop) (k0:Prop),(p x=true→k (f x))→(p x=false→k0)→mg (enc x) Γb fun Γ1=>mt Γ1 fun b Γ2=>if b=true then me Γ2 fun v _=>k v else k0) →
  Q (acc++(xs.filter p).map f)→rJ mg mt me Γb (xs.map enc) acc Q
 | [],acc,Q,_,q=>by simpa [rJ] using q
 | x::xs,acc,Q,h,q=>by
  show mg (enc x) Γb fun Γ1=>mt Γ1 fun b Γ2=>if b=true then me Γ2 fun v _=>rJ mg mt me Γb (xs.map enc) (acc++[v]) Q else rJ mg mt me Γb (xs.map enc) acc Q
  refine h x Ap Q (fun v=>rJ mg mt me Γb (xs.map enc) (acc++[v]) Q) _ (fun hp=>?_) fun hp=>?_
  ·refine qM p f enc xs _ Q (fun y hy=>h y (Ak _ hy)) ?_;simpa [C8,hp,B0] using q
  ·refine qM p f enc xs _ Q (fun y hy=>h y (Ak _ hy)) ?_;simpa [C8,hp] using q
end
end L2.VS
namespace L2
open PySem PySem.Spec PyProof.Rows
section
variable {X:Cx}
end
end L2
namespace L2.VS
open PySem PySem.Spec PyProof.Rows
section
variable {P0:AA→Hp→Prop}
end
end L2.VS
namespace L2
open PySem PySem.Spec PyProof.Rows
section
variable {X:Cx}
def bAt (ys:List V)(i:Nat):Bool:=match ys[i]? with
 | some (.bl b)=>b
 | _=>false
def aSU:V→Bool
 | .bl _=>true
 | _=>false
theorem aHA {A:AU}{ys:List V}{its:List AB}(r:Vals ys its)(hb:ys.all aSU=true):TruthOf X.prog X.w A (fun i v=>its.toArray[i]?=some v) (bAt ys):=by
 intro i v s Q E hP hq;have hv:its[i]?=some v:=by simpa using hP
 have hi:i<ys.length:=by
  have:=(Aq.mp hv).1;rw[r.length]; exact this
 obtain⟨u,hu,ru⟩:=r.get (A0 hi);rw[hv] at hu
 cases hu
 have hbl:=Bz.mp hb ys[i] (B6 hi);unfold bAt at hq;rw[A0 hi] at hq
 cases e:ys[i] with
 | bl b=>
  rw[e] at ru hq
  cases ru
  exact Dh hq
 | _=>rw[e] at hbl; cases hbl
theorem range_all (ys:List V)(bs:List Bool)(h:ys=bs.map V.bl):(B8 ys.length).all (bAt ys)=bs.all id:=by
 subst h;rw[EX,Bz,Bz];constructor
 ·intro h b hb;obtain⟨i,hi,e⟩:=List.mem_iff_getElem.mp hb;have q:=h i (EF.mpr (by simpa using hi));unfold bAt at q;rw[Ao,A0 hi,e] at q;exact q
 ·intro h i hi;have hi':i<bs.length:=by simpa using EF.mp hi
  unfold bAt;rw[Ao,A0 hi'];exact h _ (B6 hi')
theorem aOM (bs:List Bool):(bs.map V.bl).all aSU=true:=by simp[aSU]
theorem aL0 (hc:X.calm=true){pins:List (AA×Obj)}{σ:St}{H:Hp}{s:AD}{p:AA}{bs:List Bool}{f:(Nat→Bool)→List Nat→Bool}{Q:AB→AD→Prop}(I:Inv X pins σ H s)(hx:SqL X.K H p (bs.map V.bl))
  (h:∀ s',Inv X pins σ H s'→Q (.bool (f (bAt (bs.map V.bl)) (B8 (bs.map V.bl).length))) s') :
  AF (AI X.prog X.w) X.A.in1 (pyIter (.ref p)) (fun it s₂=>∃ I fp wr n P St tr,it=.ref I∧Walks X.prog X.w X.A.in1 I fp wr n P St∧St 0 s₂.heap∧TruthOf X.prog X.w X.A.in1 P tr ∧
   ∀ h' tk,(∀ b o,b∉wr→s₂.heap.get? b=some o→h'.get? b=some o)→Q (.bool (f tr (B8 n))) { s₂ with heap:=h',toks:=tk }) X.xe s:=by
 obtain⟨its,r,ht,hz⟩:=I.list hx;have hlt:p<s.heap.objs.size:=by
  obtain⟨o,ho,_⟩:=ht.isList;exact AY ho
 refine Fk ht.isList ?_;refine⟨s.heap.objs.size,_,_,_,_,_,bAt (bs.map V.bl),rfl,Walks.list (A:=X.A.in1) (show X.A.in1.handled=none from I.ok.hd hc) s.heap.objs.size p (Aw hlt) its.toArray,⟨⟨_,BE _ rfl,rfl,rfl⟩,?_⟩,aHA r (aOM bs),fun h' tk hk=>?_⟩
 ·obtain⟨o,ho,q⟩:=ht.isList;exact⟨o,AZ _ ho,q⟩
 ·have hl:its.toArray.size=(bs.map V.bl).length:=by rw[A3]; exact r.length.symm
  rw[hl];refine h _ (I.kept (h':=h') (t':=tk) fun b o e=>hk b o (by simp; exact Aw (AY e)) (AZ _ e))
theorem a2N (hc:X.calm=true):qX X (.builtin "all") (fun xs H Q=>∃(p:AA) (bs:List Bool),xs=[.ref p]∧SqL X.K H p (bs.map V.bl)∧Q (.bl (bs.all id)) H):=by
 intro pins s σ H xs us Q I r h;obtain⟨p,bs,rfl,hx,q⟩:=h;obtain⟨u,rfl,ru⟩:=vals1 r
 cases ru
 exact call_all_walk (aL0 (f:=fun tr l=>l.all tr) hc I hx fun s' I'=>⟨.bl _,H,I',rfl,by rw[range_all _ bs rfl]; exact q⟩)
end
end L2
namespace L2.VS
open PySem PySem.Spec PyProof.Rows
section
variable {P0:AA→Hp→Prop}
def vL:List D→Option (List Bool)
 | []=>some []
 | .bool b::ds=>(vL ds).map (b::·)
 | _::_=>none
theorem a98 (bs:List Bool):vL (bs.map C3)=some bs:=by
 induction bs with
 | nil=>rfl
 | cons b bs ih=>show(vL (bs.map C3)).map (b::·)=_; rw[ih]; rfl
theorem a00 {G:Hp}:∀{vs:List V} {ds:List D} {bs:List Bool},Dts G vs ds→vL ds=some bs→vs=bs.map V.bl
 | _,_,_,.nil,e=>by cases e; rfl
 | _,d::ds,bs,.cons a b,e=>by
  cases a with
  | bl c=>
   show _;have e':(vL ds).map (c::·)=some bs:=e
   cases e2:vL ds with
   | none=>rw[e2] at e'; cases e'
   | some cs=>
    rw[e2] at e'
    cases e'
    rw[a00 b e2];rfl
  | _=>cases e
def mBs (f:List Bool→Bool)(ma:ME):ME:=fun Γ Q=>ma Γ fun x Γ1=>match x with
 | .list ds=>(match vL ds with
  | some bs=>Q (.bool (f bs)) Γ1
  | none=>False)
 | _=>False
abbrev aTE:=mBs fun bs=>bs.all id
theorem aTK {K:Fg}{f:List Bool→Bool}{ta:TE}{ma:ME}(ha:VT P0 ta ma):VT P0 (tCB (fun xs H Q=>∃(p:AA) (bs:List Bool),xs=[.ref p]∧SqL K H p (bs.map V.bl)∧Q (.bl (f bs)) H) (cQ ta nM)) (mBs f ma):=by
 intro F Γ σ G H Q Qm r m k;refine ha F Γ σ G H _ _ r m fun d Γ1 x G1 H1 m1 s1 r1 d1=>?_
 split at m1
 ·split at m1
  ·rename_i bs e
   cases d1 with
   | @lst p xs _ hp rs=>
    refine⟨p,bs,rfl,SqL.of ?_,k _ _ _ _ _ m1 s1 r1 (.bl _)⟩;rw[← a00 rs e];exact r1.fr.sub _ _ hp
  ·exact m1.elim
 ·exact m1.elim
theorem aIL {K:Fg}{ta:TE}{ma:ME}(ha:VT P0 ta ma):VT P0 (tCB (fun xs H Q=>∃(p:AA) (bs:List Bool),xs=[.ref p]∧SqL K H p (bs.map V.bl)∧Q (.bl (bs.all id)) H) (cQ ta nM)) (aTE ma):=aTK ha
theorem aWJ {f:List Bool→Bool}{ma:ME}{Γ:En}{Q:D→En→Prop}(h:ma Γ fun x Γ1=>match x with|.list ds=>(match vL ds with|some bs=>Q (.bool (f bs)) Γ1|none=>False)|_=>False):mBs f ma Γ Q:=h
end
section
variable {P0:AA→Hp→Prop}
end
section
def aS5 (K:Fg)(pen a:AA)(ns:List Int)(H:Hp):Prop:=∃ z k:Int,0≤z∧0≤k∧H pen=some (.lst [.int z,.int k,.ref a])∧SqL K H a (ns.map V.int)
theorem aLO {K:Fg}{pen a:AA}{ns:List Int}{z k:Int}{H H':Hp}(hp:H pen=some (.lst [.int z,.int k,.ref a]))(h:SqL K H a (ns.map V.int))(e:SameX pen H H'):SqL K H' a (ns.map V.int):=by
 rcases h with(h|⟨o,h⟩)|h
 ·refine .inl (.inl (e _ _ ?_ h));rintro rfl;rw[hp] at h;injection h with h;injection h with h;have h2:([V.int z,V.int k,V.ref a]:List V)[2]?=(ns.map V.int)[2]?:=by rw[h]
  rw[Ao] at h2
  cases e2:ns[2]? with
  | none=>rw[e2] at h2; cases h2
  | some n=>rw[e2] at h2; cases h2
 ·refine .inl (.inr ⟨o,e _ _ ?_ h⟩);rintro rfl;rw[hp] at h
  cases h
 ·exact .inr h
def aCZ (K:Fg):Sp:=fun vs H Q _=>∃ pen a ns,∃ m:Int,vs=[.ref pen,.int m]∧aS5 K pen a ns H∧0<m∧m<1073741824∧∀(r:Int) H',0≤r→r<m→aS5 K pen a ns H'→SameX pen H H'→Q (.int r) H'
def eO (K:Fg)(a:AA)(ns:List Int):AA→Hp→Prop:=fun p H=>aS5 K p a ns H
theorem aFT {K:Fg}{a:AA}{ns:List Int}:∀ vs H Q E,spM (eO K a ns) 2 aH4 vs H Q E→aCZ K vs H Q E:=by
 rintro vs H Q E ⟨F,as,Qm,rfl,rf,pr,hl,hm,q⟩;unfold aH4 at hm
 split at hm
 ·rename_i m
  cases pr with
  | cons a1 b1=>
   cases b1 with
   | cons a2 b2=>
    cases b2
    obtain⟨p,rfl,ep⟩:=a1;have a2:Dt F.G0 _ (.int m):=a2
    cases a2
    refine⟨p,a,ns,m,rfl,rf.pn p ep,hm.1,hm.2.1,fun r H' h1 h2 hp hx=>?_⟩;refine q _ _ F.G0 H' (hm.2.2 r h1 h2) ⟨fun b o e=>hx b o (fun z=>?_) (rf.sub b o e),fun _ _ _=>rfl,fun b o e hb=>hx b o (fun z=>hb (by rw[z]; exact ep)) e,fun p' ep'=>?_⟩ (.int _)
    ·rw[z,F.pg p ep] at e; cases e
    ·rw[ep] at ep'; cases ep'; exact hp
 ·exact hm.elim
theorem aCH {K:Fg}{a:AA}{ns:List Int}{pen:AA}{H0:Hp}(h0:∃ o,H0 pen=some o)(hS:SqL K H0 a (ns.map V.int)):∀ H H',(∀ b o,H0 b=some o→H' b=H b)→eO K a ns pen H→eO K a ns pen H':=by
 rintro H H' h ⟨z,k,hz,hk,e,s⟩;obtain⟨o,e0⟩:=h0;refine⟨z,k,hz,hk,(h pen o e0).trans e,?_⟩;rcases hS with(q|⟨ob,q⟩)|q
 ·have ea:=h a _ q;rcases s with(s|⟨ob',s⟩)|s
  ·exact .inl (.inl (ea.trans s))
  ·exact .inl (.inr ⟨ob',ea.trans s⟩)
  ·exact .inr s
 ·have ea:=h a _ q;rcases s with(s|⟨ob',s⟩)|s
  ·exact .inl (.inl (ea.trans s))
  ·exact .inl (.inr ⟨ob',ea.trans s⟩)
  ·exact .inr s
 ·exact .inr q
theorem law_go2 {K:Fg}{a:AA}{ns:List Int}{k:Nat}{t:TS}{b:MS}{H:Hp}{pen:AA}{Q:VK}{nx:St→Hp→Prop}(h:VS (eO K a ns) t b)(hp:H pen=none)(hS:SqL K H a (ns.map V.int))
    (hb:b (.no::.pen::Ar k .no) qI) (q:∀ H',Q (.bl true) H') :
    t { nx:=nx,rt:=Q } (some (.ref a)::some (.ref pen)::Ar k none) (upd H pen (.lst [.int 0,.int 0,.ref a])):=by
  have g:=fM hp (.lst [.int 0,.int 0,.ref a]);have hS':=g.seq hS
  let F:Fra (eO K a ns):=
    { H0:=upd H pen (.lst [.int 0,.int 0,.ref a])
      G0:=fun _=>none
      pen:=some pen
      stab:=fun p e=>by cases e; exact aCH ⟨_,aW⟩ hS'
      pin:=fun p e H1 h1=>by obtain⟨z,k,_,_,e1,_⟩:=h1; exact⟨_,e1⟩
      pin0:=fun p e=>by cases e; exact⟨_,aW⟩
      pg:=fun _ _=>rfl }
  refine h F (.no::.pen::Ar k .no) _ F.G0 _ _ qI (R.of ⟨fun b o e=>(nomatch e),fun _ _ _=>rfl,fun _ _ e _=>e,fun p e=>?_⟩ ?_ (fun i s e=>?_) (fun i B e=>?_) (fun i j x y _ e=>?_)) hb fun fl e=>?_
  · cases e
    exact⟨0,0,by decide,by decide,aW,hS'⟩
  · simp
  · match i with
    | 0=>cases e; trivial
    | 1=>cases e; exact⟨pen,rfl,rfl⟩
    | i+2=>
      have e':(Ar k Sl.no)[i]?=some s:=by simpa using e
      rw[B5] at e'
      split at e'
      · cases e'; trivial
      · cases e'
  · match i with
    | 0=>cases e
    | 1=>cases e
    | i+2=>
      have e':(Ar k Sl.no)[i]?=some (.box B):=by simpa using e
      rw[B5] at e'
      split at e'
      · cases e'
      · cases e'
  · match i with
    | 0=>cases e
    | 1=>cases e
    | i+2=>
      have e':(Ar k Sl.no)[i]?=some (.own x):=by simpa using e
      rw[B5] at e'
      split at e'
      · cases e'
      · cases e'
  · unfold qI at e;subst e;intro r G' H' _ _ hr;have hr:Dt G' r (.bool true):=hr
    cases hr
    exact q H'
theorem law_body2 {K:Fg}{a:AA}{ns:List Int}{k:Nat}{b:MS}{H:Hp}{Q:VK}{nx:St→Hp→Prop}{X:Cx}{st:AL}{rest:List AL}{N:List Str}
  (h1:PS X st (aHM (aRH (cQ (tC (.int 0)) (cQ (tC (.int 0)) (cQ (uA 0) nM)))) (zR 1))) (h2:∃ t,PSs X rest t∧VS (eO K a ns) t b) (hN:N.length=k+2) (hS:SqL K H a (ns.map V.int))
  (hb:b (.no::.pen::Ar k .no) qI) (q:∀ H',Q (.bl true) H'):∃ t,PSs X (st::rest) t∧t { nx:=nx,rt:=Q } (start N [.ref a]) H:=by
 obtain⟨t,h2,h3⟩:=h2;refine⟨_,aH h1 h2,?_⟩;have e:start N [.ref a]=some (.ref a)::none::Ar k none:=by
  unfold start;rw[hN];rfl
 rw[e];refine⟨_,rfl,aDW rfl,fun pen hp=>?_⟩;exact law_go2 (t:=t) h3 hp hS hb q
end
section
variable {P0:AA→Hp→Prop}{K:Fg}
def aRK (ma:ME)(ml mh:MP):ME:=fun Γ Q=>ma Γ fun x Γ1=>ml Γ1 fun lo Γ2=>mh Γ2 fun hi Γ3=>match x with
 | .tuple ds=>¬(HT.sIx ds.length 0 lo=0∧HT.sIx ds.length ds.length hi=ds.length)∧Q (.tuple (cutD ds lo hi)) Γ3
 | _=>False
theorem aI0 {ta:TE}{ma:ME}{tl th:TO}{ml mh:MP}(ha:VT P0 ta ma)(hl:VP P0 tl ml)(hh:VP P0 th mh):VT P0 (tSl (aUY K) ta tl th) (aRK ma ml mh):=by
 intro F Γ σ G H Q Qm r m k;refine ha F Γ σ G H _ _ r m fun d Γ1 x G1 H1 m1 s1 r1 d1=>?_;refine hl F Γ1 σ G1 H1 _ _ r1 m1 fun lo Γ2 G2 H2 m2 s2 r2=>?_;refine hh F Γ2 σ G2 H2 _ _ r2 m2 fun hi Γ3 G3 H3 m3 s3 r3=>?_
 split at m3
 ·have d1:=Dt.same (s2.trans s3) _ _ d1
  cases d1 with
  | @tup p xs _ hp rs=>
   refine⟨p,xs,rfl,SqT.of (r3.fr.sub _ _ hp),by rw[rs.len]; exact m3.1,fun l hl=>?_⟩;have g:=fM (r3.fr.gfresh hl) (.tup (aH1 xs lo hi));exact k _ _ _ _ _ m3.2 (((s1.trans s2).trans s3).trans g) (r3.new hl) (.tup aW (Dts.same g _ _ (rs.cut lo hi)))
 ·exact m3.elim
theorem aRR {ma:ME}{ml mh:MP}{Γ:En}{Q:D→En→Prop}(h:ma Γ fun x Γ1=>ml Γ1 fun lo Γ2=>mh Γ2 fun hi Γ3=>match x with|.tuple ds=>¬(HT.sIx ds.length 0 lo=0∧HT.sIx ds.length ds.length hi=ds.length)∧Q (.tuple (cutD ds lo hi)) Γ3|_=>False):aRK ma ml mh Γ Q:=h
end
end L2.VS
namespace L2
open PySem PySem.Spec PyProof.Rows
section
variable {X:Cx}
end
end L2
namespace L2.VS
open PySem PySem.Spec PyProof.Rows
section
variable {P0:AA→Hp→Prop}{A:Nat→Bool}
end
end L2.VS
namespace PySem
open Sem (wp)
namespace F
end F
set_option hygiene false in
local macro_rules|`(tactic| walk_at "zr")=>`(tactic| (
 simp only[Cc,if_false,List.forIn_toArray,Cj,D9];refine AE (AE (AE (CA ?_)));show AF _ _ (BV (.ref i1) >>= _) _ _ _;refine AE (FT (h1.extBut hs₀.extBut D.i1z) (hl1.extBut hs₀.extBut D.l1z) hx fun h₂ h1₂ hs₂=>AR ?_);refine AR ?_;refine AE (AE (CA ?_));show AF _ _ (BV (.ref i2) >>= _) _ _ _;refine AE (FT ((h2.extBut hs₀.extBut D.i2z).extBut hs₂.extBut D.i12.symm) ((hl2.extBut hs₀.extBut D.l2z).extBut hs₂.extBut D.l2i1) hy fun h₄ h2₄ hs₄=>AR ?_);refine AR (AR ?_);show AF _ _ (newTuple [x,y] >>= _) _ _ _;refine AE (wpAny_newTuple (AR ⟨_,rfl,?_⟩))
 replace hs₂:BU i1 h₀ h₂:=hs₂
 replace hs₄:BU i2 h₂ h₄:=hs₄
 have hsz:h₄.objs.size=hp.objs.size:=by rw[hs₄.1,hs₂.1,hs₀.1]
 show Q (.ref h₄.objs.size) ⟨h₄.push { cls:=.type "tuple", data:=.seq #[x,y] },g,d,tk,os⟩;have hz₄:IsZipK h₄ z TI TO (Bg T) (.bool true):=hs₄.extBut _ _ D.i2z.symm (hs₂.extBut _ _ D.i1z.symm hz₀);have hT₄:BQ (h₄.push { cls:=.type "tuple", data:=.seq #[x,y] }) h₄.objs.size x y:=BE _ rfl;rw[hsz] at hT₄ ⊢;exact hQ _ (AZ _ hz₄) ((h1₂.extBut hs₄.extBut D.i12).at fun o e=>AZ _ e) (h2₄.at fun o e=>AZ _ e) hT₄ (by rw[CY,hsz])
  fun c o c1 c2 c3 e=>AZ _ (hs₄.extBut _ _ c3 (hs₂.extBut _ _ c2 (hs₀.extBut _ _ c1 e)))))
set_option hygiene false in
local macro_rules|`(tactic| walk_at "ze")=>`(tactic| (
 simp only[Cc,if_false,List.forIn_toArray,Cj,D9];refine AE (AE (AE (CA ?_)));show AF _ _ (BV (.ref i1) >>= _) _ _ _
 cases hx:xs[k1]? with
 | none=>
  refine AE (F1 hh (h1.extBut hs₀.extBut D.i1z) (hl1.extBut hs₀.extBut D.l1z) hx fun h₂ e hs₂ he=>?_);exact hE h₂ e (fun c o c1 c2 c3 x=>hs₂ _ _ c2 (hs₀.extBut _ _ c1 x)) he
 | some x=>
  have hy:ys[k2]?=none:=by rcases hend with h|h; rw[hx] at h; cases h; exact h
  refine AE (FT (h1.extBut hs₀.extBut D.i1z) (hl1.extBut hs₀.extBut D.l1z) hx fun h₂ h1₂ hs₂=>AR ?_);refine AR ?_;refine AE (AE (CA ?_));show AF _ _ (BV (.ref i2) >>= _) _ _ _;refine AE (F1 hh ((h2.extBut hs₀.extBut D.i2z).extBut hs₂.extBut D.i12.symm) ((hl2.extBut hs₀.extBut D.l2z).extBut hs₂.extBut D.l2i1) hy fun h₄ e hs₄ he=>?_);exact hE h₄ e (fun c o c1 c2 c3 x=>hs₄ _ _ c3 (hs₂.extBut _ _ c2 (hs₀.extBut _ _ c1 x))) he))
section
variable {prog:AQ}{w:AK}{A:AU}{E:AB→AD→Prop}{s:AD}
end
end PySem
namespace PySem
open Sem (wp)
section
variable {prog:AQ}{w:AK}{A:AU}{R:Result→AD→Prop}
end
section
variable {prog:AQ}{w:AK}{A:AU}{E:AB→AD→Prop}{s:AD}
end
end PySem
namespace L2
open PySem PySem.Spec PyProof.Rows
section
variable {X:Cx}{pins:List (AA×Obj)}{σ:List (Option V)}{H:Hp}{s:AD}
end
end L2
namespace L2.VS
open PySem PySem.Spec PyProof.Rows
section
variable {P0:AA→Hp→Prop}{K:Fg}
def aIE (ds es:List D):List D:=(ds.zip es).map fun p=>.tuple [p.1,p.2]
end
end L2.VS
namespace L2
open PySem PySem.Spec PyProof.Rows
section
variable {X:Cx}{pins:List (AA×Obj)}{σ:List (Option V)}{H:Hp}{s:AD}
theorem Inv.turnedL {h':AG}{t':Nat}{ch:List AA}{T:AA}{o:HO}(I:Inv X pins σ H s)(k:∀ b u,b∉ch→s.heap.get? b=some u→h'.get? b=some u)(hch:∀ b∈ch,a92 X pins H b)(hT:s.heap.objs.size≤T)
  (new:ObjOk X.prog X.w (upd H T o) h' T o):Inv X pins σ (upd H T o) { s with heap:=h',toks:=t' }:=by
 have hn:=I.hok.fresh hT;have nch:∀ b u,H b=some u→b∉ch:=fun b u e z=>by rw[(hch b z).1] at e; cases e
 refine I.step (g':=s.gens) (d':=s.drawn) (ch:=ch) (fun b hb=>⟨(hch b hb).2.2.2.1,(hch b hb).2.1,(hch b hb).2.2.2.2.1,(hch b hb).2.2.2.2.2⟩) (fun b o _ _ hc e _=>k b o hc e) (fun b o _ _ hc e _=>⟨o.slots,k b o hc e⟩)
  (fun b u _ e n=>by rw[bA (Aw (As (AY e) hT))]; exact n) (fun b o hc e=>⟨o,k b o hc e⟩) (fun b xs q=>by rw[bA (bJ q hn)]; exact q) (fun b u xs q=>by rw[bA (bJ q hn)]; exact q)
  (fun b ps q=>⟨#[],by rw[bA (bJ q hn),q]; simp⟩) (fun m hm=>?_) (fun b u e=>?_) I.bare
 ·obtain⟨o,es,ep,ho,r⟩:=hm;exact⟨o,es,ep,k _ o (fun z=>(hch _ z).2.1 rfl) ho,r⟩
 ·by_cases hb:b=T
  ·subst hb; rw[aW] at e; cases e; exact new
  ·rw[bA hb] at e;refine(I.hok b u e).stay (fun c v hc q=>k c v ?_ q) (fun c q=>by rw[bA (bJ q hn)]; exact q) fun c xs q=>by rw[bA (bJ q hn)]; exact q
   rcases hc with z|z
   ·rw[z]; exact nch b u e
   ·exact nch c _ z
theorem Inv.turnedC {h':AG}{t':Nat}{ch:List AA}(I:Inv X pins σ H s)(k:∀ b u,b∉ch→s.heap.get? b=some u→h'.get? b=some u)(hch:∀ b∈ch,a92 X pins H b):Inv X pins σ H { s with heap:=h',toks:=t' }:=by
 have nch:∀ b u,H b=some u→b∉ch:=fun b u e z=>by rw[(hch b z).1] at e; cases e
 refine I.step (g':=s.gens) (d':=s.drawn) (ch:=ch) (fun b hb=>⟨(hch b hb).2.2.2.1,(hch b hb).2.1,(hch b hb).2.2.2.2.1,(hch b hb).2.2.2.2.2⟩) (fun b o _ _ hc e _=>k b o hc e) (fun b o _ _ hc e _=>⟨o.slots,k b o hc e⟩)
  (fun b u _ e n=>n) (fun b o hc e=>⟨o,k b o hc e⟩) (fun b xs q=>q) (fun b u xs q=>q) (fun b ps q=>⟨#[],by rw[q]; simp⟩) (fun m hm=>?_) (fun b u e=>?_) I.bare
 ·obtain⟨o,es,ep,ho,r⟩:=hm;exact⟨o,es,ep,k _ o (fun z=>(hch _ z).2.1 rfl) ho,r⟩
 ·refine(I.hok b u e).stay (fun c v hc q=>k c v ?_ q) (fun _ q=>q) fun _ _ q=>q;rcases hc with z|z
  ·rw[z]; exact nch b u e
  ·exact nch c _ z
end
def Ite (K:Fg)(a:AA):It:=
  ⟨fun i H=>∃ xs x,SqL K H a xs∧xs[i]?=some x,
   fun i H v H'=>∃ T x,v=.ref T∧H T=none∧H'=upd H T (.tup [.int (i:Int),x])∧∀ xs,SqL K H a xs→xs[i]?=some x,
   fun i H=>∃ xs,SqL K H a xs∧xs.length≤i⟩
theorem aBP {P:AQ}{w:AK}{K:Fg}{elts:List AJ}{cx}{tp:Pos}{e it a:AA}(hne:e≠it):Turn P w K (.Tuple elts cx tp) (Ite K a) [e,it] e
  (fun i h=>(∃ old,IsEnum h e it (i:Int) old)∧h.IsListIter it a i) where
 mem:=by simp
 obj:=fun i h st c hc=>by
  obtain⟨⟨old,he⟩,⟨o1,e1,c1,d1⟩⟩:=st;simp only[AT,Av,or_false] at hc;rcases hc with rfl|rfl
  ·exact⟨_,he,fun v z=>by cases z⟩
  ·exact⟨o1,e1,fun v z=>by rw[d1] at z; cases z⟩
 keep:=fun i h h' st k=>by
  obtain⟨⟨old,he⟩,h1⟩:=st;exact⟨⟨old,k e (by simp) _ he⟩,h1.at fun o q=>k it (by simp) o q⟩
 item:=by
  intro X hP hw hK hc i pins s σ H E I hf st hg;subst hP hw hK;obtain⟨xs,x,qx,ex⟩:=hg;obtain⟨ix,rx,px,zx⟩:=I.list qx;obtain⟨ux,gx,rux⟩:=rx.get ex;obtain⟨⟨old,he⟩,h1⟩:=st;refine wpAny_pyNext_enum_item he h1 px.isList (x:=ux) (by simpa using gx) hne fun h' a1 a2 a3 a4 kp=>?_;refine⟨_,rfl,wpAny_letOwnedTupleGo_enum a1 fun h'' he' hs'=>?_⟩;have hs':BU e h' h'':=hs';have nT:s.heap.objs.size≠e:=CM (AY he);have hT:h''.get? s.heap.objs.size=some { cls:=.type "tuple", data:=.seq #[.int i s.toks,ux] }:=hs'.extBut _ _ nT a3;have I2:Inv X pins σ (upd H s.heap.objs.size (.tup [.int (i:Int),x])) { s with heap:=h'',toks:=s.toks+1 }:=I.turnedL (t':=s.toks+1) (ch:=[e,it])
   (fun c o hc q=>hs'.extBut _ _ (fun q=>hc (by simp[q])) (kp c o (fun q=>hc (by simp[q])) (fun q=>hc (by simp[q])) q))
   hf (AV _) ⟨lB (by show 2≤1000; decide),[.int i s.toks,ux],.cons ⟨_,rfl⟩ (.cons rux .nil),⟨_,hT,rfl,_,rfl⟩⟩
  have fr:=I.hok.fresh (AV s.heap.objs.size);refine⟨.ref s.heap.objs.size,_,I2,rfl,⟨_,x,rfl,fr,rfl,fun xs' q1=>by rw[I.list_inj q1 qx]; exact ex⟩,⟨⟨_,by rw[Int.natCast_add]; exact he'⟩,a2.extBut hs'.extBut (Am hne)⟩,fun c hc=>?_⟩;have lt:c<s.heap.objs.size:=by
   simp only[AT,Av,or_false] at hc;rcases hc with rfl|rfl
   ·exact AY he
   ·obtain⟨_,q,_⟩:=h1; exact AY q
  rw[bA (Aw lt)];exact(hf c hc).1
 done:=by
  intro X hP hw hK hc i pins s σ H E I hf st hg;subst hP hw hK;obtain⟨xs,qx,hle⟩:=hg;obtain⟨ix,rx,px,zx⟩:=I.list qx;obtain⟨⟨old,he⟩,h1⟩:=st;have lx:=rx.length;refine wpAny_pyNext_enum_end (I.ok.hd hc) he h1 px.isList (by simp; omega) fun h' kp=>⟨rfl,I.turnedC (t':=s.toks) (ch:=[e,it]) (fun c o hc q=>?_) hf⟩;exact kp c o (fun q=>hc (by simp[q])) q
 self:=fun _ _ _ _ _ st h=>wpAny_pyIter_enum st.1.choose_spec h
section
variable {X:Cx}
def aPI (K:Fg)(ta:TA):TI:=fun σ H R=>ta σ H fun vs H1=>∃ p xs,vs=[.ref p]∧SqL K H1 p xs∧R (Ite K p) H1
theorem aLR {a:AJ}{ta:TA}{p pos tp:Pos}{elts:List AJ}{cx}(hg:Gl X "enumerate")(hm:X.mg "enumerate" = none)(ha:PA X [a] ta)(hs:AX [a] X.env=[(false,eval a X.env)]:=by rfl) :
  PI X (.Tuple elts cx tp) (.Call (.Name "enumerate" p) [a] [] pos) (aPI X.K ta):=by
 intro pins s σ H R I h;refine Cz (a02 I hg hm boot_enumerate ?_ (by decide) (by decide));refine FC (rest:=[]) (thn (ha pos pins s σ H _ I h) fun us s1 ⟨vs,H1,I1,r1,p,xs,e,hp,k⟩=>?_) hs rfl;subst e
 cases r1 with
 | cons ra rc=>
  cases rc
  cases ra
  obtain⟨ix,rx,px,zx⟩:=I1.list hp;refine call_enumerate_list px.isList fun h' he hit sz kp=>?_;refine wpAny_pyIter_enum he ?_;have I2:Inv X pins σ H1 { s1 with heap:=h' }:=I1.kept (t':=s1.toks) kp;refine⟨_,[s1.heap.objs.size+1,s1.heap.objs.size],_,_,H1,rfl,I2,aBP (CM (DY _)),⟨⟨_,he⟩,hit⟩,fun c hc=>?_,k⟩;have hle:s1.heap.objs.size≤c:=by
   simp only[AT,Av,or_false] at hc;rcases hc with rfl|rfl
   ·exact CV _
   ·exact AV _
  exact I1.fpOk hle (I1.hok.fresh hle)
end
end L2
namespace L2.VS
open PySem PySem.Spec PyProof.Rows
section
variable {P0:AA→Hp→Prop}{K:Fg}
def wK (ds:List D):List D:=(B8 ds.length).map fun(i:Nat)=>AH.tuple [.int (i:Int),ds.getD i .none]
def aT2 (ma:ME):MD:=fun Γ Q=>ma Γ fun x Γ1=>match x with
 | .list ds=>Q (wK ds) Γ1
 | _=>False
theorem aKY {ta:TE}{ma:ME}(ha:VT P0 ta ma):VI P0 (aPI K (cQ ta nM)) (aT2 ma):=by
 intro F Γ σ G H Q Qm r m k;refine ha F Γ σ G H _ _ r m fun d Γ1 x G1 H1 m1 s1 r1 d1=>?_
 split at m1
 ·rename_i ds
  cases d1 with
  | @lst p xs _ hp rs=>
   refine⟨p,xs,rfl,SqL.of (r1.fr.sub _ _ hp),k _ _ _ _ _ m1 s1 r1 fun F3 Γ3 σ3 G3 H3 s3 r3=>⟨fun i d e=>?_,?_⟩⟩
   ·have hp3:=SqL.of (K:=K) (r3.fr.sub _ _ (s3 _ _ hp));have hi:i<ds.length:=by
     have:=(Aq.mp e).1;unfold wK at this;simpa using this
    have ed:d=.tuple [.int (i:Int),ds[i]]:=by
     unfold wK at e;rw[Ao,EB hi] at e
     cases e
     simp[Bp,A0 hi]
    subst ed;obtain⟨v1,g1,dv1⟩:=Dts.get rs (A0 hi);refine⟨⟨xs,v1,hp3,g1⟩,fun v H4 hy=>?_⟩;obtain⟨T,x',rfl,hT,rfl,hx⟩:=hy;have h1:=hx xs hp3;rw[g1] at h1; cases h1;have g:=fM (r3.fr.gfresh hT) (.tup [.int (i:Int),v1]);exact⟨_,g,r3.new hT,.tup aW (.cons (.int _) (.cons (Dt.same (s3.trans g) _ _ dv1) .nil))⟩
   ·refine⟨xs,SqL.of (r3.fr.sub _ _ (s3 _ _ hp)),?_⟩;have l1:=rs.len;have l3:(wK ds).length=ds.length:=by unfold wK; rw[AO,DV]
    rw[l3,l1];exact AV _
 ·exact m1.elim
theorem aTS {ma:ME}{Γ:En}{Q:List D→En→Prop}(h:ma Γ fun x Γ1=>match x with|.list ds=>Q (wK ds) Γ1|_=>False):aT2 ma Γ Q:=h
end
end L2.VS
namespace L2
open PySem PySem.Spec PyProof.Rows
section
variable {X:Cx}
end
end L2
namespace L2.VS
open PySem PySem.Spec PyProof.Rows
section
variable {P0:AA→Hp→Prop}
end
section
variable {P0:AA→Hp→Prop}{ta tb:TE}{ma mb:ME}
end
end L2.VS
namespace LT
abbrev Ln:=Rat×Rat
def pl (l:Ln)(t:Rat):Rat:=l.1+l.2*t
end LT
namespace L2
open PySem PySem.Calls PyProof.Rows PySem.W
section
variable {cmp:Nat→Nat→(Bool→AD→Prop)→AD→Prop}
end
section
variable {prog:AQ}{w:AK}{A:AU}{E:AB→AD→Prop}{s:AD}{Q:Bool→AD→Prop}
end
section
variable {prog:AQ}{w:AK}{A:AU}{E:AB→AD→Prop}{s:AD}
end
end L2
namespace L2
open PySem PySem.Spec PyProof.Rows
section
variable {X:Cx}
end
end L2
namespace L2
open PySem PySem.Spec PyProof.Rows
section
variable {X:Cx}
end
end L2
namespace L2.VS
open PySem PySem.Spec PyProof.Rows
section
variable {P0:AA→Hp→Prop}{ta tb:TE}{ma mb:ME}{K:Fg}
end
section
variable {P0:AA→Hp→Prop}{A:Nat→Bool}
end
section
variable {P0:AA→Hp→Prop}{A:Nat→Bool}
end
end L2.VS
namespace L2
open PySem PySem.Spec PyProof.Rows
structure UnB (fs:List AA)(H H':Hp)(h B h':AG):Prop where
 keep:∀ b o,h.get? b=some o→H b=none→b∉fs→B.get? b=some o
 slot:∀ b o,h.get? b=some o→b∈fs→∃ sl,h'.get? b=some { o with slots:=sl }
 free:∀ b o,h.get? b=some o→H b=none→H' b=none
 there:∀ b o,h.get? b=some o→b∉fs→∃ o',B.get? b=some o'
 tups:∀ b xs,H b=some (.tup xs)→H' b=some (.tup xs)
 frzs:∀ b o u,H b=some (.frz o u)→H' b=some (.frz o u)
 tbls:∀ b ps,H b=some (.tbl ps)→∃ more,H' b=some (.tbl (ps++more))
section
variable {X:Cx}{pins:List (AA×Obj)}{σ:St}{H:Hp}{s:AD}{M:CP}{F:AB→AD→Prop}{E E':XK}
theorem Inv.frsS (hs:X.stack=X.env::X.outer)(hf:X.env.frame=some X.env.locals):frs X.stack=X.env.locals::frs X.outer:=by
 rw[hs];unfold frs;rw[D8,hf]
theorem Inv.nstk (I:Inv X pins σ H s)(hs:X.stack=X.env::X.outer)(hf:X.env.frame=some X.env.locals){b:AA}{o:Obj}(q:X.s₀.heap.get? b=some o)(hb:b∉frs X.outer):b∉frs X.stack:=fun z=>by
 rw[Inv.frsS hs hf] at z;rcases AT.mp z with e|e
 ·exact absurd (As (AY q) I.ok.above) (by rw[e]; exact Bd _)
 ·exact hb e
end
section
variable {P:AQ}{w:AK}{K:Fg}{mg:Mg}{base:AG}{N:List Str}{qual:Str}{scope:BH}{f:AA}{cd:AB}{A:AU}{outer:List Env}{s:AD}{H:Hp}{E E':XK}
end
section
variable {X:Cx}{E:XK}{x:Str}{C:AA}{B newId initId:String}{bmB:List AB}{e0:AJ}{np cpos pos:Pos}{t:TA}
end
end L2
namespace L2
open PySem PySem.Spec PyProof.Rows
set_option maxRecDepth 100000
section
variable {prog:AQ}{w:AK}{A:AU}{E:AB→AD→Prop}{h:AG}{g:Array ET}{d:Drawn}{t:Nat}{os:OsState}{a:AA}{o:Obj}
 {nm q:Str} {C N:AA} {bs bm:List AB} {hdct:Bool} {sn:List Str} {sub:List AB} {ab:Bool} {col:Option Bool} {dd:Option AA} {k0 k1 k2 k3 k5:Option AB} {newId:String}
def Lk (prog:AQ)(w:AK)(h:AG)(c:AB)(n:Str)(r:Option AB):Prop:=∀(A:AU) (Q:Option AB→AD→Prop) (E:AB→AD→Prop) (s:AD),s.heap=h→Q r s→AF (AI prog w) A (Ec c n) Q E s
theorem Lk.at {c:AB}{n:Str}{r:Option AB}{Q:Option AB→AD→Prop}(l:Lk prog w h c n r)(hq:Q r ⟨h,g,d,t,os⟩):AF (AI prog w) A (Ec c n) Q E ⟨h,g,d,t,os⟩:=l _ _ _ _ rfl hq
theorem aOL {R:Result→AD→Prop}(hC:h.get? C=some (C4 nm q C N bs bm hdct sn sub ab col dd k0 k1 k2 k3 k5 newId))(ho:bm.contains (.type "object")=true)
  (hx:h.get? a=some o) (hc:o.cls=.ref C) (hq:R (.ok (.ret (.ref C))) ⟨h,g,d,t,os⟩) :
  CQ (AI prog w) A (.call (.builtin "getset_descriptor.__get__") ⟨[.builtin "object.__class__", .ref a,.ref C],[]⟩) R ⟨h,g,d,t,os⟩:=by
 have y1:(⟨h,g,d,t,os⟩:AD).TypeIs (.builtin "object.__class__") "getset_descriptor" := F.typeOf_object_class;have y2:(Aa C::bm).contains (.type (".".intercalate ("object.__class__".cutAt '.').dropLast))=true:=by
  rw[F.owner_object_class,DT,ho,Eg]
 refine Eh F.slot_gs_get.plain F.entry_gs_get (F.slot_gs_get.check _ _ _ _ _ _ _ _ y1 (F.args_gs_get _ _ _) ?_)
 repeat (any_goals (first|assumption|(with_reducible refine Bi hx ?_; rw[hc])|(with_reducible refine DS hC ?_; rw[y2])|wp_step))
 refine⟨F4 _ (by decide +kernel),codeAny_builtin F.entry_object_class ?_⟩
 repeat (any_goals (first|assumption|(with_reducible refine Bi hx ?_; rw[hc])|wp_step))
theorem aG8 {tk:Tok}{Q:Fin→AD→Prop}(hC:h.get? C=some (C4 nm q C N bs bm hdct sn sub ab col dd k0 k1 k2 k3 k5 newId))(ho:bm.contains (.type "object")=true)
  (l1:Lk prog w h (.ref C) "__class__" (some (.builtin "object.__class__"))) (hx:h.get? a=some o) (hc:o.cls=.ref C) (hq:Q (.done (.ret (.ref C))) ⟨h,g,d,t,os⟩) :
  AF (AI prog w) A (AM.«object.__getattribute__» ⟨[.ref a,.str "__class__" tk],[]⟩) Q E ⟨h,g,d,t,os⟩:=by
 have y1:(⟨h,g,d,t,os⟩:AD).TypeIs (.builtin "object.__class__") "getset_descriptor" := F.typeOf_object_class;have y2:=F.typeOf_object_class;have y3:=F.slot_gs_get.lookup;have y4:=F.slot_gs_set.lookup
 repeat (any_goals (first|assumption|(with_reducible refine Bi hx ?_; rw[hc])|with_reducible refine l1.at ?_|wp_step))
 refine aOL hC ho hx hc ?_
 repeat (any_goals (first|assumption|wp_step))
theorem a7P {M:CP}{v:AB}{Q:Unit→AD→Prop}(hC:h.get? C=some (C4 nm q C N bs bm hdct sn sub ab col dd k0 k1 k2 k3 k5 newId))(hb:bm.contains (.type "BaseException")=true)
  (hx:h.get? a=some o) (hc:o.cls=.ref C) (hq:Q () ⟨h,g,d,t,os⟩):AF M A (checkBuiltinCall "BaseException.__getattribute__" ⟨[.ref a,v],[]⟩) Q E ⟨h,g,d,t,os⟩:=by
 have y1:builtinKind "BaseException.__getattribute__" = some .slot:=by decide +kernel
 have y2:splitId "BaseException.__getattribute__" = some ("BaseException", "__getattribute__"):=by decide +kernel
 have y3:(Aa C::bm).contains (.type "BaseException")=true:=by rw[DT,hb,Eg]
 have y4:=F.args_bexc_ga (.ref a) v;simp only[checkBuiltinCall,y1,y2];refine AE ?_;unfold isInstance
 repeat (first|(with_reducible refine Bi hx ?_; rw[hc])|(with_reducible refine DS hC ?_; rw[y3])|wp_step)
 exact hq
theorem aJO {Q:Option AB→AD→Prop}(ga:Slot "ValueError" "__getattribute__" "BaseException.__getattribute__")(hC:h.get? C=some (C4 nm q C N bs bm hdct sn sub ab col dd k0 k1 k2 k3 k5 newId))(ho:bm.contains (.type "object")=true)(hb:bm.contains (.type "BaseException")=true)
  (l1:Lk prog w h (.ref C) "__class__" (some (.builtin "object.__class__"))) (l2:Lk prog w h (.ref C) "__getattribute__" (some (.builtin "BaseException.__getattribute__")))
  (l3:Lk prog w h (.ref C) "__getattr__" none) (hx:h.get? a=some o) (hc:o.cls=.ref C) (hq:Q (some (.ref C)) ⟨h,g,d,t+1,os⟩):AF (AI prog w) A (getAttr? (.ref a) "__class__") Q E ⟨h,g,d,t,os⟩:=by
 have y1:=ga.bind (.ref a);have y2:(Ci "BaseException.__getattribute__" == Ci "object.__getattribute__")=false:=by decide +kernel
 have y3:(onTheHeap (Aa C)&&Ci "BaseException.__getattribute__" == Ci "object.__getattribute__")=false:=by rw[y2]; rfl
 have ht:∀ t,(⟨h,g,d,t,os⟩:AD).heap=h:=fun _=>rfl;unfold getAttr? getAttrBy? getAttrBy
 repeat (any_goals (first|assumption|(with_reducible refine Bi hx ?_; rw[hc])|with_reducible refine l2.at ?_|with_reducible refine l3.at ?_|wp_step))
 refine Eh ga.plain F.entry_bexc_ga (a7P hC hb hx hc (aG8 hC ho l1 hx hc ?_))
 repeat (any_goals (first|assumption|wp_step))
theorem a9A {M:CP}{e D N':AA}{nm' q':Str}{bs' bm':List AB}{hdct':Bool}{sn':List Str}{sub':List AB}{ab':Bool}{col':Option Bool}{dd':Option AA}{j0 j1 j2 j3 j5:Option AB}{newId':String}{Q:Bool→AD→Prop}
  (hC:h.get? C=some (C4 nm q C N bs bm hdct sn sub ab col dd k0 k1 k2 k3 k5 newId)) (hD:h.get? D=some (C4 nm' q' D N' bs' bm' hdct' sn' sub' ab' col' dd' j0 j1 j2 j3 j5 newId'))
  (he:h.get? e=some o) (hc:o.cls=.ref C) (hb:bm'.contains (.type "BaseException")=true) (y2:(Aa C::bm).contains (.ref D)=true) (hq:Q true ⟨h,g,d,t,os⟩):AF M A (excMatches (.ref e) (.ref D)) Q E ⟨h,g,d,t,os⟩:=by
 have y1:(Aa D::bm').contains (.type "BaseException")=true:=by rw[DT,hb,Eg]
 have y3:=tc_notTuple;unfold excMatches
 repeat (first|(with_reducible refine Bi he ?_; rw[hc])|with_reducible refine Bi hD ?_|(with_reducible refine DS hD ?_; rw[y1])|(with_reducible refine DS hC ?_; rw[y2])|wp_step)
 exact hq
end
def vmro:List AB:=[.type "ValueError", .type "Exception", .type "BaseException", .type "object"]
theorem Lk.of {K:Fg}{prog:AQ}{w:AK}{h:AG}{c:AB}{n:Str}{r:Option AB}(X:K.In h)(e:Ag K c n=some r):Lk prog w h c n r:=fun A Q E s hs hq=>by
 obtain⟨hh,g,d,t,os⟩:=s
 cases hs
 exact(EL X e).at hq
end L2
namespace L2
open PySem PySem.Spec PyProof.Rows
section
variable {X:Cx}{pins:List (AA×Obj)}{σ:St}{H:Hp}{s:AD}
abbrev Cx.marked (X:Cx)(e:AB):Cx:={ X with A:=X.A.mark (some e),calm:=false,xe:=fun _ _=>False }
theorem Inv.marked (I:Inv X pins σ H s)(e:AB):Inv (X.marked e) pins σ H s:=
 ⟨⟨I.ok.mod,I.ok.kind,I.ok.glob,I.ok.blt,I.ok.above,I.ok.inj,I.ok.has,I.ok.cab,(fun h=>nomatch h),I.ok.frames,I.ok.stk,I.ok.exf,I.ok.bs,I.ok.bsz,I.ok.noex,I.ok.exfs,I.ok.funs,I.ok.frf⟩,I.os,I.bare,I.base,I.loc,I.cell,I.free,I.freeC,I.pin,I.hok,I.len⟩
theorem Inv.unmarked {e:AB}(ok:X.Ok)(I:Inv (X.marked e) pins σ H s):Inv X pins σ H s:=
 ⟨ok,I.os,I.bare,I.base,I.loc,I.cell,I.free,I.freeC,I.pin,I.hok,I.len⟩
theorem Inv.goes {i:Nat}{x:Str}{v:Option AB}{m:Mg}{h':AG}{t:Nat}(I:Inv X pins σ H s)(hN:X.N.Nodup)(hi:X.N[i]?=some x)(hl:X.env.kindOf x=some .local)
  (hm:s.heap.Ns X.env.locals m∧∀(j:Nat) (y:Str) (v:V),X.N[j]?=some y→σ[j]?=some (some v)→Vis X.env.scope y→∃ u,RelV v u∧Look X.env s.heap m y u)
  (hn:h'.Ns X.env.locals (fun y=>if y=x then v else m y)) (hs:BU X.env.locals s.heap h'):Inv X pins (σ.set i none) H { s with heap:=h',toks:=t }:=by
 obtain⟨oL,_,_,hoL,_⟩:=id hm.1;have neL:∀ b o,X.s₀.heap.get? b=some o→b≠X.env.locals:=fun b o e=>Aw (As (AY e) I.ok.above);refine⟨I.ok,I.os,I.bare,⟨fun b o e n hb hx=>(hs.2 b (neL b o e)).trans (I.base.keep b o e n hb hx),fun b o e n hb hx=>?_,I.base.free,fun b o e hx=>?_,I.base.tups,I.base.frzs,I.base.tbls⟩,⟨_,hn,fun j y u e1 e2 e3=>?_⟩,fun y c e=>?_,I.free,I.freeC,fun p hp=>?_,fun b u e=>?_,by rw[Bk]; exact I.len⟩
 ·obtain⟨sl,e1⟩:=I.base.slot b o e n hb hx;exact⟨sl,(hs.2 b (neL b o e)).trans e1⟩
 ·obtain⟨o',e1⟩:=I.base.there b o e hx;exact⟨o',(hs.2 b (neL b o e)).trans e1⟩
 ·by_cases hj:j=i
  ·subst hj;rw[List.getElem?_set] at e2
   split at e2
   ·split at e2<;>cases e2
   ·rename_i z; exact absurd rfl z
  ·rw[BO (Am hj)] at e2;obtain⟨u',r',q⟩:=hm.2 j y u e1 e2 e3;have ny:y≠x:=fun z=>hj (a2K hN e1 (z▸hi));refine⟨u',r',?_⟩;rcases q with⟨k,e⟩|⟨k,c,e,z⟩
   ·exact .inl ⟨k,(if_neg ny).trans e⟩
   ·exact .inr ⟨k,c,e,z.sameBut hs (I.cne y c e)⟩
 ·obtain⟨u,z⟩:=I.cell y c e;exact⟨u,z.sameBut hs (I.cne y c e)⟩
 ·obtain⟨e,n,ne,nf,d⟩:=I.pin p hp;exact⟨(hs.2 p.1 ne).trans e,n,ne,nf,d⟩
 ·refine(I.hok b u e).stay (fun c w hc q=>(hs.2 c fun z=>?_).trans q) (fun _ q=>q) fun _ _ q=>q;have hf:=I.free;rw[← z] at hf;rcases hc with hc|hc
  ·rw[hc,e] at hf; cases hf
  ·rw[hc] at hf; cases hf
end
theorem ObjOk.has {P:AQ}{w:AK}{H:Hp}{h:AG}{a:AA}{o:HO}(x:ObjOk P w H h a o):∃ ob,h.get? a=some ob:=by
 cases o with
 | lst xs=>obtain⟨_,_,_,_,e⟩:=x; exact⟨_,e⟩
 | tup xs=>obtain⟨_,_,_,ob,e,_⟩:=x; exact⟨ob,e⟩
 | dK kvs=>obtain⟨_,_,_,_,ob,_,_,e,_⟩:=x; exact⟨ob,e⟩
 | dT kvs=>obtain⟨_,_,_,_,ob,_,_,e,_⟩:=x; exact⟨ob,e⟩
 | set S n=>obtain⟨ob,_,_,_,e,_⟩:=x; exact⟨ob,e⟩
 | ins C dx fs=>obtain⟨_,_,_,e,_⟩:=x; exact⟨_,e⟩
 | own y=>exact x
 | xd fs=>obtain⟨_,⟨ob,_,_,e,_⟩,_⟩:=x; exact⟨ob,e⟩
 | met f y=>exact⟨_,x⟩
 | rng lo hi=>obtain⟨_,_,_,e⟩:=x; exact⟨_,e⟩
 | frz ob u=>exact⟨ob,x.1⟩
 | tbl ps=>exact⟨_,x⟩
 | ext φ=>exact x.2.1
section
variable {X:Cx}{k:Nat}{f C D0:AA}{fd:An}{ps:List Str}{sp:Sp}{x lx ex cx:Str}{p cp ep lp p1 p2 p3 hp pos:Pos}{e:AJ}{es:List AJ}{t:TA}{i j:Nat}
end
end L2
namespace L2
open PySem PySem.Spec PyProof.Rows
def aO3:TE:=fun _ H Q=>∀ p,H p=none→Q (.ref p) (upd H p (.dK []))
theorem aKM {X:Cx}{pos:Pos}:PE X (.Dict [] [] pos) aO3:=by
 intro pins s σ H Q I h;have big:Bq<s.heap.objs.size:=DF (by decide) (show Ai<s.heap.objs.size from(I.mod.glob.keeps I.bk).lt);have ok:ObjOk X.prog X.w (upd H s.heap.objs.size (.dK [])) (s.heap.push { cls:=.type "dict", data:=.dict #[] }) s.heap.objs.size (.dK []):=⟨Be _,beq_eq_false_iff_ne.mpr (Am (Aw big)),[],.nil,AG.DictOf.new _⟩;exact wpAny_Dict_empty ⟨.ref s.heap.objs.size,_,I.laid (a:=s.heap.objs.size) (o:=.dK []) (t':=s.toks) (fun _ _ q=>AZ _ q) (AV _) ok,rfl,h _ (I.hok.fresh (AV _))⟩
namespace VS
variable {P0:AA→Hp→Prop}
def aLJ:ME:=fun Γ Q=>Q (.dict []) Γ
theorem aKX:VT P0 aO3 aLJ:=by
 intro F Γ σ G H Q Qm r m k p hp;have g:=fM (r.fr.gfresh hp) (.dK []);exact k _ _ _ _ _ m g (r.new hp) (.dic (.inl aW) .nil)
theorem aQ9 {Γ:En}{Q:D→En→Prop}(h:Q (.dict []) Γ):aLJ Γ Q:=h
end VS
end L2
namespace L2
open PySem PySem.Spec PyProof.Rows
@[irreducible] def PSi (X:Cx) (L:List AL) (t:TS):Prop:=PSs X L t
@[irreducible] def PSd (X:Cx) (st:AL) (t:TS):Prop:=PS X st t
@[irreducible] def PEd (X:Cx) (e:AJ) (t:TE):Prop:=PE X e t
@[irreducible] def PAd (X:Cx) (es:List AJ) (t:TA):Prop:=PA X es t
section
variable {X:Cx}{L rest:List AL}{st:AL}{t u:TS}{e a b:AJ}{es:List AJ}{te ta tb:TE}{tl:TA}{pos:Pos}
theorem aA1 (h:PSi X L t):PSs X L t:=by unfold PSi at h; exact h
theorem bF (h:PE X e te):PEd X e te:=by unfold PEd; exact h
theorem eZ (h1:PSd X st t)(h2:PSi X rest u):PSi X (st::rest) (aRL t u):=by
 unfold PSi PSd at *;exact aH h1 h2
theorem iM {i:Nat}{x:Str}{pos':Pos}(hN:X.N.Nodup)(hi:X.N[i]?=some x)(hx:Loc X.env.scope x)(he:PEd X e te)(hs:Br e (some (.Name x pos')) pos.line X.env=pure false:=by rfl)(hf:X.fn x=true∨X.env.scope.names.lookup x=some .local:=by first|exact .inl rfl|exact .inr rfl|assumption) :
  PSd X (.Assign [.Name x pos'] e pos) (aHM te (zR i)):=by
 unfold PSd PEd at *;exact cB hN hi hx he hs hf
theorem sO {r:R2}(hr:IxR X r)(ha:PEd X a ta)(hb:PE X b tb)(hs:aCR b):PEd X (.Subscript a b pos) (tOp r ta tb):=by
 unfold PEd at *;exact bL hr ha hb hs
theorem n8 (h:PAd X es tl):PEd X (.List es pos) (aRH tl):=by
 unfold PEd PAd at *;exact eV h
theorem fP (ha:PE X e te)(hr:PAd X es tl)(hs:AX (e::es) X.env=(false,eval e X.env)::AX es X.env:=by rfl):PAd X (e::es) (cQ te tl):=by
 unfold PAd at *;exact aA ha hr hs
end
end L2
namespace L2.VS
open PySem PySem.Spec PyProof.Rows
section
variable {P0:AA→Hp→Prop}{S:Type}
structure Fam (S:Type) where
 box:AA→S→Bx
 pin:∀{p s v fp G H},(box p s).P v fp G H→v=.ref p
def RvP (G H:Hp)(v:V)(fp:List AA):Rv→Prop
 | .val d=>fp=[]∧Dt G v d
 | .own ds=>∃ p vs,fp=[p]∧v=.ref p∧H p=some (.lst vs)∧Dts G vs ds
 | .box B=>B.P v fp G H
section
variable {G G' H H':Hp}{v:V}{fp fp':List AA}
theorem RvP.mono (g:Same G G'):∀{rv:Rv},RvP G H v fp rv→RvP G' H v fp rv
 | .val _,h=>⟨h.1,Dt.same g _ _ h.2⟩
 | .own _,h=>let ⟨p,vs,a,b,c,d⟩:=h; ⟨p,vs,a,b,c,Dts.same g _ _ d⟩
 | .box B,h=>B.mono g h
theorem RvP.loc (k:∀ b∈fp,H' b=H b):∀{rv:Rv},RvP G H v fp rv→RvP G H' v fp rv
 | .val _,h=>h
 | .own _,h=>let ⟨p,vs,a,b,c,d⟩:=h; ⟨p,vs,a,b,(k p (by rw[a]; exact AW.mpr rfl)).trans c,d⟩
 | .box B,h=>B.loc k h
theorem RvP.dom:∀{rv:Rv},RvP G H v fp rv→∀ b∈fp,∃ o,H b=some o
 | .val _,h=>fun b hb=>by rw[h.1] at hb; cases hb
 | .own _,h=>fun b hb=>by
  obtain⟨p,vs,a,_,c,_⟩:=h;rw[a] at hb;rw[AW.mp hb];exact⟨_,c⟩
 | .box B,h=>B.dom h
theorem RvP.uniq:∀{rv:Rv},RvP G H v fp rv→RvP G H v fp' rv→fp=fp'
 | .val _,h,g=>h.1.trans g.1.symm
 | .own _,h,g=>by
  obtain⟨p,_,a,b,_⟩:=h;obtain⟨q,_,c,d,_⟩:=g;rw[b] at d
  cases d
  rw[a,c]
 | .box B,h,g=>B.uniq h g
theorem RvP.nt:∀{rv:Rv},RvP G H v fp rv→∀ b∈fp,∀ xs,H b=some (.tup xs)→∃ q∈fp,V.ref q∈xs∧∃ vs,H q=some (.lst vs)
 | .val _,h=>fun b hb=>by rw[h.1] at hb; cases hb
 | .own _,h=>fun b hb xs e=>by
  obtain⟨p,vs,a,_,c,_⟩:=h;rw[a] at hb;rw[AW.mp hb,c] at e
  cases e
 | .box B,h=>B.nt h
end
def bKp (W:Fam S)(rv:Rv)(p:AA)(s:S):Bx where
 P:=fun v fp G H=>∃ f1 f2,fp=f1++f2∧RvP G H v f1 rv∧(W.box p s).P (.ref p) f2 G H∧∀ b∈f1,b∉f2
 mono:=fun g ⟨f1,f2,e,a,b,c⟩=>⟨f1,f2,e,a.mono g,(W.box p s).mono g b,c⟩
 loc:=fun k ⟨f1,f2,e,a,b,c⟩=>⟨f1,f2,e,a.loc fun x hx=>k x (by rw[e]; exact CG _ hx),(W.box p s).loc (fun x hx=>k x (by rw[e]; exact BY _ hx)) b,c⟩
 dom:=fun⟨f1,f2,e,a,b,c⟩ x hx=>by
  rw[e] at hx;exact(Aj.mp hx).elim (a.dom x) ((W.box p s).dom b x)
 uniq:=fun⟨f1,f2,e,a,b,_⟩ ⟨g1,g2,e',a',b',_⟩=>by rw[e,e',a.uniq a',(W.box p s).uniq b b']
 nt:=fun⟨f1,f2,e,a,b,_⟩ x hx xs z=>by
  rw[e] at hx;rcases Aj.mp hx with h|h
  ·obtain⟨q,h1,h2⟩:=a.nt x h xs z;exact⟨q,by rw[e]; exact CG _ h1,h2⟩
  ·obtain⟨q,h1,h2⟩:=(W.box p s).nt b x h xs z;exact⟨q,by rw[e]; exact BY _ h1,h2⟩
 view:=none
 vok:=fun _ z=>nomatch z
def a4A (W:Fam S)(m:MO):MS:=fun Γ Q=>m Γ fun rv Γ1=>∃ p s,Γ1[0]?=some (.box (W.box p s))∧Q (.rt (.box (bKp W rv p s)))
theorem uM {W:Fam S}{A:Nat→Bool}{t:TE}{m:MO}(h:VO P0 t m):VSA P0 A (aPC t) (a4A W m):=by
 intro F Γ σ G H E Qm r hm k;refine h F Γ σ G H _ _ r hm fun rv Γ1 v G1 H1 m1 s1 r1 v1 a1=>?_;obtain⟨p,s,e,q⟩:=m1;obtain⟨fps,h1,h2⟩:=r1.fps;have h0:=h1 0 _ e;obtain⟨w,ew,pw,nw⟩:=id h0;have z:=W.pin pw;subst z;refine k _ q v G1 H1 s1 r1.fr ?_
 cases rv with
 | val d=>exact⟨_,⟨[],fps 0,rfl,⟨rfl,v1⟩,pw,fun b hb=>nomatch hb⟩,nw⟩
 | own ds=>
  obtain⟨u,vs,rfl,e1,e2,e3,e4⟩:=v1;refine⟨_,⟨[u],fps 0,rfl,⟨u,vs,rfl,rfl,e3,e4⟩,pw,fun b hb=>?_⟩,fun b hb=>?_⟩
  ·rw[AW.mp hb];exact a1 0 _ _ e h0 u rfl
  ·rcases Aj.mp hb with hb|hb
   ·rw[AW.mp hb];exact⟨e1,e2⟩
   ·exact nw b hb
 | box B=>
  obtain⟨fp,e1,e2⟩:=v1;refine⟨_,⟨fp,fps 0,rfl,e1,pw,fun b hb=>a1 0 _ _ fp e h0 e1 b hb⟩,fun b hb=>?_⟩;rcases Aj.mp hb with hb|hb
  ·exact e2 b hb
  ·exact nw b hb
abbrev Lm (S:Type):=AA→S→List Sl→(Rv→S→Prop)→Prop
def aML (W:Fam S)(n:Nat)(b:MS):Lm S:=fun p s as Q=>b (.box (W.box p s)::(as++Ar n .no)) fun fl=>match fl with
 | .rt rv=>∃ rv0 s',rv=.box (bKp W rv0 p s')∧Q rv0 s'
 | .nx Γ=>∃ s',Γ[0]?=some (.box (W.box p s'))∧Q (.val .none) s'
 | _=>False
def spL (P0:AA→Hp→Prop)(W:Fam S)(n:Nat)(f:Lm S):Sp:=fun vs H Q _=>∃(F:Fra P0) (p:AA) (s:S) (fp:List AA) (ws:List V) (as:List Sl) (Qm:Rv→S→Prop),vs=.ref p::ws∧(∀ b,F.H0 b=if b∈fp then none else H b)∧Rf F F.G0 H ∧
 (W.box p s).P (.ref p) fp F.G0 H∧(∀ b∈fp,F.G0 b=none)∧Al (qQ F F.G0) ws as∧as.length+1=n∧f p s as Qm ∧
 ∀ rv s' r f1 f2 G' H',Qm rv s'→Rf F G' H'→RvP G' H' r f1 rv→(W.box p s').P (.ref p) f2 G' H'→(∀ b∈f1,b∉f2)→(∀ b∈f1++f2,F.H0 b=none∧G' b=none)→Q r H'
theorem aQE {F:Fra P0}{G:Hp}{ws:List V}{as:List Sl}{i k m:Nat}{s:Sl}(pr:Al (qQ F G) ws as)(e:(as++Ar k Sl.no)[i]?=some s)(hne:s≠.no) :
  ∃ v,(ws.map some++Ar m none)[i]?=some (some v)∧qQ F G v s:=by
 induction pr generalizing i with
 | nil=>
  rw[B1,B5] at e
  split at e
  ·cases e; exact absurd rfl hne
  ·cases e
 | cons a b ih=>
  cases i with
  | zero=>cases e; exact⟨_,rfl,a⟩
  | succ i=>exact ih e
theorem aB7 {W:Fam S}{n k:Nat}{N:List Str}{t:TS}{b:MS}(h:VS P0 t b)(hN:N.length=n+k){vs:List V}{H:Hp}{Q:VK}{E:XK}(hs:spL P0 W n (aML W k b) vs H Q E) :
  t { nx:=fun _ H'=>Q .non H',rt:=Q } (start N vs) H:=by
 obtain⟨F,p,s,fp,ws,as,Qm,rfl,hH,rf,hP,hG,pr,hl,hm,q⟩:=hs;have hlen:ws.length=as.length:=Al.length pr;have r:R F (.box (W.box p s)::(as++Ar k .no)) (start N (.ref p::ws)) F.G0 H:=by
  refine⟨rf,?_,fun i=>if i=0 then fp else[],fun i u e=>?_,fun i j u z _ _ hij b hb hc=>?_⟩
  ·unfold start;simp only[Af,Ah,CT,AO];omega
  ·cases i with
   | zero=>
    cases e
    exact⟨.ref p,rfl,hP,fun b hb=>⟨by have hb:b∈fp:=hb; rw[hH,if_pos hb],hG b hb⟩⟩
   | succ i=>
    have e:(as++Ar k Sl.no)[i]?=some u:=e;have at_:u≠.no→∃ v,(start N (.ref p::ws))[i+1]?=some (some v)∧qQ F F.G0 v u:=fun hne=>by
     obtain⟨v,ev,av⟩:=aQE (m:=N.length-(ws.length+1)) pr e hne;exact⟨v,ev,av⟩
    cases u with
    | no=>rfl
    | val d=>
     obtain⟨v,ev,av⟩:=at_ (by intro z; cases z)
     exact⟨rfl,v,ev,av⟩
    | own ds=>
     obtain⟨v,ev,av⟩:=at_ (by intro z; cases z)
     exact av.elim
    | pen=>
     obtain⟨v,ev,q,rfl,eq⟩:=at_ (by intro z; cases z)
     exact⟨rfl,q,ev,eq⟩
    | con q=>
     obtain⟨v,ev,av⟩:=at_ (by intro z; cases z)
     have av:v=.ref q:=av;rw[av] at ev;exact⟨rfl,ev⟩
    | pub B=>
     obtain⟨v,ev,av⟩:=at_ (by intro z; cases z)
     exact⟨rfl,v,ev,av⟩
    | box B=>
     obtain⟨v,ev,av⟩:=at_ (by intro z; cases z)
     exact av.elim
  ·dsimp only at hb hc
   split at hb
   ·rename_i hi
    split at hc
    ·rename_i hj; exact hij (hi.trans hj.symm)
    ·cases hc
   ·cases hb
 refine h F _ _ _ _ _ _ r hm fun fl hq=>?_
 cases fl with
 | nx Γ=>
  intro σ G' H' _ r' _;obtain⟨s',e,hq⟩:=hq;obtain⟨fps,h1,_⟩:=r'.fps;obtain⟨w,ew,pw,nw⟩:=h1 0 _ e;have z:=W.pin pw;subst z;exact q _ _ _ [] _ _ _ hq r'.fr ⟨rfl,.non⟩ pw (fun b hb=>nomatch hb) nw
 | rt rv=>
  intro v G' H' _ f' v';obtain⟨rv0,s',rfl,hq⟩:=hq;obtain⟨g,⟨f1,f2,rfl,a,b,c⟩,d⟩:=v';exact q _ _ _ _ _ _ _ hq f' a b c d
 | bk Γ=>exact hq.elim
 | ct Γ=>exact hq.elim
theorem aJY {W:Fam S}{n:Nat}{f:Lm S}{ps:List Str}(h:ps.length=n):∀ vs H Q E,spL P0 W n f vs H Q E→vs.length=ps.length:=by
 rintro vs H Q E ⟨F,p,s,fp,ws,as,Qm,rfl,_,_,_,_,pr,hl,_⟩;rw[Af,Al.length pr,hl,h]
theorem _root_.L2.Fun.okL {P:AQ}{w:AK}{K:Fg}{mg:Mg}{base:AG}{x qual:Str}{st:AL}{f:AA}{fd:An}{N ps:List Str}{k n j:Nat}{b:MS}{W:Fam S}
  (F:Fun K x qual st f fd) (S0:FnScope N ps (aQ st)) (hn:ps.length=n) (hN:N.length=n+j)
  (hb:∀(cdv:AB) (A:AU) (outer:List Env) (s:AD) (H:Hp) (E:XK),Room k (A.deeper (Bw qual (aQ st) s.heap.objs.size f cdv)) →
   SsX P0 (aBQ CX0 P w K mg base N qual (aQ st) f cdv A outer s H E).nox (iT st) b):FnOk P w K mg base CX0 (k+1) f fd ps (spL P0 W n (aML W j b)):=by
 refine F.ok S0 (aJY hn) fun cdv A outer s H vs Q E hr hs=>?_;obtain⟨t,h1,h2⟩:=hb cdv A outer s H E hr;exact⟨t,h1,aB7 h2 hN hs⟩
def a3G (W:Fam S)(n:Nat)(f:Lm S)(i:Nat)(m:MA):MO:=fun Γ Q=>∃ p,(∃ s,Γ[i]?=some (.box (W.box p s)))∧m Γ fun as Γ1=>∃ s1,Γ1[i]?=some (.box (W.box p s1))∧as.length+1=n∧f p s1 as fun rv s'=>Q rv (Γ1.set i (.box (W.box p s')))
def Fra.less (F:Fra P0){G H:Hp}(r:Rf F G H)(fp:List AA)(hf:∀ b∈fp,F.H0 b=none):Fra P0 where
 H0:=fun b=>if b∈fp then none else H b
 G0:=G
 pen:=F.pen
 stab:=fun p e H1 H2 h=>F.stab p e H1 H2 fun b o z=>by
  obtain⟨o',e'⟩:=r.dom z;exact h b o' (by rw[if_neg (fun hb=>by rw[hf b hb] at z; cases z)]; exact e')
 pin:=F.pin
 pin0:=fun p e=>by
  obtain⟨o,z⟩:=F.pin0 p e;obtain⟨o',e'⟩:=F.pin p e H (r.pn p e);exact⟨o',by rw[if_neg (fun hb=>by rw[hf p hb] at z; cases z)]; exact e'⟩
 pg:=fun p e=>by
  obtain⟨o,e0⟩:=F.pin0 p e;rw[r.g0 p o e0];exact F.pg p e
end
section
variable {P0:AA→Hp→Prop}
theorem aG0 {S:Type}{W:Fam S}{n:Nat}{b:MS}{p:AA}{s:S}{as:List Sl}{Q:Rv→S→Prop}(h:b (.box (W.box p s)::(as++Ar n .no)) fun fl=>match fl with
 | .rt rv=>∃ rv0 s',rv=.box (bKp W rv0 p s')∧Q rv0 s'
 | .nx Γ=>∃ s',Γ[0]?=some (.box (W.box p s'))∧Q (.val .none) s'
 | _=>False):aML W n b p s as Q:=h
end
end L2.VS
namespace L2
open PySem PySem.Spec PyProof.Rows
abbrev TX:=Ends→(List (Option V)→XK)→List (Option V)→Hp→Prop
section
variable {X:Cx}{k:Nat}{f C D0:AA}{fd:An}{ps:List Str}{sp:Sp}{x m lx ex cx:Str}{p cp ep lp p1 p2 p3 hp pos pos' apos:Pos}{o e:AJ}{es:List AJ}{ta:TE}{t:TA}{i j:Nat}
def aV6 (c:TT)(t u:TX):TX:=fun D W σ H=>c σ H fun b H1=>if b=true then t D W σ H1 else u D W σ H1
end
end L2
namespace L2.VS
open PySem PySem.Spec PyProof.Rows
section
variable {P0:AA→Hp→Prop}
section
variable {C:AA}{x:Str}{i:Nat}
variable {E:XK}
end
end
section
variable {P0:AA→Hp→Prop}
end
section
variable {P0:AA→Hp→Prop}{S:Type}
structure PartAt (W:Fam S)(p:AA)(B:S→Bx)(v:V)(s:S)(fp f0:List AA)(G H:Hp):Prop where
 sub:∀ b∈f0,b∈fp
 own:(W.box p s).P (.ref p) f0 G H
 back:∀ s' f0' G' H',Same G G'→(W.box p s').P (.ref p) f0' G' H'→(∀ b∈fp,b∉f0→H' b=H b∧b∉f0')→∃ fp',(B s').P v fp' G' H'∧∀ b∈fp',b∈f0'∨(b∈fp∧b∉f0)
def PartOf (W:Fam S)(p:AA)(B:S→Bx):Prop:=∀{s v fp G H},(B s).P v fp G H→∃ f0,PartAt W p B v s fp f0 G H
theorem PartOf.self {W:Fam S}{p:AA}:PartOf W p (W.box p):=fun{s v fp G H} h=>by
 have z:=W.pin h;subst z;exact⟨fp,fun _ h=>h,h,fun s' f' G' H' _ h' _=>⟨f',h',fun b hb=>.inl hb⟩⟩
section
variable {W:Fam S}{B:S→Bx}{i:Nat}{p:AA}{s1 s':S}{F:Fra P0}{Γ1:En}{σ:St}{G1 H1 G' H':Hp}{v:V}{fp f0 f1 f2:List AA}
theorem R.unlend (r1:R F Γ1 σ G1 H1)(e1:Γ1[i]?=some (.box (B s1)))(hi:SlF F G1 H1 σ[i]? fp (.box (B s1)))(hv:σ[i]?=some (some v))(hp:PartAt W p B v s1 fp f0 G1 H1)(hF:∀ b∈f0,F.H0 b=none)
  (f':Rf (F.less r1.fr f0 hF) G' H') (b2:(W.box p s').P (.ref p) f2 G' H') (d2:∀ b∈f2,(F.less r1.fr f0 hF).H0 b=none∧G' b=none) :
  Same G1 G'∧R F (Γ1.set i (.box (B s'))) σ G' H'∧(∀ b,(F.less r1.fr f0 hF).H0 b=none→F.H0 b=none) ∧
  ∀ f1:List AA,(∀ b∈f1,(F.less r1.fr f0 hF).H0 b=none)→(∀ b∈f1,b∉f2)→∀(j:Nat) (u:Sl) (fq:List AA),(Γ1.set i (.box (B s')))[j]?=some u→SlF F G' H' σ[j]? fq u→∀ x∈f1,x∉fq:=by
 obtain⟨fps,h1,h2⟩:=r1.fps;have z:=SlF.det hi (h1 i _ e1);subst z;obtain⟨v',ev',pv',nw⟩:=id hi;rw[hv] at ev'
 cases ev'
 have h0:∀ b,(F.less r1.fr f0 hF).H0 b=if b∈f0 then none else H1 b:=fun _=>rfl
 have inH:∀ b o,F.H0 b=some o→(if b∈f0 then none else H1 b)≠none:=fun b o z=>by
  obtain⟨o',e'⟩:=r1.fr.dom z;rw[if_neg (fun hb=>by rw[hF b hb] at z; cases z),e'];exact fun y=>nomatch y
 have nF:∀ b,(F.less r1.fr f0 hF).H0 b=none→F.H0 b=none:=fun b z=>by
  cases y:F.H0 b with
  | none=>rfl
  | some o=>exact absurd z (inH b o y)
 have nw0:∀ b∈f0,G1 b=none:=fun b hb=>(nw b (hp.sub b hb)).2;have sG:Same G1 G':=fun b o z=>by
  have hH:=r1.fr.sub b o z;have hb:b∉f0:=fun hb=>by rw[nw0 b hb] at z; cases z
  exact(f'.g0 b o (by rw[h0,if_neg hb]; exact hH)).trans z
 have rf:Rf F G' H':=by
  refine⟨f'.sub,fun b o z=>?_,fun b o z hb=>?_,f'.pn⟩
  ·obtain⟨o',e'⟩:=r1.fr.dom z;have hb:b∉f0:=fun hb=>by rw[hF b hb] at z; cases z
   exact(f'.g0 b o' (by rw[h0,if_neg hb]; exact e')).trans (r1.fr.g0 b o z)
  ·have hb':b∉f0:=fun hb=>by rw[hF b hb] at z; cases z
   exact f'.h0 b o (by rw[h0,if_neg hb']; exact r1.fr.h0 b o z hb) hb
 have stay:∀ b,F.H0 b=none→G1 b=none→(∃ o,H1 b=some o)→b∉f0→(F.less r1.fr f0 hF).H0 b≠none∧G' b=none∧H' b=H1 b:=fun b m1 m2 m3 hb=>by
  obtain⟨o,m3⟩:=m3;have y:(F.less r1.fr f0 hF).H0 b=some o:=by rw[h0,if_neg hb]; exact m3
  refine⟨by rw[y]; exact(fun z=>nomatch z),(f'.g0 b o y).trans m2,?_⟩;rw[m3];exact f'.h0 b o y (F.pen_ne m1)
 have oth:∀(j:Nat) (u:Sl),j≠i→Γ1[j]?=some u→∀ b∈fps j,(F.less r1.fr f0 hF).H0 b≠none∧G' b=none∧H' b=H1 b:=fun j u hj ej b hb=>by
  obtain⟨m1,m2,m3⟩:=(h1 j u ej).mine hb;exact stay b m1 m2 m3 fun z=>h2 j i u _ ej e1 hj b hb (hp.sub b z)
 have mine:∀ b∈fps i,b∉f0→(F.less r1.fr f0 hF).H0 b≠none∧G' b=none∧H' b=H1 b:=fun b hb hn=>by
  obtain⟨m1,m2,m3⟩:=(h1 i _ e1).mine hb;exact stay b m1 m2 m3 hn
 obtain⟨fp',pB,hfp⟩:=hp.back s' f2 G' H' sG b2 fun b hb hn=>⟨(mine b hb hn).2.2,fun z=>(mine b hb hn).1 (d2 b z).1⟩;have back:∀(j:Nat) (u:Sl),j≠i→(Γ1.set i (.box (B s')))[j]?=some u→Γ1[j]?=some u:=fun j u hj ej=>by rw[BO (Am hj)] at ej; exact ej
 have hil:i<Γ1.length:=(Aq.mp e1).1;have new:R F (Γ1.set i (.box (B s'))) σ G' H':=by
  refine⟨rf,by rw[Bk]; exact r1.len,fun j=>if j=i then fp' else fps j,fun j u ej=>?_,fun j l u z ej el hjl b hb hc=>?_⟩
  ·dsimp only
   by_cases hj:j=i
   ·subst hj;rw[if_pos rfl];rw[BX hil] at ej
    cases ej
    refine⟨v,hv,pB,fun x hx=>?_⟩;rcases hfp x hx with hx|⟨hx,hn⟩
    ·exact⟨nF x (d2 x hx).1,(d2 x hx).2⟩
    ·exact⟨(nw x hx).1,(mine x hx hn).2.1⟩
   ·rw[if_neg hj];have ej:=back j u hj ej;exact(h1 j u ej).go sG fun x hx=>(oth j u hj ej x hx).2
  ·dsimp only at hb hc;have cross:∀(l:Nat) (z:Sl),l≠i→Γ1[l]?=some z→∀ b∈fp',b∉fps l:=fun l z hl el b hb hc=>by
    rcases hfp b hb with hb|⟨hb,_⟩
    ·exact(oth l z hl el b hc).1 (d2 b hb).1
    ·exact h2 i l _ z e1 el (Am hl) b hb hc
   by_cases hj:j=i
   ·rw[if_pos hj] at hb;have hl':l≠i:=fun y=>hjl (hj.trans y.symm);rw[if_neg hl'] at hc;exact cross l z hl' (back l z hl' el) b hb hc
   ·rw[if_neg hj] at hb
    by_cases hl':l=i
    ·rw[if_pos hl'] at hc;exact cross j u hj (back j u hj ej) b hc hb
    ·rw[if_neg hl'] at hc;exact h2 j l u z (back j u hj ej) (back l z hl' el) hjl b hb hc
 refine⟨sG,new,nF,fun f1 hf1 ap j u fq ej hu x hx hxf=>?_⟩
 by_cases hj:j=i
 ·subst hj;rw[BX hil] at ej
  cases ej
  obtain⟨w,ew2,pw2,_⟩:=hu;rw[hv] at ew2
  cases ew2
  rw[(B s').uniq pw2 pB] at hxf;rcases hfp x hxf with h|⟨h,hn⟩
  ·exact ap x hx h
  ·exact(mine x h hn).1 (hf1 x hx)
 ·have ej:=back j u hj ej;have y:=SlF.det hu ((h1 j u ej).go sG fun x hx=>(oth j u hj ej x hx).2);rw[y] at hxf;exact(oth j u hj ej x hxf).1 (hf1 x hx)
theorem aAM {n:Nat}{f:Lm S}{as:List Sl}{rs:List V}{Q:VK}{E:XK}{Qm:Rv→En→Prop}(hB:PartOf W p B)(r1:R F Γ1 σ G1 H1)(e1:Γ1[i]?=some (.box (B s1)))(d1:Al (qQ F G1) rs as)(hl:as.length+1=n)
  (hf:f p s1 as fun rv s'=>Qm rv (Γ1.set i (.box (B s')))) (k:∀ rv Γ' r G' H',Qm rv Γ'→Same G1 G'→R F Γ' σ G' H'→RvO F G' H' r rv→Apart F Γ' σ G' H' r rv→Q r H'):spL P0 W n f (.ref p::(rs++[])) H1 Q E:=by
 obtain⟨fps,h1,h2⟩:=r1.fps;have hi:=h1 i _ e1;obtain⟨v,ew',pw',nw⟩:=id hi;obtain⟨f0,hp⟩:=hB pw';have hF:∀ b∈f0,F.H0 b=none:=fun b hb=>(nw b (hp.sub b hb)).1;refine⟨F.less r1.fr f0 hF,p,s1,f0,rs,as,fun rv s'=>Qm rv (Γ1.set i (.box (B s'))),by rw[Bb],fun b=>rfl,
  ⟨r1.fr.sub,fun _ _ _=>rfl,fun b o z _=>?_,r1.fr.pn⟩,hp.own,fun b hb=>(nw b (hp.sub b hb)).2,Al.imp' (fun a s h=>by cases s<;>exact h) d1,hl,hf,fun rv s' v1 f1 f2 G' H' hq f' a b c d=>?_⟩
 ·have z:(if b∈f0 then none else H1 b)=some o:=z
  split at z
  ·cases z
  ·exact z
 ·obtain⟨sG,new,nF,apart⟩:=r1.unlend e1 hi ew' hp hF f' b (fun x hx=>d x (BY _ hx));have apart:=apart f1 (fun x hx=>(d x (CG _ hx)).1) c;refine k rv _ v1 G' H' hq sG new ?_ ?_
  ·cases rv with
   | val d'=>exact a.2
   | own ds=>
    obtain⟨u,vs,e2,e3,e4,e5⟩:=a;have hu:=d u (CG _ (by rw[e2]; exact AW.mpr rfl));exact⟨u,vs,e3,nF u hu.1,hu.2,e4,e5⟩
   | box B=>exact⟨f1,a,fun x hx=>⟨nF x (d x (CG _ hx)).1,(d x (CG _ hx)).2⟩⟩
  ·cases rv with
   | val d'=>trivial
   | own ds=>
    intro j u fq ej hu y ey hy;obtain⟨u',vs,e2,e3,e4,e5⟩:=a;rw[e3] at ey
    cases ey
    exact apart j u fq ej hu _ (by rw[e2]; exact AW.mpr rfl) hy
   | box B=>
    intro j u fq g ej hu hg x hx;have y:g=f1:=B.uniq hg a;rw[y] at hx;exact apart j u fq ej hu x hx
end
def aAG (i:Nat)(mj:ME):ME:=fun Γ Q=>(∃ ds,Γ[i]?=some (.own ds))∧mj Γ fun d Γ1=>∃ ds,Γ1[i]?=some (.own ds)∧oQ (ixD (.list ds) d) fun e=>Q e Γ1
theorem aFW {ds:List D}{d e:D}(h:ixD (.list ds) d=some e):∃ i j,d=.int i∧ixN ds.length i=some j∧ds[j]?=some e:=by
 unfold ixD at h
 split at h
 ·rename_i z; cases z
 ·rename_i es i z
  cases z
  unfold atI at h
  cases y:ixN ds.length i with
  | none=>rw[y] at h; cases h
  | some j=>rw[y] at h; exact⟨i,j,rfl,y,h⟩
 ·cases h
theorem aEP {K:Fg}{i:Nat}{tj:TE}{mj:ME}(hj:VT P0 tj mj):VT P0 (tOp (rIx K) (uA i) tj) (aAG i mj):=by
 intro F Γ σ G H Q Qm r hm k;obtain⟨⟨ds,e⟩,hm⟩:=hm;obtain⟨p,vs,ep,_⟩:=r.sl i _ e;refine⟨.ref p,ep,hj F Γ σ G H _ _ r hm fun d Γ1 x G1 H1 m1 g1 r1 d1=>?_⟩;obtain⟨es,e1,m1⟩:=m1;obtain⟨y,hy,q⟩:=aAD m1;obtain⟨q',us,eq',_,_,hq,hus⟩:=r1.sl i _ e1;rw[ep] at eq'
 cases eq'
 obtain⟨n,j,rfl,h1,h2⟩:=aFW hy
 cases d1
 obtain⟨v,hv,dv⟩:=Dts.get hus h2;refine .inl ⟨p,us,n,v,rfl,rfl,SqL.of hq,?_,k _ _ _ _ _ q g1 r1 dv⟩;unfold atI;rw[hus.len,h1];exact hv
end
section
section
variable {S:Type}{W:Fam S}{n i:Nat}{f:Lm S}{m:MA}{Γ Γ1:En}{p:AA}{s:S}{as:List Sl}
def lnK (W:Fam S)(n:Nat)(f:Lm S)(i:Nat)(p:AA)(Q:Rv→En→Prop)(as:List Sl)(Γ1:En):Prop:=∃ s1,Γ1[i]?=some (.box (W.box p s1))∧as.length+1=n∧f p s1 as fun rv s'=>Q rv (Γ1.set i (.box (W.box p s')))
theorem aNN {Q:Rv→En→Prop}(h0:Γ[i]?=some (.box (W.box p s)))(h:m Γ (lnK W n f i p Q)):a3G W n f i m Γ Q:=⟨p,⟨s,h0⟩,h⟩
theorem aRV {Q:Rv→En→Prop}(h0:Γ1[i]?=some (.box (W.box p s)))(hl:as.length+1=n)(h:f p s as fun rv s'=>Q rv (Γ1.set i (.box (W.box p s')))):lnK W n f i p Q as Γ1:=⟨s,h0,hl,h⟩
def rtK (W:Fam S)(Q:Fl→Prop)(rv:Rv)(Γ1:En):Prop:=∃ p s,Γ1[0]?=some (.box (W.box p s))∧Q (.rt (.box (bKp W rv p s)))
theorem aPJ {mo:MO}{Q:Fl→Prop}(h:mo Γ (rtK W Q)):a4A W mo Γ Q:=h
theorem aRY {rv:Rv}{Q:Fl→Prop}(h0:Γ1[0]?=some (.box (W.box p s)))(h:Q (.rt (.box (bKp W rv p s)))):rtK W Q rv Γ1:=⟨p,s,h0,h⟩
theorem aON {rv:Rv}{Q:Rv→S→Prop}(h:Q rv s):∃ rv0 s',Rv.box (bKp W rv p s)=.box (bKp W rv0 p s')∧Q rv0 s':=⟨rv,s,rfl,h⟩
variable {L w0 w1:AA}{s0 s1:S}{mj:ME}
end
def oxK (i:Nat)(Q:D→En→Prop)(d:D)(Γ1:En):Prop:=∃ ds,Γ1[i]?=some (.own ds)∧oQ (ixD (.list ds) d) fun e=>Q e Γ1
theorem aFR {i:Nat}{mj:ME}{Γ:En}{Q:D→En→Prop}{ds:List D}(h0:Γ[i]?=some (.own ds))(h:mj Γ (oxK i Q)):aAG i mj Γ Q:=⟨⟨ds,h0⟩,h⟩
theorem aS0 {i:Nat}{Γ:En}{Q:D→En→Prop}{ds:List D}{d:D}(h0:Γ[i]?=some (.own ds))(h:oQ (ixD (.list ds) d) fun e=>Q e Γ):oxK i Q d Γ:=⟨ds,h0,h⟩
end
section
variable {P0:AA→Hp→Prop}
section
variable {F:Fra P0}{Γ Γ1:En}{σ:St}{G H G1 H1:Hp}{bs:List Bool}
end
section
variable {bs:List Bool}{Γ Γ1:En}
end
end
section
variable {P0:AA→Hp→Prop}{S:Type}
end
section
variable {P0:AA→Hp→Prop}{S:Type}
section
variable {C:AA}{i:Nat}
theorem a2D {W:Fam S}{n:Nat}{m:Str}{f:Lm S}{t:TA}{ma:MA}{E:XK}(hW:∀{p s v fp G H},(W.box p s).P v fp G H→∃ dx fs,H p=some (.ins C dx fs)∧fs.lookup m=none)(h:VA P0 t ma):VO P0 (aMS C m (spL P0 W n f) [] E (uA i) t) (a3G W n f i ma):=by
 intro F Γ σ G H Q Qm r hm k;obtain⟨p,⟨s,e⟩,hm⟩:=hm;obtain⟨v,fp,ev,pv,_⟩:=r.sl i _ e;have z:=W.pin pv;subst z;obtain⟨dx,fs,hp,hl⟩:=hW pv;refine⟨.ref p,ev,p,dx,fs,rfl,hp,hl,h F Γ σ G H _ _ r hm fun as Γ1 rs G1 H1 m1 g1 r1 d1=>?_⟩;obtain⟨s1,e1,hn,hf⟩:=m1;exact aAM (Qm:=Qm) PartOf.self r1 e1 d1 hn hf fun rv Γ' r' G' H' q g'=>k rv Γ' r' G' H' q (g1.trans g')
end
end
end L2.VS
namespace L2
open PySem PySem.Spec PyProof.Rows
variable {X:Cx}
end L2
namespace L2.VS
open PySem PySem.Spec PyProof.Rows
section
variable {P0:AA→Hp→Prop}
end
section
variable {P0:AA→Hp→Prop}{A:Nat→Bool}
end
section
variable {P0:AA→Hp→Prop}
def aC6 (i:Nat)(m:ME):ME:=fun Γ Q=>(∃ ds,Γ[i]?=some (.own ds))∧m Γ fun x Γ1=>∃ ds d,∃ k:Nat,Γ1[i]?=some (.own ds)∧x=.int (k:Int)∧k<1000000∧ds[k]?=some d∧Q d (Γ1.set i (.own (ds.eraseIdx k)))
theorem a4H {G:Hp}:∀{vs:List V} {ds:List D} {k:Nat},Dts G vs ds→Dts G (vs.eraseIdx k) (ds.eraseIdx k)
 | _,_,_,.nil=>.nil
 | _,_,0,.cons _ b=>b
 | _,_,k+1,.cons a b=>.cons a (a4H b)
theorem aH8 {K:Fg}{i:Nat}{t:TE}{m:ME}(h:VT P0 t m):VT P0 (tBM K "list" aJ0 (uA i) (cQ t nM)) (aC6 i m):=by
 intro F Γ σ G H Q Qm r hm k;obtain⟨⟨ds0,e0⟩,hm⟩:=hm;obtain⟨p,vs0,ep,_,_,hp0,_⟩:=r.sl i _ e0;refine⟨.ref p,ep,.inl ⟨rfl,_,SqL.of hp0⟩,?_⟩;refine h F Γ σ G H _ _ r hm fun x Γ1 v G1 H1 m1 g1 r1 d1=>?_;obtain⟨ds,d,n,e1,rfl,hn,hd,q⟩:=m1;obtain⟨p',vs,ep',_,_,hp,hvs⟩:=r1.sl i _ e1;rw[ep] at ep'
 cases ep'
 cases d1
 obtain⟨u,hu,du⟩:=Dts.get hvs hd;have hlt:n<vs.length:=(Aq.mp hu).1;refine⟨p,vs,(n:Int),n,u,rfl,rfl,hp,by omega,by omega,?_,hu,?_⟩
 ·unfold FM;have h1:¬(n:Int)<0:=by omega
  have h2:(decide (0≤(n:Int))&&decide ((n:Int)<(vs.length:Int)))=true:=by
   rw[decide_eq_true (by omega),decide_eq_true (by omega)];rfl
  simp only[if_neg h1,h2,if_true,Dc]
 ·exact k _ _ _ _ _ q g1 (r1.write e1 ep (a4H hvs)) du
def ppK (i:Nat)(Q:D→En→Prop)(x:D)(Γ1:En):Prop:=∃ ds d,∃ k:Nat,Γ1[i]?=some (.own ds)∧x=.int (k:Int)∧k<1000000∧ds[k]?=some d∧Q d (Γ1.set i (.own (ds.eraseIdx k)))
theorem aKU {i:Nat}{m:ME}{Γ:En}{Q:D→En→Prop}{ds:List D}(h0:Γ[i]?=some (.own ds))(h:m Γ (ppK i Q)):aC6 i m Γ Q:=⟨⟨ds,h0⟩,h⟩
theorem aT3 {i:Nat}{Q:D→En→Prop}{Γ1:En}{ds:List D}{d:D}{k:Nat}(h0:Γ1[i]?=some (.own ds))(hk:k<1000000)(hd:ds[k]?=some d)(h:Q d (Γ1.set i (.own (ds.eraseIdx k)))):ppK i Q (.int (k:Int)) Γ1:=⟨ds,d,k,h0,rfl,hk,hd,h⟩
def a8T (i:Nat):ME:=fun Γ Q=>∃ ds,(Γ[i]?=some (.own ds)∨Γ[i]?=some (.val (.list ds)))∧Q (.int (ds.length:Int)) Γ
theorem a5T {K:Fg}{i:Nat}:VT P0 (tCB (fun xs H Q=>∃ p ys,xs=[.ref p]∧(SqL K H p ys∨SqT K H p ys)∧Q (.int ys.length) H) (cQ (uA i) nM)) (a8T i):=by
 intro F Γ σ G H Q Qm r hm k;obtain⟨ds,e|e,q⟩:=hm
 ·obtain⟨p,vs,ep,_,_,hp,hvs⟩:=r.sl i _ e;exact⟨.ref p,ep,p,vs,rfl,.inl (SqL.of hp),by rw[hvs.len]; exact k _ _ _ _ _ q (Same.refl _) r (.int _)⟩
 ·obtain⟨v,ev,dv⟩:=r.sl i _ e
  cases dv with
  | @lst p vs _ hp rs=>exact⟨.ref p,ev,p,vs,rfl,.inl (SqL.of (r.fr.sub _ _ hp)),by rw[rs.len]; exact k _ _ _ _ _ q (Same.refl _) r (.int _)⟩
theorem aRB {i:Nat}{Γ:En}{Q:D→En→Prop}{ds:List D}(h0:Γ[i]?=some (.own ds))(h:Q (.int (ds.length:Int)) Γ):a8T i Γ Q:=⟨ds,.inl h0,h⟩
theorem aQP {i:Nat}{Γ:En}{Q:D→En→Prop}{ds:List D}(h0:Γ[i]?=some (.val (.list ds)))(h:Q (.int (ds.length:Int)) Γ):a8T i Γ Q:=⟨ds,.inr h0,h⟩
end
section
variable {P0:AA→Hp→Prop}{A:Nat→Bool}
inductive DkRel (G:Hp):List (Key×V)→List (Int×D)→Prop
 | nil:DkRel G [] []
 | cons {n:Int} {v:V} {d:D} {kvs:List (Key×V)} {kds:List (Int×D)} (h:Dt G v d) (r:DkRel G kvs kds):DkRel G ((A5 n,v)::kvs) ((n,d)::kds)
theorem DkRel.same {G G':Hp}(g:Same G G'){kvs:List (Key×V)}{kds:List (Int×D)}(h:DkRel G kvs kds):DkRel G' kvs kds:=by
 induction h with
 | nil=>exact .nil
 | cons h _ ih=>exact .cons (Dt.same g _ _ h) ih
theorem DkRel.len {G:Hp}{kvs:List (Key×V)}{kds:List (Int×D)}(h:DkRel G kvs kds):kvs.length=kds.length:=by
 induction h with
 | nil=>rfl
 | cons _ _ ih=>rw[Af,Af,ih]
def wA:List (Int×D)→Int→Option D
 | [],_=>none
 | (n,d)::r,k=>if n=k then some d else wA r k
def a0M:List (Int×D)→Int→D→List (Int×D)
 | [],_,_=>[]
 | (n,d)::r,k,e=>(if n=k then(n,e) else(n,d))::a0M r k e
def wD (kds:List (Int×D))(k:Int)(d:D):List (Int×D):=if (wA kds k).isSome then a0M kds k d else kds++[(k,d)]
def nJ:List (Int×D)→Int→List (Int×D)
 | [],_=>[]
 | (n,d)::r,k=>if n=k then nJ r k else(n,d)::nJ r k
theorem DkRel.val {G:Hp}{kvs:List (Key×V)}{kds:List (Int×D)}(h:DkRel G kvs kds)(k:Int):(xF kvs (A5 k:Key)=none∧wA kds k=none)∨∃ v d,xF kvs (A5 k:Key)=some v∧wA kds k=some d∧Dt G v d:=by
 induction h with
 | nil=>exact .inl ⟨rfl,rfl⟩
 | @cons n v d kvs kds h r ih=>
  by_cases e:n=k
  ·refine .inr ⟨v,d,sS (by rw[e]),?_,h⟩;unfold wA; rw[if_pos e]
  ·rw[rM (fun z=>e (A5.inj z))];unfold wA; rw[if_neg e]; exact ih
theorem DkRel.some {G:Hp}{kvs:List (Key×V)}{kds:List (Int×D)}(h:DkRel G kvs kds){k:Int}{d:D}(e:wA kds k=some d):∃ v,xF kvs (A5 k:Key)=some v∧Dt G v d:=by
 rcases h.val k with⟨_,z⟩|⟨v,d',a,b,c⟩
 ·rw[e] at z; cases z
 ·rw[e] at b; cases b; exact⟨v,a,c⟩
theorem DkRel.isSome {G:Hp}{kvs:List (Key×V)}{kds:List (Int×D)}(h:DkRel G kvs kds)(k:Int):(xF kvs (A5 k:Key)).isSome=(wA kds k).isSome:=by
 rcases h.val k with⟨a,z⟩|⟨v,d',a,b,c⟩
 ·rw[a,z]; rfl
 ·rw[a,b]; rfl
theorem DkRel.repl {G:Hp}{kvs:List (Key×V)}{kds:List (Int×D)}(h:DkRel G kvs kds)(k:Int){v:V}{d:D}(dv:Dt G v d):DkRel G (kvs.map fun kv=>if kv.1=(A5 k:Key) then(kv.1,v) else kv) (a0M kds k d):=by
 induction h with
 | nil=>exact .nil
 | @cons n u e kvs kds h r ih=>
  unfold a0M;rw[A2]
  by_cases z:n=k
  ·rw[if_pos z,if_pos (congrArg A5 z)]; exact .cons dv ih
  ·rw[if_neg z,if_neg (fun y=>z (A5.inj y))]; exact .cons h ih
theorem DkRel.snoc {G:Hp}{kvs:List (Key×V)}{kds:List (Int×D)}(h:DkRel G kvs kds)(k:Int){v:V}{d:D}(dv:Dt G v d):DkRel G (kvs++[(A5 k,v)]) (kds++[(k,d)]):=by
 induction h with
 | nil=>exact .cons dv .nil
 | cons h _ ih=>exact .cons h ih
theorem DkRel.put {G:Hp}{kvs:List (Key×V)}{kds:List (Int×D)}(h:DkRel G kvs kds)(k:Int){v:V}{d:D}(dv:Dt G v d):DkRel G (putK kvs (A5 k:Key) v) (wD kds k d):=by
 unfold putK wD;rw[tU,h.isSome k]
 by_cases z:(wA kds k).isSome=true
 ·rw[if_pos z,if_pos z]; exact h.repl k dv
 ·rw[if_neg z,if_neg z]; exact h.snoc k dv
theorem DkRel.drop {G:Hp}{kvs:List (Key×V)}{kds:List (Int×D)}(h:DkRel G kvs kds)(k:Int):DkRel G (v6 kvs (A5 k:Key)) (nJ kds k):=by
 induction h with
 | nil=>exact .nil
 | @cons n u e kvs kds h r ih=>
  unfold nJ
  by_cases z:n=k
  ·rw[if_pos z,aEE (congrArg A5 z)]; exact ih
  ·rw[if_neg z,aC0 (fun y=>z (A5.inj y))]; exact .cons h ih
theorem hu1 {a:Nat}(h:a+64<BJ):a+1<BJ:=B2 (Nat.add_le_add_left (by decide) _) h
end
end L2.VS
namespace L2
open PySem PySem.Calls PyProof.Rows PySem.W
section
variable {prog:AQ}{w:AK}{A:AU}{E:AB→AD→Prop}{s:AD}
end
end L2
namespace L2
open PySem PySem.Spec PyProof.Rows
section
variable {X:Cx}
end
end L2
namespace L2.VS
open PySem PySem.Spec PyProof.Rows
section
variable {P0:AA→Hp→Prop}{ta:TE}{ma:ME}{K:Fg}
end
end L2.VS
namespace L2
open PySem PySem.Spec PyProof.Rows
section
variable {X:Cx}
end
end L2
namespace L2.VS
open PySem PySem.Spec PyProof.Rows
section
variable {P0:AA→Hp→Prop}
end
end L2.VS
namespace L2
open PySem PySem.Spec PyProof.Rows
def aPU:List V→Hp→VK→Prop:=fun xs H Q=>∃(p:AA) (kvs:List (Key×V)),xs=[.ref p]∧H p=some (.dK kvs)∧Q (.int kvs.length) H
theorem aCQ {X:Cx}:qX X (.builtin "len") aPU:=by
 intro pins s σ H xs us Q I r h;obtain⟨p,kvs,rfl,hp,q⟩:=h;obtain⟨u,rfl,rx⟩:=vals1 r
 cases rx
 exact aU7 I (.inl hp) fun t s' I'=>⟨.int kvs.length,H,I',⟨t,rfl⟩,q⟩
end L2
namespace L2.VS
open PySem PySem.Spec PyProof.Rows
section
variable {P0:AA→Hp→Prop}
end
section
variable {P0:AA→Hp→Prop}{A:Nat→Bool}
structure FS where
 d:AA
 p:AA
 kds:List (Int×D)
 jn:Int
 la:D
def aRO (s:FS)(vl:V):List (Str×V):=[("running", .ref s.p),("joined", .int s.jn),("last", vl)]
structure FdAt (C w:AA)(s:FS)(kvs:List (Key×V))(vl:V)(H:Hp):Prop where
 i:H w=some (.ins C s.d (aRO s vl))
 d:H s.d=some (.own w)
 k:H s.p=some (.dK kvs)
structure FdDt (s:FS)(kvs:List (Key×V))(vl:V)(G:Hp):Prop where
 k:DkRel G kvs s.kds
 l:Dt G vl s.la
theorem FdAt.at {C w:AA}{s:FS}{kvs:List (Key×V)}{vl:V}{H H':Hp}(h:FdAt C w s kvs vl H)(k:∀ b∈[w,s.d,s.p],H' b=H b):FdAt C w s kvs vl H':=
 ⟨(k w (by simp)).trans h.i,(k s.d (by simp)).trans h.d,(k s.p (by simp)).trans h.k⟩
theorem FdAt.same {C w:AA}{s:FS}{kvs:List (Key×V)}{vl:V}{H H':Hp}(h:FdAt C w s kvs vl H)(g:Same H H'):FdAt C w s kvs vl H':=⟨g _ _ h.i,g _ _ h.d,g _ _ h.k⟩
theorem FdDt.same {s:FS}{kvs:List (Key×V)}{vl:V}{G G':Hp}(h:FdDt s kvs vl G)(g:Same G G'):FdDt s kvs vl G':=⟨h.k.same g,Dt.same g _ _ h.l⟩
theorem FdAt.dom {C w:AA}{s:FS}{kvs:List (Key×V)}{vl:V}{H:Hp}(h:FdAt C w s kvs vl H):∀ y∈[w,s.d,s.p],∃ o,H y=some o∧∀ xs,o≠.tup xs:=fun y hy=>by
 simp only[AT,Av,or_false] at hy;rcases hy with rfl|rfl|rfl
 ·exact⟨_,h.i,fun _ z=>nomatch z⟩
 ·exact⟨_,h.d,fun _ z=>nomatch z⟩
 ·exact⟨_,h.k,fun _ z=>nomatch z⟩
def aI2 (C w:AA)(s:FS):Pb where
 P:=fun v G=>v=.ref w∧∃ kvs vl,FdAt C w s kvs vl G∧FdDt s kvs vl G
 mono:=fun g ⟨a,kvs,vl,b,c⟩=>⟨a,kvs,vl,b.same g,c.same g⟩
def bN (C:AA):Fam FS where
  box:=fun w s=>
    { P:=fun v fp G H=>v=.ref w∧fp=[w,s.d,s.p]∧∃ kvs vl,FdAt C w s kvs vl H∧FdDt s kvs vl G
      mono:=fun g ⟨a,b,kvs,vl,c,e⟩=>⟨a,b,kvs,vl,c,e.same g⟩
      loc:=fun k ⟨a,b,kvs,vl,c,e⟩=>⟨a,b,kvs,vl,c.at (fun y hy=>k y (by rw[b]; exact hy)),e⟩
      dom:=fun⟨a,b,kvs,vl,c,e⟩ y hy=>by
        rw[b] at hy;obtain⟨o,ho,_⟩:=c.dom y hy;exact⟨o,ho⟩
      uniq:=fun h g=>h.2.1.trans g.2.1.symm
      nt:=fun⟨a,b,kvs,vl,c,e⟩ y hy xs q=>by
        rw[b] at hy;obtain⟨o,ho,hn⟩:=c.dom y hy;rw[ho] at q;exact absurd (Option.some.inj q) (hn xs)
      view:=none
      vok:=fun _ z=>nomatch z
      pv:=some (aI2 C w s)
      pok:=fun⟨a,b,kvs,vl,c,e⟩ y g k=>by
        cases y
        exact⟨a,kvs,vl,c.at (fun y hy=>k y (by rw[b]; exact hy)),e.same g⟩ }
  pin:=fun h=>h.1
def InF (C w:AA)(s:FS)(sl:Sl):Prop:=sl=.box ((bN C).box w s)∨sl=.pub (aI2 C w s)
section
variable {C:AA}{i:Nat}
theorem R.fd {F:Fra P0}{Γ:En}{σ:St}{G H:Hp}{w:AA}{s:FS}{sl:Sl}(r:R F Γ σ G H)(e:Γ[i]?=some sl)(h:InF C w s sl):∃ kvs vl,σ[i]?=some (some (.ref w))∧FdAt C w s kvs vl H∧FdDt s kvs vl G:=by
 rcases h with rfl|rfl
 ·obtain⟨v,fp,e1,⟨rfl,_,kvs,vl,b,c⟩,_⟩:=r.sl i _ e;exact⟨kvs,vl,e1,b,c⟩
 ·obtain⟨v,e1,rfl,kvs,vl,b,c⟩:=r.sl i _ e;exact⟨kvs,vl,e1,b.same r.fr.sub,c⟩
def xN (C:AA)(i:Nat):ME:=fun Γ Q=>∃ w s sl,Γ[i]?=some sl∧InF C w s sl∧Q (.int s.jn) Γ
theorem a5P {K:Fg}(cl:Cls K C)(na:NoAttr K C "joined"):VT P0 (aID K (uA i) "joined") (xN C i):=by
 intro F Γ σ G H Q Qm r hm k;obtain⟨w,s,sl,e,h,q⟩:=hm;obtain⟨kvs,vl,ew,a,b⟩:=r.fd e h;exact⟨.ref w,ew,w,C,s.d,_,.int s.jn,rfl,a.i,cl,na,rfl,k _ _ _ _ _ q (Same.refl _) r (.int _)⟩
def a1Q (C:AA)(i:Nat):ME:=fun Γ Q=>∃ w s sl,Γ[i]?=some sl∧InF C w s sl∧Q s.la Γ
theorem a3Q {K:Fg}(cl:Cls K C)(na:NoAttr K C "last"):VT P0 (aID K (uA i) "last") (a1Q C i):=by
 intro F Γ σ G H Q Qm r hm k;obtain⟨w,s,sl,e,h,q⟩:=hm;obtain⟨kvs,vl,ew,a,b⟩:=r.fd e h;exact⟨.ref w,ew,w,C,s.d,_,vl,rfl,a.i,cl,na,rfl,k _ _ _ _ _ q (Same.refl _) r b.l⟩
def aK9 (C:AA)(i:Nat)(mj:ME):ME:=fun Γ Q=>∃ w s,(∃ sl,Γ[i]?=some sl∧InF C w s sl)∧mj Γ fun x Γ1=>(∃ sl,Γ1[i]?=some sl∧InF C w s sl)∧∃ k d,x=.int k∧wA s.kds k=some d∧Q d Γ1
theorem aM3 {K:Fg}{tj:TE}{mj:ME}(cl:Cls K C)(na:NoAttr K C "running")(hj:VT P0 tj mj):VT P0 (aOG (aID K (uA i) "running") tj) (aK9 C i mj):=by
 intro F Γ σ G H Q Qm r hm k;obtain⟨w,s,⟨sl,e,h⟩,hm⟩:=hm;obtain⟨kvs,vl,ew,a,b⟩:=r.fd e h;refine⟨.ref w,ew,w,C,s.d,_,.ref s.p,rfl,a.i,cl,na,rfl,hj F Γ σ G H _ _ r hm fun x Γ1 y G1 H1 m1 g1 r1 d1=>?_⟩;obtain⟨⟨sl1,e1,h1⟩,n,d,rfl,hd,q⟩:=m1;obtain⟨kvs1,vl1,_,a1,b1⟩:=r1.fd e1 h1
 cases d1
 obtain⟨v,hv,dv⟩:=b1.k.some hd;refine⟨s.p,v,rfl,?_,k _ _ _ _ _ q g1 r1 dv⟩;have z:=DGet.k (k:=A5 n) a1.k;rw[hv] at z;exact z
def aKN (C:AA)(i:Nat)(mj:ME):ME:=fun Γ Q=>mj Γ fun x Γ1=>∃ w s sl k,Γ1[i]?=some sl∧InF C w s sl∧x=.int k∧Q (.bool (wA s.kds k).isSome) Γ1
theorem aMD {K:Fg}{tj:TE}{mj:ME}(cl:Cls K C)(na:NoAttr K C "running")(hj:VT P0 tj mj):VT P0 (aVP tj (aID K (uA i) "running")) (aKN C i mj):=by
 intro F Γ σ G H Q Qm r hm k;refine hj F Γ σ G H _ _ r hm fun x Γ1 y G1 H1 m1 g1 r1 d1=>?_;obtain⟨w,s,sl,n,e,h,rfl,q⟩:=m1;obtain⟨kvs,vl,ew,a,b⟩:=r1.fd e h
 cases d1
 refine⟨.ref w,ew,w,C,s.d,_,.ref s.p,rfl,a.i,cl,na,rfl,s.p,_,rfl,DGet.k (k:=A5 n) a.k,?_⟩;rw[b.k.isSome n];exact k _ _ _ _ _ q g1 r1 (.bl _)
def aCC (C:AA)(i:Nat):ME:=fun Γ Q=>∃ w s sl,Γ[i]?=some sl∧InF C w s sl∧Q (.int (s.kds.length:Int)) Γ
theorem aFN {K:Fg}(cl:Cls K C)(na:NoAttr K C "running"):VT P0 (tCB aPU (cQ (aID K (uA i) "running") nM)) (aCC C i):=by
 intro F Γ σ G H Q Qm r hm k;obtain⟨w,s,sl,e,h,q⟩:=hm;obtain⟨kvs,vl,ew,a,b⟩:=r.fd e h;exact⟨.ref w,ew,w,C,s.d,_,.ref s.p,rfl,a.i,cl,na,rfl,s.p,kvs,rfl,a.k,by rw[b.k.len]; exact k _ _ _ _ _ q (Same.refl _) r (.int _)⟩
theorem R.fdI {F:Fra P0}{Γ:En}{σ:St}{G H:Hp}{w:AA}{s:FS}(r:R F Γ σ G H)(e:Γ[i]?=some (.box ((bN C).box w s))){n:Int}{y:V}{d:D}(dy:Dt G y d):R F (Γ.set i (.box ((bN C).box w { s with jn:=n,la:=d }))) σ G (upd H w (.ins C s.d (aRO { s with jn:=n } y))):=by
 obtain⟨v,fp,ev,⟨rfl,rfl,kvs,vl,a,b⟩,nf⟩:=r.sl i _ e;have hw:=nf w (by simp);refine r.writeF e (r.fr.priv hw.1 hw.2) fun fp h=>?_;obtain⟨u,eu2,⟨rfl,rfl,_⟩,nf2⟩:=h;have ed:s.d≠w:=aAH a.d a.i (by intro z; cases z);have ek:s.p≠w:=aAH a.k a.i (by intro z; cases z);refine⟨[w,s.d,s.p],⟨.ref w,ev,⟨rfl,rfl,kvs,y,⟨?_,?_,?_⟩,⟨b.k,dy⟩⟩,nf2⟩,fun b hb _=>?_⟩
 ·rw[aW]; rfl
 ·show upd H w _ s.d=_;rw[bA ed]; exact a.d
 ·show upd H w _ s.p=_;rw[bA ek]; exact a.k
 ·exact⟨bA fun y=>hb (by rw[y]; simp),hb⟩
theorem R.fdK {F:Fra P0}{Γ:En}{σ:St}{G H:Hp}{w:AA}{s:FS}(r:R F Γ σ G H)(e:Γ[i]?=some (.box ((bN C).box w s))){kvs':List (Key×V)}{kds':List (Int×D)}(rel:DkRel G kvs' kds'):R F (Γ.set i (.box ((bN C).box w { s with kds:=kds' }))) σ G (upd H s.p (.dK kvs')):=by
 obtain⟨v,fp,ev,⟨rfl,rfl,kvs,vl,a,b⟩,nf⟩:=r.sl i _ e;have hw:=nf s.p (by simp);refine r.writeF e (r.fr.priv hw.1 hw.2) fun fp h=>?_;obtain⟨u,eu2,⟨rfl,rfl,_⟩,nf2⟩:=h;have ed:s.d≠s.p:=aAH a.d a.k (by intro z; cases z);have ew:w≠s.p:=aAH a.i a.k (by intro z; cases z);refine⟨[w,s.d,s.p],⟨.ref w,ev,⟨rfl,rfl,kvs',vl,⟨?_,?_,?_⟩,⟨rel,b.l⟩⟩,nf2⟩,fun b hb _=>?_⟩
 ·show upd H s.p _ w=_;rw[bA ew]; exact a.i
 ·show upd H s.p _ s.d=_;rw[bA ed]; exact a.d
 ·show upd H s.p _ s.p=_;rw[aW]
 ·exact⟨bA fun y=>hb (by rw[y]; simp),hb⟩
def a1J (C:AA)(i:Nat)(m:ME):MS:=fun Γ Q=>m Γ fun d Γ1=>∃ w s,Γ1[i]?=some (.box ((bN C).box w s))∧Q (.nx (Γ1.set i (.box ((bN C).box w { s with la:=d }))))
theorem a8O {K:Fg}{t:TE}{m:ME}(cl:Cls K C)(na:NoAttr K C "last")(h:VT P0 t m):VSA P0 A (aVQ K (uA i) t "last") (a1J C i m):=by
 intro F Γ σ G H E Qm r hm k;refine h F Γ σ G H _ _ r hm fun d Γ1 y G1 H1 m1 g1 r1 d1=>?_;obtain⟨w,s,e,q⟩:=m1;obtain⟨kvs,vl,ev,a,b⟩:=r1.fd e (.inl rfl);refine⟨.ref w,ev,w,C,s.d,_,rfl,a.i,cl,na,(by show 3<1000; decide),?_⟩;exact k _ q σ G1 _ g1 (r1.fdI (n:=s.jn) e d1) fun _ _=>rfl
def a1O (C:AA)(i:Nat)(n:Int):MS:=fun Γ Q=>∃ w s,Γ[i]?=some (.box ((bN C).box w s))∧Q (.nx (Γ.set i (.box ((bN C).box w { s with jn:=s.jn+n }))))
theorem a8S {K:Fg}{n:Int}(cl:Cls K C)(na:NoAttr K C "joined"):VSA P0 A (aE7 K (uA i) (tC (.int n)) aVU "joined") (a1O C i n):=by
 intro F Γ σ G H E Qm r hm k;obtain⟨w,s,e,q⟩:=hm;obtain⟨kvs,vl,ev,a,b⟩:=r.fd e (.inl rfl);refine⟨.ref w,ev,w,C,s.d,_,.int s.jn,rfl,a.i,cl,na,rfl,?_⟩;refine⟨s.jn,n,rfl,rfl,s.d,_,a.i,(by show 3<1000; decide),?_⟩;exact k _ q σ G _ (Same.refl _) (r.fdI (n:=s.jn+n) e b.l) fun _ _=>rfl
def a70 (C:AA)(i:Nat)(m mj:ME):MS:=fun Γ Q=>m Γ fun d Γ1=>∃ w s,Γ1[i]?=some (.box ((bN C).box w s))∧mj Γ1 fun x Γ2=>∃ k,Γ2[i]?=some (.box ((bN C).box w s))∧x=.int k∧s.kds.length<1000∧Q (.nx (Γ2.set i (.box ((bN C).box w { s with kds:=wD s.kds k d }))))
theorem a80 {K:Fg}{t tj:TE}{m mj:ME}(cl:Cls K C)(na:NoAttr K C "running")(h:VT P0 t m)(hj:VT P0 tj mj):VSA P0 A (aR4 (aID K (uA i) "running") tj t) (a70 C i m mj):=by
 intro F Γ σ G H E Qm r hm k;refine h F Γ σ G H _ _ r hm fun d Γ1 v G1 H1 m1 g1 r1 d1=>?_;obtain⟨w,s,e,m1⟩:=m1;obtain⟨kvs,vl,ev,a,b⟩:=r1.fd e (.inl rfl);refine⟨.ref w,ev,w,C,s.d,_,.ref s.p,rfl,a.i,cl,na,rfl,hj F Γ1 σ G1 H1 _ _ r1 m1 fun x Γ2 u G2 H2 m2 g2 r2 d2=>?_⟩;obtain⟨n,e2,rfl,hl,q⟩:=m2;obtain⟨kvs2,vl2,ev2,a2,b2⟩:=r2.fd e2 (.inl rfl)
 cases d2
 refine⟨s.p,_,rfl,DPut.k (k:=A5 n) a2.k (by rw[b2.k.len]; exact As hl (by decide)),?_⟩;exact k _ q σ G2 _ (g1.trans g2) (r2.fdK e2 (b2.k.put n (Dt.same g2 _ _ d1))) fun _ _=>rfl
def aA7 (C:AA)(i:Nat)(mj:ME):ME:=fun Γ Q=>∃ w s,Γ[i]?=some (.box ((bN C).box w s))∧mj Γ fun x Γ1=>∃ k d,Γ1[i]?=some (.box ((bN C).box w s))∧x=.int k∧wA s.kds k=some d∧Q d (Γ1.set i (.box ((bN C).box w { s with kds:=nJ s.kds k })))
theorem aF4 {K:Fg}{tj:TE}{mj:ME}(cl:Cls K C)(na:NoAttr K C "running")(hj:VT P0 tj mj):VT P0 (aI3 (aID K (uA i) "running") tj) (aA7 C i mj):=by
 intro F Γ σ G H Q Qm r hm k;obtain⟨w,s,e,hm⟩:=hm;obtain⟨kvs,vl,ev,a,b⟩:=r.fd e (.inl rfl);refine⟨.ref w,ev,w,C,s.d,_,.ref s.p,rfl,a.i,cl,na,rfl,s.p,rfl,.inl ⟨kvs,.inl a.k⟩,hj F Γ σ G H _ _ r hm fun x Γ1 y G1 H1 m1 g1 r1 d1=>?_⟩;obtain⟨n,d,e1,rfl,hd,q⟩:=m1;obtain⟨kvs1,vl1,ev1,a1,b1⟩:=r1.fd e1 (.inl rfl)
 cases d1
 obtain⟨v,hv,dv⟩:=b1.k.some hd;exact⟨kvs1,A5 n,v,a1.k,rfl,hv,k _ _ _ _ _ q g1 (r1.fdK e1 (b1.k.drop n)) dv⟩
theorem aBV {m:Str}(hm:∀ s vl,(aRO s vl).lookup m=none){p:AA}{s:FS}{v:V}{fp:List AA}{G H:Hp}(h:((bN C).box p s).P v fp G H):∃ dx fs,H p=some (.ins C dx fs)∧fs.lookup m=none:=by
 obtain⟨_,_,kvs,vl,a,_⟩:=h;exact⟨_,_,a.i,hm s vl⟩
def a1L (C:AA):Sp:=fun vs H Q _=>∃(w d:AA),vs=[.ref w]∧H w=some (.ins C d [])∧∀ p,H p=none→Q .non (upd (upd H p (.dK [])) w (.ins C d [("running", .ref p),("joined", .int 0),("last", .non)]))
def aE1 (C:AA):MO:=fun Γ Q=>∀ w d p,Q (.box ((bN C).box w ⟨d,p,[],0,.none⟩)) Γ
theorem aG3 {E:XK}:VO P0 (aN9 C (a1L C) [] E nM) (aE1 C):=by
 intro F Γ σ G H Q Qm r hm k w d hw hd hdw;refine⟨w,d,rfl,aW,fun p hp=>⟨rfl,?_⟩⟩;have pw:p≠w:=fun z=>by rw[z,aW] at hp; cases hp
 have pd:p≠d:=fun z=>by rw[z,bA hdw,aW] at hp; cases hp
 have hp0:H p=none:=by rw[bA pw,bA pd] at hp; exact hp
 have g3:∀ b o,H b=some o→upd (upd (upd (upd H d (.own w)) w (.ins C d [])) p (.dK [])) w (.ins C d [("running", .ref p),("joined", .int 0),("last", .non)]) b=some o:=fun b o e=>by
  rw[bA (bJ e hw),bA (bJ e hp0),bA (bJ e hw),bA (bJ e hd)];exact e
 have r1:=(((r.newP (o:=.own w) hd).newP (p:=w) (o:=.ins C d []) (by rw[bA (Am hdw)]; exact hw)).newP (o:=.dK []) hp);have rf:Rf F G (upd (upd (upd (upd H d (.own w)) w (.ins C d [])) p (.dK [])) w (.ins C d [("running", .ref p),("joined", .int 0),("last", .non)])):=r1.fr.priv (r.fr.fresh hw) (r.fr.gfresh hw);have r2:R F Γ σ G (upd (upd (upd (upd H d (.own w)) w (.ins C d [])) p (.dK [])) w (.ins C d [("running", .ref p),("joined", .int 0),("last", .non)])):=r.keep rf (Same.refl _) fun q u _ _ g h=>⟨g,g3 q u h⟩;have hP:((bN C).box w ⟨d,p,[],0,.none⟩).P (.ref w) [w,d,p] G (upd (upd (upd (upd H d (.own w)) w (.ins C d [])) p (.dK [])) w (.ins C d [("running", .ref p),("joined", .int 0),("last", .non)])):=
  ⟨rfl,rfl,[],.non,⟨aW,(by show upd _ w _ d=_; rw[bA hdw,bA (Am pd),bA hdw,aW]),(by show upd _ w _ p=_; rw[bA pw,aW])⟩,⟨.nil,.non⟩⟩
 have fr:∀ b∈[w,d,p],H b=none:=fun b hb=>by
  simp only[AT,Av,or_false] at hb;rcases hb with rfl|rfl|rfl
  ·exact hw
  ·exact hd
  ·exact hp0
 refine k _ _ _ _ _ (hm w d p) (Same.refl _) r2 ⟨[w,d,p],hP,fun b hb=>⟨r.fr.fresh (fr b hb),r.fr.gfresh (fr b hb)⟩⟩ (Apart.newB r (fun fp h b hb=>?_) (Same.refl _) fun b o _ g e=>⟨g,g3 b o e⟩);rw[Bx.uniq _ h hP] at hb;exact fr b hb
end
end
section
variable {P0:AA→Hp→Prop}{A:Nat→Bool}
end
section
section
variable {i j:Nat}{Γ Γ1:En}{Q:D→En→Prop}{Qf:Fl→Prop}{Qo:Rv→En→Prop}{m ma mj:ME}{kds:List (Int×D)}{d:D}{n:Int}{C w:AA}{s:FS}{sl:Sl}{mo:MO}
theorem a9S (h0:Γ[i]?=some (.box ((bN C).box w s)))(h:Q (.int s.jn) Γ):xN C i Γ Q:=⟨w,s,_,h0,.inl rfl,h⟩
theorem aHE (h0:Γ[i]?=some (.box ((bN C).box w s)))(h:Q s.la Γ):a1Q C i Γ Q:=⟨w,s,_,h0,.inl rfl,h⟩
def fxK (C:AA)(i:Nat)(w:AA)(s:FS)(Q:D→En→Prop)(x:D)(Γ1:En):Prop:=(∃ sl,Γ1[i]?=some sl∧InF C w s sl)∧∃ k d,x=.int k∧wA s.kds k=some d∧Q d Γ1
theorem aNF (h0:Γ[i]?=some (.box ((bN C).box w s)))(h:mj Γ (fxK C i w s Q)):aK9 C i mj Γ Q:=⟨w,s,⟨_,h0,.inl rfl⟩,h⟩
theorem aTV (h0:Γ1[i]?=some (.box ((bN C).box w s)))(hd:wA s.kds n=some d)(h:Q d Γ1):fxK C i w s Q (.int n) Γ1:=⟨⟨_,h0,.inl rfl⟩,n,d,rfl,hd,h⟩
def fiK (C:AA)(i:Nat)(Q:D→En→Prop)(x:D)(Γ1:En):Prop:=∃ w s sl k,Γ1[i]?=some sl∧InF C w s sl∧x=.int k∧Q (.bool (wA s.kds k).isSome) Γ1
theorem aN8 (h:mj Γ (fiK C i Q)):aKN C i mj Γ Q:=h
theorem aS9 (h0:Γ1[i]?=some (.box ((bN C).box w s)))(h:Q (.bool (wA s.kds n).isSome) Γ1):fiK C i Q (.int n) Γ1:=⟨w,s,_,n,h0,.inl rfl,rfl,h⟩
theorem aLN (h0:Γ[i]?=some (.box ((bN C).box w s)))(h:Q (.int (s.kds.length:Int)) Γ):aCC C i Γ Q:=⟨w,s,_,h0,.inl rfl,h⟩
def aVI (C:AA)(i:Nat)(Q:Fl→Prop)(d:D)(Γ1:En):Prop:=∃ w s,Γ1[i]?=some (.box ((bN C).box w s))∧Q (.nx (Γ1.set i (.box ((bN C).box w { s with la:=d }))))
theorem aDR (h:m Γ (aVI C i Qf)):a1J C i m Γ Qf:=h
theorem aOW (h0:Γ1[i]?=some (.box ((bN C).box w s)))(h:Qf (.nx (Γ1.set i (.box ((bN C).box w { s with la:=d }))))):aVI C i Qf d Γ1:=⟨w,s,h0,h⟩
theorem aDE (h0:Γ[i]?=some (.box ((bN C).box w s)))(h:Qf (.nx (Γ.set i (.box ((bN C).box w { s with jn:=s.jn+n }))))):a1O C i n Γ Qf:=⟨w,s,h0,h⟩
def fpK (C:AA)(i:Nat)(d:D)(w:AA)(s:FS)(Q:Fl→Prop)(x:D)(Γ2:En):Prop:=∃ k,Γ2[i]?=some (.box ((bN C).box w s))∧x=.int k∧s.kds.length<1000∧Q (.nx (Γ2.set i (.box ((bN C).box w { s with kds:=wD s.kds k d }))))
def fpJ (C:AA)(i:Nat)(mj:ME)(Q:Fl→Prop)(d:D)(Γ1:En):Prop:=∃ w s,Γ1[i]?=some (.box ((bN C).box w s))∧mj Γ1 (fpK C i d w s Q)
theorem aLS (h:m Γ (fpJ C i mj Qf)):a70 C i m mj Γ Qf:=h
theorem aTW (h0:Γ1[i]?=some (.box ((bN C).box w s)))(h:mj Γ1 (fpK C i d w s Qf)):fpJ C i mj Qf d Γ1:=⟨w,s,h0,h⟩
theorem aPF (h0:Γ1[i]?=some (.box ((bN C).box w s)))(hl:s.kds.length<1000)(h:Qf (.nx (Γ1.set i (.box ((bN C).box w { s with kds:=wD s.kds n d }))))):fpK C i d w s Qf (.int n) Γ1:=⟨n,h0,rfl,hl,h⟩
def fqK (C:AA)(i:Nat)(w:AA)(s:FS)(Q:D→En→Prop)(x:D)(Γ1:En):Prop:=∃ k d,Γ1[i]?=some (.box ((bN C).box w s))∧x=.int k∧wA s.kds k=some d∧Q d (Γ1.set i (.box ((bN C).box w { s with kds:=nJ s.kds k })))
theorem aJ4 (h0:Γ[i]?=some (.box ((bN C).box w s)))(h:mj Γ (fqK C i w s Q)):aA7 C i mj Γ Q:=⟨w,s,h0,h⟩
theorem aT7 (h0:Γ1[i]?=some (.box ((bN C).box w s)))(hd:wA s.kds n=some d)(h:Q d (Γ1.set i (.box ((bN C).box w { s with kds:=nJ s.kds n })))):fqK C i w s Q (.int n) Γ1:=⟨n,d,h0,rfl,hd,h⟩
theorem aJZ (h:∀ w d p,Qo (.box ((bN C).box w ⟨d,p,[],0,.none⟩)) Γ):aE1 C Γ Qo:=h
end
end
end L2.VS
namespace L2
open PySem PySem.Spec PyProof.Rows
end L2
namespace L2.VS
open PySem PySem.Spec PyProof.Rows
section
variable {P0:AA→Hp→Prop}
end
section
variable {P0:AA→Hp→Prop}{K:Fg}
end
section
variable {P0:AA→Hp→Prop}{A:Nat→Bool}{S:Type}
def Fra.hold (F:Fra P0){G H:Hp}(rf:Rf F G H)(fp:List AA)(hF:∀ b∈fp,F.H0 b=none):Fra P0 where
 H0:=fun b=>if b∈fp then H b else F.H0 b
 G0:=fun b=>if b∈fp then none else F.G0 b
 pen:=F.pen
 stab:=fun p e H1 H2 h=>F.stab p e H1 H2 fun b o z=>h b o (by rw[if_neg (fun hb=>by rw[hF b hb] at z; cases z)]; exact z)
 pin:=F.pin
 pin0:=fun p e=>by
  obtain⟨o,z⟩:=F.pin0 p e;exact⟨o,by rw[if_neg (fun hb=>by rw[hF p hb] at z; cases z)]; exact z⟩
 pg:=fun p e=>by
  split
  ·rfl
  ·exact F.pg p e
section
variable {F:Fra P0}{Γ:En}{σ:St}{G H:Hp}{fp:List AA}
theorem SlF.frame {F F':Fra P0}{G H:Hp}{x:Option (Option V)}{fp:List AA}(hp:F'.pen=F.pen)(k:∀ b∈fp,F.H0 b=none→F'.H0 b=none):∀{s:Sl},SlF F G H x fp s→SlF F' G H x fp s
 | .no,h=>h
 | .val _,h=>h
 | .own _,h=>by
  obtain⟨p,vs,e,e1,e2,r⟩:=h;exact⟨p,vs,e,e1,k p (by rw[e]; exact AW.mpr rfl) e2,r⟩
 | .pen,h=>by
  obtain⟨e,p,e1,e2⟩:=h;exact⟨e,p,e1,hp.trans e2⟩
 | .con _,h=>h
 | .pub _,h=>h
 | .box B,h=>by
  obtain⟨v,h1,h2,h3⟩:=h;exact⟨v,h1,h2,fun b hb=>⟨k b hb (h3 b hb).1,(h3 b hb).2⟩⟩
theorem R.hold (r:R F Γ σ G H)(hF:∀ b∈fp,F.H0 b=none∧G b=none)(ap:∀(i:Nat) s f,Γ[i]?=some s→SlF F G H σ[i]? f s→∀ b∈fp,b∉f):R (F.hold r.fr fp fun b hb=>(hF b hb).1) Γ σ G H:=by
 obtain⟨fps,h1,h2⟩:=r.fps;refine⟨⟨r.fr.sub,fun b o z=>?_,fun b o z hb=>?_,r.fr.pn⟩,r.len,fps,fun i s e=>SlF.frame (F:=F) (F':=F.hold r.fr fp fun b hb=>(hF b hb).1) rfl (fun b hb z=>?_) (h1 i s e),h2⟩
 ·have z:(if b∈fp then H b else F.H0 b)=some o:=z;show G b=if b∈fp then none else F.G0 b
  split at z
  ·rename_i h; rw[if_pos h]; exact(hF b h).2
  ·rename_i h; rw[if_neg h]; exact r.fr.g0 b o z
 ·have z:(if b∈fp then H b else F.H0 b)=some o:=z
  split at z
  ·exact z
  ·exact r.fr.h0 b o z hb
 ·show(if b∈fp then H b else F.H0 b)=none
  rw[if_neg (fun h=>ap i s _ e (h1 i s e) b h hb)];exact z
theorem R.unhold {rf:Rf F G H}{hF:∀ b∈fp,F.H0 b=none}{Γ':En}{σ':St}{G' H':Hp}(hH:∀ b∈fp,∃ o,H b=some o)(r:R (F.hold rf fp hF) Γ' σ' G' H') :
  R F Γ' σ' G' H'∧(∀ b∈fp,H' b=H b∧G' b=none)∧∀(i:Nat) s f,Γ'[i]?=some s→SlF F G' H' σ'[i]? f s→∀ b∈fp,b∉f:=by
 obtain⟨fps,h1,h2⟩:=r.fps;have in_:∀ b∈fp,∃ o,(F.hold rf fp hF).H0 b=some o∧H b=some o:=fun b hb=>by
  obtain⟨o,ho⟩:=hH b hb;exact⟨o,by show(if b∈fp then H b else F.H0 b)=_; rw[if_pos hb]; exact ho,ho⟩
 have out:∀ b o,F.H0 b=some o→b∉fp∧(F.hold rf fp hF).H0 b=some o:=fun b o z=>by
  have hb:b∉fp:=fun h=>by rw[hF b h] at z; cases z
  exact⟨hb,by show(if b∈fp then H b else F.H0 b)=_; rw[if_neg hb]; exact z⟩
 have nF:∀ b,(F.hold rf fp hF).H0 b=none→F.H0 b=none:=fun b z=>by
  cases y:F.H0 b with
  | none=>rfl
  | some o=>rw[(out b o y).2] at z; cases z
 have sl:∀(i:Nat) s,Γ'[i]?=some s→SlF F G' H' σ'[i]? (fps i) s:=fun i s e=>SlF.frame (F:=F.hold rf fp hF) (F':=F) rfl (fun b _ z=>nF b z) (h1 i s e);refine⟨⟨⟨r.fr.sub,fun b o z=>?_,fun b o z hb=>r.fr.h0 b o (out b o z).2 hb,r.fr.pn⟩,r.len,fps,sl,h2⟩,fun b hb=>?_,fun i s f e hf b hb hc=>?_⟩
 ·have y:=r.fr.g0 b o (out b o z).2;rw[y]
  show(if b∈fp then none else F.G0 b)=_
  rw[if_neg (out b o z).1]
 ·obtain⟨o,ho,hH'⟩:=in_ b hb;refine⟨?_,?_⟩
  ·rw[hH'];refine r.fr.h0 b o ho fun z=>?_;obtain⟨o',z'⟩:=F.pin0 b z;rw[hF b hb] at z'; cases z'
  ·rw[r.fr.g0 b o ho]
   show(if b∈fp then none else F.G0 b)=none
   rw[if_pos hb]
 ·rw[SlF.det hf (sl i s e)] at hc;obtain⟨z,_⟩:=(h1 i s e).mine hc;obtain⟨o,ho,_⟩:=in_ b hb;rw[ho] at z; cases z
end
end
end L2.VS
namespace L2
open PySem PySem.Spec PyProof.Rows
section
variable {X:Cx}
theorem fC {a b:AC}(h:a.cps.toList=b.cps.toList):a=b:=by
 obtain⟨a⟩:=a;obtain⟨b⟩:=b;have:a=b:=toList_inj.mp h;rw[this]
theorem a1M (a b:AC):(a++b).cps.toList=a.cps.toList++b.cps.toList:=A4
theorem a86 {a:AC}(h:(a.length==0)=true):a.cps.toList=[]:=by
 have h:a.cps.size=0:=beq_iff_eq.mp h;exact List.eq_nil_of_length_eq_zero (by rw[CO]; exact h)
def aPL:R2:=fun x y H Q=>∃ a b:AC,x=.str a∧y=.str b∧(a++b).length≤sizeLine∧Q (.str (a++b)) H
theorem mZ:OpR X (Bu .Add) aPL:=by
 intro pins s σ H x y v u Q I rx ry h;obtain⟨a,b,rfl,rfl,hz,q⟩:=h;obtain⟨t,rfl⟩:=rx;obtain⟨t',rfl⟩:=ry;refine P.add_str ?_
 by_cases c:(a.length==0)=true
 ·rw[if_pos c];have e:a++b=b:=fC (by rw[a1M,a86 c,B1]);rw[e] at q;exact⟨.str b,H,I,⟨_,rfl⟩,q⟩
 ·rw[if_neg c]
  by_cases d:(b.length==0)=true
  ·rw[if_pos d];have e:a++b=a:=fC (by rw[a1M,a86 d,Bb]);rw[e] at q;exact⟨.str a,H,I,⟨_,rfl⟩,q⟩
  ·rw[if_neg d];exact⟨hz,.str (a++b),H,I.tok _,⟨_,rfl⟩,q⟩
def txI (i:Int):AC:=Du (toString i)
def aQC:List V→Hp→VK→Prop:=fun xs H Q=>(∃ i:Int,xs=[.int i]∧i.natAbs.log2<1920∧Q (.str (txI i)) H)∨∃ a,xs=[.str a]∧Q (.str a) H
theorem tL:qX X (.type "str") aQC:=by
 intro pins s σ H xs us Q I r h;rcases h with⟨i,rfl,hi,q⟩|⟨a,rfl,q⟩
 ·obtain⟨u,rfl,t,rfl⟩:=vals1 r;exact P.str_of_int hi ⟨.str (txI i),H,I.tok _,⟨_,rfl⟩,q⟩
 ·obtain⟨u,rfl,t,rfl⟩:=vals1 r;exact P.str_of_str ⟨.str a,H,I,⟨_,rfl⟩,q⟩
def aNK:List V→Hp→VK→Prop:=fun xs H Q=>∃ a:AC,xs=[.str a]∧a.length≤sizeLine∧Q (.int (a.length:Int)) H
theorem a4F:qX X (.builtin "len") aNK:=by
 intro pins s σ H xs us Q I r h;obtain⟨a,rfl,hl,q⟩:=h;obtain⟨u,rfl,t,rfl⟩:=vals1 r;have h63:=zZ;exact P.len_str (by omega) ⟨.int (a.length:Int),H,I.tok _,⟨_,rfl⟩,q⟩
def inS (a b:AC):Bool := !(CB b a 0 b.length 1).isEmpty
def aVX:R2:=fun x y H Q=>∃ a b:AC,x=.str a∧y=.str b∧Q (.bl (inS a b)) H
theorem aQ4:OpR X (Bf .In) aVX:=by
 intro pins s σ H x y v u Q I rx ry h;obtain⟨a,b,rfl,rfl,q⟩:=h;obtain⟨t,rfl⟩:=rx;obtain⟨t',rfl⟩:=ry;exact P.in_str ⟨.bl (inS a b),H,I,rfl,q⟩
def aBD:V→List V→Hp→VK→Prop:=fun x vs H Q=>∃ a b:AC,x=.str a∧vs=[.str b]∧Q (.bl (Txt.startswith a b)) H
theorem aAX:MtR X "str.startswith" aBD:=by
 intro pins s σ H x vs v us Q I rx rv h;obtain⟨a,b,rfl,rfl,q⟩:=h;obtain⟨t,rfl⟩:=rx;obtain⟨u,rfl,t',rfl⟩:=rv.one;exact SC.startswith ⟨.bl (Txt.startswith a b),H,I,rfl,q⟩
def aQM:List V→Hp→VK→Prop:=fun xs H Q=>∃(a:AC) (n:Int),xs=[.str a]∧F5 a=some n∧a.length≤640∧Q (.int n) H
theorem aDK:qX X (.type "int") aQM:=by
 intro pins s σ H xs us Q I r h;obtain⟨a,n,rfl,hn,hl,q⟩:=h;obtain⟨u,rfl,t,rfl⟩:=vals1 r;exact PySem.W.KIN.call_text hn hl ⟨.int n,H,I.tok _,⟨_,rfl⟩,q⟩
theorem a4E:∀{ts:List AC} {its:List AB},Vals (ts.map V.str) its→∃ l:List (AC×Tok),its=strValues l∧l.map (·.1)=ts
 | [],its,h=>by cases h; exact⟨[],rfl,rfl⟩
 | a::ts,its,h=>by
  cases h with
  | cons r t=>
   obtain⟨tk,rfl⟩:=r;obtain⟨l,rfl,e⟩:=a4E t;exact⟨(a,tk)::l,rfl,by rw[A2,e]⟩
theorem vO:∀(l:List (AC×Tok)),Vals ((l.map (·.1)).map V.str) (strValues l)
 | []=>.nil
 | p::l=>.cons ⟨p.2,rfl⟩ (vO l)
def rJoin (K:Fg):V→List V→Hp→VK→Prop:=fun x vs H Q=>∃(a:AC) (p:AA) (ts:List AC),x=.str a∧vs=[.ref p]∧SqL K H p (ts.map V.str)∧JoinOk a ts=true∧Q (.str (Txt.join a ts)) H
theorem uB:MtR X "str.join" (rJoin X.K):=by
 intro pins s σ H x vs v us Q I rx rv h;obtain⟨a,p,ts,rfl,rfl,hq,hok,q⟩:=h;obtain⟨t,rfl⟩:=rx;obtain⟨u,rfl,ru⟩:=rv.one
 cases ru
 obtain⟨its,r',pl,hz⟩:=I.list hq;obtain⟨l,rfl,e⟩:=a4E r';exact SC.join pl.isList e hok fun t' k=>⟨.str (Txt.join a ts),H,I.tok k,⟨_,rfl⟩,q⟩
def aIX:V→List V→Hp→VK→Prop:=fun x vs H Q=>∃ a b:AC,x=.str a∧vs=[.str b]∧(b.length==0)=false∧a.length≤sizeLine∧(Txt.split a b).length≤sizeLine∧∀ q,H q=none→Q (.ref q) (upd H q (.lst ((Txt.split a b).map V.str)))
theorem oX:MtR X "str.split" aIX:=by
 intro pins s σ H x vs v us Q I rx rv h;obtain⟨a,b,rfl,rfl,hy,hz,hz2,q⟩:=h;obtain⟨t,rfl⟩:=rx;obtain⟨u,rfl,t',rfl⟩:=rv.one;have fin:∀(l:List (AC×Tok)) (k:Nat),l.map (·.1)=Txt.split a b→EP X pins σ Q (.ref s.heap.objs.size) { s with heap:=s.heap.push { cls:=.type "list", data:=.seq (strValues l).toArray },toks:=k }:=fun l k e=>by
  have vs:=vO l;rw[e] at vs;exact⟨.ref _,_,I.lnew (t':=k) vs (by rw[AO]; exact hz2),rfl,q _ I.fresh⟩
 cases h1:(decide (a.length<b.length)||decide (Gh a<Gh b)) with
 | false=>
  cases hf:(CB a b 0 a.length (a.length+1)).isEmpty with
  | false=>
   have es:Txt.split a b=F6 a (CB a b 0 a.length (a.length+1)) b.length:=(if_neg (ne_true_of_eq_false h1)).trans (if_neg (ne_true_of_eq_false hf));rw[es] at hz2;refine Dq F.slot_str_split (C1 _ _ _) F.entry_str_split (F.args_str_split_2 _ _) (meets_str_split_sep a b _ _ h1 hy hf hz hz2) ?_;show wants _ X.xe _ { s with toks:=_,heap:=s.heap.push { cls:=.type "list", data:=.seq (strsFrom s.toks (F6 a (CB a b 0 a.length (a.length+1)) b.length)).toArray } };rw[strsFrom_eq];exact fin _ _ ((numbered_texts _ _).trans es.symm)
  | true=>exact Dq F.slot_str_split (C1 _ _ _) F.entry_str_split (F.args_str_split_2 _ _) (meets_str_split_not_found a b _ _ h1 hy hf) (fin [(a,t)] s.toks ((if_neg (ne_true_of_eq_false h1)).trans (if_pos hf)).symm)
 | true=>exact Dq F.slot_str_split (C1 _ _ _) F.entry_str_split (F.args_str_split_2 _ _) (meets_str_split_cannot_occur a b _ _ h1) (fin [(a,t)] s.toks (if_pos h1).symm)
def ItS (x:AC):It:=⟨fun i _=>i<x.cps.size,fun i H v H'=>H'=H∧∃ c,x.cps[i]?=some c∧v=.str ⟨#[c]⟩,fun i _=>i=x.cps.size⟩
theorem a6Y {P:AQ}{w:AK}{K:Fg}{tg:AJ}{x:AC}{t:Tok}{it:AA}{ty:String}(W:∀ A':AU,A'.handled=none→Walks P w A' it [it] [it] x.cps.size (SignAt x) (fun i h=>h.IsStrIter it ty x t i))
  (hs:∀(A:AU) (i:Nat) (s:AD) (Q:AB→AD→Prop) (E:AB→AD→Prop),s.heap.IsStrIter it ty x t i→Q (.ref it) s→AF (AI P w) A (pyIter (.ref it)) Q E s)
  (hn:["enumerate", "zip", "dict_itemiterator", "dict_reverseitemiterator", "odict_iterator", "itertools.zip_longest", "itertools.pairwise"].contains ty=false) :
  Turn P w K tg (ItS x) [it] it (fun i h=>h.IsStrIter it ty x t i) where
 mem:=by simp
 obj:=fun i h st b hb=>by
  have e:b=it:=by simpa using hb
  subst e;obtain⟨o,e,c,d⟩:=st;exact⟨o,e,fun v z=>by rw[d] at z; cases z⟩
 keep:=fun i h h' st k=>let ⟨o,ho,r⟩:=st; ⟨o,k it (by simp) o ho,r⟩
 item:=by
  intro X hP hw hK hc i pins s σ H E I hf st hg;subst hP hw hK;obtain⟨f0,f1,f2,f3,f4,f5⟩:=hf it (by simp);refine(W X.A (I.ok.hd hc)).item i s _ _ hg st fun v h' tk hv st' kk=>?_;obtain⟨c,u,hc',rfl⟩:=hv;have I1:Inv X pins σ H { s with heap:=h',toks:=tk }:=I.turned (fun b o hb e=>kk b o (by simpa using hb) e) f0 f1 f3 f4 f5;obtain⟨o,e,cl,d⟩:=id st';exact⟨_,rfl,aFQ (s:={ s with heap:=h',toks:=tk }) e cl d hn ⟨.str ⟨#[c]⟩,H,I1,⟨u,rfl⟩,⟨rfl,c,hc',rfl⟩,st',fun b hb=>(hf b hb).1⟩⟩
 done:=by
  intro X hP hw hK hc i pins s σ H E I hf st hg;subst hP hw hK;obtain⟨f0,f1,f2,f3,f4,f5⟩:=hf it (by simp);have hg:i=x.cps.size:=hg;subst hg;exact(W X.A (I.ok.hd hc)).done s _ _ st fun h' tk kk=>⟨rfl,I.turned (fun b o hb e=>kk b o (by simpa using hb) e) f0 f1 f3 f4 f5⟩
 self:=hs
def aUW (tl:TE):TI:=fun σ H R=>tl σ H fun v H1=>∃ x,v=.str x∧R (ItS x) H1
theorem aO8 {tg:AJ}{l:AJ}{tl:TE}(hl:PE X l tl):PI X tg l (aUW tl):=by
 intro pins s σ H R I h;refine thn (hl pins s σ H _ I h) fun v s1 ⟨y,H1,I1,r1,x,e,q⟩=>?_;subst e;obtain⟨t,rfl⟩:=r1;have fp:∀ b∈[s1.heap.objs.size],a92 X pins H1 b:=fun b hb=>by
  have e:b=s1.heap.objs.size:=by simpa using hb
  subst e;exact I1.fpOk (AV _) (I1.hok.fresh (AV _))
 cases ha:x.cps.all (·<128) with
 | false=>exact wpAny_pyIter_wide ha ⟨s1.heap.objs.size,[s1.heap.objs.size],_,_,H1,rfl,I1.kept (t':=s1.toks) fun b o e=>AZ _ e,a6Y (fun A' hA=>Walks.strWide hA _ x t) (fun A i s Q E st h=>wpAny_pyIter_striter_wide st h) (by decide),⟨_,BE _ rfl,rfl,rfl⟩,fp,q⟩
 | true=>exact wpAny_pyIter_ascii ha ⟨s1.heap.objs.size,[s1.heap.objs.size],_,_,H1,rfl,I1.kept (t':=s1.toks) fun b o e=>AZ _ e,a6Y (fun A' hA=>Walks.strAscii hA _ x t) (fun A i s Q E st h=>wpAny_pyIter_striter_ascii st h) (by decide),⟨_,BE _ rfl,rfl,rfl⟩,fp,q⟩
def aHV (x:AC)(lo hi:Option Int):AC:=if ((Ei lo hi 1 x.length).length==x.length)=true then x else⟨((Ei lo hi 1 x.length).filterMap (x.cps[·]?)).toArray⟩
def aUV:V→Option Int→Option Int→Hp→VK→Prop:=fun v lo hi H Q=>∃ x:AC,v=.str x∧x.length≤sizeLine∧Q (.str (aHV x lo hi)) H
theorem aHI:SlR X aUV:=by
 intro pins s σ H y v vl vu lo hi sl Q I rx hs pl pu h;obtain⟨x,rfl,hz,q⟩:=h;obtain⟨t,rfl⟩:=rx;have part:∀{v:AB} {o:Option Int},Cf v o→∃ p:Option (Int×Tok),v=partValue p∧p.map (·.1)=o:=fun{v o} h=>by
  cases h with
  | none=>exact⟨none,rfl,rfl⟩
  | int i t=>exact⟨some (i,t),rfl,rfl⟩
 obtain⟨l,rfl,el⟩:=part pl;obtain⟨u,rfl,eu⟩:=part pu;refine⟨"str", _,F.slot_str_getitem.lookup,C1 _ _ _,?_⟩;refine wpAny_getItem_str_slice (l:=l) (u:=u) (st:=none) hs rfl ?_;have hle:(Ei lo hi 1 x.length).length≤x.length:=sliceIndices_le lo hi x.length;unfold sliceMade slicePicked;rw[el,eu];unfold aHV at q
 show(if (true&&((Ei lo hi 1 x.length).length==x.length))=true then _ else _:Made).post _ s
 rw[F7]
 by_cases c:((Ei lo hi 1 x.length).length==x.length)=true
 ·rw[if_pos c];rw[if_pos c] at q;exact⟨.str x,H,I,⟨_,rfl⟩,q⟩
 ·rw[if_neg c];rw[if_neg c] at q;refine⟨?_,.str _,H,I.tok _,⟨_,rfl⟩,q⟩
  show(List.toArray _).size≤sizeLine
  rw[A3];exact Ac (List.length_filterMap_le _ _) (Ac hle hz)
end
end L2
namespace L2.VS
open PySem PySem.Spec PyProof.Rows
section
variable {P0:AA→Hp→Prop}
def saK (x:D)(Q:D→En→Prop)(y:D)(Γ:En):Prop:=∃ a b:AC,x=.str a∧y=.str b∧(a++b).length≤1000000∧Q (.str (a++b)) Γ
def saJ (mb:ME)(Q:D→En→Prop)(x:D)(Γ:En):Prop:=mb Γ (saK x Q)
def yC (ma mb:ME):ME:=fun Γ Q=>ma Γ (saJ mb Q)
theorem aIY {n:Nat}(h:n≤1000000):n≤sizeLine:=Ac h (by rw[Bv]; decide)
theorem mV {ta tb:TE}{ma mb:ME}(ha:VT P0 ta ma)(hb:VT P0 tb mb):VT P0 (tOp aPL ta tb) (yC ma mb):=by
 intro F Γ σ G H Q Qm r m k;refine ha F Γ σ G H _ _ r m fun d Γ1 x G1 H1 m1 s1 r1 d1=>?_;refine hb F Γ1 σ G1 H1 _ _ r1 m1 fun e Γ2 y G2 H2 m2 s2 r2 d2=>?_;obtain⟨a,b,rfl,rfl,hz,q⟩:=m2
 cases d1
 cases d2
 exact⟨a,b,rfl,rfl,aIY hz,k _ _ _ _ _ q (s1.trans s2) r2 (.str _)⟩
def txK (Q:D→En→Prop)(x:D)(Γ:En):Prop:=(∃ i:Int,x=.int i∧i.natAbs.log2<1920∧Q (.str (txI i)) Γ)∨∃ a,x=.str a∧Q (.str a) Γ
def aMM (ma:ME):ME:=fun Γ Q=>ma Γ (txK Q)
theorem a2C {ta:TE}{ma:ME}(ha:VT P0 ta ma):VT P0 (tCB aQC (cQ ta nM)) (aMM ma):=by
 intro F Γ σ G H Q Qm r m k;refine ha F Γ σ G H _ _ r m fun d Γ1 x G1 H1 m1 s1 r1 d1=>?_;rcases m1 with⟨i,rfl,hi,q⟩|⟨a,rfl,q⟩
 ·cases d1
  exact .inl ⟨i,rfl,hi,k _ _ _ _ _ q s1 r1 (.str _)⟩
 ·cases d1
  exact .inr ⟨a,rfl,k _ _ _ _ _ q s1 r1 (.str _)⟩
def lsK (Q:D→En→Prop)(x:D)(Γ:En):Prop:=∃ a:AC,x=.str a∧a.length≤1000000∧Q (.int (a.length:Int)) Γ
def aF9 (ma:ME):ME:=fun Γ Q=>ma Γ (lsK Q)
theorem aB4 {ta:TE}{ma:ME}(ha:VT P0 ta ma):VT P0 (tCB aNK (cQ ta nM)) (aF9 ma):=by
 intro F Γ σ G H Q Qm r m k;refine ha F Γ σ G H _ _ r m fun d Γ1 x G1 H1 m1 s1 r1 d1=>?_;obtain⟨a,rfl,hl,q⟩:=m1
 cases d1
 exact⟨a,rfl,aIY hl,k _ _ _ _ _ q s1 r1 (.int _)⟩
def siK (x:D)(Q:D→En→Prop)(y:D)(Γ:En):Prop:=∃ a b:AC,x=.str a∧y=.str b∧Q (.bool (inS a b)) Γ
def siJ (mb:ME)(Q:D→En→Prop)(x:D)(Γ:En):Prop:=mb Γ (siK x Q)
def aSF (ma mb:ME):ME:=fun Γ Q=>ma Γ (siJ mb Q)
theorem aN7 {ta tb:TE}{ma mb:ME}(ha:VT P0 ta ma)(hb:VT P0 tb mb):VT P0 (tOp aVX ta tb) (aSF ma mb):=by
 intro F Γ σ G H Q Qm r m k;refine ha F Γ σ G H _ _ r m fun d Γ1 x G1 H1 m1 s1 r1 d1=>?_;refine hb F Γ1 σ G1 H1 _ _ r1 m1 fun e Γ2 y G2 H2 m2 s2 r2 d2=>?_;obtain⟨a,b,rfl,rfl,q⟩:=m2
 cases d1
 cases d2
 exact⟨a,b,rfl,rfl,k _ _ _ _ _ q (s1.trans s2) r2 (.bl _)⟩
def swK (x:D)(Q:D→En→Prop)(y:D)(Γ:En):Prop:=∃ a b:AC,x=.str a∧y=.str b∧Q (.bool (Txt.startswith a b)) Γ
def swJ (mb:ME)(Q:D→En→Prop)(x:D)(Γ:En):Prop:=(∃ a,x=.str a)∧mb Γ (swK x Q)
def a5E (ma mb:ME):ME:=fun Γ Q=>ma Γ (swJ mb Q)
theorem aBB {K:Fg}{ta tb:TE}{ma mb:ME}(ha:VT P0 ta ma)(hb:VT P0 tb mb):VT P0 (tBM K "str" aBD ta (cQ tb nM)) (a5E ma mb):=by
 intro F Γ σ G H Q Qm r m k;refine ha F Γ σ G H _ _ r m fun d Γ1 x G1 H1 m1 s1 r1 d1=>?_;obtain⟨⟨a,rfl⟩,m1⟩:=m1
 cases d1
 refine⟨rfl,hb F Γ1 σ G1 H1 _ _ r1 m1 fun e Γ2 y G2 H2 m2 s2 r2 d2=>?_⟩;obtain⟨a',b,e1,rfl,q⟩:=m2
 cases e1
 cases d2
 exact⟨a,b,rfl,rfl,k _ _ _ _ _ q (s1.trans s2) r2 (.bl _)⟩
def inK (Q:D→En→Prop)(x:D)(Γ:En):Prop:=∃(a:AC) (n:Int),x=.str a∧F5 a=some n∧a.length≤640∧Q (.int n) Γ
def aLA (ma:ME):ME:=fun Γ Q=>ma Γ (inK Q)
theorem aL2 {ta:TE}{ma:ME}(ha:VT P0 ta ma):VT P0 (tCB aQM (cQ ta nM)) (aLA ma):=by
 intro F Γ σ G H Q Qm r m k;refine ha F Γ σ G H _ _ r m fun d Γ1 x G1 H1 m1 s1 r1 d1=>?_;obtain⟨a,n,rfl,hn,hl,q⟩:=m1
 cases d1
 exact⟨a,n,rfl,hn,hl,k _ _ _ _ _ q s1 r1 (.int _)⟩
theorem a7I {G:Hp}:∀{ts:List AC} {xs:List V},Dts G xs (ts.map Ad)→xs=ts.map V.str
 | [],_,h=>by cases h; rfl
 | a::ts,_,h=>by
  cases h with
  | cons h1 h2=>
   cases h1
   rw[a7I h2];rfl
theorem a75 {G:Hp}:∀ ts:List AC,Dts G (ts.map V.str) (ts.map Ad)
 | []=>.nil
 | a::ts=>.cons (.str a) (a75 ts)
def jnK (x:D)(Q:D→En→Prop)(y:D)(Γ:En):Prop:=∃(a:AC) (ts:List AC),x=.str a∧y=.list (ts.map Ad)∧JoinOk a ts=true∧Q (.str (Txt.join a ts)) Γ
def jnJ (mb:ME)(Q:D→En→Prop)(x:D)(Γ:En):Prop:=(∃ a,x=.str a)∧mb Γ (jnK x Q)
def a3K (ma mb:ME):ME:=fun Γ Q=>ma Γ (jnJ mb Q)
theorem vC {K:Fg}{ta tb:TE}{ma mb:ME}(ha:VT P0 ta ma)(hb:VT P0 tb mb):VT P0 (tBM K "str" (rJoin K) ta (cQ tb nM)) (a3K ma mb):=by
 intro F Γ σ G H Q Qm r m k;refine ha F Γ σ G H _ _ r m fun d Γ1 x G1 H1 m1 s1 r1 d1=>?_;obtain⟨⟨a,rfl⟩,m1⟩:=m1
 cases d1
 refine⟨rfl,hb F Γ1 σ G1 H1 _ _ r1 m1 fun e Γ2 y G2 H2 m2 s2 r2 d2=>?_⟩;obtain⟨a',ts,e1,rfl,hok,q⟩:=m2
 cases e1
 cases d2 with
 | @lst p xs _ hp rs=>
  rw[a7I rs] at hp;exact⟨a,p,ts,rfl,rfl,SqL.of (r2.fr.sub _ _ hp),hok,k _ _ _ _ _ q (s1.trans s2) r2 (.str _)⟩
def spK (x:D)(Q:Rv→En→Prop)(y:D)(Γ:En):Prop:=∃ a b:AC,x=.str a∧y=.str b∧(b.length==0)=false∧a.length≤1000000∧(Txt.split a b).length≤1000000∧Q (.own ((Txt.split a b).map Ad)) Γ
def spJ (mb:ME)(Q:Rv→En→Prop)(x:D)(Γ:En):Prop:=(∃ a,x=.str a)∧mb Γ (spK x Q)
def vP (ma mb:ME):MO:=fun Γ Q=>ma Γ (spJ mb Q)
theorem p7 {K:Fg}{ta tb:TE}{ma mb:ME}(ha:VT P0 ta ma)(hb:VT P0 tb mb):VO P0 (tBM K "str" aIX ta (cQ tb nM)) (vP ma mb):=by
 intro F Γ σ G H Q Qm r m k;refine ha F Γ σ G H _ _ r m fun d Γ1 x G1 H1 m1 s1 r1 d1=>?_;obtain⟨⟨a,rfl⟩,m1⟩:=m1
 cases d1
 refine⟨rfl,hb F Γ1 σ G1 H1 _ _ r1 m1 fun e Γ2 y G2 H2 m2 s2 r2 d2=>?_⟩;obtain⟨a',b,e1,rfl,h1,h2,h3,q⟩:=m2
 cases e1
 cases d2
 refine⟨a,b,rfl,rfl,h1,aIY h2,aIY h3,fun l hl=>?_⟩;obtain⟨x1,x2,x3⟩:=oA r2 hl (a75 (Txt.split a b));exact k _ _ _ _ _ q (s1.trans s2) x1 x2 x3
def xsK (x:D)(Q:D→En→Prop)(y:D)(Γ:En):Prop:=∃(a:AC) (i:Int) (c:Nat),x=.str a∧y=.int i∧a.length≤1000000∧atI a.cps.toList i=some c∧Q (.str ⟨#[c]⟩) Γ
def xsJ (mb:ME)(Q:D→En→Prop)(x:D)(Γ:En):Prop:=mb Γ (xsK x Q)
def aUR (ma mb:ME):ME:=fun Γ Q=>ma Γ (xsJ mb Q)
theorem aOJ {K:Fg}{ta tb:TE}{ma mb:ME}(ha:VT P0 ta ma)(hb:VT P0 tb mb):VT P0 (tOp (rIx K) ta tb) (aUR ma mb):=by
 intro F Γ σ G H Q Qm r m k;refine ha F Γ σ G H _ _ r m fun d Γ1 x G1 H1 m1 s1 r1 d1=>?_;refine hb F Γ1 σ G1 H1 _ _ r1 m1 fun e Γ2 y G2 H2 m2 s2 r2 d2=>?_;obtain⟨a,i,c,rfl,rfl,hl,hc,q⟩:=m2
 cases d1
 cases d2
 exact .inr (.inr ⟨a,i,c,rfl,rfl,aIY hl,hc,k _ _ _ _ _ q (s1.trans s2) r2 (.str _)⟩)
def signs (a:AC):List D:=a.cps.toList.map fun c=>.str ⟨#[c]⟩
def isK (Q:List D→En→Prop)(x:D)(Γ:En):Prop:=∃ a:AC,x=.str a∧Q (signs a) Γ
def aTQ (ma:ME):MD:=fun Γ Q=>ma Γ (isK Q)
theorem aMT {ta:TE}{ma:ME}(ha:VT P0 ta ma):VI P0 (aUW ta) (aTQ ma):=by
 intro F Γ σ G H Q Qm r m k;refine ha F Γ σ G H _ _ r m fun d Γ1 x G1 H1 m1 s1 r1 d1=>?_;obtain⟨a,rfl,m1⟩:=m1
 cases d1
 have hl:(signs a).length=a.cps.size:=by unfold signs; rw[AO,CO]
 refine⟨a,rfl,k _ _ _ _ _ m1 s1 r1 fun F2 Γ2 σ2 G2 H2 s2 r2=>⟨fun i d e=>?_,hl⟩⟩;have hi:i<a.cps.size:=by rw[← hl]; exact(Aq.mp e).1
 refine⟨hi,fun x H' hy=>⟨G2,Same.refl _,?_⟩⟩;obtain⟨rfl,c,hc,rfl⟩:=hy;unfold signs at e;rw[Ao,E5,hc] at e
 cases e
 exact⟨r2,.str _⟩
def aRU (x:D)(lo:Option Int)(Q:D→En→Prop)(hi:Option Int)(Γ:En):Prop:=∃ a:AC,x=.str a∧a.length≤1000000∧Q (.str (aHV a lo hi)) Γ
def aRE (ma:ME)(ml mh:MP):ME:=fun Γ Q=>ma Γ fun x Γ1=>ml Γ1 fun lo Γ2=>mh Γ2 (aRU x lo Q)
theorem aHJ {te:TE}{tl th:TO}{ma:ME}{ml mh:MP}(ha:VT P0 te ma)(hl:VP P0 tl ml)(hh:VP P0 th mh):VT P0 (tSl aUV te tl th) (aRE ma ml mh):=by
 intro F Γ σ G H Q Qm r m k;refine ha F Γ σ G H _ _ r m fun d Γ1 x G1 H1 m1 s1 r1 d1=>?_;refine hl F Γ1 σ G1 H1 _ _ r1 m1 fun lo Γ2 G2 H2 m2 s2 r2=>?_;refine hh F Γ2 σ G2 H2 _ _ r2 m2 fun hi Γ3 G3 H3 m3 s3 r3=>?_;obtain⟨a,rfl,hz,q⟩:=m3
 cases d1
 exact⟨a,rfl,aIY hz,k _ _ _ _ _ q ((s1.trans s2).trans s3) r3 (.str _)⟩
section
variable {ma mb:ME}{ml mh:MP}{Γ:En}{Q:D→En→Prop}{Qo:Rv→En→Prop}{Qd:List D→En→Prop}{a b:AC}
theorem aOR (h:ma Γ (saJ mb Q)):yC ma mb Γ Q:=h
theorem aTG {x:D}(h:mb Γ (saK x Q)):saJ mb Q x Γ:=h
theorem a1X (hz:(a++b).length≤1000000)(h:Q (.str (a++b)) Γ):saK (.str a) Q (.str b) Γ:=⟨a,b,rfl,rfl,hz,h⟩
theorem aPT (h:ma Γ (txK Q)):aMM ma Γ Q:=h
theorem aGL {i:Int}(hi:i.natAbs.log2<1920)(h:Q (.str (txI i)) Γ):txK Q (.int i) Γ:=.inl ⟨i,rfl,hi,h⟩
theorem aU4 (h:Q (.str a) Γ):txK Q (.str a) Γ:=.inr ⟨a,rfl,h⟩
theorem aR7 (h:ma Γ (lsK Q)):aF9 ma Γ Q:=h
theorem aQ5 (hl:a.length≤1000000)(h:Q (.int (a.length:Int)) Γ):lsK Q (.str a) Γ:=⟨a,rfl,hl,h⟩
theorem aTI (h:ma Γ (siJ mb Q)):aSF ma mb Γ Q:=h
theorem aSP {x:D}(h:mb Γ (siK x Q)):siJ mb Q x Γ:=h
theorem aTO (h:Q (.bool (inS a b)) Γ):siK (.str a) Q (.str b) Γ:=⟨a,b,rfl,rfl,h⟩
theorem aEW (h:ma Γ (swJ mb Q)):a5E ma mb Γ Q:=h
theorem aUA (h:mb Γ (swK (.str a) Q)):swJ mb Q (.str a) Γ:=⟨⟨a,rfl⟩,h⟩
theorem aS7 (h:Q (.bool (Txt.startswith a b)) Γ):swK (.str a) Q (.str b) Γ:=⟨a,b,rfl,rfl,h⟩
theorem aQW (h:ma Γ (inK Q)):aLA ma Γ Q:=h
theorem aT5 {n:Int}(hn:F5 a=some n)(hl:a.length≤640)(h:Q (.int n) Γ):inK Q (.str a) Γ:=⟨a,n,rfl,hn,hl,h⟩
theorem aOZ (h:ma Γ (jnJ mb Q)):a3K ma mb Γ Q:=h
theorem aUC (h:mb Γ (jnK (.str a) Q)):jnJ mb Q (.str a) Γ:=⟨⟨a,rfl⟩,h⟩
theorem a8Z {ts:List AC}(hok:JoinOk a ts=true)(h:Q (.str (Txt.join a ts)) Γ):jnK (.str a) Q (.list (ts.map Ad)) Γ:=⟨a,ts,rfl,rfl,hok,h⟩
theorem aMG (h:ma Γ (spJ mb Qo)):vP ma mb Γ Qo:=h
theorem aS1 (h:mb Γ (spK (.str a) Qo)):spJ mb Qo (.str a) Γ:=⟨⟨a,rfl⟩,h⟩
theorem a4Q (h1:(b.length==0)=false)(h2:a.length≤1000000)(h3:(Txt.split a b).length≤1000000)(h:Qo (.own ((Txt.split a b).map Ad)) Γ):spK (.str a) Qo (.str b) Γ:=⟨a,b,rfl,rfl,h1,h2,h3,h⟩
theorem aU0 (h:ma Γ (xsJ mb Q)):aUR ma mb Γ Q:=h
theorem aSH {x:D}(h:mb Γ (xsK x Q)):xsJ mb Q x Γ:=h
theorem aUL {i:Int}{c:Nat}(hl:a.length≤1000000)(hc:atI a.cps.toList i=some c)(h:Q (.str ⟨#[c]⟩) Γ):xsK (.str a) Q (.int i) Γ:=⟨a,i,c,rfl,rfl,hl,hc,h⟩
theorem aS3 (h:ma Γ (isK Qd)):aTQ ma Γ Qd:=h
theorem aUK (h:Qd (signs a) Γ):isK Qd (.str a) Γ:=⟨a,rfl,h⟩
theorem aRS (h:ma Γ fun x Γ1=>ml Γ1 fun lo Γ2=>mh Γ2 (aRU x lo Q)):aRE ma ml mh Γ Q:=h
theorem aHX {lo hi:Option Int}(hl:a.length≤1000000)(h:Q (.str (aHV a lo hi)) Γ):aRU (.str a) lo Q hi Γ:=⟨a,rfl,hl,h⟩
end
end
end L2.VS
namespace L2
open PySem PySem.Spec PyProof.Rows
section
variable {X:Cx}
theorem len_app (a b:AC):(a++b).length=a.length+b.length:=by
 show(a++b).cps.size=a.cps.size+b.cps.size
 rw[← CO,a1M,Ah,CO,CO]
theorem empty_app (a:AC):AC.empty++a=a:=fC (by rw[a1M]; rfl)
def aOA (K:Fg):List V→Hp→VK→Prop:=fun xs H Q=>∃(p:AA) (ys:List V),xs=[.ref p]∧SqL K H p ys∧∀ q,H q=none→Q (.ref q) (upd H q (.tup ys))
theorem aCB:qX X (.type "tuple") (aOA X.K):=by
 intro pins s σ H xs us Q I r h;obtain⟨p,ys,rfl,hq,q⟩:=h;obtain⟨u,rfl,rx⟩:=vals1 r
 cases rx
 obtain⟨its,r',pl,hz⟩:=I.list hq;refine call_tuple_list pl.isList (fun h' hk=>?_) (by rw[A3,←r'.length]; exact hz);have I1:Inv X pins σ H { s with heap:=h' }:=I.kept (t':=s.toks) hk;refine⟨.ref h'.objs.size,_,I1.laid (t':=s.toks) (o:=.tup ys) (fun b ob q=>AZ _ q) (AV _) ?_,rfl,q _ (I1.hok.fresh (AV _))⟩;exact⟨hz,its,r',IsTup.new _ _⟩
end
end L2
namespace L2.VS
open PySem PySem.Spec PyProof.Rows
section
variable {P0:AA→Hp→Prop}
def tlK (Q:D→En→Prop)(x:D)(Γ:En):Prop:=∃ ds,x=.list ds∧Q (.tuple ds) Γ
def aJ6 (ma:ME):ME:=fun Γ Q=>ma Γ (tlK Q)
theorem aJK {K:Fg}{ta:TE}{ma:ME}(ha:VT P0 ta ma):VT P0 (tCB (aOA K) (cQ ta nM)) (aJ6 ma):=by
 intro F Γ σ G H Q Qm r m k;refine ha F Γ σ G H _ _ r m fun d Γ1 x G1 H1 m1 s1 r1 d1=>?_;obtain⟨ds,rfl,q⟩:=m1
 cases d1 with
 | @lst p xs _ hp rs=>
  refine⟨p,xs,rfl,SqL.of (r1.fr.sub _ _ hp),fun l hl=>?_⟩;have g:=fM (r1.fr.gfresh hl) (.tup xs);exact k _ _ _ _ _ q (s1.trans g) (r1.new hl) (.tup aW (Dts.same g _ _ rs))
inductive FmRel (G:Hp):List (Key×V)→List (AC×D)→Prop
 | nil:FmRel G [] []
 | cons {a:AC} {v:V} {d:D} {kvs:List (Key×V)} {fs:List (AC×D)} (h:Dt G v d) (r:FmRel G kvs fs):FmRel G ((BL a,v)::kvs) ((a,d)::fs)
theorem FmRel.same {G G':Hp}(g:Same G G'){kvs:List (Key×V)}{fs:List (AC×D)}(h:FmRel G kvs fs):FmRel G' kvs fs:=by
 induction h with
 | nil=>exact .nil
 | cons h _ ih=>exact .cons (Dt.same g _ _ h) ih
def pFm (fs:List (AC×D)):Pb where
 P v G:=∃ p kvs,v=.ref p∧G p=some (.dK kvs)∧FmRel G kvs fs
 mono g h:=by
  obtain⟨p,kvs,h1,h2,h3⟩:=h;exact⟨p,kvs,h1,g _ _ h2,h3.same g⟩
abbrev MPs:=En→(List (AC×D)→En→Prop)→Prop
def VPs (P0:AA→Hp→Prop)(trs:List (TE×TE))(m:MPs):Prop:=∀(F:Fra P0) (Γ:En) (σ:St) (G H:Hp) (Q:List (V×V)→Hp→Prop) (Qm:List (AC×D)→En→Prop),R F Γ σ G H→m Γ Qm →
 (∀ fs Γ' kvs G' H',Qm fs Γ'→Same G G'→R F Γ' σ G' H'→FmRel G' kvs fs→Q (kvs.map fun kv=>(kV kv.1,kv.2)) H')→a7B trs σ H Q
def aRG:MPs:=fun Γ Q=>Q [] Γ
def aK5 (a:AC)(m:ME)(r:MPs):MPs:=fun Γ Q=>m Γ fun d Γ1=>r Γ1 fun fs Γ2=>Q ((a,d)::fs) Γ2
theorem aEF:VPs P0 [] aRG:=fun _ _ _ _ _ _ _ r m k=>k [] _ [] _ _ m (Same.refl _) r .nil
theorem tG {a:AC}{te:TE}{m:ME}{trs:List (TE×TE)}{mr:MPs}(h:VT P0 te m)(hr:VPs P0 trs mr):VPs P0 ((tC (.str a),te)::trs) (aK5 a m mr):=by
 intro F Γ σ G H Q Qm r hm k;refine h F Γ σ G H _ _ r hm fun d Γ1 v G1 H1 m1 s1 r1 d1=>?_;refine hr F Γ1 σ G1 H1 _ _ r1 m1 fun fs Γ2 kvs G2 H2 m2 s2 r2 rel=>?_;exact k _ _ ((BL a,v)::kvs) _ _ m2 (s1.trans s2) r2 (.cons (Dt.same s2 _ _ d1) rel)
theorem a3O:∀(more acc:List (Key×V)),((acc++more).map (·.1)).Nodup→wC acc more=acc++more
 | [],acc,_=>(Bb acc).symm
 | p::more,acc,h=>by
  have hn:xF acc p.1=none:=by
   cases e:xF acc p.1 with
   | none=>rfl
   | some v=>
    have h1:=aM7 e;rw[BA,A2] at h;exact absurd rfl ((List.nodup_append.mp h).2.2 _ h1 _ Ap)
  show wC (putK acc p.1 p.2) more=_;rw[aG9 p.2 hn,a3O more _ (by rw[B0]; exact h),B0];rfl
theorem FmRel.keys {G:Hp}{kvs:List (Key×V)}{fs:List (AC×D)}(h:FmRel G kvs fs):kvs.map (·.1)=fs.map fun f=>BL f.1:=by
 induction h with
 | nil=>rfl
 | cons _ _ ih=>rw[A2,A2,ih]
theorem FmRel.len {G:Hp}{kvs:List (Key×V)}{fs:List (AC×D)}(h:FmRel G kvs fs):kvs.length=fs.length:=by
 induction h with
 | nil=>rfl
 | cons _ _ ih=>rw[Af,Af,ih]
def aFU (mp:MPs)(mr:MA):MA:=fun Γ Q=>mp Γ fun fs Γ1=>fs.length≤15∧(fs.map fun f=>f.1).Nodup∧mr Γ1 fun xs Γ2=>Q (.pub (pFm fs)::xs) Γ2
theorem aBH {trs:List (TE×TE)}{mp:MPs}{tr:TA}{mr:MA}(hp:VPs P0 trs mp)(hr:VA P0 tr mr):VA P0 (cQ (aLV trs) tr) (aFU mp mr):=by
 intro F Γ σ G H Q Qm r m k p hn;have r0:R F Γ σ G (upd H p (.dK [])):=r.newP hn;have hF:∀ b∈[p],F.H0 b=none∧G b=none:=fun b hb=>by
  rw[AW.mp hb];exact⟨r.fr.fresh hn,r.fr.gfresh hn⟩
 have ap:∀(i:Nat) s f,Γ[i]?=some s→SlF F G (upd H p (.dK [])) σ[i]? f s→∀ b∈[p],b∉f:=fun i s f e hf b hb hc=>by
  rw[AW.mp hb] at hc;obtain⟨fps,h1,_⟩:=r.fps;obtain⟨fps0,g1,_⟩:=r0.fps;have e1:f=fps i:=by
   have h3:SlF F G (upd H p (.dK [])) σ[i]? (fps i) s:=(h1 i s e).go (Same.refl _) fun b hb=>by
    obtain⟨_,m2,o,m3⟩:=(h1 i s e).mine hb;exact⟨m2,bA (bJ m3 hn)⟩
   exact hf.det h3
  rw[e1] at hc;obtain⟨_,_,o,m3⟩:=(h1 i s e).mine hc;rw[hn] at m3
  cases m3
 have rh:=r0.hold hF ap;refine hp _ Γ σ G _ _ _ rh m fun fs Γ1 kvs G1 H1 m1 s1 r1 rel=>?_;obtain⟨h15,nd,m1⟩:=m1;obtain⟨ru,cells,apu⟩:=R.unhold (fun b hb=>by rw[AW.mp hb]; exact⟨_,aW⟩) r1;obtain⟨c1,c2⟩:=cells p (AW.mpr rfl);rw[aW] at c1;have hm:wC [] kvs=kvs:=a3O kvs [] (by
  rw[B1,rel.keys];have:(fs.map fun f=>(BL f.1:Key))=(fs.map fun f=>f.1).map BL:=by rw[B7]; rfl
  rw[this];exact nd.map BL fun a b hab z=>hab (BL.inj z))
 refine⟨c1,kvs,rfl,by rw[rel.len]; exact h15,?_⟩;rw[hm];have p1:=(hF p (AW.mpr rfl)).1;have g:=fM c2 (.dK kvs);have fr:Rf F (upd G1 p (.dK kvs)) (upd H1 p (.dK kvs)):=(ru.fr.priv (o:=.dK kvs) p1 c2).give p1 aW;have r2:R F Γ1 σ (upd G1 p (.dK kvs)) (upd H1 p (.dK kvs)):=ru.keep fr g fun b o hb _ gb hb2=>by
  have hbp:b≠p:=fun z=>by
   obtain⟨i,s,f,a1,a2,a3⟩:=hb;exact apu i s f a1 a2 p (AW.mpr rfl) (z▸a3)
  rw[bA hbp,bA hbp];exact⟨gb,hb2⟩
 refine hr F Γ1 σ _ _ _ _ r2 m1 fun as Γ2 rs G3 H3 m3 s3 r3 d3=>k _ _ _ _ _ m3 ((s1.trans g).trans s3) r3 (.cons ?_ d3);exact(pFm fs).mono s3 ⟨p,kvs,rfl,aW,rel.same g⟩
def a7R:List (AC×D)→AC→Option D
 | [],_=>none
 | (a,d)::r,k=>if a=k then some d else a7R r k
theorem FmRel.val {G:Hp}{kvs:List (Key×V)}{fs:List (AC×D)}(h:FmRel G kvs fs)(k:AC):(xF kvs (BL k:Key)=none∧a7R fs k=none)∨∃ v d,xF kvs (BL k:Key)=some v∧a7R fs k=some d∧Dt G v d:=by
 induction h with
 | nil=>exact .inl ⟨rfl,rfl⟩
 | @cons a v d kvs fs h r ih=>
  by_cases e:a=k
  ·refine .inr ⟨v,d,sS (by rw[e]),?_,h⟩;unfold a7R; rw[if_pos e]
  ·rw[rM (fun z=>e (BL.inj z))];unfold a7R; rw[if_neg e]; exact ih
def aAW (i:Nat)(mj:ME):ME:=fun Γ Q=>(∃ fs,Γ[i]?=some (.pub (pFm fs)))∧mj Γ fun x Γ1=>∃ fs a,Γ1[i]?=some (.pub (pFm fs))∧x=.str a∧Q ((a7R fs a).getD .none) Γ1
theorem aHD {i:Nat}{tj:TE}{mj:ME}(hj:VT P0 tj mj):VT P0 (aHT (uA i) tj) (aAW i mj):=by
 intro F Γ σ G H Q Qm r hm k;obtain⟨⟨fs0,e0⟩,hm⟩:=hm;obtain⟨v,ev,p,kvs,rfl,h2,h3⟩:=r.sl i _ e0;refine⟨.ref p,ev,p,rfl,.inl ⟨kvs,.inl (r.fr.sub _ _ h2)⟩,hj F Γ σ G H _ _ r hm fun x Γ1 y G1 H1 m1 g1 r1 d1=>?_⟩;obtain⟨fs,a,e1,rfl,q⟩:=m1;obtain⟨v',ev',p',kvs',e2,h2',h3'⟩:=r1.sl i _ e1;rw[ev] at ev'
 cases ev'
 cases e2
 cases d1
 refine⟨_,DGet.k (k:=BL a) (r1.fr.sub _ _ h2'),?_⟩;rcases h3'.val a with⟨x1,x2⟩|⟨w,d,x1,x2,x3⟩
 ·rw[x2] at q;rw[x1];exact k _ _ _ _ _ q g1 r1 .non
 ·rw[x2] at q;rw[x1];exact k _ _ _ _ _ q g1 r1 x3
end
end L2.VS
namespace L2
open PySem PySem.Spec PyProof.Rows
end L2
namespace L2
open PySem PySem.Spec PyProof.Rows
section
variable {prog:AQ}{w:AK}{A:AU}{E:AB→AD→Prop}{s:AD}
theorem a7A {it t:AA}{i:Nat}{items:Array AB}{x:AB}{Q:AB→AD→Prop}(hit:s.heap.IsTupleIter it t i)(ht:s.heap.IsTuple t items)(hx:items[i]?=some x)
  (hQ:∀ h',h'.IsTupleIter it t (i+1)→BU it s.heap h'→Q x { s with heap:=h' }):AF (AI prog w) A (BV (.ref it)) Q E s:=by
 obtain⟨o,ho,hc,hd⟩:=id hit;obtain⟨ol,hol,_,nl,hdl⟩:=ht;unfold BV;refine AE (FH (name:=FJ "__next__") hit.typeIs F.slot_tuple_iterator_next (FK F.slot_tuple_iterator_next hit.typeIs Gi ?_ (Gj _)));refine AE (m:=field (.ref it) 0) (BM ho hd (x:=.ref t) rfl ?_);show AF _ _ (if (Aa t==BS)=true then _ else _) _ _ s;rw[if_neg (show ¬((Aa t==BS)=true) from BB)];refine AE (m:=field (.ref it) 1) (BM ho hd (x:=.int i 0) rfl ?_);refine AE (m:=seqItems? (.ref t)) (C5 hol hdl ?_);simp only[Dc,hx];refine AE (Ej ho hd (by simp) (AR ⟨x,rfl,AR (hQ _ ⟨_,DH _ ho (FU (Ek hd _)),(Obj.cls_mapFields ..).trans hc,?_⟩ (Gk ..))⟩));rw[Ek hd]; simp[Bg]
theorem aJL {it t:AA}{i:Nat}{items:Array AB}{Q:AB→AD→Prop}(hh:A.handled=none)(hit:s.heap.IsTupleIter it t i)(ht:s.heap.IsTuple t items)(hx:items[i]?=none)
  (hE:∀ h' e,F8 it s.heap h'→(∃ o,h'.get? e=some o∧o.cls=.type "StopIteration")→E (.ref e) { s with heap:=h' }):AF (AI prog w) A (BV (.ref it)) Q E s:=by
 obtain⟨o,ho,hc,hd⟩:=id hit;obtain⟨ol,hol,_,nl,hdl⟩:=ht;unfold BV;refine AE (FH (name:=FJ "__next__") hit.typeIs F.slot_tuple_iterator_next (FK F.slot_tuple_iterator_next hit.typeIs Gi ?_ (Gj _)));refine AE (m:=field (.ref it) 0) (BM ho hd (x:=.ref t) rfl ?_);show AF _ _ (if (Aa t==BS)=true then _ else _) _ _ s;rw[if_neg (show ¬((Aa t==BS)=true) from BB)];refine AE (m:=field (.ref it) 1) (BM ho hd (x:=.int i 0) rfl ?_);refine AE (m:=seqItems? (.ref t)) (C5 hol hdl ?_);simp only[Dc,hx];refine AE (E9 (AE (Ej ho hd (by simp) (AE (m:=newExc (.type "StopIteration") []) ?_))));simp only[newExc,newTuple];refine AE (Ce ?_ (by size_fits));refine AE (m:=firstArgMember _ _) (wpAny_of_eq (a:=BS) (by first|rfl|(simp only[firstArgMember]; rfl)) ?_);refine Ce ?_ (by size_fits);simp only[raiseNew];refine AE (wpAny_handled ?_)
 first|rw[show A.in1.handled=none from hh]|rw[hh]
 exact AE (AR (wpAny_throw (hE _ _ (((Gk ..).extBut.push _).push _) ⟨_,BE _ rfl,rfl⟩)))
def On2 (S:AG→Prop)(a b:AA):Prop:=∀ h h':AG,S h→(∀ c o,c=a∨c=b→h.get? c=some o→h'.get? c=some o)→S h'
theorem On2.but {S:AG→Prop}{a b z:AA}(k:On2 S a b){h h':AG}(st:S h)(hs:F8 z h h')(ha:a≠z)(hb:b≠z):S h':=
 k h h' st fun c o hc e=>hs c o (by rcases hc with rfl|rfl<;>assumption) e
theorem aKQ {z TI TO i1 i2 l1 l2:AA}{x y a b:AB}{S1 S1' S2 S2':AG→Prop}{Q:AB→AD→Prop}(D:ZipApart z TI TO i1 i2 l1 l2)
  (hz:Bn s.heap z TI TO .none) (hTI:BQ s.heap TI (.ref i1) (.ref i2)) (hTO:BQ s.heap TO a b) (o1':On2 S1' i1 l1) (o2:On2 S2 i2 l2) (o2':On2 S2' i2 l2) (o1:On2 S1 i1 l1)
  (n1:∀(A:AU) (E:AB→AD→Prop) (s:AD) (Q:AB→AD→Prop),S1 s.heap→(∀ h',S1' h'→BU i1 s.heap h'→Q x { s with heap:=h' })→AF (AI prog w) A (BV (.ref i1)) Q E s)
  (n2:∀(A:AU) (E:AB→AD→Prop) (s:AD) (Q:AB→AD→Prop),S2 s.heap→(∀ h',S2' h'→BU i2 s.heap h'→Q y { s with heap:=h' })→AF (AI prog w) A (BV (.ref i2)) Q E s)
  (h1:S1 s.heap) (h2:S2 s.heap) (li1:i1<s.heap.objs.size) (li2:i2<s.heap.objs.size)
  (hQ:∀ h',Bn h' z TI TO (Bg s.heap.objs.size)→BQ h' TO x y→S1' h'→S2' h'→BQ h' s.heap.objs.size x y →
   (∀ c o,c≠z→c≠TO→c≠i1→c≠i2→s.heap.get? c=some o→h'.get? c=some o)→Q (.ref s.heap.objs.size) { s with heap:=h' }) :
  AF (AI prog w) A (AM.«zip.__next__» ⟨[.ref z],[]⟩) (fun fin s'=>∃ v,fin=.done (.ret v)∧Q v s') E s:=by
 refine AE (m:=field (.ref z) 2) (BM hz rfl (x:=.bool false) rfl ?_);refine AE (m:=field (.ref z) 3) (BM hz rfl (x:=.ref TI) rfl ?_);refine AE (C5 hTI rfl (AE (m:=FV (.ref z)) ?_));unfold FV;refine AE (BM hz rfl (x:=.none) rfl (AR ?_));simp only[if_true];refine AE (E9 (AE (BM hz rfl (x:=.ref TO) rfl (AE (Dv hz (by simp) fun g1 (z1:Bn g1 z TI TO .ellipsis) k1=>AE ?_)))));simp only[List.zipIdx_cons,List.zipIdx_nil,Cj,D9];refine AE (AE (El (AE (m:=BV (.ref i1)) (n1 _ _ _ _ (o1.but h1 k1.extBut D.i1z D.l1z) fun g2 s2 k2=>AR ?_))));have t2:BQ g2 TO a b:=k2.extBut _ _ D.TOi1 (k1.extBut _ _ D.TOz hTO);refine AE (C5 t2 rfl (AE (F9 t2 fun g3 (t3:BQ g3 TO x b) k3=>AE (GA (AR ?_)))));refine AE (AE (El (AE (m:=BV (.ref i2)) (n2 _ _ _ _ (o2.but (o2.but (o2.but h2 k1.extBut D.i2z D.l2z) k2.extBut D.i12.symm D.l2i1) k3.extBut D.TOi2.symm D.l2TO) fun g4 s4 k4=>AR ?_))));have t4:BQ g4 TO x b:=k4.extBut _ _ D.TOi2 t3;refine AE (C5 t4 rfl (AE (F9 t4 fun g5 (t5:BQ g5 TO x y) k5=>AE (GA (AR (AR ?_))))));refine AE (C5 t5 rfl (AE (wpAny_newTuple ?_)));have sz:g5.objs.size=s.heap.objs.size:=by rw[k5.1,k4.1,k3.1,k2.1,k1.1]
 have z5:Bn g5 z TI TO .ellipsis:=k5.extBut _ _ D.TOz.symm (k4.extBut _ _ D.i2z.symm (k3.extBut _ _ D.TOz.symm (k2.extBut _ _ D.i1z.symm z1)));have kk:∀ c o,c≠z→c≠TO→c≠i1→c≠i2→s.heap.get? c=some o→g5.get? c=some o:=fun c o c1 c2 c3 c4 e=>k5.extBut _ _ c2 (k4.extBut _ _ c4 (k3.extBut _ _ c2 (k2.extBut _ _ c3 (k1.extBut _ _ c1 e))));have s5:S1' g5:=o1'.but (o1'.but (o1'.but s2 k3.extBut D.TOi1.symm D.l1TO) k4.extBut D.i12 D.l1i2) k5.extBut D.TOi1.symm D.l1TO;have r5:S2' g5:=o2'.but s4 k5.extBut D.TOi2.symm D.l2TO;have lz:z<g5.objs.size:=AY z5;show AF _ _ (Gm (.ref z) (.ref g5.objs.size) >>= _) _ _ _;refine AE ?_;unfold Gm;refine AE (Dv (show Bn (g5.push { cls:=.type "tuple", data:=.seq #[x,y] }) z TI TO .ellipsis from AZ _ z5) (by simp) fun g7 (z7:Bn g7 z TI TO (Bg g5.objs.size)) k7=>?_);refine Dv z7 (by simp) fun g8 (z8:Bn g8 z TI TO (Bg g5.objs.size)) k8=>?_;have up:∀ c o,c≠z→g5.get? c=some o→g8.get? c=some o:=fun c o c1 e=>k8.extBut _ _ c1 (k7.extBut _ _ c1 (AZ _ e));have t8:BQ g8 g5.objs.size x y:=k8.extBut _ _ (CM lz) (k7.extBut _ _ (CM lz) (BE _ rfl));refine AR ⟨_,rfl,?_⟩;show Q (.ref g5.objs.size) _;rw[sz] at z8 t8 ⊢;exact hQ g8 z8 (up _ _ D.TOz t5) (o1' g5 g8 s5 fun c o hc e=>up c o (by rcases hc with rfl|rfl; exact D.i1z; exact D.l1z) e) (o2' g5 g8 r5 fun c o hc e=>up c o (by rcases hc with rfl|rfl; exact D.i2z; exact D.l2z) e) t8 fun c o c1 c2 c3 c4 e=>up c o c1 (kk c o c1 c2 c3 c4 e)
def aPZ (S:AG→Prop)(i:AA)(prog:AQ)(w:AK):Prop:=∀(A:AU) (E:AB→AD→Prop) (s:AD) (Q:AB→AD→Prop),A.handled=none→S s.heap →
 (∀ h' e,F8 i s.heap h'→(∃ o,h'.get? e=some o∧o.cls=.type "StopIteration")→E (.ref e) { s with heap:=h' })→AF (AI prog w) A (BV (.ref i)) Q E s
theorem aNA {z TI TO i1 i2 l1 l2:AA}{a b:AB}{S1 S2:AG→Prop}{Q:Fin→AD→Prop}(hh:A.handled=none)(D:ZipApart z TI TO i1 i2 l1 l2)
  (hz:Bn s.heap z TI TO .none) (hTI:BQ s.heap TI (.ref i1) (.ref i2)) (hTO:BQ s.heap TO a b) (o1:On2 S1 i1 l1) (o2:On2 S2 i2 l2) (h1:S1 s.heap) (h2:S2 s.heap)
  (n:aPZ S1 i1 prog w∨(∃ x,∀(A:AU) (E:AB→AD→Prop) (s:AD) (Q:AB→AD→Prop),S1 s.heap→(∀ h',BU i1 s.heap h'→Q x { s with heap:=h' })→AF (AI prog w) A (BV (.ref i1)) Q E s)∧aPZ S2 i2 prog w)
  (hE:∀ h' e,(∀ c o,c≠z→c≠TO→c≠i1→c≠i2→s.heap.get? c=some o→h'.get? c=some o)→(∃ o,h'.get? e=some o∧o.cls=.type "StopIteration")→E (.ref e) { s with heap:=h' }) :
  AF (AI prog w) A (AM.«zip.__next__» ⟨[.ref z],[]⟩) Q E s:=by
 refine AE (m:=field (.ref z) 2) (BM hz rfl (x:=.bool false) rfl ?_);refine AE (m:=field (.ref z) 3) (BM hz rfl (x:=.ref TI) rfl ?_);refine AE (C5 hTI rfl (AE (m:=FV (.ref z)) ?_));unfold FV;refine AE (BM hz rfl (x:=.none) rfl (AR ?_));simp only[if_true];refine AE (E9 (AE (BM hz rfl (x:=.ref TO) rfl (AE (Dv hz (by simp) fun g1 (z1:Bn g1 z TI TO .ellipsis) k1=>AE ?_)))));simp only[List.zipIdx_cons,List.zipIdx_nil,Cj,D9];rcases n with n|⟨⟨x,nx⟩,n⟩
 ·refine AE (AE (El (AE (m:=BV (.ref i1)) (n _ _ _ _ hh (o1.but h1 k1.extBut D.i1z D.l1z) fun g2 e k2 ⟨oe,he,ce⟩=>?_))));have z2:Bn g2 z TI TO .ellipsis:=k2 _ _ D.i1z.symm z1;have ez:e≠z:=fun q=>by subst q; rw[z2] at he; cases he; simp at ce
  exact Dv z2 (by simp) fun g3 _ k3=>hE g3 e (fun c o c1 _ c3 _ q=>k3.extBut _ _ c1 (k2 _ _ c3 (k1.extBut _ _ c1 q))) ⟨oe,k3.extBut _ _ ez he,ce⟩
 ·refine AE (AE (El (AE (m:=BV (.ref i1)) (nx _ _ _ _ (o1.but h1 k1.extBut D.i1z D.l1z) fun g2 k2=>AR ?_))));have t2:BQ g2 TO a b:=k2.extBut _ _ D.TOi1 (k1.extBut _ _ D.TOz hTO);refine AE (C5 t2 rfl (AE (F9 t2 fun g3 t3 k3=>AE (GA (AR ?_)))));refine AE (AE (El (AE (m:=BV (.ref i2)) (n _ _ _ _ hh (o2.but (o2.but (o2.but h2 k1.extBut D.i2z D.l2z) k2.extBut D.i12.symm D.l2i1) k3.extBut D.TOi2.symm D.l2TO) fun g4 e k4 ⟨oe,he,ce⟩=>?_))));have z4:Bn g4 z TI TO .ellipsis:=k4 _ _ D.i2z.symm (k3.extBut _ _ D.TOz.symm (k2.extBut _ _ D.i1z.symm z1));have ez:e≠z:=fun q=>by subst q; rw[z4] at he; cases he; simp at ce
  exact Dv z4 (by simp) fun g5 _ k5=>hE g5 e (fun c o c1 c2 c3 c4 q=>k5.extBut _ _ c1 (k4 _ _ c4 (k3.extBut _ _ c2 (k2.extBut _ _ c3 (k1.extBut _ _ c1 q))))) ⟨oe,k5.extBut _ _ ez he,ce⟩
theorem aOQ {z TI TO:AA}{f0:AB}{Q:Option AB→AD→Prop}(hz:Bn s.heap z TI TO f0)
  (h:AF (AI prog w) A.in1 (AM.«zip.__next__» ⟨[.ref z],[]⟩) (fun fin s'=>∃ v,fin=.done (.ret v)∧Q (some v) s') (fun e s'=>(∃ a o,e=.ref a∧s'.heap.get? a=some o∧o.cls=.type "StopIteration")∧Q none s') s) :
  AF (AI prog w) A (pyNext (.ref z)) Q E s:=by
 have hT:s.TypeIs (.ref z) "zip" := ⟨_,hz,rfl⟩;unfold pyNext;refine AE (wpAny_attempt (FH (name:=FJ "__next__") hT F.slot_zip_next (FK F.slot_zip_next hT F.entry_zip_next ?_ (F.args_zip_next_1 _))));refine Au h (fun fin s' ⟨v,e,q⟩=>⟨v,e,AR q⟩) fun e s' ⟨⟨a,o,ea,ho,hc⟩,q⟩=>?_;subst ea;exact AE (wpAny_isInstance (T := "StopIteration") (b:=true) ⟨o,ho,hc⟩ isSubtype_stop (AR q))
abbrev zT1 (h:AG)(l1:AA):AG:=h.push { cls:=.type "tuple_iterator", data:=.fields #[.ref l1,.int 0 0] }
abbrev zT2 (h:AG)(l1 l2:AA):AG:=(zT1 h l1).push { cls:=.type "list_iterator", data:=.fields #[.ref l2,.int 0 0] }
abbrev zT3 (h:AG)(l1 l2:AA):AG:=(zT2 h l1 l2).push { cls:=.type "tuple", data:=.seq #[.ref h.objs.size,.ref (zT1 h l1).objs.size] }
abbrev zT4 (h:AG)(l1 l2:AA):AG:=(zT3 h l1 l2).push { cls:=.type "tuple", data:=.seq #[.none,.none] }
abbrev zT5 (h:AG)(l1 l2:AA):AG:=(zT4 h l1 l2).push { cls:=.type "zip", data:=.fields #[.none,.bool false,.bool false,.ref (zT2 h l1 l2).objs.size,.ref (zT3 h l1 l2).objs.size] }
theorem aHC (l1 l2:AA)(xs ys:Array AB):Meets (AM.«zip.__new__» ⟨[.type "zip", .ref l1,.ref l2],[]⟩) (fun _ R s=>s.heap.IsTuple l1 xs∧s.heap.IsList l2 ys∧R (.ok (.ret (.ref (zT4 s.heap l1 l2).objs.size))) { s with heap:=zT5 s.heap l1 l2 }):=
 .of_wp fun prog w A R s h=>by
  obtain⟨hp,g,d,tk,os⟩:=s;obtain⟨q1,q2,h⟩:=h;have hsub:=sub_zip;have hL1:AG.IsTuple (AD.heap ⟨hp,g,d,tk,os⟩) l1 xs:=q1;have hL2:AG.IsList (AD.heap ⟨hp.push { cls:=.type "tuple_iterator", data:=.fields #[.ref l1,.int 0 0] },g,d,tk,os⟩) l2 ys:=AG.IsList.push q2 _
  wp_walk using wpAny_pyIter_tuple hL1,Fk hL2
  exact⟨_,rfl,h⟩
theorem aLY {l1 l2:AA}{xs ys:Array AB}{Q:AB→AD→Prop}(q1:s.heap.IsTuple l1 xs)(q2:s.heap.IsList l2 ys)
  (h:∀ h',Bn h' (s.heap.objs.size+4) (s.heap.objs.size+2) (s.heap.objs.size+3) .none→BQ h' (s.heap.objs.size+2) (.ref (s.heap.objs.size+0)) (.ref (s.heap.objs.size+1)) →
   BQ h' (s.heap.objs.size+3) .none .none→h'.IsTupleIter (s.heap.objs.size+0) l1 0→h'.IsListIter (s.heap.objs.size+1) l2 0 →
   (∀ c o,s.heap.get? c=some o→h'.get? c=some o)→Q (.ref (s.heap.objs.size+4)) { s with heap:=h' }):AF (AI prog w) A (call (.type "zip") [.ref l1,.ref l2]) Q E s:=by
 refine callType_new F.called_zip (by decide) (F.typeCall_zip_2 _ _) (F.newCall_zip_2 _ _) (fun obj=>F.args_object_init_3 obj _ _) F.entry_zip_new (aHC l1 l2 xs ys) ⟨q1,q2,?_⟩;have e1:(zT1 s.heap l1).objs.size=s.heap.objs.size+1:=CY ..;have e2:(zT2 s.heap l1 l2).objs.size=s.heap.objs.size+2:=by rw[CY,e1]
 have e3:(zT3 s.heap l1 l2).objs.size=s.heap.objs.size+3:=by rw[CY,e2]
 have e4:(zT4 s.heap l1 l2).objs.size=s.heap.objs.size+4:=by rw[CY,e3]
 have g5:(zT5 s.heap l1 l2).get? (zT4 s.heap l1 l2).objs.size=some _:=BE _ rfl;have g4:(zT5 s.heap l1 l2).get? (zT3 s.heap l1 l2).objs.size=some _:=AZ _ (BE _ rfl);have g3:(zT5 s.heap l1 l2).get? (zT2 s.heap l1 l2).objs.size=some _:=AZ _ (AZ _ (BE _ rfl));have g2:(zT5 s.heap l1 l2).get? (zT1 s.heap l1).objs.size=some _:=AZ _ (AZ _ (AZ _ (BE _ rfl)));have g1:(zT5 s.heap l1 l2).get? s.heap.objs.size=some _:=AZ _ (AZ _ (AZ _ (AZ _ (BE _ rfl))));show _∧_;rw[e2,e3,e4] at g5;rw[e1,e2] at g3;rw[e3] at g4;rw[e1] at g2;rw[e4];exact⟨⟨_,g5,rfl⟩,h _ g5 g3 g4 ⟨_,g1,rfl,rfl⟩ ⟨_,g2,rfl,rfl⟩ fun c o x=>AZ _ (AZ _ (AZ _ (AZ _ (AZ _ x))))⟩
end
def aVH (K:Fg)(a b:AA):It:=
  ⟨fun i H=>∃ xs ys x y,SqT K H a xs∧SqL K H b ys∧xs[i]?=some x∧ys[i]?=some y,
   fun i H v H'=>∃ T x y,v=.ref T∧H T=none∧H'=upd H T (.tup [x,y])∧∀ xs ys,SqT K H a xs→SqL K H b ys→xs[i]?=some x∧ys[i]?=some y,
   fun i H=>∃ xs ys,SqT K H a xs∧SqL K H b ys∧(xs.length≤i∨ys.length≤i)⟩
theorem aAS {i a:AA}{k:Nat}{xs:Array AB}:On2 (fun h=>h.IsTupleIter i a k∧h.IsTuple a xs) i a:=fun h h' st k=>⟨st.1.at fun o e=>k i o (.inl rfl) e,st.2.at fun o e=>k a o (.inr rfl) e⟩
theorem aD7 {i a:AA}{k:Nat}{xs:Array AB}:On2 (fun h=>h.IsListIter i a k∧h.IsList a xs) i a:=fun h h' st k=>⟨st.1.at fun o e=>k i o (.inl rfl) e,st.2.at fun o e=>k a o (.inr rfl) e⟩
theorem aEC {P:AQ}{w:AK}{K:Fg}{elts:List AJ}{cx}{tp:Pos}{z TI TO i1 i2 a b:AA}(D:ZipApart z TI TO i1 i2 a b):Turn P w K (.Tuple elts cx tp) (aVH K a b) [z,TI,TO,i1,i2] z
  (fun i h=>Bn h z TI TO .none∧BQ h TI (.ref i1) (.ref i2)∧(∃ u v,BQ h TO u v)∧h.IsTupleIter i1 a i∧h.IsListIter i2 b i) where
 mem:=by simp
 obj:=fun i h st c hc=>by
  obtain⟨hz,hTI,⟨u,v,hTO⟩,⟨o1,e1,c1,d1⟩,⟨o2,e2,c2,d2⟩⟩:=st;simp only[AT,Av,or_false] at hc;rcases hc with rfl|rfl|rfl|rfl|rfl
  ·exact⟨_,hz,fun v z=>by cases z⟩
  ·exact⟨_,hTI,fun v z=>by cases z⟩
  ·exact⟨_,hTO,fun v z=>by cases z⟩
  ·exact⟨o1,e1,fun v z=>by rw[d1] at z; cases z⟩
  ·exact⟨o2,e2,fun v z=>by rw[d2] at z; cases z⟩
 keep:=fun i h h' st k=>by
  obtain⟨hz,hTI,⟨u,v,hTO⟩,h1,h2⟩:=st;exact⟨k z (by simp) _ hz,k TI (by simp) _ hTI,⟨u,v,k TO (by simp) _ hTO⟩,h1.at fun o e=>k i1 (by simp) o e,h2.at fun o e=>k i2 (by simp) o e⟩
 item:=by
  intro X hP hw hK hc i pins s σ H E I hf st hg;subst hP hw hK;obtain⟨xs,ys,x,y,qx,qy,ex,ey⟩:=hg;obtain⟨ix,rx,px,zx⟩:=I.tuple qx;obtain⟨iy,ry,py,zy⟩:=I.list qy;obtain⟨ux,gx,rux⟩:=rx.get ex;obtain⟨uy,gy,ruy⟩:=ry.get ey;obtain⟨hz,hTI,⟨u,v,hTO⟩,h1,h2⟩:=st;have l1:i1<s.heap.objs.size:=by obtain⟨_,e,_⟩:=h1; exact AY e
  have l2:i2<s.heap.objs.size:=by obtain⟨_,e,_⟩:=h2; exact AY e
  refine aOQ hz (aKQ (x:=ux) (y:=uy) (S1:=fun h=>h.IsTupleIter i1 a i∧h.IsTuple a ix.toArray) (S1':=fun h=>h.IsTupleIter i1 a (i+1)∧h.IsTuple a ix.toArray)
   (S2:=fun h=>h.IsListIter i2 b i∧h.IsList b iy.toArray) (S2':=fun h=>h.IsListIter i2 b (i+1)∧h.IsList b iy.toArray) D hz hTI hTO aAS aD7 aD7 aAS
   (fun A E s Q st hQ=>a7A st.1 st.2 (by simpa using gx) fun h' q k=>hQ h' ⟨q,st.2.extBut k.extBut D.l1i1⟩ k)
   (fun A E s Q st hQ=>FT st.1 st.2 (by simpa using gy) fun h' q k=>hQ h' ⟨q,st.2.extBut k.extBut D.l2i2⟩ k)
   ⟨h1,px⟩ ⟨h2,py.isList⟩ l1 l2 fun h' a1 a2 a3 a4 a5 kp=>?_)
  refine⟨_,rfl,wpAny_letOwnedTupleGo_zip a1 fun h'' hz' hs'=>?_⟩;have hs':BU z h' h'':=hs';have nT:s.heap.objs.size≠z:=CM (AY hz);have hT:BQ h'' s.heap.objs.size ux uy:=hs'.extBut _ _ nT a5;have I2:Inv X pins σ (upd H s.heap.objs.size (.tup [x,y])) { s with heap:=h'' }:=I.turnedL (t':=s.toks) (ch:=[z,TI,TO,i1,i2])
   (fun c o hc e=>hs'.extBut _ _ (fun q=>hc (by simp[q])) (kp c o (fun q=>hc (by simp[q])) (fun q=>hc (by simp[q])) (fun q=>hc (by simp[q])) (fun q=>hc (by simp[q])) e))
   hf (AV _) ⟨lB (by show 2≤1000; decide),[ux,uy],.cons rux (.cons ruy .nil),⟨_,hT,rfl,_,rfl⟩⟩
  have fr:=I.hok.fresh (AV s.heap.objs.size);refine⟨.ref s.heap.objs.size,_,I2,rfl,⟨_,x,y,rfl,fr,rfl,fun xs' ys' q1 q2=>⟨by rw[I.tuple_inj q1 qx]; exact ex,by rw[I.list_inj q2 qy]; exact ey⟩⟩,⟨hz',hs'.extBut _ _ D.TIz (kp _ _ D.TIz D.TITO D.TIi1 D.TIi2 hTI),⟨_,_,hs'.extBut _ _ D.TOz a2⟩,a3.1.extBut hs'.extBut D.i1z,a4.1.extBut hs'.extBut D.i2z⟩,fun c hc=>?_⟩;have lt:c<s.heap.objs.size:=by
   simp only[AT,Av,or_false] at hc;rcases hc with rfl|rfl|rfl|rfl|rfl
   ·exact AY hz
   ·exact AY hTI
   ·exact AY hTO
   ·exact l1
   ·exact l2
  rw[bA (Aw lt)];exact(hf c hc).1
 done:=by
  intro X hP hw hK hc i pins s σ H E I hf st hg;subst hP hw hK;obtain⟨xs,ys,qx,qy,hle⟩:=hg;obtain⟨ix,rx,px,zx⟩:=I.tuple qx;obtain⟨iy,ry,py,zy⟩:=I.list qy;obtain⟨hz,hTI,⟨u,v,hTO⟩,h1,h2⟩:=st;have lx:=rx.length;have ly:=ry.length;refine aOQ hz (aNA (S1:=fun h=>h.IsTupleIter i1 a i∧h.IsTuple a ix.toArray) (S2:=fun h=>h.IsListIter i2 b i∧h.IsList b iy.toArray) (I.ok.hd hc) D hz hTI hTO aAS aD7 ⟨h1,px⟩ ⟨h2,py.isList⟩ ?_ fun h' e kp ⟨o,he,ce⟩=>⟨⟨e,o,rfl,he,ce⟩,rfl,I.turnedC (t':=s.toks) (ch:=[z,TI,TO,i1,i2]) (fun c o hc e=>?_) hf⟩)
  ·by_cases q:xs.length≤i
   ·exact .inl fun A E s Q hh st hE=>aJL hh st.1 st.2 (by simp; omega) hE
   ·obtain⟨ux,gx⟩:∃ u,ix[i]?=some u:=⟨ix[i]'(by omega),A0 _⟩;exact .inr ⟨⟨ux,fun A E s Q st hQ=>a7A st.1 st.2 (by simpa using gx) fun h' q k=>hQ h' k⟩,fun A E s Q hh st hE=>F1 hh st.1 st.2 (by simp; omega) hE⟩
  ·exact kp c o (fun q=>hc (by simp[q])) (fun q=>hc (by simp[q])) (fun q=>hc (by simp[q])) (fun q=>hc (by simp[q])) e
 self:=fun _ _ _ _ _ st h=>wpAny_pyIter_zip st.1 h
section
variable {X:Cx}
def aP3 (K:Fg)(ta:TA):TI:=fun σ H R=>ta σ H fun vs H1=>∃ p q xs ys,vs=[.ref p,.ref q]∧SqT K H1 p xs∧SqL K H1 q ys∧R (aVH K p q) H1
theorem aKG {a b:AJ}{ta:TA}{p pos tp:Pos}{elts:List AJ}{cx}(hg:Gl X "zip")(hm:X.mg "zip" = none)(ha:PA X [a,b] ta)
  (he2:AX [a,b] X.env=(false,eval a X.env)::AX [b] X.env:=by rfl) (hpl2:(BG pos (AX [b] X.env)).any (·.1)=false:=by rfl) :
  PI X (.Tuple elts cx tp) (.Call (.Name "zip" p) [a,b] [] pos) (aP3 X.K ta):=by
 intro pins s σ H R I h;refine Cz (a02 I hg hm boot_zip ?_ (by decide) (by decide));refine FC (thn (ha pos pins s σ H _ I h) fun us s1 ⟨vs,H1,I1,r1,p,q,xs,ys,e,hp,hq,k⟩=>?_) he2 hpl2;subst e
 cases r1 with
 | cons ra rb=>
  cases rb with
  | cons rb rc=>
   cases rc
   cases ra
   cases rb
   obtain⟨ix,rx,px,zx⟩:=I1.tuple hp;obtain⟨iy,ry,py,zy⟩:=I1.list hq;refine aLY (show s1.heap.IsTuple p ix.toArray from px) py.isList fun h' hz hTI hTO i1 i2 kp=>?_;have lp:p<s1.heap.objs.size:=px.lt;have lq:q<s1.heap.objs.size:=by obtain⟨o,e,_⟩:=py.isList; exact AY e
   have ap:∀{b:AA} (n:Nat),b<s1.heap.objs.size→b≠s1.heap.objs.size+n:=fun n hb=>Aw (As hb (Nat.le_add_right _ _));have ne:∀(m n:Nat),m≠n→s1.heap.objs.size+m≠s1.heap.objs.size+n:=fun m n h e=>h (Nat.add_left_cancel e);have D:ZipApart (s1.heap.objs.size+4) (s1.heap.objs.size+2) (s1.heap.objs.size+3) (s1.heap.objs.size+0) (s1.heap.objs.size+1) p q:=
    ⟨ne _ _ (by decide),ne _ _ (by decide),ne _ _ (by decide),ne _ _ (by decide),ne _ _ (by decide),ne _ _ (by decide),ne _ _ (by decide),ne _ _ (by decide),ne _ _ (by decide),ne _ _ (by decide),ap _ lp,ap _ lp,ap _ lp,ap _ lp,ap _ lq,ap _ lq,ap _ lq,ap _ lq⟩
   refine wpAny_pyIter_zip hz ?_;have I2:Inv X pins σ H1 { s1 with heap:=h' }:=I1.kept (t':=s1.toks) kp;refine⟨_,[s1.heap.objs.size+4,s1.heap.objs.size+2,s1.heap.objs.size+3,s1.heap.objs.size+0,s1.heap.objs.size+1],_,_,H1,rfl,I2,aEC D,⟨hz,hTI,⟨_,_,hTO⟩,i1,i2⟩,fun c hc=>?_,k⟩;have hle:s1.heap.objs.size≤c:=by
    simp only[AT,Av,or_false] at hc;rcases hc with rfl|rfl|rfl|rfl|rfl<;>exact Nat.le_add_right _ _
   exact I1.fpOk hle (I1.hok.fresh hle)
end
end L2
namespace L2.VS
open PySem PySem.Spec PyProof.Rows
section
variable {P0:AA→Hp→Prop}{K:Fg}
def aLT (ma mb:ME):MD:=fun Γ Q=>ma Γ fun x Γ1=>mb Γ1 fun y Γ2=>match x,y with
 | .tuple ds,.list es=>Q (aIE ds es) Γ2
 | _,_=>False
theorem aLI {ta tb:TE}{ma mb:ME}(ha:VT P0 ta ma)(hb:VT P0 tb mb):VI P0 (aP3 K (cQ ta (cQ tb nM))) (aLT ma mb):=by
 intro F Γ σ G H Q Qm r m k;refine ha F Γ σ G H _ _ r m fun d Γ1 x G1 H1 m1 s1 r1 d1=>?_;refine hb F Γ1 σ G1 H1 _ _ r1 m1 fun e Γ2 y G2 H2 m2 s2 r2 d2=>?_;have d1:=Dt.same s2 _ _ d1
 split at m2
 ·rename_i ds es _
  cases d1 with
  | @tup p xs _ hp rs=>
   cases d2 with
   | @lst q ys _ hq ss=>
    refine⟨p,q,xs,ys,rfl,SqT.of (r2.fr.sub _ _ hp),SqL.of (r2.fr.sub _ _ hq),k _ _ _ _ _ m2 (s1.trans s2) r2 fun F3 Γ3 σ3 G3 H3 s3 r3=>⟨fun i d e=>?_,?_⟩⟩
    ·have hp3:=SqT.of (K:=K) (r3.fr.sub _ _ (s3 _ _ hp));have hq3:=SqL.of (K:=K) (r3.fr.sub _ _ (s3 _ _ hq));unfold aIE at e;rw[Ao] at e
     cases ez:(ds.zip es)[i]? with
     | none=>rw[ez] at e; cases e
     | some z=>
      rw[ez] at e
      cases e
      obtain⟨f1,f2⟩:=Gn.mp ez;obtain⟨v1,g1,dv1⟩:=Dts.get rs f1;obtain⟨v2,g2,dv2⟩:=Dts.get ss f2;refine⟨⟨xs,ys,v1,v2,hp3,hq3,g1,g2⟩,fun v H4 hy=>?_⟩;obtain⟨T,x',y',rfl,hT,rfl,hxy⟩:=hy;obtain⟨h1,h2⟩:=hxy xs ys hp3 hq3;rw[g1] at h1; cases h1;rw[g2] at h2; cases h2;have g:=fM (r3.fr.gfresh hT) (.tup [v1,v2]);exact⟨_,g,r3.new hT,.tup aW (.cons (Dt.same (s3.trans g) _ _ dv1) (.cons (Dt.same (s3.trans g) _ _ dv2) .nil))⟩
    ·refine⟨xs,ys,SqT.of (r3.fr.sub _ _ (s3 _ _ hp)),SqL.of (r3.fr.sub _ _ (s3 _ _ hq)),?_⟩;have l1:=rs.len;have l2:=ss.len;have l3:(aIE ds es).length=min ds.length es.length:=by unfold aIE; rw[AO,List.length_zip]
     rw[l3,l1,l2];omega
 ·exact m2.elim
theorem aQQ {ma mb:ME}{Γ:En}{Q:List D→En→Prop}(h:ma Γ fun x Γ1=>mb Γ1 fun y Γ2=>match x,y with|.tuple ds,.list es=>Q (aIE ds es) Γ2|_,_=>False):aLT ma mb Γ Q:=h
end
end L2.VS
namespace L2
open PySem PySem.Spec PyProof.Rows
@[irreducible] def PPd (X:Cx) (pos:Pos) (ks:List (Option AJ)) (vs:List AJ) (trs:List (TE×TE)):Prop:=PPs X pos ks vs trs
section
variable {X:Cx}{pos:Pos}{ks:List (Option AJ)}{vs:List AJ}{trs:List (TE×TE)}{k v e:AJ}{es:List AJ}{tk tv te:TE}{tl:TA}
theorem a9Z:PPd X pos [] [] []:=by unfold PPd; exact aJN
theorem rN (hk:PE X k tk)(hv:PEd X v tv)(hr:PPd X pos ks vs trs):PPd X pos (some k::ks) (v::vs) ((tk,tv)::trs):=by
 unfold PPd PEd at *;exact aEY hk hv hr
theorem yQ {x1}(h:PAd X es tl):PEd X (.Tuple es x1 pos) (aMJ tl):=by
 unfold PEd PAd at *;exact cT h
theorem qP:PAd X [] nM:=by unfold PAd; exact aD
theorem a7W (h:PPd X pos ks vs trs)(ha:ks.all (·.isSome)=true)(hl:ks.length=vs.length)(h0:ks≠[])(hf:ks.length≤15):PEd X (.Dict ks vs pos) (aLV trs):=by
 unfold PEd PPd at *;exact aJ2 h ha hl h0 hf
theorem a3C (ha:PEd X e te)(hr:PAd X es tl)(hs:AX (e::es) X.env=(false,eval e X.env)::AX es X.env:=by rfl):PAd X (e::es) (cQ te tl):=by
 unfold PEd PAd at *;exact aA ha hr hs
theorem aHL (h:PAd X es tl):PA X es tl:=by unfold PAd at h; exact h
end
end L2
namespace L2
open PySem PySem.Spec PyProof.Rows
theorem aE9 {f:Array AB→Array AB}:∀ o:Obj,(FW f o).dict=o.dict
 | ⟨_,_,dt,_⟩=>by cases dt<;>rfl
section
variable {M:CP}{A:AU}{E:AB→AD→Prop}{s:AD}{base:AG}{env:Env}{outer l:List Env}{L e:AA}{cls fl:AB}{dct:Option AA}{Q:Unit→AD→Prop}
def TrD (h base:AG)(e:AA)(cls:AB)(dct:Option AA)(fl:AB):Prop:=
 ∃ oe vs T oT ts,h.get? e=some oe∧oe.cls=cls∧oe.dict=dct∧oe.data=.fields vs∧vs[1]?=some (.ref T)∧base.get? T=none∧T≠e∧h.get? T=some oT∧oT.data=.fields ts∧ts[3]?=some fl
structure LyD (base:AG)(l:List Env)(e:AA)(cls:AB)(dct:Option AA)(fl:AB)(h:AG):Prop where
 kb:base.StaysIn h
 en:base.get? e=none
 fr:h.FunFrames base l
 tr:TrD h base e cls dct fl
theorem enD {oe:Obj}{vs:Array AB}{head:AB}{hadNext:Bool}(hfr:A.frames=some (env::outer))(hl:s.heap.FunFrames base (env::outer))(hf:env.frame=some L)
  (he:s.heap.get? e=some oe) (kb:base.StaysIn s.heap) (en:base.get? e=none) (hd:oe.data=.fields vs) (hsz:1<vs.size)
  (h:∀ h',LyD base (env::outer) e oe.cls oe.dict (Bg L) h'→s.heap.UpToSlots h'→Q () { s with heap:=h' }) :
  AF M A (do let a←frameOf env; let pl←entryPlaceOf L hadNext; let b←Go head a .none (Bg L) .none pl; setField (.ref e) 1 b) Q E s:=by
 have nin:e∉(env::outer).filterMap (·.frame):=fun z=>by
  obtain⟨_,o,q,n⟩:=hl.mem z;rw[he] at q; cases q; exact n vs hd
 refine AE (wpAny_frameOf_fun hfr hl hf fun h1 hs=>AE (wpAny_entryPlaceOf fun pl hpl=>?_));unfold Go newFields;refine AE (Ce ?_ (hpl.sizeOk5 _ _ _ _ _));generalize hob:({ cls:=.type "traceback", dict:=none,data:=.fields ([head,.ref L,.none,Bg L,.none]++(if pl.isEmpty then Ar 6 BS else pl)).toArray }:Obj)=ob;have obd:ob.data=.fields ([head,.ref L,.none,Bg L,.none]++(if pl.isEmpty then Ar 6 BS else pl)).toArray:=by rw[← hob]
 have e1:h1.get? e=some oe:=(hs.2.1 e nin).trans he;have k1:base.StaysIn h1:=fun b o q=>(hs.2.1 b fun z=>by rw[(hl.mem z).1] at q; cases q).trans (kb b o q);have e2:=AZ (h:=h1) ob e1;have ne:h1.objs.size≠e:=CM (AY e1);have d3:=Ek hd (·.setIfInBounds 1 (Aa h1.objs.size));refine Ej e2 hd hsz (h _ ?_ ?_)
 ·have keep:∀ b o,b≠e→h1.get? b=some o→((h1.push ob).update e (FW (·.setIfInBounds 1 (Aa h1.objs.size)))).get? b=some o:=fun b o z q=>by
   rw[CW _ _ (Am z)]; exact AZ _ q
  refine⟨fun b o q=>keep b o (fun z=>by rw[z,en] at q; cases q) (k1 b o q),en,hl.of_keeps fun b o q nf=>?_,?_⟩
  ·obtain⟨sl,q2⟩:=hs.2.2 b o q;exact⟨_,keep b _ (fun z=>by rw[z,he] at q; cases q; exact nf vs hd) q2,rfl⟩
  ·refine⟨_,_,h1.objs.size,ob,_,DH _ e2 (FU d3),Obj.cls_mapFields _ _,aE9 _,d3,by simp[hsz],k1.fresh,ne,?_,obd,?_⟩
   ·rw[CW _ _ (Am ne)];exact BE h1 (FU obd)
   ·rcases hpl with rfl|⟨_,_,_,_,_,_,_,rfl⟩<;>simp
 ·intro b o q nf;obtain⟨sl,q2⟩:=hs.2.2 b o q;refine⟨sl,?_⟩;rw[CW _ _ fun z=>by rw[← z,he] at q; cases q; exact nf vs hd];exact AZ _ q2
theorem aOY {oe:Obj}{vs:Array AB}(hfr:A.frames=some (env::outer))(hl:s.heap.FunFrames base (env::outer))(hf:env.frame=some L)
  (he:s.heap.get? e=some oe) (kb:base.StaysIn s.heap) (en:base.get? e=none) (hd:oe.data=.fields vs) (h1:vs[1]?=some .none)
  (h:∀ h',LyD base (env::outer) e oe.cls oe.dict (Bg L) h'→s.heap.UpToSlots h'→Q () { s with heap:=h' }):AF M A (Ds (.ref e) env) Q E s:=by
 unfold Ds;simp only[hf];refine AE (BM he hd h1 ?_);rw[if_neg (by decide)];exact enD hfr hl hf he kb en hd (FX.mp h1).1 h
theorem aHF (hfr:A.frames=some (env::outer))(hf:env.frame=some L)(y:LyD base (env::outer) e cls dct .none s.heap)
  (h:∀ h',LyD base (env::outer) e cls dct (Bg L) h'→s.heap.UpToSlots h'→Q () { s with heap:=h' }):AF M A (Ds (.ref e) env) Q E s:=by
 obtain⟨kb,en,hl,oe,vs,T,oT,ts,he,rfl,rfl,hd,h1,nT,ne,hT,dT,h3⟩:=y;unfold Ds;simp only[hf];refine AE (BM he hd h1 ?_);rw[if_pos (show(Aa T != BS)=true from by simp)];refine AE (BM hT dT h3 ?_);rw[if_neg (show ¬((BS==Bg L)=true) from by simp[Bg])];refine AE (Ej hT dT (FX.mp h3).1 ?_);have other:∀ b,b≠T→(s.heap.update T (FW (·.setIfInBounds 3 BS))).get? b=s.heap.get? b:=fun b z=>CW _ _ (Am z);have noT:∀ b o,s.heap.get? b=some o→(∀ vs,o.data≠.fields vs)→b≠T:=fun b o q nf z=>by rw[z,hT] at q; cases q; exact nf ts dT
 refine enD hfr (hl.of_keeps fun b o q nf=>⟨o,(other b (noT b o q nf)).trans q,rfl⟩) hf ((other e (Am ne)).trans he) (fun b o q=>(other b fun z=>by rw[z,nT] at q; cases q).trans (kb b o q)) en hd (FX.mp h1).1
  fun h' y u=>h h' y fun b o q nf=>u b o ((other b (noT b o q nf)).trans q) nf
theorem a1Y (y:LyD base l e cls dct fl s.heap)(h:∀ h',LyD base l e cls dct .none h'→s.heap.UpToSlots h'→Q () { s with heap:=h' }):AF M A (setFlight (.ref e) none) Q E s:=by
 obtain⟨kb,en,hl,oe,vs,T,oT,ts,he,rfl,rfl,hd,h1,nT,ne,hT,dT,h3⟩:=y;have z3:=(FX.mp h3).1;have other:∀ b,b≠T→(s.heap.update T (FW (·.setIfInBounds 3 ((none:Option AA).elim BS fun f=>Bg f)))).get? b=s.heap.get? b:=fun b z=>CW _ _ (Am z);have noT:∀ b o,s.heap.get? b=some o→(∀ vs,o.data≠.fields vs)→b≠T:=fun b o q nf z=>by rw[z,hT] at q; cases q; exact nf ts dT
 unfold setFlight;refine AE (BM he hd h1 ?_);rw[if_pos (show(Aa T != BS)=true from by simp)];refine Ej hT dT z3 (h _ ⟨fun b o q=>(other b fun z=>by rw[z,nT] at q; cases q).trans (kb b o q),en,hl.of_keeps fun b o q nf=>⟨o,(other b (noT b o q nf)).trans q,rfl⟩,?_⟩ fun b o q nf=>⟨o.slots,(other b (noT b o q nf)).trans q⟩);exact⟨oe,vs,T,_,_,(other e (Am ne)).trans he,rfl,rfl,hd,h1,nT,ne,DH _ hT (FU (Ek dT _)),Ek dT _,by simp[z3]⟩
theorem LyD.out (y:LyD base (env::outer) e cls dct fl s.heap):LyD base outer e cls dct fl s.heap:=⟨y.kb,y.en,y.fr.2.2,y.tr⟩
theorem aL1 {oe:Obj}{vs:Array AB}(hfr:A.frames=some (env::outer))(hl:s.heap.FunFrames base (env::outer))(hf:env.frame=some L)
  (he:s.heap.get? e=some oe) (kb:base.StaysIn s.heap) (en:base.get? e=none) (hd:oe.data=.fields vs) (h1:vs[1]?=some .none)
  (h:∀ h',LyD base outer e oe.cls oe.dict .none h'→s.heap.UpToSlots h'→Q () { s with heap:=h' }):AF M A (DO env (.ref e)) Q E s:=by
 unfold DO;exact AE (aOY hfr hl hf he kb en hd h1 fun h' y u=>a1Y (s:={ s with heap:=h' }) y fun h2 y2 u2=>h h2 (LyD.out (s:={ s with heap:=h2 }) y2) (u.trans u2))
theorem aJI (hfr:A.frames=some (env::outer))(hf:env.frame=some L)(y:LyD base (env::outer) e cls dct .none s.heap)
  (h:∀ h',LyD base outer e cls dct .none h'→s.heap.UpToSlots h'→Q () { s with heap:=h' }):AF M A (DO env (.ref e)) Q E s:=by
 unfold DO;exact AE (aHF hfr hf y fun h' y u=>a1Y (s:={ s with heap:=h' }) y fun h2 y2 u2=>h h2 (LyD.out (s:={ s with heap:=h2 }) y2) (u.trans u2))
end
end L2
namespace L2
open PySem PySem.Spec PyProof.Rows
def CX2 (P:AQ)(w:AK):CXT:=fun outer H s E e s'=>∃(ea C:AA) (D:Option AA) (B:AG) (H':Hp),e=.ref ea∧s'.os=s.os∧B9 s'.gens ∧
 LyD B outer ea (.ref C) D .none s'.heap∧UnB (frs outer) H H' s.heap B s'.heap∧HOk P w H' B∧E (.ref C) D H'
def XNh (a C:AA)(h:AG):Prop:=∃ t,h.get? a=some { cls:=.ref C,data:=.fields #[.ref t,.none,.none,.none,.bool false,.none] }
def XN (a C:AA):HO:=.ext (XNh a C)
def XFh (a C:AA)(D:Option AA)(h:AG):Prop:=∃ t,h.get? a=some { cls:=.ref C,dict:=D,data:=.fields #[.ref t,.none,.none,.none,.bool false,.none] }
def XF (a C:AA)(D:Option AA):HO:=.ext (XFh a C D)
def XDh (a C:AA)(D:Option AA)(h:AG):Prop:=∃ o vs,h.get? a=some o∧o.cls=.ref C∧o.dict=D∧o.data=.fields vs
def XD (a C:AA)(D:Option AA):HO:=.ext (XDh a C D)
theorem aPV {P:AQ}{w:AK}{H:Hp}{h:AG}{a C:AA}(q:XNh a C h):ObjOk P w H h a (XN a C):=⟨q,let ⟨_,q⟩:=q; ⟨_,q⟩,fun _ _ ⟨t,q⟩ k=>⟨t,k _ q⟩⟩
theorem aSJ {P:AQ}{w:AK}{H:Hp}{h:AG}{a C:AA}{D:Option AA}(q:XFh a C D h):ObjOk P w H h a (XF a C D):=⟨q,let ⟨_,q⟩:=q; ⟨_,q⟩,fun _ _ ⟨t,q⟩ k=>⟨t,k _ q⟩⟩
theorem aTC {P:AQ}{w:AK}{H:Hp}{h:AG}{a C:AA}{D:Option AA}(q:XDh a C D h):ObjOk P w H h a (XD a C D):=⟨q,let ⟨o,_,q,_⟩:=q; ⟨o,q⟩,fun _ _ ⟨o,vs,q,r⟩ k=>⟨o,vs,k _ q,r⟩⟩
section
variable {X:Cx}{pins:List (AA×Obj)}{σ:St}{H:Hp}{s:AD}{M:CP}{F:AB→AD→Prop}{E E':XK}
theorem Inv.leave2 {e C:AA}{D:Option AA}(I:Inv X pins σ (upd H e (XF e C D)) s)(hs:X.stack=X.env::X.outer)(hf:X.env.frame=some X.env.locals)(hex:X.ex=[])
  (hn:H e=none) (hnew:X.s₀.heap.get? e=none) (hE:E (.ref C) D H) :
  AF M X.A (DO X.env (.ref e)) (fun _ s2=>CX2 X.prog X.w X.outer X.H₀ X.s₀ E (.ref e) s2) F s:=by
 have nex:∀ b:AA,b∉X.ex:=fun b z=>by rw[hex] at z; exact nomatch z
 have hin:∀ env∈X.stack,∀ b,env.frame=some b→b∈e::frs X.stack:=fun env he b hb=>Ak _ (Eu.mpr ⟨env,he,hb⟩);have stk:=PySem.W.funFrames_hide I.stack hin;obtain⟨t,he⟩:=(show ObjOk X.prog X.w _ s.heap e (XF e C D) from I.hok e _ aW).1;have ne:∀ b o,X.s₀.heap.get? b=some o→b≠e:=fun b o q z=>by rw[z,hnew] at q; cases q
 have nl:∀ b o,X.s₀.heap.get? b=some o→b∉frs X.outer→b∉e::frs X.stack:=fun b o q hb z=>(AT.mp z).elim (ne b o q) (I.nstk hs hf q hb);have up:∀{b:AA} {o:HO},(upd H e (XF e C D)) b=some o→b≠e→H b=some o:=fun{b o} q z=>by rw[bA z] at q; exact q
 refine aL1 (base:=hideAll s.heap (e::frs X.stack)) (outer:=X.outer) (L:=X.env.locals) (by rw[← hs]; exact I.ok.frames) (by rw[← hs]; exact stk) hf he (fun b o q=>of_hideAll _ q) (Fd _ Ap) rfl rfl fun h2 y ups=>?_;refine⟨e,C,D,_,H,rfl,I.os,I.bare,y,⟨fun b o q n hb=>?_,fun b o q hb=>?_,fun b o q n=>?_,fun b o q hb=>?_,fun b xs q=>?_,fun b o u q=>?_,fun b ps q=>?_⟩,fun b o q=>?_,hE⟩
 ·exact EK _ (I.base.keep b o q n hb (nex b)) (nl b o q hb)
 ·obtain⟨sl,q1⟩:=I.base.slot b o q (I.ok.frf b hb) hb (nex b);obtain⟨_,o',q2,nf⟩:=I.ok.funs.mem hb;rw[q] at q2
  cases q2
  exact ups b { o with slots:=sl } q1 nf
 ·have z:=I.base.free b o q n (nex b);rw[bA (ne b o q)] at z;exact z
 ·obtain⟨o',q1⟩:=I.base.there b o q (nex b);exact⟨o',EK _ q1 (nl b o q hb)⟩
 ·have z:=I.base.tups b xs q;exact up z fun y=>by rw[y,aW] at z; cases z
 ·have z:=I.base.frzs b o u q;exact up z fun y=>by rw[y,aW] at z; cases z
 ·obtain⟨more,z⟩:=I.base.tbls b ps q;exact⟨more,up z fun y=>by rw[y,aW] at z; cases z⟩
 ·have nb:∀{c:AA} {u:HO},H c=some u→c≠e:=fun{c u} q z=>by rw[z,hn] at q; cases q
  refine(I.hok b o (by rw[bA (nb q)]; exact q)).stay (fun c u hc q1=>EK _ q1 fun z=>?_) (fun c q1=>up q1 fun y=>by rw[y,aW] at q1; cases q1) fun c xs q1=>up q1 fun y=>by rw[y,aW] at q1; cases q1
  rcases AT.mp z with z|z
  ·subst z;rcases hc with hc|hc
   ·exact nb q hc.symm
   ·rw[aW] at hc; cases hc
  ·have hnn:=I.stkFree c z;rcases hc with hc|hc
   ·rw[hc,bA (nb q),q] at hnn; cases hnn
   ·rw[hc] at hnn; cases hnn
theorem Inv.pass2 {e:AB}{s':AD}(I:Inv X pins σ H s)(hs:X.stack=X.env::X.outer)(hf:X.env.frame=some X.env.locals)(hex:X.ex=[])(hE:∀ c o H,E' c o H→E c o H)
  (hc:CX2 X.prog X.w X.stack H s E' e s'):AF M X.A (DO X.env e) (fun _ s2=>CX2 X.prog X.w X.outer X.H₀ X.s₀ E e s2) F s':=by
 obtain⟨ea,C,D,B,H',rfl,os,bare,y,u,hok,q⟩:=hc;have nex:∀ b:AA,b∉X.ex:=fun b z=>by rw[hex] at z; exact nomatch z
 have hfs:=Inv.frsS hs hf;rw[hs] at y;refine aJI (by rw[← hs]; exact I.ok.frames) hf y fun h2 y2 ups=>?_;refine⟨ea,C,D,B,H',rfl,os.trans I.os,bare,y2,⟨fun b o q n hb=>?_,fun b o q hb=>?_,fun b o q n=>?_,fun b o q hb=>?_,fun b xs z=>u.tups b xs (I.base.tups b xs z),fun b o x z=>u.frzs b o x (I.base.frzs b o x z),fun b ps z=>?_⟩,hok,hE _ _ _ q⟩
 ·exact u.keep b o (I.base.keep b o q n hb (nex b)) (I.base.free b o q n (nex b)) (I.nstk hs hf q hb)
 ·obtain⟨sl,q1⟩:=I.base.slot b o q (I.ok.frf b hb) hb (nex b);obtain⟨_,o',q2,nf⟩:=I.ok.funs.mem hb;rw[q] at q2
  cases q2
  obtain⟨sl2,q3⟩:=u.slot b _ q1 (by rw[hfs]; exact Ak _ hb);exact ups b { o with slots:=sl2 } q3 nf
 ·obtain⟨o',q1⟩:=I.base.there b o q (nex b);exact u.free b o' q1 (I.base.free b o q n (nex b))
 ·obtain⟨o',q1⟩:=I.base.there b o q (nex b);exact u.there b o' q1 (I.nstk hs hf q hb)
 ·obtain⟨m1,z1⟩:=I.base.tbls b ps z;obtain⟨m2,z2⟩:=u.tbls b _ z1;exact⟨m1++m2,by rw[z2,Array.append_assoc]⟩
theorem Inv.caught2 {H':Hp}{B h h6:AG}{ea C:AA}{D:Option AA}{fl:AB}{g:Array ET}{d:Drawn}{t:Nat}(I:Inv X pins σ H s)
    (u:UnB (frs X.stack) H H' s.heap B h) (hok:HOk X.prog X.w H' B) (bare:B9 g) (y:LyD B X.stack ea (.ref C) D fl h6) (ups:h.UpToSlots h6) :
    H' ea=none∧Inv X pins σ (upd H' ea (XD ea C D)) { s with heap:=h6,gens:=g,drawn:=d,toks:=t }:=by
  have tB:∀ b o,H' b=some o→∃ o',B.get? b=some o':=fun b o q=>(hok b o q).has;have hne:H' ea=none:=by
    cases z:H' ea with
    | none=>rfl
    | some o=>
      obtain⟨o',q⟩:=tB ea o z;rw[y.en] at q; cases q
  obtain⟨oe,vs,_,_,_,hoe,hoc,hdd,hod,_⟩:=y.tr;have nfr:ea∉frs X.stack:=fun z=>by
    obtain⟨_,o,q,nf⟩:=y.fr.mem z;rw[hoe] at q; cases q;exact nf _ hod
  have nea:∀ b o,s.heap.get? b=some o→b≠ea:=fun b o q z=>by
    subst z;obtain⟨o',q'⟩:=u.there b o q nfr;rw[y.en] at q'; cases q'
  have slot:∀ b o,s.heap.get? b=some o→b∈frs X.stack→∃ sl,h6.get? b=some { o with slots:=sl }:=fun b o q hb=>by
    obtain⟨sl,q1⟩:=u.slot b o q hb;obtain⟨_,o',q2,nf⟩:=I.stack.mem hb;rw[q] at q2; cases q2;exact ups b { o with slots:=sl } q1 nf
  have un:Un (frs X.stack) [] H (upd H' ea (XD ea C D)) s.heap h6:=
    ⟨fun b o q n hb _=>y.kb b o (u.keep b o q n hb),fun b o q n hb _=>slot b o q hb,fun b o q n _=>by rw[bA (nea b o q)]; exact u.free b o q n,fun b o q _=>by
      by_cases hb:b∈frs X.stack
      · obtain⟨sl,q1⟩:=slot b o q hb; exact⟨_,q1⟩
      · obtain⟨o',q1⟩:=u.there b o q hb; exact⟨o',y.kb b o' q1⟩,
     fun b xs q=>by rw[bA (bJ (u.tups b xs q) hne)]; exact u.tups b xs q,fun b o x q=>by rw[bA (bJ (u.frzs b o x q) hne)]; exact u.frzs b o x q,
     fun b ps q=>by
      obtain⟨more,z⟩:=u.tbls b ps q;exact⟨more,by rw[bA (bJ z hne)]; exact z⟩⟩
  refine⟨hne,I.call (ch:=[]) un (fun b o q=>?_) bare fun _ z=>nomatch z⟩
  by_cases hb:b=ea
  · subst hb;rw[aW] at q
    cases q
    exact aTC ⟨oe,vs,hoe,hoc,hdd,hod⟩
  · rw[bA hb] at q;exact(hok b o q).stay (fun c v _ q=>y.kb c v q) (fun c q=>by rw[bA (bJ q hne)]; exact q) fun c xs q=>by rw[bA (bJ q hne)]; exact q
end
section
variable {P:AQ}{w:AK}{K:Fg}{mg:Mg}{base:AG}{N:List Str}{qual:Str}{scope:BH}{f:AA}{cd:AB}{A:AU}{outer:List Env}{s:AD}{H:Hp}{E E':XK}
theorem xP (hE:∀ c o H,E' c o H→E c o H):vH (CX2 P w) (aBQ (CX2 P w) P w K mg base N qual scope f cd A outer s H E) E':=
 fun _ _ _ _ _ _ I hc=>I.pass2 rfl rfl rfl hE hc
end
def a5R (K:Fg)(C:AA):Bool:=match K.lookup C with
 | some ⟨.type "type", _,.cls cd,sl⟩=>(match cd.mro,sl.toList with
  | .ref C'::bm,[_,_,_,_,some (.builtin n),_]=>C'==C&&n == "ValueError.__new__" && !cd.hasDel&&cd.hasDict&&Cp K vmro bm
  | _,_=>false)
 | _=>false
theorem wG {K:Fg}{C:AA}{h:AG}(G:K.In h)(z:a5R K C=true) :
  ∃ bm N nm q bs sn sub ab col dd k0 k1 k2 k3 k5,h.get? C=some (C4 nm q C N bs bm true sn sub ab col dd k0 k1 k2 k3 k5 "ValueError.__new__")∧OwnTail h vmro bm ∧
   K.lookup C=some (C4 nm q C N bs bm true sn sub ab col dd k0 k1 k2 k3 k5 "ValueError.__new__"):=by
 unfold a5R at z
 split at z
 next dd cd sl ho=>
  split at z
  next D bm k0 k1 k2 k3 n k5 hm hs=>
   simp only[BF,beq_iff_eq,Bool.not_eq_true'] at z;obtain⟨⟨⟨⟨e1,e2⟩,e3⟩,e4⟩,e5⟩:=z;obtain⟨nm,bs,mro,ns,qn,hd,sn,sub,ab,col,del⟩:=cd;obtain⟨l⟩:=sl;dsimp only at hm hs e3 e4;subst e1 e2 hm hs e3 e4;exact⟨bm,ns,nm,qn,bs,sn,sub,ab,col,dd,k0,k1,k2,k3,k5,G _ _ ho,PySem.W.tail_of_in G e5,ho⟩
  next=>cases z
 next=>cases z
section
variable {prog:AQ}{w:AK}{A:AU}{E:AB→AD→Prop}{h:AG}{g:Array ET}{d:Drawn}{t:Nat}{os:OsState}{K:Fg}{C fI:AA}{rest:List AB}
theorem aMI {Q:Fin→AD→Prop}(G:K.In h)(z:a5R K C=true)(hi:Ag K (.ref C) "__init__" = some (some (.ref fI)))(hf:Cq K (.ref fI)=some (.type "function"))
  (hq:∀ h' e,(∀ b o,h.get? b=some o→h'.get? b=some o)→h.objs.size≤e→XNh e C h' →
   AF (AI prog w) A (call (.ref fI) (.ref e::rest)) (fun r s'=>r=.none∧Q (.done (.ret (.ref e))) s') E ⟨h',g,d,t,os⟩) (hrest:rest.length≤sizeLine) :
  AF (AI prog w) A (AM.«type.__call__» ⟨.ref C::rest,[]⟩) Q E ⟨h,g,d,t,os⟩:=by
 obtain⟨bm,N,nm,q,bs,sn,sub,ab,col,dd,k0,k1,k2,k3,k5,hC,T,_⟩:=wG G z;have FB:=Gp
 repeat (first|with_reducible refine Bi hC ?_|with_reducible refine wpAny_madeBy_exc hC ?_|wp_step)
 refine codeAny_call_builtin_code (F4 _ FB.quiet) (wpAny_check_new_subT FB T hC ?_);refine codeAny_exc_new_subT FB T hC ?_ hrest;show AF _ _ _ _ _ _;generalize h2e:(h.push { cls:=.type "tuple", data:=.seq rest.toArray }).push { cls:=.ref C,data:=.fields #[.ref h.objs.size,.none,.none,.none,.bool false,.none] }=h2;have kp:∀ b o,h.get? b=some o→h2.get? b=some o:=fun b o q=>by rw[← h2e]; exact AZ _ (AZ _ q)
 have hget:h2.get? (h.objs.size+1)=some { cls:=.ref C,data:=.fields #[.ref h.objs.size,.none,.none,.none,.bool false,.none] }:=by rw[← h2e]; heap_get
 have G2:K.In h2:=G.keeps kp;have hC2:=kp _ _ hC;have y2:(Aa C::bm).contains (.ref C)=true:=by simp
 unfold isInstance
 repeat (first|with_reducible refine Bi hget ?_|(with_reducible refine DS hC2 ?_; rw[y2])|wp_step)
 show AF _ _ (Ec (.ref C) _) _ _ _;refine(EL G2 hi).at ?_;refine CA (AE ((bind_fn G2 _ hf).at ?_));refine AE (Au (hq h2 (h.objs.size+1) kp (CV _) ⟨_,hget⟩) (fun r s' hr=>?_) fun _ _ x=>x);obtain⟨rfl,hQ⟩:=hr
 wp_walk
 exact hQ
theorem aLC {Q:AB→AD→Prop}(G:K.In h)(z:a5R K C=true)(hi:Ag K (.ref C) "__init__" = some (some (.ref fI)))(hf:Cq K (.ref fI)=some (.type "function"))
  (hq:∀ h' e,(∀ b o,h.get? b=some o→h'.get? b=some o)→h.objs.size≤e→XNh e C h' →
   AF (AI prog w) (A.under (.builtin "type.__call__" ⟨.ref C::rest,[]⟩)) (call (.ref fI) (.ref e::rest)) (fun r s'=>r=.none∧Q (.ref e) s') E ⟨h',g,d,t,os⟩) (hrest:rest.length≤sizeLine) :
  AF (AI prog w) A (call (.ref C) rest) Q E ⟨h,g,d,t,os⟩:=by
 obtain⟨bm,N,nm,q,bs,sn,sub,ab,col,dd,k0,k1,k2,k3,k5,hC,T,_⟩:=wG G z;have y1:=tc_lookup;have y2:=tc_bind (.ref C);have y3:(⟨h,g,d,t,os⟩:AD).TypeIs (.ref C) "type" := ⟨_,hC,rfl⟩;refine DN (codeAny_of_tree ?_);show AF _ _ (callAny (.ref C) _) _ _ _
 repeat (any_goals (first|assumption|with_reducible refine Bi hC ?_|wp_step))
 refine⟨rfl,?_⟩;exact codeAny_call_builtin_at (F4 _ (by decide +kernel)) entry_typeCall (wpAny_check_type_call_sub hC (aMI G z hi hf hq hrest))
end
end L2
namespace L2
open PySem PySem.Spec PyProof.Rows Builtin Builtin.ObjectAttr
section
variable {prog:AQ}{w:AK}{A:AU}{E:AB→AD→Prop}{s:AD}{K:Fg}{C x:AA}
theorem aK7 {rest:List AB}{Q:AB→AD→Prop}(G:K.In s.heap)(z:a5R K C=true)(hx:XNh x C s.heap)
  (h:∀ h',(∀ b o,b≠x→s.heap.get? b=some o→h'.get? b=some o)→XNh x C h'→Q .none { s with heap:=h' }) (hz:rest.length≤sizeLine) :
  AF (AI prog w) A (call (.builtin "ValueError.__init__") (.ref x::rest)) Q E s:=by
 obtain⟨bm,N,nm,q,bs,sn,sub,ab,col,dd,k0,k1,k2,k3,k5,hC,T,_⟩:=wG G z;have FB:=Gp;obtain⟨hh,g,d,t,os⟩:=s;obtain⟨t0,hx⟩:=hx;dsimp only at hC T hx h;refine DN (Eh FB.init.plain FB.initEntry (wpAny_check_init_subT FB T hC hx rfl ?_));have hx2:=AZ { cls:=.type "tuple", data:=.seq rest.toArray } hx
 wp_walk
 refine h _ (fun b o nb q=>?_) ⟨hh.objs.size,?_⟩
 ·rw[CW _ _ (Am nb)];exact AZ _ q
 ·rw[DH _ hx2 rfl];rfl
theorem aPG {f:Str}{v:AB}{Q:Unit→AD→Prop}(G:K.In s.heap)(z:a5R K C=true)(hs:Ag K (.ref C) "__setattr__" = some (some (.builtin "object.__setattr__")))(hn:Ag K (.ref C) f=some none)(hx:XNh x C s.heap)
  (h:∀ h' t',(∀ b o,b≠x→s.heap.get? b=some o→h'.get? b=some o)→XFh x C (some s.heap.objs.size) h'→h'.Ns1 s.heap.objs.size (fun y=>if y=f then some v else none)→Q () { s with heap:=h',toks:=t' }) :
  AF (AI prog w) A (setAttr (.ref x) f v) Q E s:=by
 obtain⟨bm,N,nm,q,bs,sn,sub,ab,col,dd,k0,k1,k2,k3,k5,hC,T,hl⟩:=wG G z;have SF:=PySem.F.store_ValueError;obtain⟨t0,hx⟩:=hx;obtain⟨hh,g,d,t,os⟩:=s;dsimp only at hC T hx h G;have J:FD hh x _ C none:=⟨hx,rfl,rfl,trivial⟩;refine set_plain G J hs ?_;have ho:(Aa C::bm).contains (.type "object")=true:=by rw[DT,T.hasType (by decide:vmro.contains (.type "object")=true),Eg]
 have rl:∀ self:AB,refuseLoop self "__setattr__" bm=pure ():=fun self=>by
  clear hC ho hl
  induction T with
  | base=>exact SF.passes self
  | own _ _ _ _ ih=>rw[refuseLoop_ref]; exact ih
 have hm:FE (AI prog w) hh (mroOf (.ref C)) (.ref C::bm):=fun A Q E s k q=>wpAny_mroOf_exc (k _ _ hC) q;have hin:FE (AI prog w) hh (isInstance (.ref x) (.type "object")) true:=J.type.andThen fun A Q E s k q=>DS (k _ _ hC) (by rw[ho]; exact q);refine Eh SF.slot.plain SF.entry (@PySem.W.check_slot (AI prog w) _ _ ⟨hh,g,d,t+1,os⟩ "object.__setattr__" "object" "__setattr__" (.ref x) [.str f t,v] [] _ SF.kind SF.split hin (SF.args (.ref x) (.str f t) v) ?_);rw[osa_eq,refuse_eq];refine AE (AE (J.type.at (AE (hm.at ?_))));rw[refuseLoop_ref,rl];refine AR (AE (J.type.at (AE ((EL G hn).at (AE (AR ?_))))));unfold storeInOwnDict;generalize hsd:storeInDict=sd
 repeat (first|with_reducible refine Bi hx ?_|with_reducible refine Bi hC ?_|wp_step)
 subst hsd;have hx1:(hh.push { cls:=.type "dict", data:=.dict #[] }).get? x=some { cls:=.ref C,data:=.fields #[.ref t0,.none,.none,.none,.bool false,.none] }:=AZ _ hx;have nx:x≠hh.objs.size:=Aw (AY hx);generalize he:((hh.push { cls:=.type "dict", data:=.dict #[] }).update x fun o=>{ cls:=o.cls,dict:=some hh.objs.size,data:=o.data,slots:=o.slots })=h1;have x1:h1.get? x=some { cls:=.ref C,dict:=some hh.objs.size,data:=.fields #[.ref t0,.none,.none,.none,.bool false,.none] }:=by rw[← he]; exact DH _ hx1 rfl
 have d1:h1.get? hh.objs.size=some { cls:=.type "dict", data:=.dict #[] }:=by rw[← he]; exact(Gq _ _ _ _ nx.symm).trans (AG.get?_push_at rfl rfl)
 have k1:∀ b o,b≠x→hh.get? b=some o→h1.get? b=some o:=fun b o nb q=>by rw[← he]; exact(Gq _ _ _ _ nb).trans (AZ _ q)
 have n1:h1.Ns hh.objs.size (fun _=>none):=⟨_,#[],_,d1,rfl,fun e z=>absurd z (by simp),fun _=>rfl⟩;unfold storeInDict newKeyGuard;refine AE (AR (AE (wpAny_nsSet1 (AG.Ns1.of_empty n1) fun h' n2 sb=>?_)));obtain⟨oD,esD,epD,hoD,hdD,hcD⟩:=n2.count (Within.cons f v Within.nil);refine AE (wpAny_lookBehind hoD (by rw[hdD]; exact pastItsLine_dict (Ac hcD (by rw[Af,Cm,Bv]; omega))) ?_);exact AR (h h' _ (fun b o nb q=>(sb.2 b (Aw (AY q))).trans (k1 b o nb q)) ⟨t0,(sb.2 x nx).trans x1⟩ n2)
end
theorem aF8 {H:Hp}{a:AA}{o:HO}(h:H a=some o):upd H a o=H:=by
 funext b
 unfold upd
 split
 ·rename_i z; rw[z]; exact h.symm
 ·rfl
section
variable {X:Cx}{pins:List (AA×Obj)}{σ:St}{H:Hp}{s:AD}
theorem Inv.xset {x C d:AA}{f:Str}{y:V}{v:AB}{h':AG}{t':Nat}(I:Inv X pins σ H s)(hx:H x=some (XN x C))(hd:s.heap.objs.size≤d)(ne:d≠x)(k:∀ b o,b≠x→s.heap.get? b=some o→h'.get? b=some o)
  (xf:XFh x C (some d) h') (n:h'.Ns1 d (fun z=>if z=f then some v else none)) (r:RelV y v):Inv X pins σ (upd (upd H d (.xd [(f,y)])) x (XF x C (some d))) { s with heap:=h',toks:=t' }:=by
 have fd:H d=none:=I.hok.fresh hd;have nd:∀{b:AA} {o:Obj},s.heap.get? b=some o→b≠d:=fun{b o} q z=>absurd (AY q) (by rw[z]; exact not_lt.mpr hd);have up:∀{b:AA},b≠x→b≠d→(upd (upd H d (.xd [(f,y)])) x (XF x C (some d))) b=H b:=fun{b} a c=>by rw[bA a,bA c]
 have nx:∀{b:AA} {o:HO},H b=some o→o≠XN x C→b≠x:=fun{b o} q z e=>by rw[e,hx] at q; cases q; exact z rfl
 have ndd:∀{b:AA} {o:HO},H b=some o→b≠d:=fun{b o} q e=>by rw[e,fd] at q; cases q
 refine I.un ⟨fun b o q n _ _=>k b o (fun z=>by rw[z,hx] at n; cases n) q,fun b o q n _ _=>⟨o.slots,k b o (fun z=>by rw[z,hx] at n; cases n) q⟩,fun b o q n _=>?_,fun b o q _=>?_,fun b xs q=>?_,fun b o u q=>?_,fun b ps q=>?_⟩ fun b o q=>?_
 ·rw[up (fun z=>by rw[z,hx] at n; cases n) (nd q)]; exact n
 ·by_cases z:b=x
  ·obtain⟨_,q⟩:=xf;exact⟨_,z▸q⟩
  ·exact⟨o,k b o z q⟩
 ·rw[up (nx q fun z=>nomatch z) (ndd q)]; exact q
 ·rw[up (nx q fun z=>nomatch z) (ndd q)]; exact q
 ·exact⟨#[],by rw[up (nx q fun z=>nomatch z) (ndd q),q,Array.append_empty]⟩
 ·by_cases z:b=x
  ·subst z;rw[aW] at q
   cases q
   exact aSJ xf
  ·rw[bA z] at q
   by_cases z2:b=d
   ·subst z2;rw[aW] at q
    cases q
    refine⟨_,n,fun g=>?_⟩;show RelO (Bh g [(f,y)]) _
    by_cases e:g=f
    ·subst e;simp only[Bh,beq_self_eq_true,if_true];exact r
    ·have e2:(g==f)=false:=beq_eq_false_iff_ne.mpr e;simp only[Bh,e2,if_neg e];exact trivial
   ·rw[bA z2] at q;refine(I.hok b o q).stay (fun c u hc q1=>k c u (fun e=>?_) q1) (fun c q1=>?_) fun c xs q1=>?_
    ·rcases hc with hc|hc
     ·exact z (hc.symm.trans e)
     ·rw[e,hx] at hc; cases hc
    ·rw[up (nx q1 fun z=>nomatch z) (ndd q1)]; exact q1
    ·rw[up (nx q1 fun z=>nomatch z) (ndd q1)]; exact q1
end
section
variable {X:Cx}{C D0:AA}{lx f:Str}{lp ap cp p p1 pos pos':Pos}{e1 e2 o value:AJ}{t:TA}{ta tv:TE}
def aNH (C:AA)(t:TA):TS:=fun D σ H=>t σ H fun vs H1=>∃ x v,vs=[.ref x,v]∧H1 x=some (XN x C)∧D.nx σ H1
theorem a76 {pl:Sem Bool}(hg:Gl X lx)(hm:X.mg lx=some (.ref D0))(hsp:EN X.K (.ref D0) "__getattribute__" = some (some (.builtin "type.__getattribute__")))(hr:readsIn X.K D0 (.type "type")=true)
  (hc:findCls X.K (.ref D0) (.type "type") "__init__" = some (.val (.builtin "ValueError.__init__"))) (z:a5R X.K C=true) (ha:PA X [e1,e2] t)
  (hd:(lx==("__debug__" : Str))=false:=by decide) (hs:Br (.Call (.Attribute (.Name lx lp) "__init__" ap) [e1,e2] [] cp) none p.line X.env=pure false:=by rfl) (hst:AX [e1,e2] X.env=[(false,eval e1 X.env),(false,eval e2 X.env)]:=by rfl)
  (ht:eval (.Call (.Attribute (.Name lx lp) "__init__" ap) [e1,e2] [] cp) X.env=(do
   let ov←eval (.Name lx lp) X.env
   EU ap.atName
   let (f,first)←DJ [ov] (EZ ov "__init__" pl)
   Dk cp f first (BG cp (AX [e1,e2] X.env)) (Dl cp (Dm [] X.env))):=by rfl) :
  PS X (.Expr (.Call (.Attribute (.Name lx lp) "__init__" ap) [e1,e2] [] cp) p) (aNH C t):=by
 intro pins s σ H D I h;refine Fh ?_ I.quiet hs;refine Ey (pl:=pl) (rC I hg hm ?_ hd) ht;refine PySem.W.method_cls I.kIn hsp (PySem.W.cls_value I.kIn hr hc rfl ?_);have hh:=ha cp pins { s with toks:=s.toks+1 } σ H _ (I.tok _) h;show AF _ _ (Dk cp (.builtin "ValueError.__init__") [] (BG cp (AX [e1,e2] X.env)) []) _ _ _;rw[hst] at hh ⊢;refine Do rfl (Dp (Au hh (fun us s1 y=>?_) fun _ _ y=>y));obtain⟨vs,H1,I1,r,x,v,rfl,hx,q⟩:=y;obtain⟨u1,u2,rfl,r1,_⟩:=vals2 r
 cases r1
 refine aK7 I1.kIn z (show ObjOk X.prog X.w _ s1.heap x (XN x C) from I1.hok x _ hx).1 (fun h' k xn=>⟨σ,H1,?_,q⟩) (by rw[Bv]; simp);have I2:=I1.write (x:=x) (e:=x) (o:=XN x C) (h':=h') (t':=s1.toks) (by rw[hx]; exact True.intro) (.inl rfl) (fun b u nb q=>k b u nb q) (let ⟨_,q⟩:=xn; ⟨_,q⟩) (aPV xn);rw[aF8 hx] at I2;exact I2
def aSK (C:AA)(f:Str)(ta tv:TE):TS:=fun D σ H=>tv σ H fun y H1=>ta σ H1 fun ox H2=>∃ x,ox=.ref x∧H2 x=some (XN x C)∧∀ d,H2 d=none→d≠x→D.nx σ (upd (upd H2 d (.xd [(f,y)])) x (XF x C (some d)))
theorem aBW (z:a5R X.K C=true)(hsa:Ag X.K (.ref C) "__setattr__" = some (some (.builtin "object.__setattr__")))(hn:Ag X.K (.ref C) f=some none)(ha:PE X o ta)(hv:PE X value tv)
  (hs:Br value (some (.Attribute o f pos')) pos.line X.env=pure false:=by rfl):PS X (.Assign [.Attribute o f pos'] value pos) (aSK C f ta tv):=by
 intro pins s σ H D I h;refine GR (thn (hv pins s σ H _ I h) fun u s1 ⟨y,H1,I1,ry,q⟩=>thn (ha pins s1 σ H1 _ I1 q) fun ov s2 ⟨ox,H2,I2,rx,x,ex,hx,q2⟩=>?_) hs;subst ex
 cases rx
 refine aPG I2.kIn z hsa hn (show ObjOk X.prog X.w _ s2.heap x (XN x C) from I2.hok x _ hx).1 fun h' t' k xf n=>?_;have ne:s2.heap.objs.size≠x:=CM (I2.hok.lt hx);exact⟨σ,_,I2.xset hx (AV _) ne k xf n ry,q2 _ (I2.hok.fresh (AV _)) ne⟩
def aWH (m:AC)(ta:TE):TE:=fun σ H Q=>ta σ H fun x H1=>∃ i:Int,x=.int i∧i.natAbs.log2<1920∧(m++txI i).length≤sizeLine∧Q (.str (m++txI i)) H1
theorem a7H {m:AC}{k:Nat}(ha:PE X e1 ta)(hz:m.length≤1000:=by decide):PE X (.JoinedStr [.Constant (.str m) k p,.FormattedValue e1 (-1) none p1] pos) (aWH m ta):=by
 intro pins s σ H Q I h;have key:∀ t:Nat,AF (AI X.prog X.w) X.A (eval (.FormattedValue e1 (-1) none p1) X.env) (fun v s1=>∃ i:Int,(∃ t2,v=DI (txI i) t2)∧(m++txI i).length≤sizeLine∧∃ H1,Inv X pins σ H1 s1∧Q (.str (m++txI i)) H1) X.xe { s with toks:=t }:=fun t=>by
  refine wpAny_FormattedValue_plain (thn (ha pins _ σ H _ (I.tok t) h) fun v s1 ⟨x,H1,I1,r1,i,e,hi,hm,q1⟩=>?_);subst e;obtain⟨t,rfl⟩:=r1;exact wpAny_formatField_int hi ⟨i,⟨_,rfl⟩,hm,H1,I1.tok _,q1⟩
 refine wpAny_JoinedStr ?_;show AF _ _ (eval (.Constant (.str m) k p) X.env) _ _ _;refine E8 ⟨m,_,rfl,?_,?_⟩
 ·rw[empty_app,Bv];exact Ac hz (by decide)
 show AF _ _ (eval (.FormattedValue e1 (-1) none p1) X.env) _ _ _;refine Au (key _) (fun v s1 z=>?_) fun _ _ z=>z;obtain⟨i,⟨t2,rfl⟩,hm,H1,I1,q⟩:=z;refine⟨txI i,_,rfl,?_,?_⟩
 ·rw[empty_app]; exact hm
 ·rw[empty_app];exact⟨hm,.str _,H1,I1.tok _,⟨_,rfl⟩,q⟩
theorem aK8 {M:CP}{A:AU}{E:AB→AD→Prop}{s:AD}{env:Env}{K:Fg}{x:Sem AB}{Q:Flow→AD→Prop}(z:a5R K C=true)(hh:A.handled=none)
  (h:AF M A x (fun v s1=>∃ e D,v=.ref e∧K.In s1.heap∧XFh e C D s1.heap∧E (.ref e) s1) E s):AF M A (raiseStmt env (some x) none) Q E s:=by
 unfold raiseStmt;refine AE (Au h (fun v s1 h1=>?_) fun _ _ x=>x);obtain⟨e,D,rfl,G,⟨t0,he⟩,hE⟩:=h1;obtain⟨bm,N,nm,q,bs,sn,sub,ab,col,dd,k0,k1,k2,k3,k5,hC,T,_⟩:=wG G z;have y:(Aa C::bm).contains (.type "BaseException")=true:=by rw[DT,T.hasType (by decide:vmro.contains (.type "BaseException")=true),Eg]
 obtain⟨hp,g,d,tk,os⟩:=s1;dsimp only at hC he
 repeat (first|with_reducible refine Bi he ?_|with_reducible refine Bi hC ?_|(with_reducible refine DS hC ?_; rw[y])|wp_step)
 exact wpAny_raiseNew_none hh hE
def aRC (C:AA)(f:Str):Sp:=fun vs H Q _=>∃(x:AA) (i:Int),vs=[.ref x,.int i]∧H x=some (XN x C)∧i.natAbs<1000∧∀ d,H d=none→d≠x→Q .non (upd (upd H d (.xd [(f,.int i)])) x (XF x C (some d)))
def a6I (C:AA)(f:Str)(E:XK)(t:TA):TS:=fun _ σ H=>t σ H fun vs H1=>∃ i:Int,vs=[.int i]∧i.natAbs<1000∧∀ d,H1 d=none→E (.ref C) (some d) (upd H1 d (.xd [(f,.int i)]))
theorem aBC {E:XK}{fI:AA}{fd:An}{ps:List Str}{k:Nat}{x:Str}{e0:AJ}{np cpos:Pos}
  (hxe:∀(pins:List (AA×Obj)) (σ:St) (H:Hp) (s:AD) (e:AA) (D:Option AA),Inv X pins σ (upd H e (XF e C D)) s→H e=none→X.s₀.heap.get? e=none→E (.ref C) D H→X.xe (.ref e) s)
  (hex:X.ex=[]) (hcalm:X.calm=true) (hg:Gl X x) (hm:X.mg x=some (.ref C)) (z:a5R X.K C=true) (hi:Ag X.K (.ref C) "__init__" = some (some (.ref fI))) (hf:Cq X.K (.ref fI)=some (.type "function"))
  (F:FnOk X.prog X.w X.K X.mg X.base CX0 k fI fd ps (aRC C f)) (hr:Room (k+1) X.A) (hb:Binds X.K fd ps []) (ha:PA X [e0] t)
  (he:AX [e0] X.env=[(false,eval e0 X.env)]:=by rfl) (hd:(x==("__debug__" : Str))=false:=by decide) :
  PS X (.Raise (some (.Call (.Name x np) [e0] [] cpos)) none pos) (a6I C f E t):=by
 intro pins s σ H D I h;rw[arm_exec_Raise];refine AE (DK (aK8 z (I.ok.hd hcalm) (AE (Au (wpAny_Call_ofName (rC I hg hm ?_ hd)) (fun v s3 h3=>AE (DK (AR h3))) fun _ _ x=>x))));have hh:=ha cpos pins s σ H _ I h;unfold Dk;rw[he] at hh ⊢;refine AE (CA (Dp (Au hh (fun us s2 y=>AE (DK ?_)) fun _ _ x=>x)));obtain⟨vs,H1,I1,r,i,rfl,hz,q⟩:=y;obtain⟨u,rfl,ru⟩:=vals1 r;obtain⟨bm,N,nm,qn,bs,sn,sub,ab,col,dd,k0,k1,k2,k3,k5,hC,T,_⟩:=wG I1.kIn z;obtain⟨hp,g,d,tk,os⟩:=s2;dsimp only at hC;refine AE (wpAny_keeperOf_exc hC ?_);refine AE (aLC I1.kIn z hi hf (fun h' e kp hle xn=>?_) (by rw[Bv]; simp));have fe:H1 e=none:=I1.hok.fresh hle;have I2:Inv X pins σ (upd H1 e (XN e C)) ⟨h',g,d,tk,os⟩:=I1.laid (t':=tk) (fun b u q=>kp b u q) hle (aPV xn);have hbn:=hb ⟨h',g,d,tk,os⟩ [.ref e,u] I2.kIn (by rw[Bb]; exact(F.len [.ref e,.int i] (upd H1 e (XN e C)) (fun _ _=>True) (fun _ _ _=>True) ⟨e,i,rfl,aW,hz,fun _ _ _=>trivial⟩));rw[Bb] at hbn;refine DN (Cy (F.run (X.A.under (.builtin "type.__call__" ⟨[.ref C,u],[]⟩)) X.stack ⟨h',g,d,tk,os⟩ (upd H1 e (XN e C)) ⟨[.ref e,u],[]⟩ [.ref e,u] [.ref e,.int i] (fun v H2=>v=.non∧∃ dd,H1 dd=none∧dd≠e∧H2=upd (upd H1 dd (.xd [(f,.int i)])) e (XF e C (some dd))) (fun _ _ _=>False) ?_ (I2.env0.make C [u] []) hbn (.cons rfl (.cons ru .nil)) ⟨e,i,rfl,aW,hz,fun dd h1 h2=>⟨rfl,dd,?_,h2,?_⟩⟩) fun r s' hq=>?_)
 ·exact hr.make C [u] []
 ·rw[bA h2] at h1; exact h1
 ·funext b
  unfold upd
  split
  ·rfl
  ·split<;>rfl
 ·cases r with
  | error ev=>exact A6 hq
  | ok fl=>
   cases fl with
   | ret v=>
    obtain⟨v',H2,I3,rv,rfl,dd,fd,ne,rfl⟩:=I2.after hq;obtain rfl:v=BS:=rv;refine⟨rfl,AE (CA (wpAny_point (AR ?_)))⟩;refine⟨e,some dd,rfl,I3.kIn,(show ObjOk X.prog X.w _ s'.heap e (XF e C (some dd)) from I3.hok e _ aW).1,hxe pins σ _ s' e (some dd) I3 (by rw[bA (Am ne)]; exact fe) ?_ (q dd fd)⟩
    cases e0:X.s₀.heap.get? e with
    | none=>rfl
    | some o=>
     obtain⟨o',q'⟩:=I1.base.there e o e0 (by rw[hex]; exact fun z=>nomatch z);exact absurd (AY q') (not_lt.mpr hle)
   | next=>exact A6 hq
   | brk=>exact A6 hq
   | cont=>exact A6 hq
end
end L2
namespace L2
open PySem PySem.Spec PyProof.Rows Builtin Builtin.ObjectAttr
structure XCl (K:Fg)(C:AA):Prop where
 ex:a5R K C=true
 l1:Ag K (.ref C) "__class__" = some (some (.builtin "object.__class__"))
 l2:Ag K (.ref C) "__getattribute__" = some (some (.builtin "BaseException.__getattribute__"))
 l3:Ag K (.ref C) "__getattr__" = some none
theorem XCl.kit {K:Fg}{a C:AA}{D:Option AA}(z:XCl K C):PySem.W.KitX K (.ref a) (.ref C) (XDh a C D) where
 ty:=fun M h _ ⟨o,_,q,c,_⟩=>c▸(FE.ld q).andThen .now
 it:=fun M h G _=>by
  obtain⟨bm,N,nm,q,bs,sn,sub,ab,col,dd,k0,k1,k2,k3,k5,hC,T,_⟩:=wG G z.ex;intro A Q E s k r;unfold isType loadHead;exact AE (wpAny_loadPart (k _ _ hC) (AR r))
 ne:=fun h tp dd its n sl G htp=>by
  obtain⟨bm,N,nm,q,bs,sn,sub,ab,col,dd,k0,k1,k2,k3,k5,hC,T,_⟩:=wG G z.ex;refine E4.mpr fun q=>?_;have e:C=tp:=Aa.inj (beq_iff_eq.mp q);subst e;rw[hC] at htp;have z2:=congrArg Obj.data (Option.some.inj htp)
  cases z2
 ca:=fun{prog w A E Q s} G p k=>by
  obtain⟨bm,N,nm,q,bs,sn,sub,ab,col,dd,k0,k1,k2,k3,k5,hC,T,_⟩:=wG G z.ex;obtain⟨hh,g,d,t,os⟩:=s;obtain⟨o,_,q,c,_⟩:=p;exact aJO GB.ga hC (T.hasType (by decide)) (T.hasType (by decide)) (Lk.of G z.l1) (Lk.of G z.l2) (Lk.of G z.l3) q c k
def aQY (K:Fg):List V→Hp→VK→Prop:=fun xs H Q=>∃(ea C:AA) (D:Option AA) (c:V) (b:Bool),xs=[.ref ea,c]∧H ea=some (XD ea C D)∧XCl K C ∧
 ((∃ u,(∀ v,RelV c v→v=u)∧AS K (.ref C) u=some b)∨∃(tp:AA) (cs:List V) (us:List AB),c=.ref tp∧H tp=some (.tup cs)∧(∀ vs,Vals cs vs→vs=us)∧Co K (.ref C) us=some b)∧Q (.bl b) H
theorem pA {X:Cx}:qX X (.builtin "isinstance") (aQY X.K):=by
 intro pins s σ H xs us Q I r h;obtain⟨ea,C,D,c,b,rfl,hE,z,hc,q⟩:=h
 cases r with
 | cons r1 r=>
  cases r with
  | cons r2 r=>
   cases r
   have e1:=(show _=Aa ea from r1);subst e1;obtain⟨hx,_,_⟩:=(show ObjOk X.prog X.w H s.heap ea (XD ea C D) from I.hok ea _ hE);rcases hc with⟨u,hu,hk⟩|⟨tp,cs,us,rfl,ht,hu,hk⟩
   ·rw[hu _ r2];exact Bm z.kit I.kIn hx hk (fun z=>nomatch z) fun tk=>⟨.bl b,H,I.tok _,rfl,q⟩
   ·have e2:=(show _=Aa tp from r2);subst e2;obtain⟨_,its,rv,o,h1,h2,n,h3⟩:=(show ObjOk X.prog X.w H s.heap tp (.tup cs) from I.hok tp _ ht);rw[hu _ rv] at h3;obtain⟨oc,od,dt,sl⟩:=o;dsimp only at h2 h3;subst h2 h3;exact PySem.W.kia_tup z.kit I.kIn hx h1 hk (fun z=>nomatch z) fun tk=>⟨.bl b,H,I.tok _,rfl,q⟩
section
variable {prog:AQ}{w:AK}{A:AU}{E:AB→AD→Prop}{s:AD}{K:Fg}{C a:AA}
theorem aJF {f:Str}{v:AB}{o od:Obj}{b:Bool}{Q:AB→AD→Prop}(G:K.In s.heap)(z:XCl K C)(J:FD s.heap a o C (some od))(hf:PySem.W.findObj K C (some od) f=some (.value v))(hv:handedIn v=true)
  (h:Q v { s with toks:=s.toks+1 }):AF (AI prog w) A (EY (.ref a) f b) Q E s:=by
 obtain⟨bm,N,nm,q,bs,sn,sub,ab,col,dd,k0,k1,k2,k3,k5,hC,T,_⟩:=wG G z.ex;obtain⟨hh,g,d,t,os⟩:=s;dsimp only at hC G J h;have hx:=J.at_
 have hc:=J.cls;have y1:=GB.ga.bind (.ref a);have y0:(b&&onTheHeap (Ci "BaseException.__getattribute__"))=false:=by cases b<;>rfl
 have y2:(Ci "BaseException.__getattribute__" == Ci "object.__getattribute__")=false:=by decide +kernel
 have y3:(onTheHeap (Aa C)&&Ci "BaseException.__getattribute__" == Ci "object.__getattribute__")=false:=by rw[y2]; rfl
 have l2:=Lk.of (prog:=prog) (w:=w) G z.l2;have l3:=Lk.of (prog:=prog) (w:=w) G z.l3;have ht:∀ t,(⟨hh,g,d,t,os⟩:AD).heap=hh:=fun _=>rfl;unfold EY getAttrBy
 repeat (any_goals (first|assumption|(with_reducible refine Bi hx ?_; rw[hc])|with_reducible refine l2.at ?_|with_reducible refine l3.at ?_|wp_step))
 refine Eh GB.ga.plain F.entry_bexc_ga (a7P hC (T.hasType (by decide)) hx hc ?_);refine AE (AR (AE (AR (AE (J.type.at (AE ((PySem.W.looks_find G J hf).at ?_)))))));refine AR ?_;have hv2:=PySem.W.handedOut_of hv
 repeat (any_goals (first|assumption|rw[hv2]|wp_step))
end
end L2
namespace L2
open PySem PySem.Spec PyProof.Rows
theorem Fun.ok2 {P:AQ}{w:AK}{K:Fg}{mg:Mg}{base:AG}{x qual:Str}{st:AL}{f:AA}{fd:An}{N ps:List Str}{k:Nat}{sp:Sp}(F:Fun K x qual st f fd)(S:FnScope N ps (aQ st))(len:∀ vs H Q E,sp vs H Q E→vs.length=ps.length)
  (hb:∀(cdv:AB) (A:AU) (outer:List Env) (s:AD) (H:Hp) (vs:List V) (Q:VK) (E:XK),Room k (A.deeper (Bw qual (aQ st) s.heap.objs.size f cdv))→sp vs H Q E →
   ∃ t,PSs (aBQ (CX2 P w) P w K mg base N qual (aQ st) f cdv A outer s H E) (iT st) t∧t { nx:=fun _ H'=>Q .non H',rt:=Q } (start N vs) H):FnOk P w K mg base (CX2 P w) (k+1) f fd ps sp:=by
 obtain⟨oc,od,kV,doc,pm,an,cdv,ct,osl,rfl,lk,hcd⟩:=F.ex;exact aRA lk hcd S len fun A outer s H vs Q E hr hsp=>hb cdv A outer s H vs Q E hr hsp
end L2
namespace L2.VS
open PySem PySem.Spec PyProof.Rows
section
variable {P0:AA→Hp→Prop}{A:Nat→Bool}
abbrev XO:=Option (Str×D)
def xoD:XO→D
 | none=>.none
 | some (n,d)=>.tuple [.str n,d]
def a2L (C:AA)(o:XO):Bx where
 P:=fun _ _ _ _=>False
 mono:=fun _ h=>h
 loc:=fun _ h=>h
 dom:=fun h=>A6 h
 uniq:=fun h=>A6 h
 nt:=fun h=>A6 h
 view:=some (.tuple [.int (C:Nat),xoD o])
 vok:=fun h=>A6 h
theorem aFS {C C':AA}{o o':XO}(h:Rv.box (a2L C o)=.box (a2L C' o')):C=C'∧o=o':=by
 have h1:=congrArg Bx.view (Rv.box.inj h);simp only[a2L,Option.some.injEq,AH.tuple.injEq,GC,Ch.injEq,and_true] at h1;refine⟨Int.ofNat.inj h1.1,?_⟩;have h2:=h1.2
 cases o with
 | none=>cases o' with
  | none=>rfl
  | some p=>cases h2
 | some p=>cases o' with
  | none=>cases h2
  | some q=>
   obtain⟨n,d⟩:=p;obtain⟨n2,d2⟩:=q;simp only[xoD,AH.tuple.injEq,GC,Ad.injEq,and_true] at h2;rw[h2.1,h2.2]
def XPost (F:Fra P0)(G:Hp)(X0:XK)(C:AA):XO→Prop
 | none=>∀ G' H',Same G G'→Rf F G' H'→X0 (.ref C) none H'
 | some (n,d)=>∀ D x G' H',Same G G'→Rf F G' H'→G' D=some (.xd [(n,x)])→Dt G' x d→X0 (.ref C) (some D) H'
theorem XPost.same {F:Fra P0}{G G':Hp}{X0:XK}{C:AA}(g:Same G G'):∀{o:XO},XPost F G X0 C o→XPost F G' X0 C o
 | none,h=>fun G2 H2 s=>h G2 H2 (g.trans s)
 | some _,h=>fun D x G2 H2 s=>h D x G2 H2 (g.trans s)
def VSX (X0:XK)(P0:AA→Hp→Prop)(A:Nat→Bool)(t:TS)(m:MS):Prop:=∀(F:Fra P0) (Γ:En) (σ:St) (G H:Hp) (E:Ends) (Qm:Fl→Prop),R F Γ σ G H→m Γ Qm→(∀ fl,Qm fl→Post F A σ G E fl) →
 (∀ C o,Qm (.rt (.box (a2L C o)))→XPost F G X0 C o)→t E σ H
def VOX (X0:XK)(P0:AA→Hp→Prop)(t:TE)(m:MO):Prop:=∀(F:Fra P0) (Γ:En) (σ:St) (G H:Hp) (Q:VK) (Qm:Rv→En→Prop),R F Γ σ G H→m Γ Qm →
 (∀ rv Γ' r G' H',Qm rv Γ'→Same G G'→R F Γ' σ G' H'→RvO F G' H' r rv→Apart F Γ' σ G' H' r rv→Q r H')→(∀ C o Γ',Qm (.box (a2L C o)) Γ'→XPost F G X0 C o)→t σ H Q
variable {X0:XK}
theorem a1B {t:TS}{m:MS}(h:VSA P0 A t m):VSX X0 P0 A t m:=fun F Γ σ G H E Qm r hm k _=>h F Γ σ G H E Qm r hm k
theorem sE {t u:TS}{a b:MS}(ha:VSX X0 P0 A t a)(hb:VSX X0 P0 A u b):VSX X0 P0 A (aRL t u) (cI a b):=by
 intro F Γ σ G H E Qm r m k kx;refine ha F Γ σ G H _ _ r m (fun fl q=>?_) fun C o q=>kx C o q
 cases fl with
 | nx Γ1=>exact fun σ1 G1 H1 s1 r1 e1=>hb F Γ1 σ1 G1 H1 E Qm r1 q (fun fl q=>(k fl q).same s1 e1) fun C o q=>(kx C o q).same s1
 | rt rv=>exact k _ q
 | bk Γ1=>exact k _ q
 | ct Γ1=>exact k _ q
theorem aFV {c:TT}{t u:TS}{mc:MT}{a b:MS}(hc:VTT P0 c mc)(ha:VSX X0 P0 A t a)(hb:VSX X0 P0 A u b):VSX X0 P0 A (aRI c t u) (mIf mc a b):=by
 intro F Γ σ G H E Qm r m k kx;refine hc F Γ σ G H _ _ r m fun k1 Γ1 G1 H1 m1 s1 r1=>?_
 cases k1 with
 | true=>exact a0T (ha F Γ1 σ G1 H1 E Qm r1 m1 (fun fl q=>(k fl q).same s1 fun _ _=>rfl) fun C o q=>(kx C o q).same s1)
 | false=>exact a2O (hb F Γ1 σ G1 H1 E Qm r1 m1 (fun fl q=>(k fl q).same s1 fun _ _=>rfl) fun C o q=>(kx C o q).same s1)
theorem aN0 {wi:TI}{g:TG}{t:TS}{mi:MD}{mg:MG}{b:MS}(hi:VI P0 wi mi)(hg:VG P0 A g mg)(hb:VSX X0 P0 A t b):VSX X0 P0 A (aTD wi g t) (a9X mi mg b):=by
 intro F Γ σ G H E Qm r m k kx;refine hi F Γ σ G H _ _ r m fun ds Γ1 J G1 H1 m1 s1 r1 wk=>?_;refine⟨fun i n σ2 H2=>n=ds.length-i∧i≤ds.length∧∃ Γ2 G2,Same G1 G2∧R F Γ2 σ2 G2 H2∧forL mg b (ds.drop i) Γ2 Qm∧∀ i,A i=false→σ2[i]?=σ[i]?,⟨ds.length,by simp,Be _,Γ1,G1,Same.refl _,r1,m1,fun _ _=>rfl⟩,?_⟩;rintro i n σ2 H2 ⟨rfl,hle,Γ2,G2,s2,r2,m2,e2⟩;obtain⟨go,stop⟩:=wk F Γ2 σ2 G2 H2 s2 r2
 by_cases hlt:i<ds.length
 ·refine .inr ⟨(go i ds[i] (by simp[hlt])).1,fun σ' H'=>ds.length-(i+1)<ds.length-i∧i+1≤ds.length∧∃ Γ3 G3,Same G1 G3∧R F Γ3 σ' G3 H'∧forL mg b (ds.drop (i+1)) Γ3 Qm∧∀ i,A i=false→σ'[i]?=σ[i]?,fun σ' H' h=>⟨_,h.1,rfl,h.2⟩,fun x H' hy=>?_⟩;obtain⟨G3,s3,r3,d3⟩:=(go i ds[i] (by simp[hlt])).2 x H' hy;rw[FR hlt] at m2;refine hg F Γ2 σ2 G3 H' x _ _ _ r3 d3 m2 fun Γ4 σ4 m4 r4 e4=>?_;refine hb F Γ4 σ4 G3 H' _ _ r4 m4 (fun fl q=>?_) fun C o q=>(kx C o q).same (s1.trans (s2.trans s3))
  cases fl with
  | nx Γ5=>exact fun σ5 G5 H5 s5 r5 e5=>⟨by omega,hlt,Γ5,G5,(s2.trans s3).trans s5,r5,q,fun i hi=>((e5 i hi).trans (e4 i hi)).trans (e2 i hi)⟩
  | ct Γ5=>exact fun σ5 G5 H5 s5 r5 e5=>⟨by omega,hlt,Γ5,G5,(s2.trans s3).trans s5,r5,q,fun i hi=>((e5 i hi).trans (e4 i hi)).trans (e2 i hi)⟩
  | bk Γ5=>exact fun σ5 G5 H5 s5 r5 e5=>k _ q _ _ _ ((s1.trans s2).trans (s3.trans s5)) r5 fun i hi=>((e5 i hi).trans (e4 i hi)).trans (e2 i hi)
  | rt rv=>exact fun v G5 H5 s5 r5=>k _ q _ _ _ ((s1.trans s2).trans (s3.trans s5)) r5
 ·have e:i=ds.length:=by omega
  subst e;rw[D7] at m2;exact .inl ⟨stop,k _ m2 _ _ _ (s1.trans s2) r2 e2⟩
theorem aR2 {t:TE}{m:MO}(h:VOX X0 P0 t m):VSX X0 P0 A (aPC t) (fK m):=by
 intro F Γ σ G H E Qm r hm k kx;exact h F Γ σ G H _ _ r hm (fun rv Γ1 x G1 H1 m1 s1 r1 d1 _=>k _ m1 _ _ _ s1 r1.fr d1) fun C o _ q=>kx C o q
def o5 (rv:Rv)(a:Prop)(b:Prop):Prop:=(∀ C o,rv=.box (a2L C o)→a)∧((∀ C o,rv≠.box (a2L C o))→b)
theorem RvO.noX {F:Fra P0}{G H:Hp}{r:V}{rv:Rv}(h:RvO F G H r rv):∀ C o,rv≠.box (a2L C o):=fun C o e=>by
 subst e;obtain⟨_,h,_⟩:=h;exact h
def aGP (i:Nat)(m:MO):MS:=fun Γ Q=>m Γ fun rv Γ1=>o5 rv (Q (.rt rv)) (Q (.nx (Γ1.set i rv.sl)))
def a7N (m:MO):MS:=fun Γ Q=>m Γ fun rv Γ1=>o5 rv (Q (.rt rv)) (Q (.nx Γ1))
theorem aHS {i:Nat}{t:TE}{m:MO}(h:VOX X0 P0 t m)(hA:A i=true:=by rfl):VSX X0 P0 A (aHM t (zR i)) (aGP i m):=by
 intro F Γ σ G H E Qm r hm k kx;exact h F Γ σ G H _ _ r hm (fun rv Γ1 x G1 H1 m1 s1 r1 d1 a1=>k _ (m1.2 d1.noX) _ _ _ s1 (r1.set d1 a1) (zG hA)) fun C o _ q=>kx C o (q.1 C o rfl)
theorem aCV {t:TE}{m:MO}(h:VOX X0 P0 t m):VSX X0 P0 A (aGW t) (a7N m):=by
 intro F Γ σ G H E Qm r hm k kx;exact h F Γ σ G H _ _ r hm (fun rv Γ1 x G1 H1 m1 s1 r1 d1 a1=>k _ (m1.2 d1.noX) _ _ _ s1 r1 fun _ _=>rfl) fun C o _ q=>kx C o (q.1 C o rfl)
def a0J (C:AA)(n:Str)(m:MD):MS:=fun Γ Q=>m Γ fun ds _=>∃ i:Int,ds=[.int i]∧i.natAbs<1000∧Q (.rt (.box (a2L C (some (n,.int i)))))
theorem wW {C:AA}{n:Str}{t:TA}{m:MD}(h:VD P0 t m):VSX X0 P0 A (a6I C n X0 t) (a0J C n m):=by
 intro F Γ σ G H E Qm r hm k kx;refine h F Γ σ G H _ _ r hm fun ds Γ1 rs G1 H1 m1 s1 r1 d1=>?_;obtain⟨i,rfl,hz,q⟩:=m1
 cases d1 with
 | cons a b=>
  cases a
  cases b
  exact⟨i,rfl,hz,fun d hd=>kx _ _ q d (.int i) _ _ (s1.trans (fM (r1.fr.gfresh hd) _)) (r1.new hd).fr aW (.int _)⟩
def spX (P0:AA→Hp→Prop)(n:Nat)(f:Fm):Sp:=fun vs H Q E=>∃(F:Fra P0) (as:List Sl) (Qm:Rv→Prop),F.H0=H∧Rf F F.G0 H∧Al (qQ F F.G0) vs as∧as.length=n∧f as Qm ∧
 (∀ rv r G' H',Qm rv→Rf F G' H'→RvO F G' H' r rv→Q r H')∧∀ C o,Qm (.box (a2L C o))→XPost F F.G0 E C o
theorem tW {n:Nat}{f:Fm}{t:TA}{m:MA}(h:VA P0 t m):VOX X0 P0 (aDU (spX P0 n f) [] X0 t) (bQ n f m):=by
 intro F Γ σ G H Q Qm r hm k kx;refine h F Γ σ G H _ _ r hm fun as Γ1 rs G1 H1 m1 s1 r1 d1=>?_;refine⟨F.sub r1.fr,as,fun rv=>Qm rv Γ1,rfl,F.subRf r1.fr,?_,m1.1,m1.2,fun rv v G2 H2 q f2 v2=>?_,fun C o q=>?_⟩
 ·rw[Bb];exact Al.imp' (fun a s h=>by cases s<;>exact h) d1
 ·obtain⟨r2,s2⟩:=r1.after f2;refine k _ _ _ _ _ q (s1.trans s2) r2 ?_ ?_
  ·cases rv with
   | val d=>exact v2
   | own ds=>
    obtain⟨p,vs,e,e1,e2,e3,e4⟩:=v2;exact⟨p,vs,e,r1.fr.fresh e1,e2,e3,e4⟩
   | box B=>
    obtain⟨fp,e1,e2⟩:=v2;exact⟨fp,e1,fun b hb=>⟨r1.fr.fresh (e2 b hb).1,(e2 b hb).2⟩⟩
  ·have kp:∀ b o,F.H0 b=none→G1 b=none→H1 b=some o→G2 b=none∧H2 b=some o:=fun b o h1 h2 h3=>⟨(f2.g0 b _ h3).trans h2,f2.h0 b _ h3 (F.pen_ne h1)⟩
   cases rv with
   | val d=>trivial
   | own ds=>
    obtain⟨p,vs,rfl,e1,e2,e3,e4⟩:=v2;exact Apart.new r1 e1 s2 kp
   | box B=>
    obtain⟨fp,e1,e2⟩:=v2;exact Apart.newB r1 (fun f hf b hb=>by rw[B.uniq hf e1] at hb; exact(e2 b hb).1) s2 kp
 ·have z:=(kx C o _ q).same s1
  cases o with
  | none=>exact fun G2 H2 s2 f2=>z G2 H2 s2 (r1.after f2).1.fr
  | some p=>exact fun D x G2 H2 s2 f2=>z D x G2 H2 s2 (r1.after f2).1.fr
theorem aK0 {F:Fra P0}{n k:Nat}{N:List Str}{vs:List V}{as:List Sl}(hN:N.length=n+k)(rf:Rf F F.G0 F.H0)(pr:Al (qQ F F.G0) vs as)(hl:as.length=n):R F (as++Ar k .no) (start N vs) F.G0 F.H0:=by
 have hlen:vs.length=as.length:=Al.length pr;have get:∀{vs:List V} {as:List Sl} {i:Nat} {s:Sl},Al (qQ F F.G0) vs as→as[i]?=some s→∃ v,vs[i]?=some v∧qQ F F.G0 v s:=by
  intro vs as i s pr
  induction pr generalizing i with
  | nil=>intro e; simp at e
  | cons a b ih=>
   cases i with
   | zero=>intro e; simp at e; subst e; exact⟨_,rfl,a⟩
   | succ i=>intro e; simpa using ih (i:=i) (by simpa using e)
 have at_:∀{i:Nat} {s:Sl},(as++Ar k Sl.no)[i]?=some s→s≠.no→∃ v,(start N vs)[i]?=some (some v)∧qQ F F.G0 v s:=by
  intro i s e hne
  by_cases hi:i<as.length
  ·rw[BN hi] at e;obtain⟨v,ev,av⟩:=get pr e;refine⟨v,?_,av⟩;unfold start;rw[BN (by rw[AO]; omega),Ao,ev];rfl
  ·rw[Bj (by omega),B5] at e
   split at e
   ·cases e; exact absurd rfl hne
   ·cases e
 have r:R F (as++Ar k .no) (start N vs) F.G0 F.H0:=by
  refine R.of rf ?_ (fun i s e=>?_) (fun i B e=>?_) (fun i j x y _ e _=>?_)
  ·unfold start;simp only[Ah,CT,AO];omega
  ·cases s with
   | no=>trivial
   | val d=>
    obtain⟨v,ev,av⟩:=at_ e (by intro z; cases z)
    exact⟨v,ev,av⟩
   | own ds=>
    obtain⟨v,ev,av⟩:=at_ e (by intro z; cases z)
    exact av.elim
   | pen=>
    obtain⟨v,ev,p,rfl,ep⟩:=at_ e (by intro z; cases z)
    exact⟨p,ev,ep⟩
   | con q=>
    obtain⟨v,ev,av⟩:=at_ e (by intro z; cases z)
    have av:v=.ref q:=av;rw[av] at ev;exact ev
   | pub B=>
    obtain⟨v,ev,av⟩:=at_ e (by intro z; cases z)
    exact⟨v,ev,av⟩
   | box B=>
    obtain⟨v,ev,av⟩:=at_ e (by intro z; cases z)
    exact av.elim
  ·obtain⟨v,ev,av⟩:=at_ e (by intro z; cases z)
   exact av.elim
  ·obtain⟨v,ev,av⟩:=at_ e (by intro z; cases z)
   exact av.elim
 exact r
theorem aDG {n k:Nat}{N:List Str}{t:TS}{b:MS}{vs:List V}{H:Hp}{Q:VK}{E:XK}(h:VSX E P0 aI8 t b)(hN:N.length=n+k)(hs:spX P0 n (mFn k b) vs H Q E) :
  t { nx:=fun _ H'=>Q .non H',rt:=Q } (start N vs) H:=by
 obtain⟨F,as,Qm,rfl,rf,pr,hl,hm,q,qx⟩:=hs;refine h F _ _ _ _ _ _ (aK0 hN rf pr hl) hm (fun fl hq=>?_) fun C o hq=>qx C o hq
 cases fl with
 | nx Γ=>exact fun σ G' H' _ r' _=>q _ _ _ _ hq r'.fr .non
 | rt rv=>exact fun v G' H' _ f' v'=>q _ _ _ _ hq f' v'
 | bk Γ=>exact hq.elim
 | ct Γ=>exact hq.elim
theorem aJT {n:Nat}{f:Fm}{ps:List Str}(h:ps.length=n):∀ vs H Q E,spX P0 n f vs H Q E→vs.length=ps.length:=by
 rintro vs H Q E ⟨F,as,Qm,_,_,pr,hl,_⟩;rw[Al.length pr,hl,h]
theorem _root_.L2.Fun.okE {P:AQ}{w:AK}{K:Fg}{mg:Mg}{base:AG}{x qual:Str}{st:AL}{f:AA}{fd:An}{N ps:List Str}{k n j:Nat}{b:MS}
  (F:Fun K x qual st f fd) (S:FnScope N ps (aQ st)) (hn:ps.length=n) (hN:N.length=n+j)
  (hbody:∀(cdv:AB) (A:AU) (outer:List Env) (s:AD) (H:Hp) (E:XK),Room k (A.deeper (Bw qual (aQ st) s.heap.objs.size f cdv)) →
   ∃ t,PSs (aBQ (CX2 P w) P w K mg base N qual (aQ st) f cdv A outer s H E) (iT st) t∧VSX E P0 aI8 t b):FnOk P w K mg base (CX2 P w) (k+1) f fd ps (spX P0 n (mFn j b)):=by
 refine F.ok2 S (aJT hn) fun cdv A outer s H vs Q E hr hs=>?_;obtain⟨t,h1,h2⟩:=hbody cdv A outer s H E hr;exact⟨t,h1,aDG h2 hN hs⟩
end
end L2.VS
namespace L2
open PySem PySem.Spec PyProof.Rows
def XP2 (X:Cx)(pins:List (AA×Obj))(W:List (Option V)→XK)(e:AB)(s':AD):Prop:=∃(σ1:List (Option V)) (H1:Hp) (s1:AD),Inv X pins σ1 H1 s1∧CX2 X.prog X.w X.stack H1 s1 (W σ1) e s'
def PX2 (X:Cx)(sts:List AL)(t:TX):Prop:=
 ∀(pins:List (AA×Obj)) (s:AD) (σ:List (Option V)) (H:Hp) (D:Ends) (W:List (Option V)→XK),Inv X pins σ H s→t D W σ H→AF (AI X.prog X.w) X.A (execs sts X.env) (SP X pins D) (XP2 X pins W) s
def trW (K:Fg)(D0:AA)(i j:Nat)(D:Ends):List (Option V)→XK:=fun σ1 c o H'=>∃ C,c=.ref C∧XCl K C∧CL K C (.ref D0)=some true ∧
 ∀ ea,H' ea=none→D.nx (((σ1.set i (some (.ref ea))).set j (some (.ref ea))).set i none) (upd H' ea (XD ea C o))
section
variable {X:Cx}{k:Nat}{f D0:AA}{fd:An}{ps:List Str}{sp:Sp}{x m lx ex cx:Str}{p cp ep lp p1 p2 p3 hp pos pos' apos:Pos}{o e:AJ}{es:List AJ}{ta:TE}{t:TA}{i j:Nat}
theorem a8E {pins:List (AA×Obj)}{σ:St}{H1:Hp}{s1 s':AD}{D:Ends}{ev:AB}(hs:X.stack=X.env::X.outer)(hf:X.env.frame=some X.env.locals)
  (hgL:Gl X lx) (hmL:X.mg lx=some (.ref D0)) (zD:XCl X.K D0)
  (hN:X.N.Nodup) (hi:X.N[i]?=some ex) (hl:X.env.kindOf ex=some .local) (hv:Vis X.env.scope ex) (hL:Loc X.env.scope ex) (hj:X.N[j]?=some cx) (hc:Loc X.env.scope cx)
  (hfi:X.fn ex=true∨X.env.scope.names.lookup ex=some .local) (hfj:X.fn cx=true∨X.env.scope.names.lookup cx=some .local) (hdl:(lx==("__debug__" : Str))=false) (hde:(ex==("__debug__" : Str))=false) (hcd:(ex==("__classdict__" : Str))=false)
  (hsw2:Br (.Name ex p2) (some (.Name cx p1)) p3.line X.env=pure false) (I1:Inv X pins σ H1 s1)
  (hq:CX2 X.prog X.w X.stack H1 s1 (trW X.K D0 i j D σ) ev s') :
  AF (AI X.prog X.w) X.A (Ds ev X.env) (fun _ s₂=>AF (AI X.prog X.w) X.A (setFlight ev none) (fun _ s₃=>AF (AI X.prog X.w) X.A (handleBy ev X.env [.ExceptHandler (some (.Name lx lp)) (some ex) [.Assign [.Name cx p1] (.Name ex p2) p3] hp]) (SP X pins D) X.xe s₃) X.xe s₂) X.xe s':=by
 obtain⟨ea,C',dct,B,H',rfl,os,bare,fl,u,hok,C,hC',zC,zs,hD⟩:=hq
 cases hC'
 obtain⟨h3,g3,d3,t3,os3⟩:=s';dsimp only at os bare fl u;subst os;have fl':=fl;rw[hs] at fl';refine aHF (by rw[← hs]; exact I1.ok.frames) hf fl' fun h4 y4 ups4=>?_;refine a1Y (s:=⟨h4,g3,d3,t3,s1.os⟩) y4 fun h5 y5 ups5=>?_;have bK:∀ b o,X.base.get? b=some o→h5.get? b=some o:=fun b o q=>y5.kb b o (u.keep b o (I1.bs b o q).1 (I1.bs b o q).2 fun z=>by
  rw[(I1.stack.mem z).1] at q; cases q)
 have G5:X.K.In h5:=I1.ok.mod.kin.keeps bK;refine wpAny_handleBy_cons (codeAny_handlers_test (Ff I1.ok.kind hgL (GO (by rw[I1.ok.glob]; exact I1.mod.glob.keeps bK) hmL ?_) hdl)) (by intro q; cases q);obtain⟨bm,Nn,nm,qn,bs,sn,sub,ab,col,dd,k0,k1,k2,k3,k5,hCo,T,lC⟩:=wG G5 zC.ex;obtain⟨bm',Nn',nm',qn',bs',sn',sub',ab',col',dd',j0,j1,j2,j3,j5,hDo,T',lD⟩:=wG G5 zD.ex;have hin:(Aa C'::bm).contains (.ref D0)=true:=by
  unfold CL clsIn at zs;rw[lC] at zs;exact Option.some.inj zs
 obtain⟨oe,_,_,_,_,hoe,hoc,_⟩:=y5.tr;refine a9A hCo hDo hoe hoc (T'.hasType (by decide)) hin (codeAny_handlers_suite_as ?_);refine a1Y (s:=⟨h5,g3,d3,t3,s1.os⟩) y5 fun h6 y6 ups6=>?_;rw[← hs] at y6;obtain⟨hne,I6⟩:=I1.caught2 (g:=g3) (d:=d3) (t:=t3) u hok bare y6 ((ups4.trans ups5).trans ups6);refine zB I6 hN hi hL (v:=.ref ea) rfl (fun s7 I7 _=>?_) hfi;have body:PSs (X.marked (.ref ea)) [.Assign [.Name cx p1] (.Name ex p2) p3] (aHM (uA i) (zR j)):=aL (cB (X:=X.marked (.ref ea)) hN hj hc (aIR (X:=X.marked (.ref ea)) hi hv hde hcd) hsw2 hfj);have hil:i<σ.length:=by rw[I1.len]; exact(Aq.mp hi).1
 refine Au (body pins s7 _ _ { nx:=fun σ' H2=>σ'=(σ.set i (some (.ref ea))).set j (some (.ref ea))∧H2=upd H' ea (XD ea C' dct),rt:=fun _ _=>False } (I7.marked _) ?_) (fun fl s8 z=>?_) fun _ _ z=>z.elim
 ·exact⟨_,BX hil,rfl,rfl⟩
 ·cases fl with
  | next=>
   obtain⟨σ',H2,I8,rfl,rfl⟩:=z;have I8:=I8.unmarked I1.ok;obtain⟨m,hm8⟩:=I8.loc;refine wpAny_nameGoes_keeps hl hm8.1 (by rw[I1.ok.kind]; rfl) fun h9 v hn9 hs9=>?_;exact⟨_,_,I8.goes hN hi hl hm8 hn9 hs9,hD ea hne⟩
  | ret u=>obtain⟨_,_,_,_,_,z⟩:=z; exact z.elim
  | brk=>obtain⟨_,_,_,z⟩:=z; exact z.elim
  | cont=>obtain⟨_,_,_,z⟩:=z; exact z.elim
def aTM (i:Nat)(sp:Sp)(t:TA):TX:=fun D W σ H=>t σ H fun vs H1=>sp vs H1 (fun r H2=>D.nx (σ.set i (some r)) H2) (W σ)
theorem aTU (F:FnOk X.prog X.w X.K X.mg X.base (CX2 X.prog X.w) k f fd ps sp)(hr:Room k X.A)(hg:Gl X m)(hm:X.mg m=some (.ref f))(hk:Bc X.K (.ref f)=true)(hb:Binds X.K fd ps [])(ha:PA X.nox (e::es) t)
  (hN:X.N.Nodup) (hi:X.N[i]?=some x) (hx:Loc X.env.scope x) (hf:X.fn x=true∨X.env.scope.names.lookup x=some .local)
  (hdb:(m==("__debug__" : Str))=false:=by decide)
  (hs:Br (.Call (.Name m p) (e::es) [] cp) (some (.Name x pos')) pos.line X.env=pure false:=by rfl)
  (he:AX (e::es) X.env=(false,eval e X.env)::AX es X.env:=by rfl) (hpl:(BG cp (AX es X.env)).any (·.1)=false:=by rfl) :
  PX2 X [.Assign [.Name x pos'] (.Call (.Name m p) (e::es) [] cp) pos] (aTM i sp t):=by
 intro pins s σ H D W I h;refine EV (wpAny_Assign_Name (Q:=fun f s1=>match f with|.next=>AF (AI X.prog X.w) X.A (execs [] X.env) (SP X pins D) (XP2 X pins W) s1|f=>SP X pins D f s1) (Cz (rC I hg hm ?_ hdb)) hs);refine EJ (h₀:=X.base) I.ok.mod.kin hk (Au (ha cp pins s σ H _ (I.wish _) h) (fun us s1 z=>?_) fun _ _ z=>z.elim) he hpl;obtain⟨vs,H1,I1,r,q⟩:=z;have I1:=I1.unwish;refine⟨I1.kIn,?_⟩;have hl2:us.length=ps.length:=by rw[← r.length]; exact F.len _ _ _ _ q
 have hbn:=hb s1 us I1.kIn (by rw[Bb]; exact hl2);rw[Bb] at hbn;refine DN (Cy (F.run X.A X.stack s1 H1 ⟨us,[]⟩ us vs _ _ hr I1.env0 hbn r q) fun r s' hq=>?_)
 cases r with
 | error ev=>exact⟨σ,H1,s1,I1,hq⟩
 | ok fl=>
  cases fl with
  | ret u=>
   obtain⟨v3,H3,I3,rv3,q3⟩:=I1.after hq;exact rH I3 hN hi hx rv3 (fun s4 I4=>Cv ⟨_,H3,I4,q3⟩) hf
  | next=>exact A6 hq
  | brk=>exact A6 hq
  | cont=>exact A6 hq
def aAY (sp:Sp)(t:TA):TX:=fun D W σ H=>t σ H fun vs H1=>sp vs H1 (fun _ H2=>D.nx σ H2) (W σ)
theorem aGR (F:FnOk X.prog X.w X.K X.mg X.base (CX2 X.prog X.w) k f fd ps sp)(hr:Room k X.A)(hg:Gl X m)(hm:X.mg m=some (.ref f))(hk:Bc X.K (.ref f)=true)(hb:Binds X.K fd ps [])(ha:PA X.nox (e::es) t)
  (hdb:(m==("__debug__" : Str))=false:=by decide)
  (hs:Br (.Call (.Name m p) (e::es) [] cp) none pos.line X.env=pure false:=by rfl)
  (he:AX (e::es) X.env=(false,eval e X.env)::AX es X.env:=by rfl) (hpl:(BG cp (AX es X.env)).any (·.1)=false:=by rfl) :
  PX2 X [.Expr (.Call (.Name m p) (e::es) [] cp) pos] (aAY sp t):=by
 intro pins s σ H D W I h;refine EV (Fh (Q:=fun f s1=>match f with|.next=>AF (AI X.prog X.w) X.A (execs [] X.env) (SP X pins D) (XP2 X pins W) s1|f=>SP X pins D f s1) (Cz (rC I hg hm ?_ hdb)) I.quiet hs);refine EJ (h₀:=X.base) I.ok.mod.kin hk (Au (ha cp pins s σ H _ (I.wish _) h) (fun us s1 z=>?_) fun _ _ z=>z.elim) he hpl;obtain⟨vs,H1,I1,r,q⟩:=z;have I1:=I1.unwish;refine⟨I1.kIn,?_⟩;have hl2:us.length=ps.length:=by rw[← r.length]; exact F.len _ _ _ _ q
 have hbn:=hb s1 us I1.kIn (by rw[Bb]; exact hl2);rw[Bb] at hbn;refine DN (Cy (F.run X.A X.stack s1 H1 ⟨us,[]⟩ us vs _ _ hr I1.env0 hbn r q) fun r s' hq=>?_)
 cases r with
 | error ev=>exact⟨σ,H1,s1,I1,hq⟩
 | ok fl=>
  cases fl with
  | ret u=>
   obtain⟨v3,H3,I3,rv3,q3⟩:=I1.after hq;exact Cv ⟨_,H3,I3,q3⟩
  | next=>exact A6 hq
  | brk=>exact A6 hq
  | cont=>exact A6 hq
theorem aP1 {c:AJ}{a b:List AL}{tc:TT}{t u:TX}(hc:PT X.nox c tc)(ha:PX2 X a t)(hb:PX2 X b u):PX2 X [.If c a b pos] (aV6 tc t u):=by
 intro pins s σ H D W I h;refine EV (wpAny_If (Au (hc pins s σ H _ (I.wish _) h) (fun d s1 z=>?_) fun _ _ z=>z.elim));obtain⟨H1,I1,q1⟩:=z;have I1:=I1.unwish;have fin:∀{sts:List AL},AF (AI X.prog X.w) X.A (execs sts X.env) (SP X pins D) (XP2 X pins W) s1→AF (AI X.prog X.w) X.A (execs sts X.env) (fun f s2=>match f with|.next=>AF (AI X.prog X.w) X.A (execs [] X.env) (SP X pins D) (XP2 X pins W) s2|f=>SP X pins D f s2) (XP2 X pins W) s1:=fun z=>thn z fun f s2 q=>by
  cases f with
  | next=>exact Cv q
  | ret v=>exact q
  | brk=>exact q
  | cont=>exact q
 cases d with
 | true=>exact fin (ha pins s1 σ H1 D W I1 q1)
 | false=>exact fin (hb pins s1 σ H1 D W I1 q1)
def aQT (K:Fg)(D0:AA)(i j:Nat)(t:TX):TS:=fun D σ H=>t D (trW K D0 i j D) σ H
theorem aLH {body:List AL}{t:TX}(hbody:PX2 X body t)(hs:X.stack=X.env::X.outer)(hf:X.env.frame=some X.env.locals)
  (hgL:Gl X lx) (hmL:X.mg lx=some (.ref D0)) (zD:XCl X.K D0)
  (hN:X.N.Nodup) (hi:X.N[i]?=some ex) (hl:X.env.kindOf ex=some .local) (hv:Vis X.env.scope ex) (hL:Loc X.env.scope ex) (hj:X.N[j]?=some cx) (hc:Loc X.env.scope cx)
  (hfi:X.fn ex=true∨X.env.scope.names.lookup ex=some .local) (hfj:X.fn cx=true∨X.env.scope.names.lookup cx=some .local)
  (hdl:(lx==("__debug__" : Str))=false:=by decide) (hde:(ex==("__debug__" : Str))=false:=by decide) (hcd:(ex==("__classdict__" : Str))=false:=by decide)
  (hsw2:Br (.Name ex p2) (some (.Name cx p1)) p3.line X.env=pure false:=by rfl) :
  PS X (.Try body [.ExceptHandler (some (.Name lx lp)) (some ex) [.Assign [.Name cx p1] (.Name ex p2) p3] hp] [] [] pos) (aQT X.K D0 i j t):=by
 intro pins s σ H D I h;refine wpAny_Try_except (Au (hbody pins s σ H D _ I h) (fun f s1 q=>?_) fun ev s' q=>?_)
 ·cases f with
  | next=>exact Cv q
  | ret v=>exact q
  | brk=>exact q
  | cont=>exact q
 ·obtain⟨σ1,H1,s1,I1,q⟩:=q;exact a8E hs hf hgL hmL zD hN hi hl hv hL hj hc hfi hfj hdl hde hcd hsw2 I1 q
def aNS (K:Fg)(ta:TE)(f:Str):TE:=fun σ H Q=>ta σ H fun x H1=>∃ a C D fs v,x=.ref a∧H1 a=some (XD a C (some D))∧XCl K C∧NoAttr K C f∧CK K C=true∧H1 D=some (.xd fs)∧fs.lookup f=some v∧Q v H1
theorem a1C {f:Str}(he:PE X e ta)(hb:DM e f X.env (eval e X.env)=eval e X.env):PE X (.Attribute e f pos) (aNS X.K ta f):=by
 intro pins s σ H Q I h;refine aB9 hb (thn (he pins s σ H _ I h) fun u s1 ⟨x,H1,I1,rx,a,C,D,fs,v,ex,ea,z,n,hd,eD,l,q⟩=>?_);subst ex;obtain rfl:u=Aa a:=rx;obtain⟨o,vs,ho,hc,hdd,hdt⟩:=(show ObjOk X.prog X.w _ s1.heap a (XD a C (some D)) from I1.hok a _ ea).1;obtain⟨mA,O,r⟩:=(show ObjOk X.prog X.w _ s1.heap D (.xd fs) from I1.hok D _ eD);obtain⟨od,hod,hlk⟩:=a4P O;obtain⟨u,hu,ru⟩:=RelO.some_of (v:=v) (o:=mA f) (by rw[← l]; exact r f);have J:FD s1.heap a o C (some od):=⟨ho,hc,by unfold notCls; rw[hdt],by rw[hdd]; exact hod⟩;exact aJF I1.kIn z J (Fc hd n rfl (by rw[hlk,hu])) (a3Z ru) ⟨v,H1,I1.tok _,ru,q⟩
end
end L2
namespace L2.VS
open PySem PySem.Spec PyProof.Rows
section
variable {P0:AA→Hp→Prop}{A:Nat→Bool}
theorem R.set0 {F:Fra P0}{Γ:En}{σ:St}{G H:Hp}(r:R F Γ σ G H){i:Nat}{x:Option V}{s:Sl}(h:SlF F G H (some x) [] s):R F (Γ.set i s) (σ.set i x) G H:=by
 obtain⟨fps,h1,h2⟩:=r.fps;have back:∀{m z},m≠i→(Γ.set i s)[m]?=some z→Γ[m]?=some z:=fun{m z} hm e=>by rw[BO (Am hm)] at e; exact e
 refine⟨r.fr,by rw[Bk,Bk]; exact r.len,fun j=>if j=i then[] else fps j,fun j s' e=>?_,fun j k s t ej ek hjk b hb hc=>?_⟩
 ·dsimp only
  by_cases hj:j=i
  ·subst hj;have hi:j<Γ.length:=by
    have:=(Aq.mp e).1;simpa using this
   rw[BX hi] at e
   cases e
   rw[if_pos rfl,BX (by rw[← r.len]; exact hi)];exact h
  ·rw[if_neg hj,BO (Am hj)];exact h1 j s' (back hj e)
 ·dsimp only at hb hc
  by_cases hj:j=i
  ·rw[if_pos hj] at hb; cases hb
  ·by_cases hk:k=i
   ·rw[if_pos hk] at hc; cases hc
   ·rw[if_neg hj] at hb;rw[if_neg hk] at hc;exact h2 j k s t (back hj ej) (back hk ek) hjk b hb hc
def aG1 (C:AA)(o:XO):Pb where
 P:=fun v G=>∃ a dct,v=.ref a∧G a=some (XD a C dct)∧∀ n d,o=some (n,d)→∃ dd x,dct=some dd∧G dd=some (.xd [(n,x)])∧Dt G x d
 mono:=fun g h=>let ⟨a,dct,e,h,k⟩:=h; ⟨a,dct,e,g _ _ h,fun n d z=>let ⟨dd,x,e1,e2,e3⟩:=k n d z; ⟨dd,x,e1,g _ _ e2,Dt.same g _ _ e3⟩⟩
def xsp (cs:List AA)(rv:Rv)(a:AA→XO→Prop)(b:Prop):Prop:=(∀ C o,rv=.box (a2L C o)→C∈cs∧a C o)∧((∀ C o,rv≠.box (a2L C o))→b)
theorem aSE {cs:List AA}{d:D}{a:AA→XO→Prop}{b:Prop}(h:b):xsp cs (.val d) a b:=⟨fun _ _ e=>(nomatch e),fun _=>h⟩
theorem aU9 {cs:List AA}{ds:List D}{a:AA→XO→Prop}{b:Prop}(h:b):xsp cs (.own ds) a b:=⟨fun _ _ e=>(nomatch e),fun _=>h⟩
theorem aD0 {cs:List AA}{C:AA}{o:XO}{a:AA→XO→Prop}{b:Prop}(hc:C∈cs)(h:a C o):xsp cs (.box (a2L C o)) a b:=⟨fun C' o' e=>by
 obtain⟨rfl,rfl⟩:=aFS e;exact⟨hc,h⟩,fun n=>absurd rfl (n C o)⟩
theorem a1N {d:D}{a b:Prop}(h:b):o5 (.val d) a b:=⟨fun _ _ e=>(nomatch e),fun _=>h⟩
theorem a1F {ds:List D}{a b:Prop}(h:b):o5 (.own ds) a b:=⟨fun _ _ e=>(nomatch e),fun _=>h⟩
theorem oF {C:AA}{o:XO}{a b:Prop}(h:a):o5 (.box (a2L C o)) a b:=⟨fun _ _ _=>h,fun n=>absurd rfl (n C o)⟩
def enX (i j:Nat)(C:AA)(o:XO)(Γ:En):En:=(Γ.set j (.pub (aG1 C o))).set i .no
def sX (i j:Nat)(cs:List AA)(n:Nat)(f:Fm)(m:MA):MS:=fun Γ Q=>m Γ fun as Γ1=>as.length=n∧f as fun rv=>xsp cs rv (fun C o=>Q (.nx (enX i j C o Γ1))) (Q (.nx Γ1))
def VPX (K:Fg)(D0:AA)(i j:Nat)(P0:AA→Hp→Prop)(A:Nat→Bool)(t:TX)(m:MS):Prop:=∀(F:Fra P0) (Γ:En) (σ:St) (G H:Hp) (D:Ends) (Qm:Fl→Prop),R F Γ σ G H→m Γ Qm→(∀ fl,Qm fl→Post F A σ G D fl)→t D (trW K D0 i j D) σ H
variable {K:Fg}{D0:AA}{i j:Nat}{cs:List AA}
theorem aJX {t:TX}{m:MS}(h:VPX K D0 i j P0 A t m):VSA P0 A (aQT K D0 i j t) m:=fun F Γ σ G H E Qm r hm k=>h F Γ σ G H E Qm r hm k
theorem aSX {c:TT}{t u:TX}{mc:MT}{a b:MS}(hc:VTT P0 c mc)(ha:VPX K D0 i j P0 A t a)(hb:VPX K D0 i j P0 A u b):VPX K D0 i j P0 A (aV6 c t u) (mIf mc a b):=by
 intro F Γ σ G H E Qm r m k;refine hc F Γ σ G H _ _ r m fun k1 Γ1 G1 H1 m1 s1 r1=>?_
 cases k1 with
 | true=>exact a0T (ha F Γ1 σ G1 H1 E Qm r1 m1 fun fl q=>(k fl q).same s1 fun _ _=>rfl)
 | false=>exact a2O (hb F Γ1 σ G1 H1 E Qm r1 m1 fun fl q=>(k fl q).same s1 fun _ _=>rfl)
theorem aNM {F:Fra P0}{Γ1:En}{σ:St}{G G1 H1:Hp}{D:Ends}{Qm:Fl→Prop}{C:AA}{o:XO}(r1:R F Γ1 σ G1 H1)(s1:Same G G1)(zC:XCl K C)(zs:CL K C (.ref D0)=some true)(q:Qm (.nx (enX i j C o Γ1)))
  (k:∀ fl,Qm fl→Post F A σ G D fl) (hij:i≠j) (hA:A i=true) (hB:A j=true):XPost (F.sub r1.fr) G1 (trW K D0 i j D σ) C o:=by
 have fin:∀ dct G2 H2,Rf (F.sub r1.fr) G2 H2→(∀ n d,o=some (n,d)→∃ dd x,dct=some dd∧G2 dd=some (.xd [(n,x)])∧Dt G2 x d)→trW K D0 i j D σ (.ref C) dct H2:=fun dct G2 H2 f2 hx=>by
  refine⟨C,rfl,zC,zs,fun ea hea=>?_⟩;obtain⟨r2,s2⟩:=r1.after f2;have g2:G2 ea=none:=r2.fr.gfresh hea;have sn:Same G2 (upd G2 ea (XD ea C dct)):=fM g2 _;have r3:=r2.new (o:=XD ea C dct) hea;have hB:(aG1 C o).P (.ref ea) (upd G2 ea (XD ea C dct)):=⟨ea,dct,rfl,aW,fun n d z=>by
   obtain⟨dd,x,e1,e2,e3⟩:=hx n d z;exact⟨dd,x,e1,sn _ _ e2,Dt.same sn _ _ e3⟩⟩
  have r4:=(r3.set0 (i:=j) (x:=some (.ref ea)) (s:=.pub (aG1 C o)) ⟨rfl,_,rfl,hB⟩).set0 (i:=i) (x:=none) (s:=.no) rfl;have e:((σ.set i (some (V.ref ea))).set j (some (.ref ea))).set i none=(σ.set j (some (.ref ea))).set i none:=by
   rw[set_comm _ _ hij,set_set]
  rw[e];refine k _ q _ _ _ ((s1.trans s2).trans sn) r4 fun n hn=>?_;have ni:i≠n:=fun z=>by rw[← z,hA] at hn; cases hn
  have nj:j≠n:=fun z=>by rw[← z] at hn; simp_all
  rw[BO ni,BO nj]
 cases o with
 | none=>exact fun G2 H2 s2 f2=>fin none G2 H2 f2 fun n d z=>nomatch z
 | some p=>
  obtain⟨n,d⟩:=p;exact fun D x G2 H2 s2 f2 e1 e2=>fin (some D) G2 H2 f2 fun n' d' z=>by
   cases z
   exact⟨D,x,rfl,e1,e2⟩
theorem aA8 {n:Nat}{f:Fm}{t:TA}{m:MA}(h:VA P0 t m)(hcs:∀ C∈cs,XCl K C∧CL K C (.ref D0)=some true)(hij:i≠j:=by decide)(hA:A i=true:=by rfl)(hB:A j=true:=by rfl) :
  VPX K D0 i j P0 A (aAY (spX P0 n f) t) (sX i j cs n f m):=by
 intro F Γ σ G H D Qm r hm k;refine h F Γ σ G H _ _ r hm fun as Γ1 rs G1 H1 m1 s1 r1 d1=>?_;refine⟨F.sub r1.fr,as,fun rv=>xsp cs rv (fun C o=>Qm (.nx (enX i j C o Γ1))) (Qm (.nx Γ1)),rfl,F.subRf r1.fr,Al.imp' (fun a s h=>by cases s<;>exact h) d1,m1.1,m1.2,fun rv v G2 H2 q f2 v2=>?_,fun C o q=>?_⟩
 ·obtain⟨r2,s2⟩:=r1.after f2;exact k _ (q.2 v2.noX) _ _ _ (s1.trans s2) r2 fun _ _=>rfl
 ·obtain⟨hc,q⟩:=q.1 C o rfl;exact aNM r1 s1 (hcs C hc).1 (hcs C hc).2 q k hij hA hB
def aU1 (i:Nat)(tbl:AA→Option Bool):ME:=fun Γ Q=>∃ C o b,Γ[i]?=some (.pub (aG1 C o))∧tbl C=some b∧Q (.bool b) Γ
theorem aJC {c:V}{u:AB}{tbl:AA→Option Bool}(hu:∀ v,RelV c v→v=u)(h:∀ C b,tbl C=some b→XCl K C∧AS K (.ref C) u=some b) :
  VT P0 (tCB (aQY K) (cQ (uA i) (cQ (tC c) nM))) (aU1 i tbl):=by
 intro F Γ σ G H Q Qm r hm k;obtain⟨C,o,b,e,hb,q⟩:=hm;obtain⟨v,ev,a,dct,rfl,ha,_⟩:=r.sl i _ e;obtain⟨z,hk⟩:=h C b hb;exact⟨_,ev,a,C,dct,c,b,rfl,r.fr.sub _ _ ha,z,.inl ⟨u,hu,hk⟩,k _ _ _ _ _ q (Same.refl _) r (.bl _)⟩
def tCs:List AA→TA
 | []=>nM
 | c::r=>cQ (tC (.ref c)) (tCs r)
theorem aDQ:∀{as:List AA} {σ:St} {H:Hp} {Q:List V→Hp→Prop},Q (as.map V.ref) H→tCs as σ H Q
 | [],_,_,_,h=>h
 | _::r,σ,H,_,h=>aDQ (as:=r) (σ:=σ) (H:=H) h
theorem a4K:∀{as:List AA} {vs:List AB},Vals (as.map V.ref) vs→vs=as.map Aa
 | [],_,.nil=>rfl
 | _::_,_,.cons a b=>by rw[a4K b,show _=Aa _ from a]; rfl
theorem aLZ {as:List AA}{tbl:AA→Option Bool}(hz:as.length≤100)(h:∀ C b,tbl C=some b→XCl K C∧Co K (.ref C) (as.map Aa)=some b) :
  VT P0 (tCB (aQY K) (cQ (uA i) (cQ (aMJ (tCs as)) nM))) (aU1 i tbl):=by
 intro F Γ σ G H Q Qm r hm k;obtain⟨C,o,b,e,hb,q⟩:=hm;obtain⟨v,ev,a,dct,rfl,ha,_⟩:=r.sl i _ e;obtain⟨z,hk⟩:=h C b hb;refine⟨_,ev,aDQ ⟨by rw[AO,Bv]; omega,fun p hp=>?_⟩⟩;have g:=fM (r.fr.gfresh hp) (.tup (as.map V.ref));have r2:=r.new (o:=.tup (as.map V.ref)) hp;exact⟨a,C,dct,_,b,rfl,r2.fr.sub _ _ (g _ _ ha),z,.inr ⟨p,_,_,rfl,aW,fun vs hv=>a4K hv,hk⟩,k _ _ _ _ _ q g r2 (.bl _)⟩
def a9N (i:Nat)(f:Str)(cs:List AA):ME:=fun Γ Q=>∃ C d,Γ[i]?=some (.pub (aG1 C (some (f,d))))∧C∈cs∧Q d Γ
theorem a0Q {f:Str}(h:∀ C∈cs,XCl K C∧NoAttr K C f∧CK K C=true):VT P0 (aNS K (uA i) f) (a9N i f cs):=by
 intro F Γ σ G H Q Qm r hm k;obtain⟨C,d,e,hC,q⟩:=hm;obtain⟨v,ev,a,dct,rfl,ha,hx⟩:=r.sl i _ e;obtain⟨dd,x,rfl,e2,e3⟩:=hx f d rfl;obtain⟨z,n,hd⟩:=h C hC;exact⟨_,ev,a,C,dd,_,x,rfl,r.fr.sub _ _ ha,z,n,hd,r.fr.sub _ _ e2,by simp[Bh],k _ _ _ _ _ q (Same.refl _) r e3⟩
def a8L (i:Nat):ME:=fun Γ Q=>(∃ d,Γ[i]?=some (.val d)∧Q (.bool (isN d)) Γ)∨∃ C o,Γ[i]?=some (.pub (aG1 C o))∧Q (.bool false) Γ
theorem aM1:VT P0 (tOp (fun x y H Q=>y=.non∧Q (.bl (decide (x=.non))) H) (uA i) (tC .non)) (a8L i):=by
 intro F Γ σ G H Q Qm r hm k;rcases hm with⟨d,e,q⟩|⟨C,o,e,q⟩
 ·exact a7O (aB (i:=i)) F Γ σ G H Q Qm r (by unfold aMO aY; rw[e]; exact q) k
 ·obtain⟨v,ev,a,dct,rfl,ha,_⟩:=r.sl i _ e;exact⟨_,ev,rfl,k _ _ _ _ _ q (Same.refl _) r (by simp only[reduceCtorEq,decide_false]; exact .bl _)⟩
end
end L2.VS
namespace L2
open PySem PySem.Spec PyProof.Rows
theorem tx3:∀ n:Fin 1000,(txI ((n.val:Nat):Int)).length≤10∧(txI (-((n.val:Nat):Int))).length≤10:=by decide +kernel
theorem aF2 {i:Int}(h:i.natAbs<1000):(txI i).length≤10:=by
 rcases ER i with⟨m,rfl|rfl⟩
 ·exact(tx3 ⟨m,by omega⟩).1
 ·exact(tx3 ⟨m,by omega⟩).2
theorem a3W {i:Int}(h:i.natAbs<1000):i.natAbs.log2<1920:=by
 by_cases z:i.natAbs=0
 ·rw[z]; decide
 ·exact(EO z).mpr (As (DF h (by decide:1000<2^10)) (Fx (by decide) (by decide)))
theorem aHG {i:Int}{m:AC}(h:i.natAbs<1000)(hm:m.length≤1000:=by decide):(m++txI i).length≤sizeLine:=by
 have:=aF2 h;rw[len_app,Bv];omega
structure CalX (P:AQ)(w:AK)(K:Fg)(mg:Mg)(base:AG)(k:Nat)(x:Str)(ps:List Str)(sp:Sp):Prop where
 ex:∃(f:AA) (fd:An),FnOk P w K mg base (CX2 P w) k f fd ps sp∧mg x=some (.ref f)∧Bc K (.ref f)=true∧Binds K fd ps []
structure Ini (P:AQ)(w:AK)(K:Fg)(mg:Mg)(base:AG)(k:Nat)(C:AA)(f:Str):Prop where
 ex:∃(fI:AA) (fd:An) (ps:List Str),FnOk P w K mg base CX0 k fI fd ps (aRC C f)∧Ag K (.ref C) "__init__" = some (some (.ref fI))∧Cq K (.ref fI)=some (.type "function")∧Binds K fd ps []
section
variable {X:Cx}{j k:Nat}{x m:Str}{ps:List Str}{sp:Sp}{e:AJ}{es:List AJ}{t:TA}{p pos pos' cp np cpos:Pos}{i:Nat}{E:XK}{C:AA}{f:Str}{e0:AJ}
theorem rF (c:CalX X.prog X.w X.K X.mg X.base j x ps sp)(hr:Room k X.A)(hx:vH (CX2 X.prog X.w) X E)(hg:Gl X x)(ha:PA X (e::es) t)(hjk:j≤k:=by decide)
  (hdb:(x==("__debug__" : Str))=false:=by decide) (he:AX (e::es) X.env=(false,eval e X.env)::AX es X.env:=by rfl) (hpl:(BG pos (AX es X.env)).any (·.1)=false:=by rfl) :
  PE X (.Call (.Name x p) (e::es) [] pos) (aDU sp [] E t):=by
 obtain⟨f,fd,F,hm,hk,hb⟩:=c.ex;exact aBS F (hr.mono hjk) hg hm hk hb .nil hx ha hdb he hpl
theorem a72 (c:CalX X.prog X.w X.K X.mg X.base j m ps sp)(hr:Room k X.A)(hg:Gl X m)(ha:PA X.nox (e::es) t)(hjk:j≤k:=by decide)
  (hdb:(m==("__debug__" : Str))=false:=by decide)
  (hs:Br (.Call (.Name m p) (e::es) [] cp) none pos.line X.env=pure false:=by rfl)
  (he:AX (e::es) X.env=(false,eval e X.env)::AX es X.env:=by rfl) (hpl:(BG cp (AX es X.env)).any (·.1)=false:=by rfl) :
  PX2 X [.Expr (.Call (.Name m p) (e::es) [] cp) pos] (aAY sp t):=by
 obtain⟨f,fd,F,hm,hk,hb⟩:=c.ex;exact aGR F (hr.mono hjk) hg hm hk hb ha hdb hs he hpl
theorem rW (c:Ini X.prog X.w X.K X.mg X.base j C f)(hr:Room k X.A)
  (hxe:∀(pins:List (AA×Obj)) (σ:St) (H:Hp) (s:AD) (e:AA) (D:Option AA),Inv X pins σ (upd H e (XF e C D)) s→H e=none→X.s₀.heap.get? e=none→E (.ref C) D H→X.xe (.ref e) s)
  (hex:X.ex=[]) (hcalm:X.calm=true) (hg:Gl X x) (hm:X.mg x=some (.ref C)) (z:XCl X.K C) (ha:PA X [e0] t) (hjk:j+1≤k:=by decide)
  (he:AX [e0] X.env=[(false,eval e0 X.env)]:=by rfl) (hd:(x==("__debug__" : Str))=false:=by decide) :
  PS X (.Raise (some (.Call (.Name x np) [e0] [] cpos)) none pos) (a6I C f E t):=by
 obtain⟨fI,fd,ps,F,hi,hf,hb⟩:=c.ex;exact aBC hxe hex hcalm hg hm z.ex hi hf F (hr.mono hjk) hb ha he hd
end
theorem aR9 {K:Fg}{D0 ns:AA}{dd:Option AA}{nm qn:Str}{bs sub:List AB}{sn:List Str}{ab:Bool}{col:Option Bool}{k0 k1 k2 k3 k5:Option AB}
  (l:K.lookup D0=some ⟨.type "type", dd,.cls ⟨nm,bs,[.ref D0,.type "ValueError", .type "Exception", .type "BaseException", .type "object"],ns,qn,true,sn,sub,ab,col,false⟩,#[k0,k1,k2,k3,some (.builtin "ValueError.__new__"),k5]⟩):a5R K D0=true:=by
 unfold a5R;rw[l];simp[Cp,vmro]
theorem aIQ {K:Fg}{C D0 ns:AA}{dd:Option AA}{nm qn:Str}{bs sub:List AB}{sn:List Str}{ab:Bool}{col:Option Bool}{k0 k1 k2 k3 k5:Option AB}
  (l:K.lookup C=some ⟨.type "type", dd,.cls ⟨nm,bs,[.ref C,.ref D0,.type "ValueError", .type "Exception", .type "BaseException", .type "object"],ns,qn,true,sn,sub,ab,col,false⟩,#[k0,k1,k2,k3,some (.builtin "ValueError.__new__"),k5]⟩)
  (d:excIn K D0 [.type "ValueError", .type "Exception", .type "BaseException", .type "object"] "ValueError.__new__" = true):a5R K C=true:=by
 have hD:Cp K vmro (.ref D0::vmro)=true:=by
  unfold excIn at d
  split at d
  next dd cd sl ho=>
   split at d
   next D bm k0 k1 k2 k3 n k5 hm hs=>
    simp only[BF] at d;unfold Cp;dsimp only;rw[ho];have t2:Cp K vmro vmro=true:=by simp[Cp,vmro]
    simp only[d.1.2,d.2,t2];simp
   next=>cases d
  next=>cases d
 unfold a5R;rw[l];have hD:Cp K vmro [.ref D0,.type "ValueError", .type "Exception", .type "BaseException", .type "object"]=true:=hD;simp[hD]
theorem nP {α:Type}{Φ:α→Prop}:∀ p∈([]:List α),Φ p:=fun _ h=>nomatch h
theorem dO {α:Type}{Φ:α→Prop}{a:α}{r:List α}(h:Φ a)(k:∀ p∈r,Φ p):∀ p∈a::r,Φ p:=fun p hp=>(AT.mp hp).elim (fun e=>e▸h) (k p)
end L2
namespace L2.VS
open PySem PySem.Spec PyProof.Rows
section
variable {P0:AA→Hp→Prop}{A:Nat→Bool}{X0:XK}{K:Fg}{i:Nat}
def aGD (i:Nat)(tb:List (AA×Bool)):ME:=aU1 i fun C=>tb.lookup C
theorem lookup_mem {tb:List (AA×Bool)}{C:AA}{b:Bool}(h:tb.lookup C=some b):(C,b)∈tb:=by
 induction tb with
 | nil=>cases h
 | cons p r ih=>
  obtain⟨a,c⟩:=p;rw[DC] at h
  split at h
  ·rename_i e
   cases h
   rw[beq_iff_eq.mp e];exact Ap
  ·exact Ak _ (ih h)
theorem zK {c:V}{u:AB}{tb:List (AA×Bool)}(hu:∀ v,RelV c v→v=u)(h:∀ p∈tb,XCl K p.1∧AS K (.ref p.1) u=some p.2) :
  VT P0 (tCB (aQY K) (cQ (uA i) (cQ (tC c) nM))) (aGD i tb):=aJC hu fun _ _ e=>h _ (lookup_mem e)
theorem aJ7 {as:List AA}{tb:List (AA×Bool)}(hz:as.length≤100)(h:∀ p∈tb,XCl K p.1∧Co K (.ref p.1) (as.map Aa)=some p.2) :
  VT P0 (tCB (aQY K) (cQ (uA i) (cQ (aMJ (tCs as)) nM))) (aGD i tb):=aLZ hz fun _ _ e=>h _ (lookup_mem e)
theorem aLE {C:AA}{n:Str}{m:MD}{Γ:En}{Q:Fl→Prop}(h:m Γ fun ds _=>∃ i:Int,ds=[.int i]∧i.natAbs<1000∧Q (.rt (.box (a2L C (some (n,.int i)))))):a0J C n m Γ Q:=h
theorem a1W {tb:List (AA×Bool)}{Γ:En}{Q:D→En→Prop}{C:AA}{o:XO}{b:Bool}(h1:Γ[i]?=some (.pub (aG1 C o)))(h2:tb.lookup C=some b)(h:Q (.bool b) Γ):aGD i tb Γ Q:=⟨C,o,b,h1,h2,h⟩
theorem a7Z {f:Str}{cs:List AA}{Γ:En}{Q:D→En→Prop}{C:AA}{d:D}(h1:Γ[i]?=some (.pub (aG1 C (some (f,d)))))(h2:C∈cs)(h:Q d Γ):a9N i f cs Γ Q:=⟨C,d,h1,h2,h⟩
theorem aKI {Γ:En}{Q:D→En→Prop}{d:D}(h1:Γ[i]?=some (.val d))(h:Q (.bool (isN d)) Γ):a8L i Γ Q:=.inl ⟨d,h1,h⟩
theorem aA6 {Γ:En}{Q:D→En→Prop}{C:AA}{o:XO}(h1:Γ[i]?=some (.pub (aG1 C o)))(h:Q (.bool false) Γ):a8L i Γ Q:=.inr ⟨C,o,h1,h⟩
end
section
structure XA where
 nt:AA
 nl:AA
 tm:AA
 rw:AA
def aFO (rv:Rv):Prop:=∀ C o,rv≠.box (a2L C o)
theorem aJD {d:D}:aFO (.val d):=fun _ _ e=>nomatch e
theorem aKR {ds:List D}:aFO (.own ds):=fun _ _ e=>nomatch e
theorem _root_.L2.FnOk.noX2 {P0:AA→Hp→Prop}{P:AQ}{w:AK}{K:Fg}{mg:Mg}{base:AG}{k n:Nat}{f:AA}{fd:An}{ps:List Str}{m m':Fm}(F:FnOk P w K mg base (CX2 P w) k f fd ps (spX P0 n m))
  (hm:∀ as Q,m' as Q→m as fun rv=>aFO rv∧Q rv):FnOk P w K mg base CX0 k f fd ps (spM P0 n m'):=by
 have key:∀ vs H Q E,spM P0 n m' vs H Q E→spX P0 n m vs H Q fun _ _ _=>False:=by
  rintro vs H Q E ⟨F,as,Qm,h1,h2,h3,h4,h5,h6⟩;exact⟨F,as,_,h1,h2,h3,h4,hm _ _ h5,fun rv r G' H' q=>h6 rv r G' H' q.2,fun C o q=>absurd rfl (q.1 C o)⟩
 exact⟨fun vs H Q E h=>F.len vs H Q _ (key _ _ _ _ h),fun A outer s H args us vs Q E hr he hb hv hs=>Cy (F.run A outer s H args us vs Q _ hr he hb hv (key _ _ _ _ hs)) fun r s' hq=>by
  cases r with
  | ok fl=>
   cases fl with
   | ret u=>exact hq
   | next=>exact hq
   | brk=>exact hq
   | cont=>exact hq
  | error e=>
   obtain⟨_,_,_,_,_,_,_,_,_,_,_,z⟩:=hq;exact z.elim⟩
end
end L2.VS
namespace L2
open PySem PySem.Spec PyProof.Rows
section
variable {X:Cx}
def aR8:R2:=fun x y H Q=>∃(a:AC) (n:Int),x=.str a∧y=.int n∧MulOk a n∧Q (.str (Txt.mul a n)) H
theorem aB6:OpR X (Bu .Mult) aR8:=by
 intro pins s σ H x y v u Q I rx ry h;obtain⟨a,n,rfl,rfl,hk,q⟩:=h;obtain⟨t,rfl⟩:=rx;obtain⟨t',rfl⟩:=ry;exact SB.mul hk fun t' k=>⟨.str (Txt.mul a n),H,I.tok _,⟨_,rfl⟩,q⟩
end
end L2
namespace L2.VS
open PySem PySem.Spec PyProof.Rows
section
variable {P0:AA→Hp→Prop}{ta tb:TE}{ma mb:ME}{Γ:En}{Q:D→En→Prop}
def smJ (Q:D→En→Prop)(x y:D)(Γ2:En):Prop:=∃(a:AC) (n:Int),x=.str a∧y=.int n∧MulOk a n∧Q (.str (Txt.mul a n)) Γ2
def smI (mb:ME)(Q:D→En→Prop)(x:D)(Γ1:En):Prop:=mb Γ1 (smJ Q x)
def aER (ma mb:ME):ME:=fun Γ Q=>ma Γ (smI mb Q)
theorem aQ0 (h:ma Γ (smI mb Q)):aER ma mb Γ Q:=h
theorem aSL {x:D}(h:mb Γ (smJ Q x)):smI mb Q x Γ:=h
theorem aOU {a:AC}{n:Int}(hk:MulOk a n)(h:Q (.str (Txt.mul a n)) Γ):smJ Q (.str a) (.int n) Γ:=⟨a,n,rfl,rfl,hk,h⟩
theorem aBZ (ha:VT P0 ta ma)(hb:VT P0 tb mb):VT P0 (tOp aR8 ta tb) (aER ma mb):=by
 intro F Γ σ G H Q Qm r hm k;refine ha F Γ σ G H _ _ r hm fun x Γ1 v G1 H1 m1 g1 r1 d1=>?_;refine hb F Γ1 σ G1 H1 _ _ r1 m1 fun y Γ2 u G2 H2 m2 g2 r2 d2=>?_;obtain⟨a,n,rfl,rfl,hk,q⟩:=m2
 cases d1
 cases d2
 exact⟨a,n,rfl,rfl,hk,k _ _ _ _ _ q (g1.trans g2) r2 (.str _)⟩
end
end L2.VS
namespace L2
open PySem PySem.Spec PyProof.Rows
@[irreducible] def PTd (X:Cx) (c:AJ) (t:TT):Prop:=PT X c t
section
variable {X:Cx}{pos:Pos}{e a b:AJ}{es:List AJ}{te ta tb:TE}{tl:TA}{L rest:List AL}{st:AL}{t u:TS}
theorem fQ {x1}(h:PAd X es tl):PEd X (.Tuple es x1 pos) (aMJ tl):=by
 unfold PEd PAd at *;exact cT h
theorem cM:PAd X [] nM:=by unfold PAd; exact aD
theorem aK (ha:PEd X e te)(hr:PAd X es tl)(hs:AX (e::es) X.env=(false,eval e X.env)::AX es X.env:=by rfl):PAd X (e::es) (cQ te tl):=by
 unfold PEd PAd at *;exact aA ha hr hs
theorem lA {op:Operator}{r:R2}(ho:OpR X (Bu op) r)(ha:PEd X a ta)(hb:PEd X b tb):PEd X (.BinOp a op b pos) (tOp r ta tb):=by
 unfold PEd at *;exact cC ho ha hb
theorem a6K (h:PSd X st t):PSi X [st] t:=by
 unfold PSi PSd at *;exact aL h
theorem aKD:PSi X [] aLD:=by unfold PSi; exact bW
theorem a5G (he:PEd X e te):PSd X (.Return (some e) pos) (aPC te):=by
 unfold PSd PEd at *;exact bM he
theorem aMZ {c:AJ}{tc:TT}(h:PT X c tc):PTd X c tc:=by unfold PTd; exact h
theorem aNO {c:AJ}{a b:List AL}{tc:TT}(hc:PTd X c tc)(ha:PSi X a t)(hb:PSi X b u):PSd X (.If c a b pos) (aRI tc t u):=by
 unfold PSd PSi PTd at *;exact cX hc ha hb
end
end L2
namespace L2
open PySem PySem.Spec PyProof.Rows
namespace VS
variable {P0:AA→Hp→Prop}
end VS
end L2
namespace L2
open PySem PySem.Spec PyProof.Rows
open Builtin Builtin.Str in
theorem a5O (x y z:AC)(t u v k:Tok)(hc:(occurrences x y 0 x.length 1).isEmpty=false)(hy:(y.length==0)=false)(h0:(u==0||v==0)=false)(huv:(u==v)=false)(hyz:(y==z)=false)(hl:tooLong (x.length+(occurrences x y 0 x.length 1).length*z.length)=false) :
  Gives («str.replace» ⟨[.str x t,.str y u,.str z v,.int 1 k],[]⟩) (.str (glued z (partsBetween x (occurrences x y 0 x.length 1) y.length))):=by
 show Gives (if ((occurrences x y 0 x.length 1).isEmpty||(y.length==0&&z.length==0))=true then(do rule "str.replace.nothing"; ret (.str x t)) else(do let same←isSame (.str y u) (.str z v); if same=true then(do rule "str.replace.old-is-new"; ret (.str x t)) else if tooLong (x.length+(occurrences x y 0 x.length 1).length*z.length)=true then unsupported "str.replace:memory" else retStr (glued z (partsBetween x (occurrences x y 0 x.length 1) y.length)))) _;rw[hc,hy,isSame_str_other y z u v h0 huv hyz,hl];exact .of_eq rfl
def a1K (x y z:AC):AC:=AM.Str.glued z (F6 x (CB x y 0 x.length 1) y.length)
section
variable {X:Cx}
@[irreducible] def PEk (X:Cx) (e:AJ) (t:TE):Prop:=∀(pins:List (AA×Obj)) (s:AD) (σ:St) (H:Hp) (Q:VK),Inv X pins σ H s→t σ H Q→AF (AI X.prog X.w) X.A (eval e X.env) (fun v s'=>EP X pins σ Q v s'∧0<s'.toks) X.xe s
@[irreducible] def PEn (X:Cx) (e:AJ) (t:TE):Prop:=∀(pins:List (AA×Obj)) (s:AD) (σ:St) (H:Hp) (Q:VK),0<s.toks→Inv X pins σ H s→t σ H Q→AF (AI X.prog X.w) X.A (eval e X.env) (EP X pins σ Q) X.xe s
def aIV:R2:=fun x y H Q=>∃ a b:AC,x=.str a∧y=.str b∧(a.length==0)=false∧(b.length==0)=false∧(a++b).length≤sizeLine∧Q (.str (a++b)) H
theorem aL6 {a b:AJ}{ta tb:TE}{pos:Pos}(ha:PE X a ta)(hb:PE X b tb):PEk X (.BinOp a .Add b pos) (tOp aIV ta tb):=by
 unfold PEk;intro pins s σ H Q I h;refine wpAny_BinOp (thn (ha pins s σ H _ I h) fun v s1 ⟨x,H1,I1,r1,q1⟩=>thn (hb pins s1 σ H1 _ I1 q1) fun u s2 ⟨y,H2,I2,r2,q2⟩=>?_);obtain⟨a,b,rfl,rfl,ha,hb,hz,q⟩:=q2;obtain⟨t,rfl⟩:=r1;obtain⟨t',rfl⟩:=r2;refine P.add_str ?_;rw[if_neg (ne_true_of_eq_false ha),if_neg (ne_true_of_eq_false hb)];exact⟨hz,⟨.str (a++b),H2,I2.tok _,⟨_,rfl⟩,q⟩,Nat.succ_pos _⟩
theorem aQB {e f:AJ}{es:List AJ}{te tf:TE}{t:TA}(ha:PEk X e te)(hb:PEn X f tf)(hr:PA X es t)(hs:AX (e::f::es) X.env=(false,eval e X.env)::(false,eval f X.env)::AX es X.env:=by rfl):PA X (e::f::es) (cQ te (cQ tf t)):=by
 unfold PEk at ha;unfold PEn at hb;intro pos pins s σ H Q I h;rw[hs];show AF _ _ (spliced ((false,eval e X.env)::(false,eval f X.env)::BG pos (AX es X.env))) _ _ s;refine Cw (thn (ha pins s σ H _ I h) fun u s1 ⟨⟨x,H1,I1,r1,q1⟩,hk⟩=>?_);refine Cw (thn (hb pins s1 σ H1 _ hk I1 q1) fun v s2 ⟨y,H2,I2,r2,q2⟩=>?_);exact thn (hr pos pins s2 σ H2 _ I2 q2) fun us s3 ⟨xs,H3,I3,r3,q3⟩=>⟨x::y::xs,H3,I3,.cons r1 (.cons r2 r3),q3⟩
theorem aGX {e f:AJ}{es:List AJ}{te tf:TE}{t:TA}(ha:PEk X e te)(hb:PEn X f tf)(hr:PAd X es t)(hs:AX (e::f::es) X.env=(false,eval e X.env)::(false,eval f X.env)::AX es X.env:=by rfl):PAd X (e::f::es) (cQ te (cQ tf t)):=by
 unfold PAd at *;exact aQB ha hb hr hs
def aJ1 (i:Nat)(y z:AC):TE:=fun σ H Q=>∃ x,σ[i]?=some (some (.str x))∧(CB x y 0 x.length 1).isEmpty=false∧(y.length==0)=false∧(y==z)=false∧x.length+z.length≤1000000∧(a1K x y z).length≤sizeLine∧Q (.str (a1K x y z)) H
theorem aH6 (x y:AC):(CB x y 0 x.length 1).length≤1:=StrLaws.occ_length_le x y 0 x.length 1
theorem aEO (i:Nat){n:Str}{y z:AC}{pos apos cpos p1 p2 p3:Pos}{j1 j2 j3:Nat}(hN:X.N[i]?=some n:=by rfl)(hv:Vis X.env.scope n:=by first|exact B3 rfl|exact DR (B3 rfl)|exact DR (DR rfl))(hd:(n==("__debug__" : Str))=false:=by decide)
  (hcd:(n==("__classdict__" : Str))=false:=by decide)
  (hbase:DM (.Name n pos) "replace" X.env (eval (.Name n pos) X.env)=eval (.Name n pos) X.env:=by rfl) (hline:(apos.endLine==cpos.line)=true:=by rfl) :
  PEn X (.Call (.Attribute (.Name n pos) "replace" apos) [.Constant (.str y) j1 p1,.Constant (.str z) j2 p2,.Constant (.int 1) j3 p3] [] cpos) (aJ1 i y z):=by
 unfold PEn;intro pins s σ H Q hk I h;obtain⟨x,hx,hc,hy,hyz,hz,hz2,q⟩:=h;have nm:∀ Q':AB→AD→Prop,(∀ t,Q' (.str x t) s)→AF (AI X.prog X.w) X.A (eval (.Name n pos) X.env) Q' X.xe s:=fun Q' h=>by
  obtain⟨m,hn,hl⟩:=I.loc;obtain⟨u,r,l⟩:=hl i n _ hN hx hv;obtain⟨t,rfl⟩:=r;rcases l with⟨hk,hm⟩|⟨hk,c,hc,hcell⟩
  ·exact Df (GL I.ok.kind hk hn hm (h t)) hd
  ·rcases hk with hk|hk
   ·exact Df (GM I.ok.kind hk hc hcell (h t)) hd
   ·exact Df (GN I.ok.kind hk hc hcell (h t) hcd) hd
 refine GV hbase rfl hline rfl (nm _ fun t=>?_);obtain⟨h1,h2⟩:=aCO (T := "str") (x:=.str x) (v:=.str x t) I ⟨_,rfl⟩ rfl;refine⟨"str", "str.replace", F.plainAttrs_str,F.slot_str_replace,F.type_str_replace,h1,h2,?_⟩;refine Do rfl (Dp ?_);refine Cw (E8 (k:=j1) (pos:=p1) (Cw (E8 (k:=j2) (pos:=p2) (Cw (wpAny_Constant_int (k:=j3) (pos:=p3) ?_)))));show AF _ _ (spliced []) _ _ _;refine AR ?_;have hl:GD (x.length+(CB x y 0 x.length 1).length*z.length)=false:=by
  have h1:=Cs z.length (aH6 x y);rw[Nat.one_mul] at h1;unfold GD;exact decide_eq_false (by have:=Bv; omega)
 refine call_gives F.slot_str_replace (C1 _ _ _) F.entry_str_replace (F.args_str_replace_4 _ _ _ _) (a5O x y z t _ _ _ hc hy ?_ ?_ hyz hl) ?_
 ·have e1:(s.toks==0)=false:=beq_eq_false_iff_ne.mpr (CM hk);have e2:(s.toks+1==0)=false:=beq_eq_false_iff_ne.mpr (Nat.succ_ne_zero _)
  show(s.toks==0||s.toks+1==0)=false
  rw[e1,e2]<;>rfl
 ·exact beq_eq_false_iff_ne.mpr (Aw (DY _))
 ·exact⟨hz2,.str (a1K x y z),H,((I.tok _).tok _ |>.tok _ |>.tok _),⟨_,rfl⟩,q⟩
def upT (x:AC):AC:=⟨placed x fun _ c=>Unicode.upperOf c⟩
def aHU:V→List V→Hp→VK→Prop:=fun x vs H Q=>∃ a:AC,x=.str a∧vs=[]∧(upT a).length≤1000000∧Q (.str (upT a)) H
theorem aH5:MtR X "str.upper" aHU:=by
 intro pins s σ H x vs v us Q I rx rv h;obtain⟨a,rfl,rfl,hz,q⟩:=h;obtain⟨t,rfl⟩:=rx
 cases rv
 have e:=Bv;have hz':(placed a fun _ c=>Unicode.upperOf c).size≤1000000:=hz;refine call_gives F.slot_str_upper (C1 _ _ _) F.entry_str_upper (F.args_str_upper_1 _) (gives_str_upper a t (by unfold GD; exact decide_eq_false (by omega))) ?_;exact⟨(by show(placed a fun _ c=>Unicode.upperOf c).size≤sizeLine; omega),.str (upT a),H,I.tok _,⟨_,rfl⟩,q⟩
end
end L2
namespace L2.VS
open PySem PySem.Spec PyProof.Rows
section
variable {P0:AA→Hp→Prop}{ta tb:TE}{ma mb:ME}{Γ:En}{Q:D→En→Prop}
def saN (x:D)(Q:D→En→Prop)(y:D)(Γ:En):Prop:=∃ a b:AC,x=.str a∧y=.str b∧(a.length==0)=false∧(b.length==0)=false∧(a++b).length≤1000000∧Q (.str (a++b)) Γ
def aC7 (ma mb:ME):ME:=fun Γ Q=>ma Γ fun x Γ1=>mb Γ1 (saN x Q)
theorem aGF (ha:VT P0 ta ma)(hb:VT P0 tb mb):VT P0 (tOp aIV ta tb) (aC7 ma mb):=by
 intro F Γ σ G H Q Qm r m k;refine ha F Γ σ G H _ _ r m fun d Γ1 x G1 H1 m1 s1 r1 d1=>?_;refine hb F Γ1 σ G1 H1 _ _ r1 m1 fun e Γ2 y G2 H2 m2 s2 r2 d2=>?_;obtain⟨a,b,rfl,rfl,h1,h2,hz,q⟩:=m2
 cases d1
 cases d2
 exact⟨a,b,rfl,rfl,h1,h2,aIY hz,k _ _ _ _ _ q (s1.trans s2) r2 (.str _)⟩
theorem aJ5 (h:ma Γ fun x Γ1=>mb Γ1 (saN x Q)):aC7 ma mb Γ Q:=h
theorem aRZ {a b:AC}(h1:(a.length==0)=false)(h2:(b.length==0)=false)(hz:(a++b).length≤1000000)(h:Q (.str (a++b)) Γ):saN (.str a) Q (.str b) Γ:=⟨a,b,rfl,rfl,h1,h2,hz,h⟩
def aIB (i:Nat)(y z:AC):ME:=fun Γ Q=>∃ x,Γ[i]?=some (.val (.str x))∧(CB x y 0 x.length 1).isEmpty=false∧(y.length==0)=false∧(y==z)=false∧x.length+z.length≤1000000∧(a1K x y z).length≤1000000∧Q (.str (a1K x y z)) Γ
theorem aFG {i:Nat}{y z:AC}:VT P0 (aJ1 i y z) (aIB i y z):=by
 intro F Γ σ G H Q Qm r m k;obtain⟨x,hx,h1,h2,h3,h4,h5,q⟩:=m;obtain⟨v,e1,d1⟩:=r.sl i _ hx
 cases d1
 exact⟨x,e1,h1,h2,h3,h4,aIY h5,k _ _ _ _ _ q (Same.refl _) r (.str _)⟩
def upK (Q:D→En→Prop)(x:D)(Γ:En):Prop:=∃ a:AC,x=.str a∧(upT a).length≤1000000∧Q (.str (upT a)) Γ
def aB0 (ma:ME):ME:=fun Γ Q=>ma Γ (upK Q)
theorem aGH {K:Fg}(ha:VT P0 ta ma):VT P0 (aV7 K "str" aHU ta) (aB0 ma):=by
 intro F Γ σ G H Q Qm r m k;refine ha F Γ σ G H _ _ r m fun d Γ1 x G1 H1 m1 s1 r1 d1=>?_;obtain⟨a,rfl,hz,q⟩:=m1
 cases d1
 exact⟨rfl,a,rfl,rfl,hz,k _ _ _ _ _ q s1 r1 (.str _)⟩
theorem aMH (h:ma Γ (upK Q)):aB0 ma Γ Q:=h
theorem aUU {a:AC}(hz:(upT a).length≤1000000)(h:Q (.str (upT a)) Γ):upK Q (.str a) Γ:=⟨a,rfl,hz,h⟩
end
section
variable {P0:AA→Hp→Prop}{A:Nat→Bool}{X0:XK}
def a7J (nt:Nat)(fv:List Nat)(mo:MO)(g:MG)(t:MT)(e:ME):MO:=fun Γ Q=>mo Γ fun rv Γ1=>o5 rv (Q rv Γ1) (∃ ds,rv=.own ds∧ds.length≤1000∧rJ g t e (aEH nt fv Γ1) ds [] fun out=>Q (.own out) Γ1)
theorem a85 {K:Fg}{nt:Nat}{fv:List Nat}{ta:TE}{g:TG}{ti:TT}{te:TE}{mo:MO}{mg:MG}{mt:MT}{me:ME}(ha:VOX X0 P0 ta mo)(hg:VG P0 (fun i=>decide (i<nt)) g mg)(ht:VTT P0 ti mt)(he:VT P0 te me) :
  VOX X0 P0 (aHB nt fv (aMC K ta) g ti te) (a7J nt fv mo mg mt me):=by
 intro F Γ σ G H Q Qm r m k kx;refine ha F Γ σ G H _ _ r m (fun rv Γ1 x G0 H1 m1 s0 r0 d0 a0=>?_) fun C o Γ' q=>kx C o Γ' (q.1 C o rfl);obtain⟨ds,rfl,hsz,m1⟩:=m1.2 d0.noX;obtain⟨G1,s1',r1,d1⟩:=r0.give d0 a0;have s1:=s0.trans s1'
 cases d1 with
 | @lst p xs _ hp rs=>
  have wk:Walk P0 (Itl K p) G1 ds:=fun F2 Γ2 σ2 G2 H2 s2 r2=>⟨fun i d e=>by
   have hq:H2 p=some (.lst xs):=r2.fr.sub _ _ (s2 _ _ hp);obtain⟨v,ev,dv⟩:=Dts.get rs e;refine⟨⟨xs,v,SqL.of hq,ev⟩,fun y H3 hy=>⟨G2,Same.refl _,?_⟩⟩;obtain⟨rfl,hy⟩:=hy;have:=hy xs (SqL.of hq);rw[ev] at this
   cases this
   exact⟨r2,Dt.same s2 _ _ dv⟩,⟨xs,SqL.of (r2.fr.sub _ _ (s2 _ _ hp)),by rw[rs.len]; exact AV _⟩⟩
  refine⟨p,rfl,⟨xs,SqL.of (r1.fr.sub _ _ hp)⟩,?_⟩;refine⟨fun i n ys H2=>n=ds.length-i∧i≤ds.length∧ys.length≤i∧∃ G2 out,Rf (F.sub r1.fr) G2 H2∧Same G1 G2∧Dts G2 ys out∧rJ mg mt me (aEH nt fv Γ1) (ds.drop i) out fun out=>Qm (.own out) Γ1,
   ⟨ds.length,by simp,Be _,Be _,G1,[],F.subRf r1.fr,Same.refl _,.nil,by simpa using m1⟩,?_⟩
  rintro i n ys H2 ⟨rfl,hle,hy,G2,out,rf2,s2,d2,m2⟩;have rb:=aO2 (nt:=nt) (fv:=fv) r1 rf2 s2;obtain⟨go,stop⟩:=wk (F.sub r1.fr) _ _ G2 H2 s2 rb;have small:ys.length≤sizeLine:=lB (by omega)
  by_cases hlt:i<ds.length
  ·refine .inr ⟨(go i ds[i] (by simp[hlt])).1,small,fun x H' hyl=>?_⟩;obtain⟨G3,s3,r3,d3⟩:=(go i ds[i] (by simp[hlt])).2 x H' hyl;rw[FR hlt] at m2;refine hg (F.sub r1.fr) _ _ G3 H' x _ _ _ r3 d3 m2 fun Γ4 σ4 m4 r4 e4=>⟨fun j hj=>e4 j (decide_eq_false (by omega)),?_⟩;refine ht (F.sub r1.fr) _ _ G3 H' _ _ r4 m4 fun b Γ5 G5 H5 m5 s5 r5=>?_
   cases b with
   | true=>
    refine a0T (he (F.sub r1.fr) _ _ G5 H5 _ _ r5 m5 fun d Γ6 v G6 H6 m6 s6 r6 d6=>?_);refine⟨ds.length-(i+1),by omega,rfl,hlt,by rw[Ah,A1]; omega,G6,out++[d],r6.fr,((s2.trans s3).trans s5).trans s6,?_,m6⟩;exact(Dts.same ((s3.trans s5).trans s6) _ _ d2).app (.cons d6 .nil)
   | false=>
    refine a2O ?_;exact⟨ds.length-(i+1),by omega,rfl,hlt,by omega,G5,out,r5.fr,(s2.trans s3).trans s5,Dts.same (s3.trans s5) _ _ d2,m5⟩
  ·have e:i=ds.length:=by omega
   subst e;rw[D7] at m2;refine .inl ⟨stop,small,fun p hp=>?_⟩;obtain⟨r7,s7⟩:=r1.after rf2;obtain⟨a,b,c⟩:=oA r7 hp d2;exact k _ _ _ _ _ m2 (s1.trans s7) a b c
def aFF (mo:MO):MO:=fun Γ Q=>mo Γ fun rv Γ1=>o5 rv (Q rv Γ1) (∃ ds,rv=.own ds∧Q (.val (.list ds)) Γ1)
theorem aBJ {ta:TE}{mo:MO}(ha:VOX X0 P0 ta mo):VOX X0 P0 ta (aFF mo):=by
 intro F Γ σ G H Q Qm r m k kx;refine ha F Γ σ G H _ _ r m (fun rv Γ1 x G0 H1 m1 s0 r0 d0 a0=>?_) fun C o Γ' q=>kx C o Γ' (q.1 C o rfl);obtain⟨ds,rfl,m2⟩:=m1.2 d0.noX;obtain⟨G1,s1',r1,d1⟩:=r0.give d0 a0;exact k _ _ _ _ _ m2 (s0.trans s1') r1 d1 trivial
theorem aLF {nt:Nat}{fv:List Nat}{mo:MO}{mg:MG}{mt:MT}{me:ME}{Γ:En}{Q:Rv→En→Prop}(h:mo Γ fun rv Γ1=>o5 rv (Q rv Γ1) (∃ ds,rv=.own ds∧ds.length≤1000∧rJ mg mt me (aEH nt fv Γ1) ds [] fun out=>Q (.own out) Γ1)):a7J nt fv mo mg mt me Γ Q:=h
theorem aNJ {mo:MO}{Γ:En}{Q:Rv→En→Prop}(h:mo Γ fun rv Γ1=>o5 rv (Q rv Γ1) (∃ ds,rv=.own ds∧Q (.val (.list ds)) Γ1)):aFF mo Γ Q:=h
end
end L2.VS
namespace L2
open PySem PySem.Spec PyProof.Rows VS
section
variable {X:Cx}
def aAE:V→List V→Hp→VK→Prop:=fun x vs H Q=>∃(y:V) (dx:AH) (ds:List AH) (j:Nat),vs=[y]∧Dt H y dx∧Dt H x (.list ds)∧Good dx∧Goods ds∧j<ds.length∧ds.length≤1000∧Ae (ds.getD j .none) dx=true∧(∀ m,m<j→Ae (ds.getD m .none) dx=false)∧Q (.int j) H
theorem aC8 (hu:X.A.units+64<BJ):MtR X "list.index" aAE:=by
 intro pins s σ H x vs v us Q I rx rv h;obtain⟨y,dx,ds,j,rfl,ey,ex,gx,gs,hj,hz,hit,hno,q⟩:=h;obtain⟨u,rfl,ru⟩:=rv.one;obtain⟨as,r1⟩:=Dt.reads I.hok dx y u ey ru;obtain⟨bs,r2⟩:=Dt.reads I.hok _ x v ex rx
 cases r2 with
 | @list l o items n _ _ h1 h2 h3 h4=>
  have em:=SeqAt.readsAll_map ds _ _ gs.lay h4;have hsz:items.size=ds.length:=by rw[← em,AO,CO]
  have at_:∀ m (hm:m<items.size),SeqAt.readOf s.heap items[m]=ds.getD m .none:=fun m hm=>by
   rw[← em,Bp,Ao,E5,Array.getElem?_eq_getElem hm];rfl
  obtain⟨cls,dd,data,sl⟩:=o
  cases h2
  cases h3
  refine Dq F.slot_list_index ⟨_,h1,rfl⟩ F.entry_list_index (F.args_list_index_2 _ _) (SeqAt.list_indexAt l items n dd sl u (fun y=>Ae (SeqAt.readOf s.heap y) dx) j (by omega) (by omega) ?_ ?_) ?_
  ·skip
   rw[at_ j (by omega)];exact hit
  ·intro m hm hmj;rw[at_ m hm];exact hno m hmj
  ·exact⟨h1,SeqAt.items_eqAt h4 r1 gs.lay gx.lay (aKO hu gs.dep),.int j,H,I.tok _,⟨_,rfl⟩,q⟩
end
end L2
namespace L2.VS
open PySem PySem.Spec PyProof.Rows
section
variable {P0:AA→Hp→Prop}{ta tb:TE}{ma mb:ME}{K:Fg}
def idK (x:D)(Q:D→En→Prop)(y:D)(Γ:En):Prop:=∃(ds:List D) (j:Nat),x=.list ds∧Good y∧Goods ds∧j<ds.length∧ds.length≤1000∧Ae (ds.getD j .none) y=true∧(∀ m,m<j→Ae (ds.getD m .none) y=false)∧Q (.int j) Γ
def a5X (ma mb:ME):ME:=fun Γ Q=>ma Γ fun x Γ1=>(∃ ds,x=.list ds)∧mb Γ1 (idK x Q)
theorem aBG (ha:VT P0 ta ma)(hb:VT P0 tb mb):VT P0 (tBM K "list" aAE ta (cQ tb nM)) (a5X ma mb):=by
 intro F Γ σ G H Q Qm r m k;refine ha F Γ σ G H _ _ r m fun d Γ1 x G1 H1 m1 s1 r1 d1=>?_;obtain⟨⟨ds0,rfl⟩,m1⟩:=m1;have d1':=d1
 cases d1 with
 | @lst p xs _ hp rs=>
  refine⟨.inl ⟨rfl,xs,SqL.of (r1.fr.sub _ _ hp)⟩,hb F Γ1 σ G1 H1 _ _ r1 m1 fun e Γ2 y G2 H2 m2 s2 r2 d2=>?_⟩;obtain⟨ds,j,e1,gx,gs,hj,hz,hit,hno,q⟩:=m2
  cases e1
  exact⟨y,e,ds0,j,rfl,Dt.same r2.fr.sub _ _ d2,Dt.same r2.fr.sub _ _ (Dt.same s2 _ _ d1'),gx,gs,hj,hz,hit,hno,k _ _ _ _ _ q (s1.trans s2) r2 (.int _)⟩
theorem aET {Γ:En}{Q:D→En→Prop}(h:ma Γ fun x Γ1=>(∃ ds,x=.list ds)∧mb Γ1 (idK x Q)):a5X ma mb Γ Q:=h
end
end L2.VS
namespace My
open PySem PySem.Spec PyProof.Rows L2 L2.VS LT
def top (i:Nat):AL:=PySem.Challenge.pw_leadtimes_k44_texts_refused.main.body.getD i (.Pass ⟨0,0,0,0⟩)
set_option hygiene false in
local macro_rules | `(tactic| walk_at $s:str)=>do
 let cs:=s.getString.toList
 if cs.head? != some '!' then Lean.Macro.throwUnsupported
 let a := "i_c aOB aUJ aQ6 aU8 aUP aMY aTP aWC aP0 aRQ aUQ aWE aRX aUE aWQ a0T aW9 aWK a2O aTF aTX aWN aSR i_I aUH aWU aTB aSM aPQ aUF aW6 aSZ aU3 aSN aPJ aON aU2 aOR aTG aTT aSB aH0 aMG aS1 aOZ aUC aNI aOV i_U aNV aLE aPT aT1 aTL aPP aNJ aLF aN8 aR1 aRT aJJ aLS aQR aWJ aRR aR7 aRS aWD aQ0 aSL aSI aK2 aDR aTS aFZ aS3 aUK aTI aSP aTO aU0 aSH aQW aEW aUA aS7 aTJ aU4 aQQ aIC aJ5 aMH aWR aQ9".splitOn " "
 let x := "$&Ġ2>@Ę0:ŐĽċXĉPe.z*6żălLāą;ŋDĩėİğbŏpƂƃ|}ƄƅčĎďĐđĒēĔĖěĜĝģħĬĭķĹĺļŃŅŇňŉŊŌōŎŘřŠŤťŦŧŨũŪūŬŭŮůŰűŲųŴŵŶŸź".toList
 let b := "aSW aQF aGS aRY aWI aHE aWS aNN isF aQ7 isT aS9 aWF aRB aPH aTW aLN aQP aKU aFR aS0 a9S aDE aOW aJ4 aNF aLL".splitOn " "
 let y := "%ŻRƁćČĚĥĨīĵĸĻŁłńņŚśŜŝŞşšŢţŷ".toList
 let z := "ĀĠƅ~ċƄ{%ğxŔĊŔĶWw?ęvāįuĞ&Z.Tqrėo>ƃmC,Ķāĕkœ#œĆĪj0İhŒƂŒƁ#gĞ5fĽ#į%/d8ĩcĠŏaĠ#`t,_H&^CCę%2]?B[LGJ6GYĂiĕ3ƀVċsU+ſS@$Or0N$ĪMĆ#KĈ7Fą%E-žĂrA=ŋ/tĞCW3ŽĈrl<?isŐ29ő4őQ$T8IHĠăB%41,#Qy25&%A0z7ż0I$#ĞPCi3#Ge#yľŻ)n@/%#n>ĉ8ċ@?ľ2r>X4(#,ĽĮľĠŐ3:ĆC&$(ĘĤĆ%$".toList
 let mut l:=cs.tail
 for k in [0:z.length/3] do l:=l.flatMap fun c=>if c=z[3*k]! then [z[3*k+1]!,z[3*k+2]!] else [c]
 let mut r : Array (Lean.TSyntax `tactic):=#[]
 for c in l do
  let i:=x.idxOf c
  let j:=y.idxOf c
  let t←if i<x.length then `(tactic| with_reducible apply $(Lean.mkIdent (a[i]!).toName)) else if j<y.length then `(tactic| with_reducible refine $(Lean.mkIdent (b[j]!).toName) (by with_unfolding_all rfl) ?_) else match c with
   | '#'=>`(tactic| (dsimp only[Rv.d,Rv.sl,nbQ,Bool.not_true,Bool.not_false,isN,vM]))
   | 'Ĥ'=>`(tactic| (with_reducible refine A8 rfl ?_))
   | 'Į'=>`(tactic| (with_reducible refine A8 (DE (by with_unfolding_all rfl)) ?_))
   | '-'=>`(tactic| (refine⟨_,rfl,?_⟩))
   | '+'=>`(tactic| (refine⟨_,_,rfl,rfl,?_⟩))
   | 'Ī'=>`(tactic| (with_reducible (refine A8 (good_int _) (A8 (good_int _) ?_); rw[aMA])))
   | 'Ž'=>`(tactic| (with_reducible apply cN (aM5 _)))
   | 'ž'=>`(tactic| (refine⟨_,_,_,_,rfl,rfl,SqL.of aW,rfl,?_⟩))
   | 'Ċ'=>`(tactic| (with_reducible refine A8 (aSY (by assumption) (by assumption)) ?_))
   | 'ſ'=>`(tactic| (refine A8 (show(0:Int)<_ by decide) ?_))
   | 'ƀ'=>`(tactic| (with_reducible apply cN (aJU _)))
   | 'Ą'=>`(tactic| (refine A8 (by assumption) ?_))
   | 'ġ'=>`(tactic| (refine⟨_,_,_,_,rfl,rfl,SqL.of (by assumption),rfl,?_⟩))
   | 'Ģ'=>`(tactic| (refine⟨_,_,rfl,.inl (by assumption),?_⟩))
   | 'Ħ'=>`(tactic| (with_reducible refine aRV (by with_unfolding_all rfl) rfl ?_))
   | 'ı'=>`(tactic| (refine A8 (.inl (by decide)) ?_))
   | 'Ĳ'=>`(tactic| (refine A8 (.inr (by decide)) ?_))
   | 'ĳ'=>`(tactic| (refine A8 (aES (by decide) (by decide)) ?_))
   | 'Ĵ'=>`(tactic| (refine A8 ⟨by decide,by decide⟩ ?_))
   | 'Ŀ'=>`(tactic| (refine⟨_,_,_,_,rfl,rfl,(by assumption),rfl,?_⟩))
   | 'ŀ'=>`(tactic| (refine⟨_,_,_,_,rfl,rfl,aW,rfl,?_⟩))
   | 'ŕ'=>`(tactic| (refine A8 rfl ?_))
   | 'Ŗ'=>`(tactic| (with_reducible apply cN (aGB _)))
   | 'ŗ'=>`(tactic| (with_reducible apply cN (aG7 _)))
   | 'Ź'=>`(tactic| (with_reducible (refine A8 (wX _) (A8 (wX _) ?_); rw[aL7])))
   | _=>Lean.Macro.throwUnsupported
  r:=r.push t
 `(tactic| ($[$r:tactic];*))
structure Xcs (K:Fg)(mg:Mg)(xa:XA)(D0 c0 c1 c2 c3:AA):Prop where
 h_NoText:mg "NoText" = some (.ref xa.nt)
 z_NoText:XCl K xa.nt
 s_NoText:CL K xa.nt (.ref D0)=some true
 a_NoText:Ag K (.ref xa.nt) "__setattr__" = some (some (.builtin "object.__setattr__"))
 n_NoText:Ag K (.ref xa.nt) "line" = some none
 d_NoText:CK K xa.nt=true
 h_NoLog:mg "NoLog" = some (.ref xa.nl)
 z_NoLog:XCl K xa.nl
 s_NoLog:CL K xa.nl (.ref D0)=some true
 a_NoLog:Ag K (.ref xa.nl) "__setattr__" = some (some (.builtin "object.__setattr__"))
 n_NoLog:Ag K (.ref xa.nl) "at" = some none
 d_NoLog:CK K xa.nl=true
 hD:mg "LeadError" = some (.ref D0)
 zD:XCl K D0
 pD:EN K (.ref D0) "__getattribute__" = some (some (.builtin "type.__getattribute__"))
 rD:readsIn K D0 (.type "type")=true
 fD:findCls K (.ref D0) (.type "type") "__init__" = some (.val (.builtin "ValueError.__init__"))
 hV:mg "ValueError" = none
 h_NoKey:mg "NoKey" = some (.ref c0)
 h_NoNumber:mg "NoNumber" = some (.ref c1)
 h_NoRow:mg "NoRow" = some (.ref c2)
 h_NoTime:mg "NoTime" = some (.ref c3)
 t_NoLog_KNRT:Co K (.ref xa.nl) [.ref c0,.ref c1,.ref c2,.ref c3]=some false
 t_NoText_KNRT:Co K (.ref xa.nt) [.ref c0,.ref c1,.ref c2,.ref c3]=some false
 k_NoLog_NoText:AS K (.ref xa.nl) (.ref xa.nt)=some false
 k_NoText_NoText:AS K (.ref xa.nt) (.ref xa.nt)=some true
 k_NoLog_NoLog:AS K (.ref xa.nl) (.ref xa.nl)=some true
 k_NoText_NoLog:AS K (.ref xa.nt) (.ref xa.nl)=some false
 k_NoLog_ValueError:AS K (.ref xa.nl) (.type "ValueError")=some true
 k_NoText_ValueError:AS K (.ref xa.nt) (.type "ValueError")=some true
def bH:Fm:=aH4
def mG:MS:=
 (fK (cR (z6 (a9W "int" (aY 0)) (a99 (a9W "bool" (aY 0))))))
def dU:Fm:=mFn 0 mG
def jD:MS:=
 (fK (cR (aY 2)))
def jC:MS:=
 (cI (iJ 4 (cR (aRD (aY 2) (aY 3))))
  (cI (iJ 2 (cR (aY 3)))
  (iJ 3 (cR (aY 4)))))
def iI:MS:=
 (cI (iJ 2 (cR (aMP (aY 0))))
  (cI (iJ 3 (cR (aMP (aY 1))))
  (cI (a7K (dY (mNe (aY 3) (mC (.int 0))))
  jC)
  jD)))
def dF:Fm:=mFn 3 iI
def pX:MS:=
 (fK (cR (j7 (aM (a91 (aY 0) (aY 2)) (aM (a91 (aY 1) (aY 2)) cY)))))
def pZ:MS:=
 (cI (iJ 2 (cR (cD (bQ 2 dF (cF (aY 0) (cF (aY 1) cU))))))
  (cI (mIf (dY (mLt (aY 1) (mC (.int 0))))
  (iJ 2 (cR (aMK (aY 2))))
  mNx)
  pX))
def qH:MS:=
 (cI (mIf (mOr (zO (dY (cD (bQ 1 dU (cF (aY 0) cU))))) (mOr (zO (dY (cD (bQ 1 dU (cF (aY 1) cU))))) (dY (mEq (aY 1) (mC (.int 0))))))
  aIP
  mNx)
  pZ)
def iU:Fm:=mFn 1 qH
def a1H:MS:=
 (fK (bQ 2 iU (cF (a4Y (a5Q (mIx (aY 0) (mC (.int 0))) (mIx (aY 1) (mC (.int 1)))) (a5Q (mIx (aY 1) (mC (.int 0))) (mIx (aY 0) (mC (.int 1))))) (cF (a5Q (mIx (aY 0) (mC (.int 1))) (mIx (aY 1) (mC (.int 1)))) cU))))
def wR:Fm:=mFn 0 a1H
def kJ:MS:=
 (fK (bQ 2 iU (cF (aEL (a5Q (mIx (aY 0) (mC (.int 0))) (mIx (aY 1) (mC (.int 1)))) (a5Q (mIx (aY 1) (mC (.int 0))) (mIx (aY 0) (mC (.int 1))))) (cF (a5Q (mIx (aY 0) (mC (.int 1))) (mIx (aY 1) (mC (.int 1)))) cU))))
def gZ:Fm:=mFn 0 kJ
def o9:MS:=
 (fK (bQ 2 iU (cF (a5Q (mIx (aY 0) (mC (.int 0))) (mIx (aY 1) (mC (.int 0)))) (cF (a5Q (mIx (aY 0) (mC (.int 1))) (mIx (aY 1) (mC (.int 1)))) cU))))
def j9:Fm:=mFn 0 o9
def xW:MS:=
 (fK (cR (mLt (a5Q (mIx (aY 0) (mC (.int 0))) (mIx (aY 1) (mC (.int 1)))) (a5Q (mIx (aY 1) (mC (.int 0))) (mIx (aY 0) (mC (.int 1)))))))
def sI:Fm:=mFn 0 xW
def uE:MS:=
 (fK (bQ 2 wR (cF (mIx (aY 0) (mC (.int 0))) (cF (cD (bQ 2 j9 (cF (mIx (aY 0) (mC (.int 1))) (cF (aY 1) cU)))) cU))))
def pG:Fm:=mFn 0 uE
def lL:MS:=
 (fK (cR (j7 (aM (cD (bQ 2 gZ (cF (aY 1) (cF (cD (bQ 2 j9 (cF (aY 2) (cF (aY 0) cU)))) cU)))) (aM (aY 2) cY)))))
def fZ:Fm:=mFn 0 lL
def lN:MS:=
 (fK (cR (z6 (mGe (mIx (aY 0) (mC (.int 1))) (mC (.int 1))) (mEq (cD (bQ 2 dF (cF (mIx (aY 0) (mC (.int 0))) (cF (mIx (aY 0) (mC (.int 1))) cU)))) (mC (.int 1))))))
def fY:MS:=
 (cI (mIf (mOr (zO (dY (cD (bQ 1 dU (cF (mIx (aY 0) (mC (.int 0))) cU))))) (zO (dY (cD (bQ 1 dU (cF (mIx (aY 0) (mC (.int 1))) cU))))))
  (fK (cR (mC (.bool false))))
  mNx)
  lN)
def jY:MS:=
 (cI (mIf (mOr (zO (dY (a9W "tuple" (aY 0)))) (dY (mNe (a2V (aY 0)) (mC (.int 2)))))
  (fK (cR (mC (.bool false))))
  mNx)
  fY)
def fJ:Fm:=mFn 0 jY
def nC:MS:=
 (fK (cR (aLA (aY 0))))
def tX:MS:=
 (cI (mIf (aAZ (dY (mEq (aUR (aY 0) (mC (.int 0))) (mC (.str "0")))) (dY (mNe (aY 0) (mC (.str "0")))))
  (fK (cR (mC .none)))
  mNx)
  nC)
def uC:MS:=
 (cI (mIf (mOr (dY (mEq (aY 0) (mC (.str "")))) (mOr (dY (mGt (aF9 (aY 0)) (mC (.int 60)))) (zO (dY (aTE (cD (aBA 1 [] (aTQ (aY 0)) (gN 0) a3U (aSF (aY 0) (mC (.str "0123456789"))))))))))
  (fK (cR (mC .none)))
  mNx)
  tX)
def gQ:Fm:=mFn 1 uC
def yL:MS:=
 (cI (iJ 1 (cR (cD (bQ 1 gQ (cF (aRE (aY 0) (pSo (mC (.int 1))) pNo) cU)))))
  (fK (aI9 (mOr (dY (aMO (aY 1))) (dY (mEq (aY 1) (mC (.int 0))))) (cR (mC .none)) (cR (aMK (aY 1))))))
def a2B:MS:=
 (cI (mIf (zO (dY (a5E (aY 0) (mC (.str "-")))))
  (fK (bQ 1 gQ (cF (aY 0) cU)))
  mNx)
  yL)
def xH:Fm:=mFn 1 a2B
def q8:MS:=
 (cI (iJ 3 (cR (cD (bQ 1 gQ (cF (mIx (aY 1) (mC (.int 1))) cU)))))
  (fK (aI9 (aAZ (dY (mNe (aY 3) (mC (.int 1)))) (dY (cD (bQ 1 fJ (cF (j7 (aM (aY 2) (aM (aY 3) cY))) cU))))) (cR (j7 (aM (aY 2) (aM (aY 3) cY)))) (cR (mC .none)))))
def lU:MS:=
 (cI (iJ 2 (cR (cD (bQ 1 xH (cF (mIx (aY 1) (mC (.int 0))) cU)))))
  (cI (mIf (dY (mEq (a2V (aY 1)) (mC (.int 1))))
  (fK (aI9 (dY (aMO (aY 2))) (cR (mC .none)) (cR (j7 (aM (aY 2) (aM (mC (.int 1)) cY))))))
  mNx)
  q8))
def qN:MS:=
 (cI (iJ 1 (cR (cD (vP (aY 0) (mC (.str "/"))))))
  (cI (mIf (dY (mGt (a2V (aY 1)) (mC (.int 2))))
  (fK (cR (mC .none)))
  mNx)
  lU))
def mW:Fm:=mFn 3 qN
def pK:MS:=
 (fK (aI9 (dY (mEq (aY 0) (mC (.str "number")))) (bQ 1 mW (cF (aY 1) cU)) (bQ 1 gQ (cF (aY 1) cU))))
def p8:Fm:=mFn 0 pK
def sZ:MS:=
 (zL 4 (fK (aI9 (dY (mIn false (mC .none) (aY 4))) (cR (mC .none)) (cR (aJ6 (aY 4))))))
def rP:MS:=
 (gD 4 (cD (bQ 2 p8 (cF (aY 5) (cF (aY 6) cU)))))
def rR:MS:=
 (cI (iJ 4 (pJ (aM (mIx (aY 2) (mC (.int 0))) cY)))
  (cI (a9X (aLT (aY 3) (cD (aEK (aY 2) (pSo (mC (.int 1))) pNo))) (gT 2 (a0I (gN 5) (a0I (gN 6) aGT)))
  rP)
  sZ))
def uQ:MS:=
 (cI (iJ 2 (cR (cD (vP (aY 0) (mC (.str " "))))))
  (cI (iJ 3 (cR (aAW 1 (mIx (aY 2) (mC (.int 0))))))
  (cI (mIf (mOr (dY (aMO (aY 3))) (dY (mNe (a2V (aY 2)) (a4Y (a2V (aY 3)) (mC (.int 1))))))
  (fK (cR (mC .none)))
  mNx)
  rR)))
def lZ:Fm:=mFn 5 uQ
def a0O:MS:=
 (fK (bQ 2 lZ (cF (aY 0) (aFU (aK5 "deed" (j7 (aM (mC (.str "whole")) cY)) (aK5 "pass" (j7 (aM (mC (.str "number")) (aM (mC (.str "whole")) cY))) aRG)) cU))))
def xJ:Fm:=mFn 0 a0O
def xZ:MS:=
 (fK (bQ 2 lZ (cF (aY 0) (aFU (aK5 "join" (j7 (aM (mC (.str "number")) (aM (mC (.str "number")) (aM (mC (.str "number")) cY)))) (aK5 "leave" (j7 (aM (mC (.str "number")) (aM (mC (.str "whole")) cY))) (aK5 "turn" (j7 (aM (mC (.str "number")) (aM (mC (.str "whole")) (aM (mC (.str "number")) cY)))) aRG))) cU))))
def tK:Fm:=mFn 0 xZ
def lQ (c:AA):MS:=
 (cI (iJ 2 (cR (xN c 0)))
  (cI (a70 c 0 (aY 1) (aY 2))
  (cI (a1O c 0 1)
  (a4A (bN c) (cR (aY 2))))))
def iY (c:AA):Lm FS:=aML (bN c) 1 (lQ c)
def yU (c:AA):MS:=
 (a4A (bN c) (cR (mC .none)))
def zN (c:AA):MS:=
 (cI (mIf (dY (mEq (mIx (aY 1) (mC (.int 0))) (mC (.str "leave"))))
  (aGK (aA7 c 0 (mIx (aY 1) (mC (.int 2)))))
  (cI (iJ 2 (cR (cD (bQ 2 pG (cF (aK9 c 0 (mIx (aY 1) (mC (.int 2)))) (cF (mIx (aY 1) (mC (.int 1))) cU))))))
  (a70 c 0 (cD (bQ 3 fZ (cF (mIx (aY 1) (mC (.int 1))) (cF (aY 2) (cF (mIx (aY 1) (mC (.int 3))) cU))))) (mIx (aY 1) (mC (.int 2))))))
  (yU c))
def aBI (c:AA):MS:=
 (cI (a1J c 0 (mIx (aY 1) (mC (.int 1))))
  (cI (mIf (dY (mEq (mIx (aY 1) (mC (.int 0))) (mC (.str "join"))))
  (a4A (bN c) (a3G (bN c) 2 (iY c) 0 (cF (cD (bQ 3 fZ (cF (mIx (aY 1) (mC (.int 1))) (cF (mIx (aY 1) (mC (.int 2))) (cF (mIx (aY 1) (mC (.int 3))) cU))))) cU)))
  mNx)
  (zN c)))
def a8C (c:AA):Lm FS:=aML (bN c) 1 (aBI c)
def gU (c:AA):MS:=
 (a4A (bN c) (cR (aKN c 0 (mIx (aY 1) (mC (.int 2))))))
def fL (c:AA):MS:=
 (cI (mIf (dY (mEq (mIx (aY 1) (mC (.int 0))) (mC (.str "join"))))
  (a4A (bN c) (cR (mLt (aCC c 0) (mC (.int 8)))))
  mNx)
  (gU c))
def pL (c:AA):MS:=
 (cI (mIf (aAZ (dY (aM9 (a1Q c 0))) (dY (cD (bQ 2 sI (cF (mIx (aY 1) (mC (.int 1))) (cF (a1Q c 0) cU))))))
  (a4A (bN c) (cR (mC (.bool false))))
  mNx)
  (fL c))
def jV (c:AA):Lm FS:=aML (bN c) 0 (pL c)
def kE:MS:=
 (fK (cR (z6 (mLe (aMP (mIx (aY 0) (mC (.int 0)))) (mC (.int 999999999))) (mLe (mIx (aY 0) (mC (.int 1))) (mC (.int 12))))))
def jM:MS:=
 (cI (mIf (zO (dY (cD (bQ 1 fJ (cF (aY 0) cU)))))
  (fK (cR (mC (.bool false))))
  mNx)
  kE)
def cJ:Fm:=mFn 0 jM
def vX:MS:=
 (fK (cR (mC (.bool false))))
def vU:MS:=
 (cI (mIf (dY (mEq (mIx (aY 0) (mC (.int 0))) (mC (.str "turn"))))
  (fK (cR (z6 (mEq (a2V (aY 0)) (mC (.int 4))) (z6 (cD (bQ 1 dU (cF (mIx (aY 0) (mC (.int 2))) cU))) (z6 (cD (bQ 1 cJ (cF (mIx (aY 0) (mC (.int 1))) cU))) (cD (bQ 1 cJ (cF (mIx (aY 0) (mC (.int 3))) cU))))))))
  mNx)
  vX)
def vQ:MS:=
 (cI (mIf (dY (mEq (mIx (aY 0) (mC (.int 0))) (mC (.str "leave"))))
  (fK (cR (z6 (mEq (a2V (aY 0)) (mC (.int 3))) (z6 (cD (bQ 1 cJ (cF (mIx (aY 0) (mC (.int 1))) cU))) (cD (bQ 1 dU (cF (mIx (aY 0) (mC (.int 2))) cU)))))))
  mNx)
  vU)
def vR:MS:=
 (cI (mIf (dY (mEq (mIx (aY 0) (mC (.int 0))) (mC (.str "join"))))
  (fK (cR (z6 (mEq (a2V (aY 0)) (mC (.int 4))) (aTE (cD (aBA 1 [] (aQO (aRK (aY 0) (pSo (mC (.int 1))) pNo)) (gN 0) a3U (cD (bQ 1 cJ (cF (aY 0) cU)))))))))
  mNx)
  vQ)
def xT:MS:=
 (cI (mIf (mOr (zO (dY (a9W "tuple" (aY 0)))) (mOr (dY (mLt (a2V (aY 0)) (mC (.int 3)))) (zO (dY (a9W "str" (mIx (aY 0) (mC (.int 0))))))))
  (fK (cR (mC (.bool false))))
  mNx)
  vR)
def oJ:Fm:=mFn 1 xT
def rE (xa:XA)(c:AA):MS:=
 (fK (a6C (aY 0)))
def rK (xa:XA)(c:AA):MS:=
 (aGK (cD (a3G (bN c) 2 (a8C c) 1 (cF (aY 3) cU))))
def mR (xa:XA)(c:AA):MS:=
 (cI (mIf (mOr (dY (mEq (aY 2) (mC (.int 40)))) (mOr (zO (dY (cD (bQ 1 oJ (cF (aY 3) cU))))) (zO (dY (cD (a3G (bN c) 2 (jV c) 1 (cF (aY 3) cU)))))))
  (a0J xa.nl "at" (aM (aY 2) cY))
  mNx)
  (rK xa c))
def sU (xa:XA)(c:AA):MS:=
 (cI (iJ 1 (aE1 c))
  (cI (a9X (aT2 (aY 0)) (gT 2 (a0I (gN 2) (a0I (gN 3) aGT)))
  (mR xa c))
  (rE xa c)))
def v7 (xa:XA)(c:AA):MS:=
 (cI (mIf (zO (dY (a9W "list" (aY 0))))
  (a0J xa.nl "at" (aM (mC (.int 0)) cY))
  mNx)
  (sU xa c))
def iW (xa:XA)(c:AA):Fm:=mFn 3 (v7 xa c)
def aH9:Fm:=fun as Q=>∀ xa c,iW xa c as fun rv=>aFO rv∧Q rv
def nZ (xa:XA)(c:AA):MS:=
 (fK (aI9 (dY (mNe (aY 0) (mC (.str "")))) (vP (aY 0) (mC (.str "\n"))) (pJ cY)))
def lJ (xa:XA)(c:AA):MS:=
 (cI (mIf (zO (dY (a9W "str" (aY 0))))
  (a0J xa.nt "line" (aM (mC (.int 0)) cY))
  mNx)
  (nZ xa c))
def dG (xa:XA)(c:AA):Fm:=mFn 0 (lJ xa c)
def a8H:Fm:=fun as Q=>∀ xa c,dG xa c as fun rv=>aFO rv∧Q rv
def fB (xa:XA)(c:AA):MS:=
 (mIf (dY (mIn false (mC .none) (aY 0)))
  (a0J xa.nt "line" (aM (a5X (aY 0) (mC .none)) cY))
  mNx)
def bZ (xa:XA)(c:AA):Fm:=mFn 0 (fB xa c)
def rB:Fm:=fun as Q=>∀ xa c,bZ xa c as fun rv=>aFO rv∧Q rv
def lE (xa:XA)(c:AA):MS:=
 (cI (aGP 1 (aFF (a7J 1 [] (bQ 1 (dG xa c) (cF (aY 0) cU)) (gN 0) a3U (cD (bQ 1 tK (cF (aY 0) cU))))))
  (cI (a7N (bQ 1 (bZ xa c) (cF (aY 1) cU)))
  (fK (bQ 1 (iW xa c) (cF (aY 1) cU)))))
def eG (xa:XA)(c:AA):Fm:=mFn 2 (lE xa c)
def a9V:Fm:=fun as Q=>∀ xa c,eG xa c as fun rv=>aFO rv∧Q rv
def jR (xa:XA)(c:AA):MS:=
 (cI (aGP 1 (aFF (a7J 1 [] (bQ 1 (dG xa c) (cF (aY 0) cU)) (gN 0) a3U (cD (bQ 1 xJ (cF (aY 0) cU))))))
  (cI (a7N (bQ 1 (bZ xa c) (cF (aY 1) cU)))
  (fK (cR (aY 1)))))
def dD (xa:XA)(c:AA):Fm:=mFn 2 (jR xa c)
def a6E:Fm:=fun as Q=>∀ xa c,dD xa c as fun rv=>aFO rv∧Q rv
def oR:MS:=
 (fK (cR (j7 (aM (a91 (aY 0) (aY 2)) (aM (a91 (aY 1) (aY 2)) cY)))))
def nW:MS:=
 (aTN 2 3 (aM (aY 3) (aM (aRD (aY 2) (aY 3)) cY)))
def oG:MS:=
 (cI (iJ 2 (cR (aMP (aY 0))))
  (cI (iJ 3 (cR (aY 1)))
  (cI (a7K (dY (mGt (aY 3) (mC (.int 0))))
  nW)
  oR)))
def eF:Fm:=mFn 2 oG
def nD:MS:=
 (cI (iJ 2 (cR (cD (bQ 2 eF (cF (cD (bQ 2 bH (lY 0 (cF (mC (.int 13)) cU)))) (cF (mIx (cD (pJ (aM (mC (.int 1)) (aM (mC (.int 1)) (aM (mC (.int 2)) (aM (mC (.int 3)) cY)))))) (cD (bQ 2 bH (lY 0 (cF (mC (.int 4)) cU))))) cU))))))
  (cI (iJ 2 (cR (mIx (cD (pJ (aM (j7 (aM (mC (.int 0)) (aM (mC (.int 1)) cY))) (aM (aY 2) (aM (aY 2) cY))))) (cD (bQ 2 bH (lY 0 (cF (mC (.int 3)) cU)))))))
  (fK (bQ 2 eF (cF (a4Y (a5Q (mIx (aY 1) (mC (.int 0))) (mIx (aY 2) (mC (.int 1)))) (a5Q (mIx (aY 2) (mC (.int 0))) (mIx (aY 1) (mC (.int 1))))) (cF (a5Q (mIx (aY 1) (mC (.int 1))) (mIx (aY 2) (mC (.int 1)))) cU))))))
def jQ:Fm:=mFn 1 nD
def pU:MS:=
 (fK (bQ 2 eF (cF (a5Q (a4Y (cD (bQ 2 bH (lY 0 (cF (aEL (mC (.int 1000000000)) (mC (.int 1))) cU)))) (mC (.int 1))) (mIx (cD (pJ (aM (mC (.int 1)) (aM (aMK (mC (.int 1))) cY)))) (cD (bQ 2 bH (lY 0 (cF (mC (.int 2)) cU)))))) (cF (a4Y (mC (.int 1)) (cD (bQ 2 bH (lY 0 (cF (mC (.int 12)) cU))))) cU))))
def pR:MS:=
 (cI (mIf (dY (mEq (aY 1) (mC (.int 4))))
  (fK (bQ 2 eF (cF (aEL (cD (bQ 2 bH (lY 0 (cF (mC (.int 13)) cU)))) (mC (.int 6))) (cF (a4Y (mC (.int 1)) (cD (bQ 2 bH (lY 0 (cF (mC (.int 12)) cU))))) cU))))
  mNx)
  pU)
def qW:MS:=
 (cI (iJ 1 (cR (cD (bQ 2 bH (lY 0 (cF (mC (.int 6)) cU))))))
  (cI (mIf (dY (mLt (aY 1) (mC (.int 4))))
  (fK (cR (j7 (aM (aEL (cD (bQ 2 bH (lY 0 (cF (mC (.int 7)) cU)))) (mC (.int 3))) (aM (mC (.int 1)) cY)))))
  mNx)
  pR))
def eN:Fm:=mFn 1 qW
def vW:MS:=
 (fK (a9T 2))
def wB:MS:=
 (cI (iJ 7 (cR (cD (bQ 2 bH (lY 0 (cF (mC (.int 6)) cU))))))
  (mIf (aA9 (mOr (dY (mEq (aY 3) (cD (pJ cY)))) (aAZ (dY (mLt (aY 7) (mC (.int 3)))) (dY (mLt (a8T 3) (mC (.int 8)))))))
  (cI (gD 2 (j7 (aM (mC (.str "join")) (aM (aY 5) (aM (cD (bQ 1 eN (lY 0 cU))) (aM (cD (bQ 1 eN (lY 0 cU))) cY))))))
  (cI (gD 3 (aY 4))
  (iJ 4 (cR (a4Y (aY 4) (mC (.int 1)))))))
  (mIf (dY (mEq (aY 7) (mC (.int 5))))
  (gD 2 (j7 (aM (mC (.str "leave")) (aM (aY 5) (aM (aC6 3 (cD (bQ 2 bH (lY 0 (cF (a8T 3) cU))))) cY)))))
  (gD 2 (j7 (aM (mC (.str "turn")) (aM (aY 5) (aM (aAG 3 (cD (bQ 2 bH (lY 0 (cF (a8T 3) cU))))) (aM (cD (bQ 1 eN (lY 0 cU))) cY)))))))))
def vI:MS:=
 (cI (iJ 5 (cR (cD (bQ 2 jQ (lY 0 (cF (aY 5) cU))))))
  (cI (mIf (dY (mGt (mIx (aY 5) (mC (.int 1))) (mC (.int 12))))
  (iJ 5 (cR (j7 (aM (a4Y (a91 (mIx (aY 5) (mC (.int 0))) (mIx (aY 5) (mC (.int 1)))) (mC (.int 1))) (aM (mC (.int 1)) cY)))))
  mNx)
  wB))
def yI:MS:=
 (cI (iJ 2 (pJ cY))
  (cI (iJ 3 (pJ cY))
  (cI (iJ 4 (cR (mC (.int 0))))
  (cI (iJ 5 (cR (cD (bQ 2 eF (cF (aEL (cD (bQ 2 bH (lY 0 (cF (mC (.int 41)) cU)))) (mC (.int 20))) (cF (a4Y (mC (.int 1)) (cD (bQ 2 bH (lY 0 (cF (mC (.int 2)) cU))))) cU))))))
  (cI (a9X (a5W (aM (cD (bQ 2 bH (lY 0 (cF (a4Y (aY 1) (mC (.int 1))) cU)))) cY)) (gN 6)
  vI)
  vW)))))
def rT:Fm:=mFn 6 yI
def tR:MS:=
 (fK (cR (yC (yC (aMM (mIx (aY 0) (mC (.int 0)))) (mC (.str "/"))) (aMM (mIx (aY 0) (mC (.int 1)))))))
def uU:MS:=
 (cI (mIf (dY (mEq (mIx (aY 0) (mC (.int 1))) (mC (.int 1))))
  (fK (cR (aMM (mIx (aY 0) (mC (.int 0))))))
  mNx)
  tR)
def oU:Fm:=mFn 0 uU
def mF:MS:=
 (zL 1 (fK (cR (a3K (mC (.str "\n")) (aY 1)))))
def m9:MS:=
 (zL 3 (gD 1 (a3K (mC (.str " ")) (aY 3))))
def m8:MS:=
 (mIf (dY (a9W "tuple" (aY 4)))
  (gD 3 (cD (bQ 1 oU (cF (aY 4) cU))))
  (gD 3 (aMM (aY 4))))
def mD:MS:=
 (cI (iJ 3 (pJ (aM (mIx (aY 2) (mC (.int 0))) cY)))
  (cI (a9X (aQO (aRK (aY 2) (pSo (mC (.int 1))) pNo)) (gN 4)
  m8)
  m9))
def lX:MS:=
 (cI (iJ 1 (pJ cY))
  (cI (a9X (aSS (aY 0)) (gN 2)
  mD)
  mF))
def cG:Fm:=mFn 4 lX
def tH:MS:=
 (fK (a9T 2))
def sH:MS:=
 (mIf (dY (mEq (cD (bQ 2 bH (lY 0 (cF (mC (.int 2)) cU)))) (mC (.int 0))))
  (gD 2 (j7 (aM (mC (.str "deed")) (aM (cD (bQ 2 bH (lY 0 (cF (mC (.int 40)) cU)))) cY))))
  (gD 2 (j7 (aM (mC (.str "pass")) (aM (mIx (mIx (aY 1) (aY 3)) (mC (.int 1))) (aM (cD (bQ 2 bH (lY 0 (cF (mC (.int 9)) cU)))) cY))))))
def uO:MS:=
 (cI (iJ 2 (pJ cY))
  (cI (a9X (a5W (aM (a2V (aY 1)) cY)) (gN 3)
  sH)
  tH))
def oZ:Fm:=mFn 2 uO
def lV:MS:=
 (cI (iJ 3 (cR (cD (vP (aY 2) (mC (.str " "))))))
  (cI (iJ 4 (cR (a4Y (mC (.int 1)) (cD (bQ 2 bH (lY 0 (cF (aEL (a2V (aY 3)) (mC (.int 1))) cU)))))))
  (cI (iJ 5 (cR (cD (pJ (aM (mC (.str "01")) (aM (mC (.str "-0")) (aM (mC (.str "1/1")) (aM (mC (.str "2/4")) (aM (mC (.str "1/0")) (aM (mC (.str "1.5")) (aM (mC (.str "x")) (aM (mC (.str "+1")) (aM (mC (.str "1_0")) (aM (aER (mC (.str "9")) (mC (.int 61))) (aM (yC (mC (.str "1/")) (aER (mC (.str "9")) (mC (.int 61)))) (aM (mC (.str "/2")) (aM (mC (.str "3/")) cY)))))))))))))))))
  (cI (iJ 6 (cR (a3K (mC (.str " ")) (cD (a7Q (cD (a7Q (cD (aEK (aY 3) pNo (pSo (aY 4)))) (cD (pJ (aM (mIx (aY 5) (cD (bQ 2 bH (lY 0 (cF (mC (.int 13)) cU))))) cY))))) (cD (aEK (aY 3) (pSo (a4Y (aY 4) (mC (.int 1)))) pNo)))))))
  (cI (iJ 7 (cR (mIx (cD (pJ (aM (mC (.str "pass 1 0")) (aM (mC (.str "join 1 2 3")) cY)))) (a2U (a99 (aY 1))))))
  (cI (iJ 8 (cR (cD (pJ (aM (aY 6) (aM (a3K (mC (.str " ")) (cD (aEK (aY 3) pNo (pSo (aMK (mC (.int 1))))))) (aM (yC (aY 2) (mC (.str " 1"))) (aM (yC (aY 2) (mC (.str " "))) (aM (aC7 (mC (.str " ")) (aY 2)) (aM (aIB 2 " " "  ") (aM (mC (.str "")) (aM (aY 7) cY))))))))))))
  (cI (iJ 8 (cR (cD (a7Q (aY 8) (cD (pJ (aM (yC (aB0 (mIx (aY 3) (mC (.int 0)))) (aRE (aY 2) (pSo (aF9 (mIx (aY 3) (mC (.int 0))))) pNo)) (aM (yC (mC (.str "x")) (aY 2)) (aM (mIx (aY 3) (mC (.int 0))) (aM (yC (mIx (aY 3) (mC (.int 0))) (mC (.str " -"))) (aM (yC (aY 2) (mC (.str ";"))) cY)))))))))))
  (cI (iJ 8 (cR (cD (a7Q (aY 8) (cD (pJ (aM (mIx (cD (pJ (aM (mC (.str "leave 1 -1")) (aM (mC (.str "deed -1")) cY)))) (a2U (a99 (aY 1)))) (aM (mIx (cD (pJ (aM (mC (.str "turn 1 1/2 0")) (aM (mC (.str "pass 1 1/2")) cY)))) (a2U (a99 (aY 1)))) cY))))))))
  (fK (cR (mIx (aY 8) (cD (bQ 2 bH (lY 0 (cF (mC (.int 15)) cU)))))))))))))))
def j6:Fm:=mFn 6 lV
def wO (xa:XA)(c:AA):MS:=
 (fK (cR (j7 (aM (mC (.str "other")) (aM (mC .none) cY)))))
def nQ (xa:XA)(c:AA):MS:=
 (cI (mIf (aAZ (dY (aGD 2 [(xa.nt,false),(xa.nl,true)])) (aAZ (zO (dY (aGD 2 [(xa.nt,true),(xa.nl,false)]))) (zO (dY (a9W "bool" (a9N 2 "at" [xa.nl]))))))
  (fK (cR (j7 (aM (mC (.str "log")) (aM (a9N 2 "at" [xa.nl]) cY)))))
  mNx)
  (wO xa c))
def jK (xa:XA)(c:AA):MS:=
 (cI (mIf (aAZ (dY (aGD 2 [(xa.nt,true),(xa.nl,false)])) (aAZ (zO (dY (aGD 2 [(xa.nt,false),(xa.nl,true)]))) (zO (dY (a9W "bool" (a9N 2 "line" [xa.nt]))))))
  (fK (cR (j7 (aM (mC (.str "text")) (aM (a9N 2 "line" [xa.nt]) cY)))))
  mNx)
  (nQ xa c))
def eU (xa:XA)(c:AA):MS:=
 (cI (mIf (mOr (zO (dY (aGD 2 [(xa.nt,true),(xa.nl,true)]))) (dY (aGD 2 [(xa.nt,false),(xa.nl,false)])))
  (fK (cR (j7 (aM (mC (.str "other")) (aM (mC .none) cY)))))
  mNx)
  (jK xa c))
def mK (xa:XA)(c:AA):MS:=
 (cI (iJ 2 (cR (mC .none)))
  (cI (mIf (dY (aY 0)) (sX 3 2 [xa.nt,xa.nl] 1 (eG xa c) (cF (aY 1) cU)) (sX 3 2 [xa.nt,xa.nl] 1 (dD xa c) (cF (aY 1) cU)))
  (cI (mIf (dY (a8L 2))
  (fK (cR (j7 (aM (mC (.str "read")) (aM (mC .none) cY)))))
  mNx)
  (eU xa c))))
def tV (xa:XA)(c:AA):Fm:=mFn 2 (mK xa c)
def cZ:Fm:=fun as Q=>∀ xa c,xa.nt≠xa.nl→tV xa c as Q
def kW:MS:=
 (zL 5 (fK (cR (mEq (cD (bQ 2 cZ (cF (aY 1) (cF (a3K (mC (.str "\n")) (aY 5)) cU)))) (j7 (aM (mC (.str "text")) (aM (aY 4) cY)))))))
def gO:MS:=
 (cI (zL 5 (mIf (dY (mEq (aY 5) (cD (pJ (aM (mC (.str "")) cY)))))
  (fK (cR (mC (.bool true))))
  mNx))
  kW)
def jN:MS:=
 (cI (iJ 3 (cR (cD (vP (aY 2) (mC (.str "\n"))))))
  (cI (iJ 4 (cR (cD (bQ 2 bH (lY 0 (cF (a2V (aY 3)) cU))))))
  (cI (iJ 5 (a7Q (cD (a7Q (cD (aEK (aY 3) pNo (pSo (aY 4)))) (cD (pJ (aM (cD (bQ 3 j6 (lY 0 (cF (aY 1) (cF (mIx (aY 3) (aY 4)) cU))))) cY))))) (cD (aEK (aY 3) (pSo (a4Y (aY 4) (mC (.int 1)))) pNo))))
  (cI (mIf (dY (mEq (cD (bQ 2 bH (lY 0 (cF (mC (.int 2)) cU)))) (mC (.int 0))))
  (gD 5 (mC (.str "x")))
  mNx)
  gO))))
def gA:Fm:=mFn 3 jN
def dC:MS:=
 (fK (cR (mEq (cD (bQ 2 cZ (cF (mC (.bool true)) (cF (cD (bQ 1 cG (cF (cD (a7Q (cD (a7Q (cD (aEK (aY 1) pNo (pSo (aY 2)))) (cD (pJ (aM (aY 5) cY))))) (cD (aEK (aY 1) (pSo (aY 2)) pNo)))) cU))) cU)))) (j7 (aM (mC (.str "log")) (aM (aY 2) cY))))))
def iB:MS:=
 (cI (iJ 2 (cR (cD (bQ 2 bH (lY 0 (cF (a4Y (a2V (aY 1)) (mC (.int 1))) cU))))))
  (cI (iJ 3 (cR (mIx (mIx (aY 1) (aV9 (aY 2) (aEL (a2V (aY 1)) (mC (.int 1))))) (mC (.int 1)))))
  (cI (iJ 4 (cR (j7 (aM (mC (.str "join")) (aM (j7 (aM (a4Y (aMK (mC (.int 1000000000))) (mC (.int 1))) (aM (mC (.int 1)) cY))) (aM (j7 (aM (mC (.int 0)) (aM (mC (.int 1)) cY))) (aM (j7 (aM (mC (.int 0)) (aM (mC (.int 1)) cY))) cY)))))))
  (cI (iJ 5 (cR (cD (pJ (aM (j7 (aM (mC (.str "leave")) (aM (aY 3) (aM (mC (.int 40)) cY)))) (aM (j7 (aM (mC (.str "turn")) (aM (aY 3) (aM (mC (.int 41)) (aM (j7 (aM (mC (.int 0)) (aM (mC (.int 1)) cY))) cY))))) (aM (j7 (aM (mC (.str "join")) (aM (aY 3) (aM (j7 (aM (mC (.int 1000000000)) (aM (mC (.int 1)) cY))) (aM (j7 (aM (mC (.int 0)) (aM (mC (.int 1)) cY))) cY))))) (aM (aY 4) cY))))))))
  (cI (iJ 5 (cR (mIx (cD (a7Q (aY 5) (cD (pJ (aM (j7 (aM (mC (.str "join")) (aM (aY 3) (aM (j7 (aM (mC (.int 1)) (aM (mC (.int 13)) cY))) (aM (j7 (aM (mC (.int 0)) (aM (mC (.int 1)) cY))) cY))))) cY))))) (cD (bQ 2 bH (lY 0 (cF (mC (.int 5)) cU)))))))
  (cI (mIf (aAZ (dY (mEq (aY 5) (aY 4))) (mOr (dY (mEq (aY 2) (mC (.int 0)))) (dY (mEq (mIx (mIx (aY 1) (aEL (aY 2) (mC (.int 1)))) (mC (.int 1))) (mIx (aY 4) (mC (.int 1)))))))
  (fK (cR (mC (.bool true))))
  mNx)
  dC))))))
def eY:Fm:=mFn 4 iB
def jP:MS:=
 (fK (cR (mEq (cD (bQ 2 cZ (cF (mC (.bool true)) (cF (cD (bQ 1 cG (cF (cD (a7Q (aY 1) (cD (pJ (aM (j7 (aM (mC (.str "leave")) (aM (mIx (aY 0) (mC (.int 1))) (aM (mC (.int 0)) cY)))) cY))))) cU))) cU)))) (j7 (aM (mC (.str "log")) (aM (mC (.int 40)) cY))))))
def iR:MS:=
 (cI (iJ 1 (cR (cD (a7Q (cD (pJ (aM (aY 0) cY))) (cD (aBA 1 [0] (a5W (aM (mC (.int 39)) cY)) (gN 0) a3U (j7 (aM (mC (.str "turn")) (aM (mIx (aY 1) (mC (.int 1))) (aM (mC (.int 0)) (aM (j7 (aM (aEL (aRD (aY 0) (mC (.int 7))) (mC (.int 3))) (aM (mC (.int 1)) cY))) cY)))))))))))
  (cI (mIf (dY (mNe (cD (bQ 2 cZ (cF (mC (.bool true)) (cF (cD (bQ 1 cG (cF (aY 1) cU))) cU)))) (j7 (aM (mC (.str "read")) (aM (mC .none) cY)))))
  (fK (cR (mC (.bool false))))
  mNx)
  jP))
def fO:Fm:=mFn 2 iR
def a09 (c:AA):MS:=
 (fK (bQ 1 fO (cF (mIx (aY 2) (mC (.int 0))) cU)))
def a0C (c:AA):MS:=
 (mIf (zO (dY (cD (bQ 2 eY (lY 1 (cF (aY 2) cU))))))
  (fK (cR (mC (.bool false))))
  mNx)
def uW (c:AA):MS:=
 (cI (iJ 8 (cR (cD (vP (mIx (aY 3) (a2U (aY 5))) (mC (.str "\n"))))))
  (mIf (dY (mNe (cD (bQ 2 cZ (cF (aY 5) (cF (a3K (mC (.str "\n")) (cD (a7Q (aY 8) (cD (pJ (aM (mC (.str "")) cY)))))) cU)))) (j7 (aM (mC (.str "text")) (aM (a2V (aY 8)) cY)))))
  (fK (cR (mC (.bool false))))
  mNx))
def a0G (c:AA):MS:=
 (cI (iJ 7 (cR (mIx (cD (pJ (aM (mC .none) (aM (mC (.int 5)) (aM (mC (.bool true)) (aM (aY 2) (aM (cD (pJ (aM (mIx (aY 3) (mC (.int 0))) cY))) (aM aLJ (aM (mC (.int 0)) cY))))))))) (cD (bQ 2 bH (lY 1 (cF (mC (.int 7)) cU)))))))
  (cI (mIf (dY (mNe (cD (bQ 2 cZ (cF (aY 5) (cF (aY 7) cU)))) (j7 (aM (mC (.str "text")) (aM (mC (.int 0)) cY)))))
  (fK (cR (mC (.bool false))))
  mNx)
  (uW c)))
def a0D (c:AA):MS:=
 (mIf (zO (dY (cD (bQ 3 gA (lY 1 (cF (aY 5) (cF (mIx (aY 3) (a2U (aY 5))) cU)))))))
  (fK (cR (mC (.bool false))))
  mNx)
def a05 (c:AA):MS:=
 (cI (a9X (a5W (aM (mC (.int 4)) cY)) (gN 6)
  (a0D c))
  (a0G c))
def uY (c:AA):MS:=
 (cI (mIf (dY (mNe (cD (bQ 2 cZ (cF (aY 5) (cF (mIx (aY 3) (a2U (aY 5))) cU)))) (j7 (aM (mC (.str "read")) (aM (mC .none) cY)))))
  (fK (cR (mC (.bool false))))
  mNx)
  (a05 c))
def a04 (c:AA):MS:=
 (cI (a9X (aQO (j7 (aM (mC (.bool true)) (aM (mC (.bool false)) cY)))) (gN 5)
  (uY c))
  (a0C c))
def v5 (c:AA):MS:=
 (cI (iJ 3 (cR (cD (pJ (aM (cD (bQ 1 cG (cF (cD (bQ 2 oZ (lY 1 (cF (aY 2) cU)))) cU))) (aM (cD (bQ 1 cG (cF (aY 2) cU))) cY))))))
  (cI (a9X (a5W (aM (mC (.int 2)) cY)) (gN 4)
  (a04 c))
  (a09 c)))
def zF (c:AA):MS:=
 (cI (iJ 2 (cR (cD (bQ 2 rT (lY 1 (cF (mC (.int 11)) cU))))))
  (cI (mIf (dY (mEq (aY 2) (cD (pJ cY))))
  (iJ 2 (cR (cD (pJ (aM (j7 (aM (mC (.str "join")) (aM (j7 (aM (mC (.int 0)) (aM (mC (.int 1)) cY))) (aM (cD (bQ 1 eN (lY 1 cU))) (aM (cD (bQ 1 eN (lY 1 cU))) cY))))) cY)))))
  mNx)
  (v5 c)))
section
variable (P0:AA→Hp→Prop)(P:AQ)(w:AK)(K:Fg)(mg:Mg)(base:AG)
abbrev lH:Prop:=Cal P w K mg base 1 "greatest_divisor" ["one", "other"] (spM P0 2 dF)
abbrev v4:Prop:=Cal P w K mg base 1 "is_whole" ["thing"] (spM P0 1 dU)
abbrev qR:Prop:=Cal P w K mg base 2 "number_of" ["top", "bottom"] (spM P0 2 iU)
abbrev aH2:Prop:=Cal P w K mg base 3 "sum_of" ["a", "b"] (spM P0 2 wR)
abbrev vG:Prop:=Cal P w K mg base 3 "product_of" ["a", "b"] (spM P0 2 j9)
abbrev yK:Prop:=Cal P w K mg base 3 "difference_of" ["a", "b"] (spM P0 2 gZ)
abbrev uK:Prop:=Cal P w K mg base 1 "whole_in" ["word"] (spM P0 1 gQ)
abbrev yE:Prop:=Cal P w K mg base 2 "is_number" ["thing"] (spM P0 1 fJ)
abbrev aF3:Prop:=Cal P w K mg base 2 "top_in" ["word"] (spM P0 1 xH)
abbrev a6B:Prop:=Cal P w K mg base 3 "number_in" ["word"] (spM P0 1 mW)
abbrev a8W:Prop:=Cal P w K mg base 4 "thing_in" ["kind", "word"] (spM P0 2 p8)
abbrev a06:Prop:=Cal P w K mg base 5 "parts_in" ["line", "forms"] (spM P0 2 lZ)
abbrev zQ:Prop:=Cal P w K mg base 4 "line_through" ["time", "place", "slope"] (spM P0 3 fZ)
abbrev a9Q:Prop:=Cal P w K mg base 4 "place_at" ["line", "time"] (spM P0 2 pG)
abbrev aDI:Prop:=Cal P w K mg base 1 "is_less" ["a", "b"] (spM P0 2 sI)
abbrev wI:Prop:=Cal P w K mg base 3 "is_deed_number" ["thing"] (spM P0 1 cJ)
abbrev aDD:Prop:=Cal P w K mg base 4 "is_deed" ["thing"] (spM P0 1 oJ)
abbrev aCP:Prop:=Cal P w K mg base 6 "deed_in" ["line"] (spM P0 1 tK)
abbrev aFJ:Prop:=Cal P w K mg base 6 "row_in" ["line"] (spM P0 1 xJ)
abbrev mO:Prop:=Cal P w K mg base 1 "_law_lowest" ["_law_top", "_law_bottom"] (spM P0 2 eF)
abbrev gH:Prop:=Cal P w K mg base 1 "_law_take" ["_law_pen", "_law_many"] (spM P0 2 bH)
abbrev a2Z:Prop:=Cal P w K mg base 2 "_law_small" ["_law_pen"] (spM P0 1 eN)
abbrev zU:Prop:=Cal P w K mg base 2 "_law_time_on" ["_law_pen", "_law_time"] (spM P0 2 jQ)
abbrev a6H:Prop:=Cal P w K mg base 1 "_law_told" ["_law_number"] (spM P0 1 oU)
abbrev o8:Prop:=Cal P w K mg base 8 "_law_heard" ["_law_is_log", "_law_thing"] (spM P0 2 cZ)
abbrev xU:Prop:=Cal P w K mg base 2 "_law_bad_line" ["_law_pen", "_law_is_log", "_law_line"] (spM P0 3 j6)
abbrev oK:Prop:=Cal P w K mg base 2 "_law_lines_of" ["_law_rows_here"] (spM P0 1 cG)
end
theorem scM {N ps:List Str}{sc:BH}(a:sc.kind=.function:=by rfl)(b:sc.isCoroutine=false:=by rfl)(c:sc.isGenerator=false:=by rfl)(d:N.Nodup:=by decide +kernel)(e:N.take ps.length=ps:=by rfl)(f:∀ x∈ps,sc.names.lookup x=some .local∨sc.names.lookup x=some .cell:=by decide +kernel)(g:∀ y∈sc.names,y.2≠.free:=by decide +kernel):FnScope N ps sc:=⟨a,b,c,d,e,f,g⟩
set_option hygiene false in
local macro_rules|`(tactic| walk_at "lc")=>`(tactic| first|exact B3 rfl|exact DR rfl)
section
variable {P0:AA→Hp→Prop}{P:AQ}{w:AK}{K:Fg}{mg:Mg}{base:AG}{f:AA}{fd:An}
abbrev pC:AL:=top 46
theorem sc_law_take:FnScope ["_law_pen", "_law_many", "_law_cell", "_law_digit"] ["_law_pen", "_law_many"] (aQ pC):=scM
theorem a68  (F:Fun K "_law_take" "_law_take" pC f fd)(B:Bl K mg) :
  FnOk P w K mg base CX0 1 f fd ["_law_pen", "_law_many"] (aCZ K):=by
 refine F.ok sc_law_take (fun vs H Q E h=>?_) (fun cdv A outer s H vs Q E hr h=>?_)
 ·obtain⟨pen,a,ns,m,rfl,⟨z,k,hz,hk,hp,hS⟩,hm,hm2,q⟩:=h;rfl
 have hu:=hr.units;obtain⟨pen,a,ns,m,rfl,⟨z,k,hz,hk,hp,hS⟩,hm,hm2,q⟩:=h;refine⟨_,(aH (cX (bG aT6 (bL ix_list (pv 0) aF (fun _ _=>rfl)) aF (bU _)) (aH (aB5 (cC gP (bL ix_list (pv 0) aF (fun _ _=>rfl)) aF) (aAJ (pv 0) aF set_list))
   (aH (cB (i:=2) sc_law_take.nd rfl (B3 rfl) aF)
   (aH (cX (bG aA4 (bD bT rfl B.len_ BD (aA (bL ix_list (pv 0) aF (fun _ _=>rfl)) aD)) aF (bU _)) (aL (cB (i:=2) sc_law_take.nd rfl (B3 rfl) (bL ix_list (bL ix_list (pv 0) aF (fun _ _=>rfl)) (cC pQ (bL ix_list (pv 0) aF (fun _ _=>rfl)) (bD bT rfl B.len_ BD (aA (bL ix_list (pv 0) aF (fun _ _=>rfl)) aD))) (fun _ _=>rfl)))) bW)
   (aL (cX (PW.pt (pW (bG a3D (bL ix_list (pv 0) aF (fun _ _=>rfl)) (bD bT rfl B.len_ BD (aA (bL ix_list (pv 0) aF (fun _ _=>rfl)) aD)) (bU _)) (oE (bG aQV (bD p6 rfl B.abs_ Dw (aA (pv 2) aD)) (a0X (v:=1000000000000000000) (by decide) ⟨by decide,by decide,by decide⟩) (bU _))))) (aL (aB5 (bD p6 rfl B.abs_ Dw (aA (pv 2) aD)) (aAJ (pv 0) aF set_list))) (aH (cB (i:=2) sc_law_take.nd rfl (B3 rfl) (cC pQ (cC aDL (cC gP (cC gP (cC pQ (pv 2) aF) (cC aDL aF (bL ix_list (pv 0) aF (fun _ _=>rfl)))) aF) aF) aF))
   (aL (bM (cC pQ (cC aAV (cC pQ (cC aDL (pv 2) (cC gP (cC gP (cC pQ (pv 2) aF) (bL ix_list (pv 0) aF (fun _ _=>rfl))) aF)) aF) aF) (pv 1)))))))))) bW)
   (aH (cB (i:=3) sc_law_take.nd rfl (B3 rfl) (cC pQ (bL ix_list (pv 0) aF (fun _ _=>rfl)) (pv 1)))
   (aH (aB5 (cC aAV (bL ix_list (pv 0) aF (fun _ _=>rfl)) (pv 1)) (aAJ (pv 0) aF set_list))
   (aL (bM (pv 3)))))),?_⟩
 have hl:(ns.map V.int).length=ns.length:=AO _;have hS3:∀ o,SqL K (upd H pen o) a (ns.map V.int):=fun o=>aLO hp hS (iD o);have fin:∀(z k:Int) (H2:Hp),0≤z→0≤k→H2 pen=some (.lst [.int z,.int k,.ref a])→SqL K H2 a (ns.map V.int)→SameX pen H H2→Q (.int (z%m)) (upd H2 pen (.lst [.int (z/m),.int k,.ref a])):=fun z k H2 hz hk hp2 hS2 hX=>
  q _ _ (Ca _ (by omega)) (CZ _ hm) ⟨z/m,k,Int.ediv_nonneg hz (by omega),hk,aW,aLO hp2 hS2 (iD _)⟩ (hX.trans (iD _))
 walk_at "!-ġŕ-";refine gF (fun e=>?_) (fun e=>?_)
 ·have e0:z=0:=aAP e;subst e0;have hS4:=hS3 (.lst [.int 0,.int (k+1),.ref a]);walk_at "!-ġ+-ĿEĢ+-";refine gF (fun e1=>?a) (fun e1=>?b)
  case' a=>
   have e1':0<(ns.length:Int):=by
    rw[hl] at e1;exact e1
   have h1:=Ca (k+1) (b:=(ns.length:Int)) (by omega);have h2:=CZ (k+1) e1';obtain⟨j,hj⟩:∃ j:Nat,(k+1)%(ns.length:Int)=(j:Int):=⟨((k+1)%(ns.length:Int)).toNat,by omega⟩;have hi:j<ns.length:=by omega
   have hv:atI (ns.map V.int) ((k+1)%((ns.map V.int).length:Int))=some (.int ns[j]):=by
    rw[hl,hj];refine uN ?_;rw[Ao,A0 hi];rfl
   have hpos:0<((ns.map V.int).length:Int):=by rw[hl]; exact e1'
   walk_at "!EEEĢ+Ą";refine⟨_,_,_,_,rfl,rfl,hS4,hv,?_⟩
  case' b=>
   have e2:¬k+1<((ns.map V.int).length:Int):=fun c=>e1 (by omega);walk_at "!EEĢ+-";refine aJM e2 ?_;walk_at "!-UE+ı+++ĲU--UE+++ĳU+Ĵ-+Ą";exact q _ _ (Ca _ (by omega)) (CZ _ hm) ⟨0,k+1,by omega,by omega,aW,hS4⟩ (iD _)
  case' a=>
   walk_at "!EEĢ+-";refine gF (fun e2=>?_) (fun e2=>?_)
   ·walk_at "!--+-";refine gF (fun e3=>?_) (fun e3=>?_)
    ·have hcd:∀ z,aT8 z m:=fun z=>⟨hm,hm2⟩;walk_at "!---ŀE-+ĄE-+";refine A8 (hcd _) ?_;walk_at "!-ŀ-";exact fin _ (k+1) _ (a83 _) (by omega) aW (aLO aW hS4 (iD _)) ((iD _).trans (iD _))
    ·walk_at "!-UE+ı+++ĲU--UE+++ĳU+Ĵ-+Ą";exact q _ _ (Ca _ (by omega)) (CZ _ hm) ⟨0,k+1,by omega,by omega,aW,hS4⟩ (iD _)
   ·walk_at "!-UE+ı+++ĲU--UE+++ĳU+Ĵ-+Ą";exact q _ _ (Ca _ (by omega)) (CZ _ hm) ⟨0,k+1,by omega,by omega,aW,hS4⟩ (iD _)
 ·have hcd:aT8 z m:=⟨hm,hm2⟩;walk_at "!-ġ-+Ą-ġ-+Ą-Ŀ-";exact fin z k H hz hk hp hS (SameX.refl _ _)
theorem a3N {a:AA}{ns:List Int}  (F:Fun K "_law_take" "_law_take" pC f fd)(B:Bl K mg) :
  FnOk P w K mg base CX0 1 f fd ["_law_pen", "_law_many"] (spM (eO K a ns) 2 bH):=(a68 F B).imp aFT
abbrev uP:AL:=top 10
theorem a67:FnScope ["thing"] ["thing"] (aQ uP):=scM
theorem a5Y  (F:Fun K "is_whole" "is_whole" uP f fd)(B:Bl K mg)(Kt:Kit K) :
  FnOk P w K mg base CX0 1 f fd ["thing"] (spM P0 1 dU):=
 F.okV a67 rfl rfl fun cdv A outer s H E hr=>
 have hu:=hr.units
 ⟨_,(aL (bM (t7 (bD j4 rfl B.isinstance_ Ba (aA (pv 0) (aA (kI (v:=.ty "int") rfl B.int_ C6 rfl) aD))) (a03 (a8A (bD j4 rfl B.isinstance_ Ba (aA (pv 0) (aA (kI (v:=.ty "bool") rfl B.bool_ boot_bool rfl) aD)))))))),
  ((bV (aU (tM (qC Kt (by decide) aB) (a81 (qC Kt (by decide) aB))))):VS P0 _ mG)⟩
abbrev gY:AL:=top 11
theorem sc_greatest_divisor:FnScope ["one", "other", "divisor", "rest", "left_over"] ["one", "other"] (aQ gY):=scM
theorem qO  (F:Fun K "greatest_divisor" "greatest_divisor" gY f fd)(B:Bl K mg)(Kt:Kit K) :
  FnOk P w K mg base CX0 1 f fd ["one", "other"] (spM P0 2 dF):=
 F.okV sc_greatest_divisor rfl rfl fun cdv A outer s H E hr=>
 have hu:=hr.units
 ⟨_,(aH (cB (i:=2) sc_greatest_divisor.nd rfl (by walk_at "lc") (bD p6 rfl B.abs_ Dw (aA (pv 0) aD)))
   (aH (cB (i:=3) sc_greatest_divisor.nd rfl (by walk_at "lc") (bD p6 rfl B.abs_ Dw (aA (pv 1) aD)))
   (aH (a6T CS (bG (q9 hu) (pv 3) aF (bU _)) (aH (cB (i:=4) sc_greatest_divisor.nd rfl (by walk_at "lc") (cC pQ (pv 2) (pv 3)))
   (aH (cB (i:=2) sc_greatest_divisor.nd rfl (by walk_at "lc") (pv 3))
   (aL (cB (i:=3) sc_greatest_divisor.nd rfl (by walk_at "lc") (pv 4))))))
   (aL (bM (pv 2)))))),
  ((aX (bY (aU (a6V aB)))
   (aX (bY (aU (a6V aB)))
   (aX (a6X (bO (zV aB aG)) (aX (bY (aU (aBM aB aB)))
   (aX (bY (aU aB))
   (bY (aU aB)))))
   (bV (aU aB))))):VS P0 _ iI)⟩
abbrev qZ:AL:=top 13
theorem sc_number_of:FnScope ["top", "bottom", "divisor"] ["top", "bottom"] (aQ qZ):=scM
theorem a2Q  (F:Fun K "number_of" "number_of" qZ f fd)(B:Bl K mg)(Kt:Kit K)
  (ak:lH P0 P w K mg base)
  (a9:v4 P0 P w K mg base) :
  FnOk P w K mg base CX0 2 f fd ["top", "bottom"] (spM P0 2 iU):=
 F.okV sc_number_of rfl rfl fun cdv A outer s H E hr=>
 have hu:=hr.units
 ⟨_,(aH (cX (PW.pt (qJ (fX (dN (aJ a9 hr rfl (aA (pv 0) aD)))) (qJ (fX (dN (aJ a9 hr rfl (aA (pv 1) aD)))) (oH (bG (dB hu) (pv 1) aF (bU _)))))) (aL aFY) bW)
   (aH (cB (i:=2) sc_number_of.nd rfl (by walk_at "lc") (aJ ak hr rfl (aA (pv 0) (aA (pv 1) aD))))
   (aH (cX (bG a3D (pv 1) aF (bU _)) (aL (cB (i:=2) sc_number_of.nd rfl (by walk_at "lc") (aC2 a2R (pv 2)))) bW)
   (aL (bM (cT (aA (cC sY (pv 0) (pv 2)) (aA (cC sY (pv 1) (pv 2)) aD)))))))),
  ((aX (dR (jZ (dH (iK (aN (aP (aO aB aR))))) (jZ (dH (iK (aN (aP (aO aB aR))))) (bO (gM aB aG)))) aF0 dZ)
   (aX (bY (aU (aN (aP (aO aB (aO aB aR))))))
   (aX (dR (bO (a6P aB aG)) (bY (aU (a4S aB))) dZ)
   (bV (aU (cA (aC (yR aB aB) (aC (yR aB aB) bC)))))))):VS P0 _ qH)⟩
abbrev a2G:AL:=top 14
theorem aBK:FnScope ["a", "b"] ["a", "b"] (aQ a2G):=scM
theorem aDV  (F:Fun K "sum_of" "sum_of" a2G f fd)(B:Bl K mg)(Kt:Kit K)
  (ah:qR P0 P w K mg base) :
  FnOk P w K mg base CX0 3 f fd ["a", "b"] (spM P0 2 wR):=
 F.okV aBK rfl rfl fun cdv A outer s H E hr=>
 have hu:=hr.units
 ⟨_,(aL (bM (aJ ah hr rfl (aA (cC gP (cC gR (bL aV (pv 0) aF (fun _ _=>rfl)) (bL aV (pv 1) aF (fun _ _=>rfl))) (cC gR (bL aV (pv 1) aF (fun _ _=>rfl)) (bL aV (pv 0) aF (fun _ _=>rfl)))) (aA (cC gR (bL aV (pv 0) aF (fun _ _=>rfl)) (bL aV (pv 1) aF (fun _ _=>rfl))) aD))))),
  ((bV (aP (aO (kO (lF (bR aB aG) (bR aB aG)) (lF (bR aB aG) (bR aB aG))) (aO (lF (bR aB aG) (bR aB aG)) aR)))):VS P0 _ a1H)⟩
abbrev jX:AL:=top 15
theorem wJ:FnScope ["a", "b"] ["a", "b"] (aQ jX):=scM
theorem wN  (F:Fun K "difference_of" "difference_of" jX f fd)(B:Bl K mg)(Kt:Kit K)
  (ah:qR P0 P w K mg base) :
  FnOk P w K mg base CX0 3 f fd ["a", "b"] (spM P0 2 gZ):=
 F.okV wJ rfl rfl fun cdv A outer s H E hr=>
 have hu:=hr.units
 ⟨_,(aL (bM (aJ ah hr rfl (aA (cC u5 (cC gR (bL aV (pv 0) aF (fun _ _=>rfl)) (bL aV (pv 1) aF (fun _ _=>rfl))) (cC gR (bL aV (pv 1) aF (fun _ _=>rfl)) (bL aV (pv 0) aF (fun _ _=>rfl)))) (aA (cC gR (bL aV (pv 0) aF (fun _ _=>rfl)) (bL aV (pv 1) aF (fun _ _=>rfl))) aD))))),
  ((bV (aP (aO (u9 (lF (bR aB aG) (bR aB aG)) (lF (bR aB aG) (bR aB aG))) (aO (lF (bR aB aG) (bR aB aG)) aR)))):VS P0 _ kJ)⟩
abbrev nU:AL:=top 16
theorem a1P:FnScope ["a", "b"] ["a", "b"] (aQ nU):=scM
theorem a0V  (F:Fun K "product_of" "product_of" nU f fd)(B:Bl K mg)(Kt:Kit K)
  (ah:qR P0 P w K mg base) :
  FnOk P w K mg base CX0 3 f fd ["a", "b"] (spM P0 2 j9):=
 F.okV a1P rfl rfl fun cdv A outer s H E hr=>
 have hu:=hr.units
 ⟨_,(aL (bM (aJ ah hr rfl (aA (cC gR (bL aV (pv 0) aF (fun _ _=>rfl)) (bL aV (pv 1) aF (fun _ _=>rfl))) (aA (cC gR (bL aV (pv 0) aF (fun _ _=>rfl)) (bL aV (pv 1) aF (fun _ _=>rfl))) aD))))),
  ((bV (aP (aO (lF (bR aB aG) (bR aB aG)) (aO (lF (bR aB aG) (bR aB aG)) aR)))):VS P0 _ o9)⟩
abbrev xR:AL:=top 17
theorem a8G:FnScope ["a", "b"] ["a", "b"] (aQ xR):=scM
theorem a8V  (F:Fun K "is_less" "is_less" xR f fd)(B:Bl K mg)(Kt:Kit K) :
  FnOk P w K mg base CX0 1 f fd ["a", "b"] (spM P0 2 sI):=
 F.okV a8G rfl rfl fun cdv A outer s H E hr=>
 have hu:=hr.units
 ⟨_,(aL (bM (iQ a3D (cC gR (bL aV (pv 0) aF (fun _ _=>rfl)) (bL aV (pv 1) aF (fun _ _=>rfl))) (cC gR (bL aV (pv 1) aF (fun _ _=>rfl)) (bL aV (pv 0) aF (fun _ _=>rfl))) (bU _)))),
  ((bV (aU (a6P (lF (bR aB aG) (bR aB aG)) (lF (bR aB aG) (bR aB aG))))):VS P0 _ xW)⟩
abbrev vB:AL:=top 19
theorem a6D:FnScope ["line", "time"] ["line", "time"] (aQ vB):=scM
theorem a6A  (F:Fun K "place_at" "place_at" vB f fd)(B:Bl K mg)(Kt:Kit K)
  (br:aH2 P0 P w K mg base)
  (al:vG P0 P w K mg base) :
  FnOk P w K mg base CX0 4 f fd ["line", "time"] (spM P0 2 pG):=
 F.okV a6D rfl rfl fun cdv A outer s H E hr=>
 have hu:=hr.units
 ⟨_,(aL (bM (aJ br hr rfl (aA (bL aV (pv 0) aF (fun _ _=>rfl)) (aA (aJ al hr rfl (aA (bL aV (pv 0) aF (fun _ _=>rfl)) (aA (pv 1) aD))) aD))))),
  ((bV (aP (aO (bR aB aG) (aO (aN (aP (aO (bR aB aG) (aO aB aR)))) aR)))):VS P0 _ uE)⟩
abbrev lO:AL:=top 20
theorem yN:FnScope ["time", "place", "slope"] ["time", "place", "slope"] (aQ lO):=scM
theorem yG  (F:Fun K "line_through" "line_through" lO f fd)(B:Bl K mg)(Kt:Kit K)
  (bt:yK P0 P w K mg base)
  (al:vG P0 P w K mg base) :
  FnOk P w K mg base CX0 4 f fd ["time", "place", "slope"] (spM P0 3 fZ):=
 F.okV yN rfl rfl fun cdv A outer s H E hr=>
 have hu:=hr.units
 ⟨_,(aL (bM (cT (aA (aJ bt hr rfl (aA (pv 1) (aA (aJ al hr rfl (aA (pv 2) (aA (pv 0) aD))) aD))) (aA (pv 2) aD))))),
  ((bV (aU (cA (aC (aN (aP (aO aB (aO (aN (aP (aO aB (aO aB aR)))) aR)))) (aC aB bC))))):VS P0 _ lL)⟩
abbrev qY:AL:=top 12
theorem a3S:FnScope ["thing"] ["thing"] (aQ qY):=scM
theorem a4T  (F:Fun K "is_number" "is_number" qY f fd)(B:Bl K mg)(Kt:Kit K)
  (ak:lH P0 P w K mg base)
  (a9:v4 P0 P w K mg base) :
  FnOk P w K mg base CX0 2 f fd ["thing"] (spM P0 1 fJ):=
 F.okV a3S rfl rfl fun cdv A outer s H E hr=>
 have hu:=hr.units
 ⟨_,(aH (cX (PW.pt (qJ (fX (dN (bD j4 rfl B.isinstance_ Ba (aA (pv 0) (aA (kI (v:=.ty "tuple") rfl B.tuple_ FY rfl) aD))))) (oH (bG (q9 hu) (bD bT rfl B.len_ BD (aA (pv 0) aD)) aF (bU _))))) (aL (bM mJ)) bW)
   (aH (cX (PW.pt (qJ (fX (dN (aJ a9 hr rfl (aA (bL aV (pv 0) aF (fun _ _=>rfl)) aD)))) (oH (fX (dN (aJ a9 hr rfl (aA (bL aV (pv 0) aF (fun _ _=>rfl)) aD))))))) (aL (bM mJ)) bW)
   (aL (bM (t7 (iQ aQV (bL aV (pv 0) aF (fun _ _=>rfl)) aF (bU _)) (a03 (iQ (dB hu) (aJ ak hr rfl (aA (bL aV (pv 0) aF (fun _ _=>rfl)) (aA (bL aV (pv 0) aF (fun _ _=>rfl)) aD))) aF (bU _)))))))),
  ((aX (dR (jZ (dH (iK (qC Kt (by decide) aB))) (bO (zV (kY aB) aG))) (bV (aU m7)) dZ)
   (aX (dR (jZ (dH (iK (aN (aP (aO (bR aB aG) aR))))) (dH (iK (aN (aP (aO (bR aB aG) aR)))))) (bV (aU m7)) dZ)
   (bV (aU (tM (aUO (bR aB aG) aG) (gM (aN (aP (aO (bR aB aG) (aO (bR aB aG) aR)))) aG)))))):VS P0 _ jY)⟩
abbrev pH:AL:=top 34
theorem a6G:FnScope ["word", "sign"] ["word"] (aQ pH):=scM
theorem a6F  {tk_FIGURES:Tok}(hg_FIGURES:mg "FIGURES" = some (.str "0123456789" tk_FIGURES)){tk_MOST_FIGURES:Tok}(hg_MOST_FIGURES:mg "MOST_FIGURES" = some (.int 60 tk_MOST_FIGURES))(F:Fun K "whole_in" "whole_in" pH f fd)(B:Bl K mg)(Kt:Kit K) :
  FnOk P w K mg base CX0 1 f fd ["word"] (spM P0 1 gQ):=
 F.okV a6G rfl rfl fun cdv A outer s H E hr=>
 have hu:=hr.units
 ⟨_,(aH (cX (PW.pt (qJ (bG (dB hu) (pv 0) aZ (bU _)) (qJ (bG aA4 (bD a4F rfl B.len_ BD (aA (pv 0) aD)) (gW (v:=.int 60) rfl hg_MOST_FIGURES ⟨_,rfl⟩) (bU _)) (oH (fX (dN (bD (a2N rfl) rfl B.all_ boot_all (aA (a1E (N:=["sign"]) (nt:=1) (fv:=[]) rfl (a4N (osc:=aQ pH) (ON:=["word", "sign"]) (by decide +kernel)) (aO8 (pv 0)) (fun _ _ _ _=>(fV (i:=0) (show(["sign"]:List Str).Nodup by decide +kernel) rfl (by walk_at "lc"))) (fun _ _ _ _=>zJ) (fun _ _ _ _=>(iQ aQ4 (pv 0) (gW (v:=.str "0123456789") rfl hg_FIGURES ⟨_,rfl⟩) (by with_unfolding_all rfl)))) aD)))))))) (aL (bM eQ)) bW)
   (aH (cX (PW.pt (pW (bG (dB hu) (bL aV (pv 0) aF (fun _ _=>rfl)) aZ (bU _)) (oE (bG (q9 hu) (pv 0) aZ (bU _))))) (aL (bM eQ)) bW)
   (aL (bM (dW aDK rfl B.int_ C6 (aA (pv 0) aD)))))),
  ((aX (dR (jZ (bO (gM aB bB)) (jZ (bO (aFA (aB4 aB) aG)) (dH (iK (aIL (aN (a5M (aMT aB) fW tE (aN7 aB bB)))))))) (bV (aU iC)) dZ)
   (aX (dR (mL (bO (gM (aOJ aB aG) bB)) (bO (zV aB bB))) (bV (aU iC)) dZ)
   (bV (aU (aL2 aB))))):VS P0 _ uC)⟩
abbrev a1T:AL:=top 35
theorem sc_top_in:FnScope ["word", "top"] ["word"] (aQ a1T):=scM
theorem aCG  (F:Fun K "top_in" "top_in" a1T f fd)(B:Bl K mg)(Kt:Kit K)
  (ag:uK P0 P w K mg base) :
  FnOk P w K mg base CX0 2 f fd ["word"] (spM P0 1 xH):=
 F.okV sc_top_in rfl rfl fun cdv A outer s H E hr=>
 have hu:=hr.units
 ⟨_,(aH (cX (fX (dN (jA Bo PySem.F.slot_str_startswith PySem.F.type_str_startswith aAX (pv 0) (aA aZ aD)))) (aL (bM (aJ ag hr rfl (aA (pv 0) aD)))) bW)
   (aH (cB (i:=1) sc_top_in.nd rfl (by walk_at "lc") (aJ ag hr rfl (aA (gC aHI (pv 0) (jO aF) jJ) aD)))
   (aL (bM (oW (PW.pt (qJ (bG a79 (pv 1) eQ (bU _)) (oH (bG (dB hu) (pv 1) aF (bU _))))) eQ (aC2 a2R (pv 1))))))),
  ((aX (dR (dH (iK (aBB aB bB))) (bV (aP (aO aB aR))) dZ)
   (aX (bY (aU (aN (aP (aO (aHJ aB (wH aG) wL) aR)))))
   (bV (a0A (jZ (bO (a7O aB)) (bO (gM aB aG))) (aU iC) (aU (a4S aB)))))):VS P0 _ a2B)⟩
abbrev qK:AL:=top 36
theorem sc_number_in:FnScope ["word", "parts", "top", "bottom"] ["word"] (aQ qK):=scM
theorem a2T  (F:Fun K "number_in" "number_in" qK f fd)(B:Bl K mg)(Kt:Kit K)
  (am:yE P0 P w K mg base)
  (ag:uK P0 P w K mg base)
  (bu:aF3 P0 P w K mg base) :
  FnOk P w K mg base CX0 3 f fd ["word"] (spM P0 1 mW):=
 F.okV sc_number_in rfl rfl fun cdv A outer s H E hr=>
 have hu:=hr.units
 ⟨_,(aH (cB (i:=1) sc_number_in.nd rfl (by walk_at "lc") (jA Bo Dx Dy oX (pv 0) (aA aZ aD)))
   (aH (cX (bG aA4 (bD bT rfl B.len_ BD (aA (pv 1) aD)) aF (bU _)) (aL (bM eQ)) bW)
   (aH (cB (i:=2) sc_number_in.nd rfl (by walk_at "lc") (aJ bu hr rfl (aA (bL aV (pv 1) aF (fun _ _=>rfl)) aD)))
   (aH (cX (bG (dB hu) (bD bT rfl B.len_ BD (aA (pv 1) aD)) aF (bU _)) (aL (bM (oW (bG a79 (pv 2) eQ (bU _)) eQ (cT (aA (pv 2) (aA aF aD)))))) bW)
   (aH (cB (i:=3) sc_number_in.nd rfl (by walk_at "lc") (aJ ag hr rfl (aA (bL aV (pv 1) aF (fun _ _=>rfl)) aD)))
   (aL (bM (oW (PW.pt (pW (bG (q9 hu) (pv 3) aF (bU _)) (oE (dN (aJ am hr rfl (aA (cT (aA (pv 2) (aA (pv 3) aD))) aD)))))) (cT (aA (pv 2) (aA (pv 3) aD))) eQ)))))))),
  ((aX (bY (aU (aN (p7 aB bB))))
   (aX (dR (bO (aFA (kY aB) aG)) (bV (aU iC)) dZ)
   (aX (bY (aU (aN (aP (aO (bR aB aG) aR)))))
   (aX (dR (bO (gM (kY aB) aG)) (bV (a0A (bO (a7O aB)) (aU iC) (aU (cA (aC aB (aC aG bC)))))) dZ)
   (aX (bY (aU (aN (aP (aO (bR aB aG) aR)))))
   (bV (a0A (mL (bO (zV aB aG)) (iK (aN (aP (aO (cA (aC aB (aC aB bC))) aR))))) (aU (cA (aC aB (aC aB bC)))) (aU iC)))))))):VS P0 _ qN)⟩
abbrev uI:AL:=top 37
theorem a5N:FnScope ["kind", "word"] ["kind", "word"] (aQ uI):=scM
theorem a6N  (F:Fun K "thing_in" "thing_in" uI f fd)(B:Bl K mg)(Kt:Kit K)
  (bv:a6B P0 P w K mg base)
  (ag:uK P0 P w K mg base) :
  FnOk P w K mg base CX0 4 f fd ["kind", "word"] (spM P0 2 p8):=
 F.okV a5N rfl rfl fun cdv A outer s H E hr=>
 have hu:=hr.units
 ⟨_,(aL (bM (oW (bG (dB hu) (pv 0) aZ (bU _)) (aJ bv hr rfl (aA (pv 1) aD)) (aJ ag hr rfl (aA (pv 1) aD))))),
  ((bV (a0A (bO (gM aB bB)) (aP (aO aB aR)) (aP (aO aB aR)))):VS P0 _ pK)⟩
abbrev uG:AL:=top 38
theorem sc_parts_in:FnScope ["line", "forms", "words", "form", "parts", "kind", "word"] ["line", "forms"] (aQ uG):=scM
theorem a5F  (F:Fun K "parts_in" "parts_in" uG f fd)(B:Bl K mg)(Kt:Kit K)
  (bw:a8W P0 P w K mg base) :
  FnOk P w K mg base CX0 5 f fd ["line", "forms"] (spM P0 2 lZ):=
 F.okV sc_parts_in rfl rfl fun cdv A outer s H E hr=>
 have hu:=hr.units
 ⟨_,(aH (cB (i:=2) sc_parts_in.nd rfl (by walk_at "lc") (jA Bo Dx Dy oX (pv 0) (aA aZ aD)))
   (aH (cB (i:=3) sc_parts_in.nd rfl (by walk_at "lc") (aEN (hu1 hu) (pv 1) (bL aV (pv 2) aF (fun _ _=>rfl)) ⟨rfl,rfl,rfl,rfl⟩))
   (aH (cX (PW.pt (qJ (bG a79 (pv 3) eQ (bU _)) (oH (bG (q9 hu) (bD bT rfl B.len_ BD (aA (pv 2) aD)) (cC gP (bD bT rfl B.len_ BD (aA (pv 3) aD)) aF) (bU _))))) (aL (bM eQ)) bW)
   (aH (cB (i:=4) sc_parts_in.nd rfl (by walk_at "lc") (eV (aA (bL aV (pv 2) aF (fun _ _=>rfl)) aD)))
   (aH (t6 CS rfl (aKG rfl B.zip_ (aA (pv 3) (aA (gC oM (pv 2) (jO aF) jJ) aD))) (aHW rfl (wZ (fV (i:=5) sc_parts_in.nd rfl (by walk_at "lc")) (wZ (fV (i:=6) sc_parts_in.nd rfl (by walk_at "lc")) aB2))) (aL (gK (jA By CC CD fH (pv 4) (aA (aJ bw hr rfl (aA (pv 5) (aA (pv 6) aD))) aD)))))
   (aL (bM (oW (bG (aHZ hu) eQ (pv 4) (by with_unfolding_all rfl)) eQ (dW aCB rfl B.tuple_ FY (aA (pv 4) aD)))))))))),
  ((aX (bY (aU (aN (p7 aB bB))))
   (aX (bY (aU (aHD (bR aB aG))))
   (aX (dR (jZ (bO (a7O aB)) (bO (zV (kY aB) (kO (kY aB) aG)))) (bV (aU iC)) dZ)
   (aX (bY (cW (aC (bR aB aG) bC)))
   (aX (vN (aLI aB (aN (vZ aB (wH aG) wL))) (aIK (xG fW (xG fW aAB))) (fG (aN (aP (aO aB (aO aB aR))))))
   (a4D (bV (a0A (bO (aMX iC aB)) (aU iC) (aU (aJK aB)))))))))):VS P0 _ uQ)⟩
abbrev a2J:AL:=top 40
theorem aCK:FnScope ["line"] ["line"] (aQ a2J):=scM
theorem aB3  (F:Fun K "row_in" "row_in" a2J f fd)(B:Bl K mg)(Kt:Kit K)
  (ao:a06 P0 P w K mg base) :
  FnOk P w K mg base CX0 6 f fd ["line"] (spM P0 1 xJ):=
 F.okV aCK rfl rfl fun cdv A outer s H E hr=>
 have hu:=hr.units
 ⟨_,(aL (bM (aJ ao hr rfl (aHL (fP (pv 0) (a3C (a7W (rN aZ (yQ (fP aZ qP)) (rN aZ (yQ (fP aZ (fP aZ qP))) a9Z)) rfl rfl (by simp) (by decide)) qP)))))),
  ((bV (aP (aO aB (aBH (tG (cA (aC bB bC)) (tG (cA (aC bB (aC bB bC))) aEF)) aR)))):VS P0 _ a0O)⟩
abbrev xM:AL:=top 39
theorem a8K:FnScope ["line"] ["line"] (aQ xM):=scM
theorem a9O  (F:Fun K "deed_in" "deed_in" xM f fd)(B:Bl K mg)(Kt:Kit K)
  (ao:a06 P0 P w K mg base) :
  FnOk P w K mg base CX0 6 f fd ["line"] (spM P0 1 tK):=
 F.okV a8K rfl rfl fun cdv A outer s H E hr=>
 have hu:=hr.units
 ⟨_,(aL (bM (aJ ao hr rfl (aHL (fP (pv 0) (a3C (a7W (rN aZ (yQ (fP aZ (fP aZ (fP aZ qP)))) (rN aZ (yQ (fP aZ (fP aZ qP))) (rN aZ (yQ (fP aZ (fP aZ (fP aZ qP)))) a9Z))) rfl rfl (by simp) (by decide)) qP)))))),
  ((bV (aP (aO aB (aBH (tG (cA (aC bB (aC bB (aC bB bC)))) (tG (cA (aC bB (aC bB bC))) (tG (cA (aC bB (aC bB (aC bB bC)))) aEF))) aR)))):VS P0 _ xZ)⟩
abbrev a2F:AL:=inClass (top 23) 0
theorem aCT:FnScope ["self"] ["self"] (aQ a2F):=scM
theorem aVY {H:Hp}{w:AA}{o o':HO}:upd (upd H w o) w o'=upd H w o':=by
 funext b
 by_cases h:b=w
 ·rw[h,aW,aW]
 ·rw[bA h,bA h,bA h]
theorem a8N  {c:AA}(cl:Cls K c)(n_running:NoAttr K c "running")(n_joined:NoAttr K c "joined")(n_last:NoAttr K c "last")(F:Fun K "__init__" "Field.__init__" a2F f fd)(B:Bl K mg):FnOk P w K mg base CX0 1 f fd ["self"] (a1L c):=by
 refine F.ok aCT (fun vs H Q E h=>?_) (fun cdv A outer s H vs Q E hr h=>?_)
 ·obtain⟨w,d,rfl,_⟩:=h;rfl
 have hu:=hr.units;obtain⟨w,d,rfl,hw,q⟩:=h;refine⟨_,(aH (a8B (pv 0) aGO rfl) (aH (a8B (pv 0) aF rfl) (aL (a8B (pv 0) eQ rfl)))),?_⟩;intro p hp;have pw:w≠p:=fun z=>by rw[z,hp] at hw; cases hw
 refine⟨_,rfl,w,c,d,[],rfl,by rw[bA pw]; exact hw,cl,n_running,by decide,?_⟩;refine⟨_,rfl,w,c,d,_,rfl,aW,cl,n_joined,(by show 1<1000; decide),?_⟩;refine⟨_,rfl,w,c,d,_,rfl,aW,cl,n_last,(by show 2<1000; decide),?_⟩;have z:=q p hp;rw[aVY,aVY];exact z
abbrev lR:AL:=inClass (top 23) 3
theorem sc_f_add_runner:FnScope ["self", "line", "runner"] ["self", "line"] (aQ lR):=scM
theorem yW  {c:AA}(cl:Cls K c)(n_running:NoAttr K c "running")(n_joined:NoAttr K c "joined")(n_last:NoAttr K c "last")(F:Fun K "add_runner" "Field.add_runner" lR f fd)(B:Bl K mg)(Kt:Kit K) :
  FnOk P w K mg base CX0 1 f fd ["self", "line"] (spL P0 (bN c) 2 (iY c)):=
 F.okL sc_f_add_runner rfl rfl fun cdv A outer s H E hr=>
 have hu:=hr.units
 ⟨_,(aH (cB (i:=2) sc_f_add_runner.nd rfl (by walk_at "lc") (rZ (pv 0) rfl))
   (aH (aBL (hu1 hu) (rZ (pv 0) rfl) (pv 2) (pv 1) rfl)
   (aH (aAQ (pv 0) aF aR3)
   (aL (bM (pv 2)))))),
  ((aX (bY (aU (a5P cl n_joined)))
   (aX (a80 cl n_running aB aB)
   (aX (a8S cl n_joined)
   (uM (aU aB))))):VS P0 _ (lQ c))⟩
abbrev aAL:AL:=inClass (top 23) 2
theorem sc_f_do:FnScope ["self", "deed", "place"] ["self", "deed"] (aQ aAL):=scM
theorem aJQ  {c:AA}(cl:Cls K c)(n_running:NoAttr K c "running")(n_joined:NoAttr K c "joined")(n_last:NoAttr K c "last"){f_add_runner:AA}{fd_add_runner:An}(M_add_runner:Meth K c "add_runner" f_add_runner)(F_add_runner:FnOk P w K mg base CX0 1 f_add_runner fd_add_runner ["self", "line"] (spL P0 (bN c) 2 (iY c)))(b_add_runner:Binds K fd_add_runner ["self", "line"] [])(F:Fun K "do" "Field.do" aAL f fd)(B:Bl K mg)(Kt:Kit K)
  (bi:zQ P0 P w K mg base)
  (c5:a9Q P0 P w K mg base) :
  FnOk P w K mg base CX0 5 f fd ["self", "deed"] (spL P0 (bN c) 2 (a8C c)):=
 F.okL sc_f_do rfl rfl fun cdv A outer s H E hr=>
 have hu:=hr.units
 ⟨_,(aH (a8B (pv 0) (bL aV (pv 1) aF (fun _ _=>rfl)) rfl)
   (aH (cX (bG (dB hu) (bL aV (pv 1) aF (fun _ _=>rfl)) aZ (bU _)) (aL (bM (a6O (pv 0) cl M_add_runner F_add_runner (hr.mono (by decide)) b_add_runner .nil aDY (aA (aJ bi hr rfl (aA (bL aV (pv 1) aF (fun _ _=>rfl)) (aA (bL aV (pv 1) aF (fun _ _=>rfl)) (aA (bL aV (pv 1) aF (fun _ _=>rfl)) aD)))) aD)))) bW)
   (aH (cX (bG (dB hu) (bL aV (pv 1) aF (fun _ _=>rfl)) aZ (bU _)) (aL (gK (aGG (rZ (pv 0) rfl) (bL aV (pv 1) aF (fun _ _=>rfl)) ⟨rfl,rfl,rfl,rfl⟩))) (aH (cB (i:=2) sc_f_do.nd rfl (by walk_at "lc") (aJ c5 hr rfl (aA (aKJ (hu1 hu) (rZ (pv 0) rfl) (bL aV (pv 1) aF (fun _ _=>rfl)) (fun _ _=>rfl)) (aA (bL aV (pv 1) aF (fun _ _=>rfl)) aD))))
   (aL (aBL (hu1 hu) (rZ (pv 0) rfl) (bL aV (pv 1) aF (fun _ _=>rfl)) (aJ bi hr rfl (aA (bL aV (pv 1) aF (fun _ _=>rfl)) (aA (pv 2) (aA (bL aV (pv 1) aF (fun _ _=>rfl)) aD)))) rfl))))
   (aL (bM eQ))))),
  ((aX (a8O cl n_last (bR aB aG))
   (aX (dR (bO (gM (bR aB aG) bB)) (uM (a2D (aBV (fun _ _=>rfl)) (aO (aN (aP (aO (bR aB aG) (aO (bR aB aG) (aO (bR aB aG) aR))))) aR))) dZ)
   (aX (dR (bO (gM (bR aB aG) bB)) (aCW (aF4 cl n_running (bR aB aG))) (aX (bY (aU (aN (aP (aO (aM3 cl n_running (bR aB aG)) (aO (bR aB aG) aR))))))
   (a80 cl n_running (aN (aP (aO (bR aB aG) (aO aB (aO (bR aB aG) aR))))) (bR aB aG))))
   (uM (aU iC))))):VS P0 _ (aBI c))⟩
abbrev uZ:AL:=inClass (top 23) 1
theorem a6M:FnScope ["self", "deed"] ["self", "deed"] (aQ uZ):=scM
theorem a6J  {c:AA}(cl:Cls K c)(n_running:NoAttr K c "running")(n_joined:NoAttr K c "joined")(n_last:NoAttr K c "last"){tk_MOST_RUNNERS:Tok}(hg_MOST_RUNNERS:mg "MOST_RUNNERS" = some (.int 8 tk_MOST_RUNNERS))(F:Fun K "allows" "Field.allows" uZ f fd)(B:Bl K mg)(Kt:Kit K)
  (c6:aDI P0 P w K mg base) :
  FnOk P w K mg base CX0 2 f fd ["self", "deed"] (spL P0 (bN c) 2 (jV c)):=
 F.okL a6M rfl rfl fun cdv A outer s H E hr=>
 have hu:=hr.units
 ⟨_,(aH (cX (PW.pt (pW (bG aL4 (rZ (pv 0) rfl) eQ (bU _)) (oE (dN (aJ c6 hr rfl (aA (bL aV (pv 1) aF (fun _ _=>rfl)) (aA (rZ (pv 0) rfl) aD))))))) (aL (bM mJ)) bW)
   (aH (cX (bG (dB hu) (bL aV (pv 1) aF (fun _ _=>rfl)) aZ (bU _)) (aL (bM (iQ a3D (bD aCQ rfl B.len_ BD (aA (rZ (pv 0) rfl) aD)) (gW (v:=.int 8) rfl hg_MOST_RUNNERS ⟨_,rfl⟩) (bU _)))) bW)
   (aL (bM (aPR (aNL (hu1 hu) (bL aV (pv 1) aF (fun _ _=>rfl)) (rZ (pv 0) rfl))))))),
  ((aX (dR (mL (bO (aKH (a3Q cl n_last))) (iK (aN (aP (aO (bR aB aG) (aO (a3Q cl n_last) aR)))))) (uM (aU m7)) dZ)
   (aX (dR (bO (gM (bR aB aG) bB)) (uM (aU (a6P (aFN cl n_running) aG))) dZ)
   (uM (aU (aMD cl n_running (bR aB aG)))))):VS P0 _ (pL c))⟩
abbrev jE:AL:=top 28
theorem uL:FnScope ["thing"] ["thing"] (aQ jE):=scM
theorem uT  {tk_GREATEST_TOP:Tok}(hg_GREATEST_TOP:mg "GREATEST_TOP" = some (.int 999999999 tk_GREATEST_TOP)){tk_GREATEST_BOTTOM:Tok}(hg_GREATEST_BOTTOM:mg "GREATEST_BOTTOM" = some (.int 12 tk_GREATEST_BOTTOM))(F:Fun K "is_deed_number" "is_deed_number" jE f fd)(B:Bl K mg)(Kt:Kit K)
  (am:yE P0 P w K mg base) :
  FnOk P w K mg base CX0 3 f fd ["thing"] (spM P0 1 cJ):=
 F.okV uL rfl rfl fun cdv A outer s H E hr=>
 have hu:=hr.units
 ⟨_,(aH (cX (fX (dN (aJ am hr rfl (aA (pv 0) aD)))) (aL (bM mJ)) bW)
   (aL (bM (t7 (iQ aNP (bD p6 rfl B.abs_ Dw (aA (bL aV (pv 0) aF (fun _ _=>rfl)) aD)) (gW (v:=.int 999999999) rfl hg_GREATEST_TOP ⟨_,rfl⟩) (bU _)) (a03 (iQ aNP (bL aV (pv 0) aF (fun _ _=>rfl)) (gW (v:=.int 12) rfl hg_GREATEST_BOTTOM ⟨_,rfl⟩) (bU _))))))),
  ((aX (dR (dH (iK (aN (aP (aO aB aR))))) (bV (aU m7)) dZ)
   (bV (aU (tM (aQA (a6V (bR aB aG)) aG) (aQA (bR aB aG) aG))))):VS P0 _ jM)⟩
abbrev rG:AL:=top 29
theorem a9B:FnScope ["thing", "part"] ["thing"] (aQ rG):=scM
theorem a8I  (F:Fun K "is_deed" "is_deed" rG f fd)(B:Bl K mg)(Kt:Kit K)
  (ai:wI P0 P w K mg base)
  (a9:v4 P0 P w K mg base) :
  FnOk P w K mg base CX0 4 f fd ["thing"] (spM P0 1 oJ):=
 F.okV a9B rfl rfl fun cdv A outer s H E hr=>
 have hu:=hr.units
 ⟨_,(aH (cX (PW.pt (qJ (fX (dN (bD j4 rfl B.isinstance_ Ba (aA (pv 0) (aA (kI (v:=.ty "tuple") rfl B.tuple_ FY rfl) aD))))) (qJ (bG a3D (bD bT rfl B.len_ BD (aA (pv 0) aD)) aF (bU _)) (oH (fX (dN (bD j4 rfl B.isinstance_ Ba (aA (bL aV (pv 0) aF (fun _ _=>rfl)) (aA (kI (v:=.ty "str") rfl B.str_ Dz rfl) aD))))))))) (aL (bM mJ)) bW)
   (aH (cX (bG (dB hu) (bL aV (pv 0) aF (fun _ _=>rfl)) aZ (bU _)) (aL (bM (t7 (iQ (dB hu) (bD bT rfl B.len_ BD (aA (pv 0) aD)) aF (bU _)) (a03 (bD (a2N rfl) rfl B.all_ boot_all (aA (a1E (N:=["part"]) (nt:=1) (fv:=[]) rfl (a4N (osc:=aQ rG) (ON:=["thing", "part"]) (by decide +kernel)) (aC3 (gC aIJ (pv 0) (jO aF) jJ)) (fun _ _ _ _=>(fV (i:=0) (show(["part"]:List Str).Nodup by decide +kernel) rfl (by walk_at "lc"))) (fun _ _ _ _=>zJ) (fun _ _ _ _=>(aJ ai hr rfl (aA (pv 0) aD)))) aD)))))) bW)
   (aH (cX (bG (dB hu) (bL aV (pv 0) aF (fun _ _=>rfl)) aZ (bU _)) (aL (bM (t7 (iQ (dB hu) (bD bT rfl B.len_ BD (aA (pv 0) aD)) aF (bU _)) (t7 (aJ ai hr rfl (aA (bL aV (pv 0) aF (fun _ _=>rfl)) aD)) (a03 (aJ a9 hr rfl (aA (bL aV (pv 0) aF (fun _ _=>rfl)) aD))))))) bW)
   (aH (cX (bG (dB hu) (bL aV (pv 0) aF (fun _ _=>rfl)) aZ (bU _)) (aL (bM (t7 (iQ (dB hu) (bD bT rfl B.len_ BD (aA (pv 0) aD)) aF (bU _)) (t7 (aJ a9 hr rfl (aA (bL aV (pv 0) aF (fun _ _=>rfl)) aD)) (t7 (aJ ai hr rfl (aA (bL aV (pv 0) aF (fun _ _=>rfl)) aD)) (a03 (aJ ai hr rfl (aA (bL aV (pv 0) aF (fun _ _=>rfl)) aD)))))))) bW)
   (aL (bM mJ)))))),
  ((aX (dR (jZ (dH (iK (qC Kt (by decide) aB))) (jZ (bO (a6P (kY aB) aG)) (dH (iK (qC Kt (by decide) (bR aB aG)))))) (bV (aU m7)) dZ)
   (aX (dR (bO (gM (bR aB aG) bB)) (bV (aU (tM (gM (kY aB) aG) (aIL (aN (a5M (aE6 (aI0 aB (wH aG) wL)) fW tE (aN (aP (aO aB aR))))))))) dZ)
   (aX (dR (bO (gM (bR aB aG) bB)) (bV (aU (tM (gM (kY aB) aG) (tM (aN (aP (aO (bR aB aG) aR))) (aN (aP (aO (bR aB aG) aR))))))) dZ)
   (aX (dR (bO (gM (bR aB aG) bB)) (bV (aU (tM (gM (kY aB) aG) (tM (aN (aP (aO (bR aB aG) aR))) (tM (aN (aP (aO (bR aB aG) aR))) (aN (aP (aO (bR aB aG) aR)))))))) dZ)
   (bV (aU m7)))))):VS P0 _ xT)⟩
abbrev pI:AL:=inClass (top 7) 0
theorem a5V:FnScope ["self", "line"] ["self", "line"] (aQ pI):=scM
theorem a69  {xa:XA}{D0 c0 c1 c2 c3:AA}(F:Fun K "__init__" "NoText.__init__" pI f fd)(x:Xcs K mg xa D0 c0 c1 c2 c3) :
  FnOk P w K mg base CX0 1 f fd ["self", "line"] (aRC xa.nt "line"):=by
 refine F.ok a5V (fun vs H Q E h=>?_) (fun cdv A outer s H vs Q E hr h=>?_)
 ·obtain⟨e,i,rfl,_⟩:=h;rfl
 have hu:=hr.units;obtain⟨e,i,rfl,hx,hz,q⟩:=h;refine⟨_,(aH (a76 (D0:=D0) (C:=xa.nt) rfl x.hD x.pD x.rD x.fD x.z_NoText.ex (aA (pv 0) (aA (a7H (pv 1)) aD)))
  (aL (aBW (C:=xa.nt) x.z_NoText.ex x.a_NoText x.n_NoText (pv 0) (pv 1)))),?_⟩
 exact⟨_,rfl,_,rfl,i,rfl,a3W hz,aHG hz,e,_,rfl,hx,_,rfl,_,rfl,e,rfl,hx,q⟩
abbrev tO:AL:=inClass (top 6) 0
theorem a8P:FnScope ["self", "at"] ["self", "at"] (aQ tO):=scM
theorem a93  {xa:XA}{D0 c0 c1 c2 c3:AA}(F:Fun K "__init__" "NoLog.__init__" tO f fd)(x:Xcs K mg xa D0 c0 c1 c2 c3) :
  FnOk P w K mg base CX0 1 f fd ["self", "at"] (aRC xa.nl "at"):=by
 refine F.ok a8P (fun vs H Q E h=>?_) (fun cdv A outer s H vs Q E hr h=>?_)
 ·obtain⟨e,i,rfl,_⟩:=h;rfl
 have hu:=hr.units;obtain⟨e,i,rfl,hx,hz,q⟩:=h;refine⟨_,(aH (a76 (D0:=D0) (C:=xa.nl) rfl x.hD x.pD x.rD x.fD x.z_NoLog.ex (aA (pv 0) (aA (a7H (pv 1)) aD)))
  (aL (aBW (C:=xa.nl) x.z_NoLog.ex x.a_NoLog x.n_NoLog (pv 0) (pv 1)))),?_⟩
 exact⟨_,rfl,_,rfl,i,rfl,a3W hz,aHG hz,e,_,rfl,hx,_,rfl,_,rfl,e,rfl,hx,q⟩
abbrev a0R:AL:=top 30
theorem sc_log_of:FnScope ["thing", "field", "at", "deed"] ["thing"] (aQ a0R):=scM
theorem a97  {xa:XA}{c:AA}{D0 c0 c1 c2 c3:AA}(cl:Cls K c)(n_running:NoAttr K c "running")(n_joined:NoAttr K c "joined")(n_last:NoAttr K c "last"){fI:AA}{fdI:An}(hmF:mg "Field" = some (.ref c))(MI:Mk K c fI)(FI:FnOk P w K mg base CX0 1 fI fdI ["self"] (a1L c))(bI:Binds K fdI ["self"] []){f_allows:AA}{fd_allows:An}(M_allows:Meth K c "allows" f_allows)(F_allows:FnOk P w K mg base CX0 2 f_allows fd_allows ["self", "deed"] (spL P0 (bN c) 2 (jV c)))(b_allows:Binds K fd_allows ["self", "deed"] []){f_do:AA}{fd_do:An}(M_do:Meth K c "do" f_do)(F_do:FnOk P w K mg base CX0 5 f_do fd_do ["self", "deed"] (spL P0 (bN c) 2 (a8C c)))(b_do:Binds K fd_do ["self", "deed"] []){tk_MOST_DEEDS:Tok}(hg_MOST_DEEDS:mg "MOST_DEEDS" = some (.int 40 tk_MOST_DEEDS))(F:Fun K "log_of" "log_of" a0R f fd)(B:Bl K mg)(Kt:Kit K)(x:Xcs K mg xa D0 c0 c1 c2 c3)(i_NoText:Ini P w K mg base 1 xa.nt "line")(i_NoLog:Ini P w K mg base 1 xa.nl "at")
  (c7:aDD P0 P w K mg base) :
  FnOk P w K mg base (CX2 P w) 6 f fd ["thing"] (spX P0 1 (iW xa c)):=
 F.okE sc_log_of rfl rfl fun cdv A outer s H E hr=>
 have hu:=hr.units
 ⟨_,(aH (cX (fX (dN (bD j4 rfl B.isinstance_ Ba (aA (pv 0) (aA (kI (v:=.ty "list") rfl B.list_ boot_list rfl) aD))))) (aL (rW (E:=E) i_NoLog hr (fun _ _ _ _ _ _ I h1 h2 hE=>I.leave2 rfl rfl rfl h1 h2 hE) rfl rfl rfl x.h_NoLog x.z_NoLog (aA aF aD))) bW)
   (aH (cB (i:=1) sc_log_of.nd rfl (by walk_at "lc") (aEU MI FI (hr.mono (by decide)) rfl hmF bI .nil aDY))
   (aH (t6 Bs.leaving rfl (aLR rfl B.enumerate_ (aA (pv 0) aD)) (aHW rfl (wZ (fV (i:=2) sc_log_of.nd rfl (by walk_at "lc")) (wZ (fV (i:=3) sc_log_of.nd rfl (by walk_at "lc")) aB2))) (aH (cX (PW.pt (qJ (bG (dB hu) (pv 2) (gW (v:=.int 40) rfl hg_MOST_DEEDS ⟨_,rfl⟩) (bU _)) (qJ (fX (dN (aJ c7 hr rfl (aA (pv 3) aD)))) (oH (fX (dN (a6O (pv 1) cl M_allows F_allows (hr.mono (by decide)) b_allows .nil aDY (aA (pv 3) aD)))))))) (aL (rW (E:=E) i_NoLog hr (fun _ _ _ _ _ _ I h1 h2 hE=>I.leave2 rfl rfl rfl h1 h2 hE) rfl rfl rfl x.h_NoLog x.z_NoLog (aA (pv 2) aD))) bW)
   (aL (gK (a6O (pv 1) cl M_do F_do (hr.mono (by decide)) b_do .nil aDY (aA (pv 3) aD))))))
   (aL (bM (dW a4R rfl B.list_ boot_list (aA (pv 0) aD))))))),
  ((sE (aFV (dH (iK (qC Kt (by decide) aB))) (wW (aC aG bC)) (a1B dZ))
   (sE (a1B (bY aG3))
   (sE (aN0 (aKY aB) (aIK (xG fW (xG fW aAB))) (sE (aFV (jZ (bO (gM aB aG)) (jZ (dH (iK (aN (aP (aO aB aR))))) (dH (iK (aN (a2D (aBV (fun _ _=>rfl)) (aO aB aR))))))) (wW (aC aB bC)) (a1B dZ))
   (a1B (aCW (aN (a2D (aBV (fun _ _=>rfl)) (aO aB aR)))))))
   (a1B (bV (aBE aB)))))):VSX E P0 aI8 _ (v7 xa c))⟩
abbrev uX:AL:=top 41
theorem a6R:FnScope ["text"] ["text"] (aQ uX):=scM
theorem a3J  {xa:XA}{c:AA}{D0 c0 c1 c2 c3:AA}(F:Fun K "lines_in" "lines_in" uX f fd)(B:Bl K mg)(Kt:Kit K)(x:Xcs K mg xa D0 c0 c1 c2 c3)(i_NoText:Ini P w K mg base 1 xa.nt "line")(i_NoLog:Ini P w K mg base 1 xa.nl "at") :
  FnOk P w K mg base (CX2 P w) 3 f fd ["text"] (spX P0 1 (dG xa c)):=
 F.okE a6R rfl rfl fun cdv A outer s H E hr=>
 have hu:=hr.units
 ⟨_,(aH (cX (fX (dN (bD j4 rfl B.isinstance_ Ba (aA (pv 0) (aA (kI (v:=.ty "str") rfl B.str_ Dz rfl) aD))))) (aL (rW (E:=E) i_NoText hr (fun _ _ _ _ _ _ I h1 h2 hE=>I.leave2 rfl rfl rfl h1 h2 hE) rfl rfl rfl x.h_NoText x.z_NoText (aA aF aD))) bW)
   (aL (bM (oW (bG (q9 hu) (pv 0) aZ (bU _)) (jA Bo Dx Dy oX (pv 0) (aA aZ aD)) (eV aD))))),
  ((sE (aFV (dH (iK (qC Kt (by decide) aB))) (wW (aC aG bC)) (a1B dZ))
   (a1B (bV (a0A (bO (zV aB bB)) (p7 aB bB) (cW bC))))):VSX E P0 aI8 _ (lJ xa c))⟩
abbrev gG:AL:=top 42
theorem pN:FnScope ["parts"] ["parts"] (aQ gG):=scM
theorem oO  {xa:XA}{c:AA}{D0 c0 c1 c2 c3:AA}(F:Fun K "refuse_first_none" "refuse_first_none" gG f fd)(B:Bl K mg)(Kt:Kit K)(x:Xcs K mg xa D0 c0 c1 c2 c3)(i_NoText:Ini P w K mg base 1 xa.nt "line")(i_NoLog:Ini P w K mg base 1 xa.nl "at") :
  FnOk P w K mg base (CX2 P w) 3 f fd ["parts"] (spX P0 1 (bZ xa c)):=
 F.okE pN rfl rfl fun cdv A outer s H E hr=>
 have hu:=hr.units
 ⟨_,(aL (cX (bG (aHZ hu) eQ (pv 0) (by with_unfolding_all rfl)) (aL (rW (E:=E) i_NoText hr (fun _ _ _ _ _ _ I h1 h2 hE=>I.leave2 rfl rfl rfl h1 h2 hE) rfl rfl rfl x.h_NoText x.z_NoText (aA (jA By PySem.F.slot_list_index PySem.F.type_list_index (aC8 hu) (pv 0) (aA eQ aD)) aD))) bW)),
  ((aFV (bO (aMX iC aB)) (wW (aC (aBG aB iC) bC)) (a1B dZ)):VSX E P0 aI8 _ (fB xa c))⟩
abbrev oV:AL:=top 43
theorem sc_read_log:FnScope ["text", "deeds", "line"] ["text"] (aQ oV):=scM
theorem a2X  {xa:XA}{c:AA}{D0 c0 c1 c2 c3:AA}(F:Fun K "read_log" "read_log" oV f fd)(B:Bl K mg)(Kt:Kit K)(x:Xcs K mg xa D0 c0 c1 c2 c3)(i_NoText:Ini P w K mg base 1 xa.nt "line")(i_NoLog:Ini P w K mg base 1 xa.nl "at")
  (cx_log_of:CalX P w K mg base 6 "log_of" ["thing"] (spX P0 1 (iW xa c)))
  (cx_refuse_first_none:CalX P w K mg base 3 "refuse_first_none" ["parts"] (spX P0 1 (bZ xa c)))
  (cx_lines_in:CalX P w K mg base 3 "lines_in" ["text"] (spX P0 1 (dG xa c)))
  (c8:aCP P0 P w K mg base) :
  FnOk P w K mg base (CX2 P w) 7 f fd ["text"] (spX P0 1 (eG xa c)):=
 F.okE sc_read_log rfl rfl fun cdv A outer s H E hr=>
 have hu:=hr.units
 ⟨_,(aH (aB1 (N:=["line"]) (nt:=1) (fv:=[]) (i:=1) sc_read_log.nd rfl rfl rfl (a4N (osc:=aQ oV) (ON:=["text", "deeds", "line"]) (by decide +kernel)) (a5D (rF (E:=E) cx_lines_in hr (xP fun _ _ _ h=>h) rfl (aA (pv 0) aD))) (fun _ _ _ _=>(fV (i:=0) (show(["line"]:List Str).Nodup by decide +kernel) rfl (by walk_at "lc"))) (fun _ _ _ _=>zJ) (fun _ _ _ _=>(aJ c8 hr rfl (aA (pv 0) aD))))
   (aH (gK (rF (E:=E) cx_refuse_first_none hr (xP fun _ _ _ h=>h) rfl (aA (pv 1) aD)))
   (aL (bM (rF (E:=E) cx_log_of hr (xP fun _ _ _ h=>h) rfl (aA (pv 1) aD)))))),
  ((sE (aHS (aBJ (a85 (tW (aO aB aR)) fW tE (aN (aP (aO aB aR))))))
   (sE (aCV (tW (aO aB aR)))
   (aR2 (tW (aO aB aR))))):VSX E P0 aI8 _ (lE xa c))⟩
abbrev mQ:AL:=top 44
theorem sc_read_book:FnScope ["text", "rows", "line"] ["text"] (aQ mQ):=scM
theorem a1A  {xa:XA}{c:AA}{D0 c0 c1 c2 c3:AA}(F:Fun K "read_book" "read_book" mQ f fd)(B:Bl K mg)(Kt:Kit K)(x:Xcs K mg xa D0 c0 c1 c2 c3)(i_NoText:Ini P w K mg base 1 xa.nt "line")(i_NoLog:Ini P w K mg base 1 xa.nl "at")
  (cx_refuse_first_none:CalX P w K mg base 3 "refuse_first_none" ["parts"] (spX P0 1 (bZ xa c)))
  (cx_lines_in:CalX P w K mg base 3 "lines_in" ["text"] (spX P0 1 (dG xa c)))
  (cb:aFJ P0 P w K mg base) :
  FnOk P w K mg base (CX2 P w) 7 f fd ["text"] (spX P0 1 (dD xa c)):=
 F.okE sc_read_book rfl rfl fun cdv A outer s H E hr=>
 have hu:=hr.units
 ⟨_,(aH (aB1 (N:=["line"]) (nt:=1) (fv:=[]) (i:=1) sc_read_book.nd rfl rfl rfl (a4N (osc:=aQ mQ) (ON:=["text", "rows", "line"]) (by decide +kernel)) (a5D (rF (E:=E) cx_lines_in hr (xP fun _ _ _ h=>h) rfl (aA (pv 0) aD))) (fun _ _ _ _=>(fV (i:=0) (show(["line"]:List Str).Nodup by decide +kernel) rfl (by walk_at "lc"))) (fun _ _ _ _=>zJ) (fun _ _ _ _=>(aJ cb hr rfl (aA (pv 0) aD))))
   (aH (gK (rF (E:=E) cx_refuse_first_none hr (xP fun _ _ _ h=>h) rfl (aA (pv 1) aD)))
   (aL (bM (pv 1))))),
  ((sE (aHS (aBJ (a85 (tW (aO aB aR)) fW tE (aN (aP (aO aB aR))))))
   (sE (aCV (tW (aO aB aR)))
   (a1B (bV (aU aB))))):VSX E P0 aI8 _ (jR xa c))⟩
abbrev nY:AL:=top 47
theorem sc_law_lowest:FnScope ["_law_top", "_law_bottom", "_law_one", "_law_other"] ["_law_top", "_law_bottom"] (aQ nY):=scM
theorem a1D  (F:Fun K "_law_lowest" "_law_lowest" nY f fd)(B:Bl K mg)(Kt:Kit K) :
  FnOk P w K mg base CX0 1 f fd ["_law_top", "_law_bottom"] (spM P0 2 eF):=
 F.okV sc_law_lowest rfl rfl fun cdv A outer s H E hr=>
 have hu:=hr.units
 ⟨_,(aH (cB (i:=2) sc_law_lowest.nd rfl (by walk_at "lc") (bD p6 rfl B.abs_ Dw (aA (pv 0) aD)))
   (aH (cB (i:=3) sc_law_lowest.nd rfl (by walk_at "lc") (pv 1))
   (aH (a6T CS (bG aA4 (pv 3) aF (bU _)) (aL (aQI (i:=2) (j:=3) rfl sc_law_lowest.nd rfl rfl (by decide) rfl rfl (aA (pv 3) (aA (cC pQ (pv 2) (pv 3)) aD)) rfl)))
   (aL (bM (cT (aA (cC sY (pv 0) (pv 2)) (aA (cC sY (pv 1) (pv 2)) aD)))))))),
  ((aX (bY (aU (a6V aB)))
   (aX (bY (aU aB))
   (aX (a6X (bO (aFA aB aG)) (aOH (aC aB (aC (aBM aB aB) bC))))
   (bV (aU (cA (aC (yR aB aB) (aC (yR aB aB) bC)))))))):VS P0 _ oG)⟩
abbrev nA:AL:=top 48
theorem sc_law_time_on:FnScope ["_law_pen", "_law_time", "_law_more"] ["_law_pen", "_law_time"] (aQ nA):=scM
theorem zP  (F:Fun K "_law_time_on" "_law_time_on" nA f fd)(B:Bl K mg)(Kt:Kit K)
  (af:mO P0 P w K mg base)
  (a6:gH P0 P w K mg base) :
  FnOk P w K mg base CX0 2 f fd ["_law_pen", "_law_time"] (spM P0 2 jQ):=
 F.okV sc_law_time_on rfl rfl fun cdv A outer s H E hr=>
 have hu:=hr.units
 ⟨_,(aH (cB (i:=2) sc_law_time_on.nd rfl (by walk_at "lc") (aJ af hr rfl (aA (aJ a6 hr rfl (aA (pv 0) (aA aF aD))) (aA (bL aV (eV (aA aF (aA aF (aA aF (aA aF aD))))) (aJ a6 hr rfl (aA (pv 0) (aA aF aD))) (fun _ _=>rfl)) aD))))
   (aH (cB (i:=2) sc_law_time_on.nd rfl (by walk_at "lc") (bL aV (eV (aA (cT (aA aF (aA aF aD))) (aA (pv 2) (aA (pv 2) aD)))) (aJ a6 hr rfl (aA (pv 0) (aA aF aD))) (fun _ _=>rfl)))
   (aL (bM (aJ af hr rfl (aA (cC gP (cC gR (bL aV (pv 1) aF (fun _ _=>rfl)) (bL aV (pv 2) aF (fun _ _=>rfl))) (cC gR (bL aV (pv 2) aF (fun _ _=>rfl)) (bL aV (pv 1) aF (fun _ _=>rfl)))) (aA (cC gR (bL aV (pv 1) aF (fun _ _=>rfl)) (bL aV (pv 2) aF (fun _ _=>rfl))) aD))))))),
  ((aX (bY (aU (aN (aP (aO (aN (aP (cL (aO aG aR)))) (aO (bR (aN (cW (aC aG (aC aG (aC aG (aC aG bC)))))) (aN (aP (cL (aO aG aR))))) aR))))))
   (aX (bY (aU (bR (aN (cW (aC (cA (aC aG (aC aG bC))) (aC aB (aC aB bC))))) (aN (aP (cL (aO aG aR)))))))
   (bV (aP (aO (kO (lF (bR aB aG) (bR aB aG)) (lF (bR aB aG) (bR aB aG))) (aO (lF (bR aB aG) (bR aB aG)) aR)))))):VS P0 _ nD)⟩
abbrev qT:AL:=top 49
theorem sc_law_small:FnScope ["_law_pen", "_law_way"] ["_law_pen"] (aQ qT):=scM
theorem a2P  (F:Fun K "_law_small" "_law_small" qT f fd)(B:Bl K mg)(Kt:Kit K)
  (af:mO P0 P w K mg base)
  (a6:gH P0 P w K mg base) :
  FnOk P w K mg base CX0 2 f fd ["_law_pen"] (spM P0 1 eN):=
 F.okV sc_law_small rfl rfl fun cdv A outer s H E hr=>
 have hu:=hr.units
 ⟨_,(aH (cB (i:=1) sc_law_small.nd rfl (by walk_at "lc") (aJ a6 hr rfl (aA (pv 0) (aA aF aD))))
   (aH (cX (bG a3D (pv 1) aF (bU _)) (aL (bM (cT (aA (cC u5 (aJ a6 hr rfl (aA (pv 0) (aA aF aD))) aF) (aA aF aD))))) bW)
   (aH (cX (bG (dB hu) (pv 1) aF (bU _)) (aL (bM (aJ af hr rfl (aA (cC u5 (aJ a6 hr rfl (aA (pv 0) (aA aF aD))) aF) (aA (cC gP aF (aJ a6 hr rfl (aA (pv 0) (aA aF aD)))) aD))))) bW)
   (aL (bM (aJ af hr rfl (aA (cC gR (cC gP (aJ a6 hr rfl (aA (pv 0) (aA (cC u5 (a0X (v:=1000000000) (by decide) ⟨by decide,by decide,by decide⟩) aF) aD))) aF) (bL aV (eV (aA aF (aA (aC2 a2R aF) aD))) (aJ a6 hr rfl (aA (pv 0) (aA aF aD))) (fun _ _=>rfl))) (aA (cC gP aF (aJ a6 hr rfl (aA (pv 0) (aA aF aD)))) aD)))))))),
  ((aX (bY (aU (aN (aP (cL (aO aG aR))))))
   (aX (dR (bO (a6P aB aG)) (bV (aU (cA (aC (u9 (aN (aP (cL (aO aG aR)))) aG) (aC aG bC))))) dZ)
   (aX (dR (bO (gM aB aG)) (bV (aP (aO (u9 (aN (aP (cL (aO aG aR)))) aG) (aO (kO aG (aN (aP (cL (aO aG aR))))) aR)))) dZ)
   (bV (aP (aO (lF (kO (aN (aP (cL (aO (u9 aG aG) aR)))) aG) (bR (aN (cW (aC aG (aC (a4S aG) bC)))) (aN (aP (cL (aO aG aR)))))) (aO (kO aG (aN (aP (cL (aO aG aR))))) aR))))))):VS P0 _ qW)⟩
abbrev xQ:AL:=top 50
theorem sc_law_log:FnScope ["_law_pen", "_law_most", "_law_log_here", "_law_running", "_law_joined", "_law_time", "_law_k", "_law_way"] ["_law_pen", "_law_most"] (aQ xQ):=scM
theorem a9M  (F:Fun K "_law_log" "_law_log" xQ f fd)(B:Bl K mg)(Kt:Kit K)
  (a6:gH P0 P w K mg base)
  (ac:a2Z P0 P w K mg base)
  (cf:zU P0 P w K mg base)
  (af:mO P0 P w K mg base) :
  FnOk P w K mg base CX0 3 f fd ["_law_pen", "_law_most"] (spM P0 2 rT):=
 F.okV sc_law_log rfl rfl fun cdv A outer s H E hr=>
 have hu:=hr.units
 ⟨_,(aH (cB (i:=2) sc_law_log.nd rfl (by walk_at "lc") (eV aD))
   (aH (cB (i:=3) sc_law_log.nd rfl (by walk_at "lc") (eV aD))
   (aH (cB (i:=4) sc_law_log.nd rfl (by walk_at "lc") aF)
   (aH (cB (i:=5) sc_law_log.nd rfl (by walk_at "lc") (aJ af hr rfl (aA (cC u5 (aJ a6 hr rfl (aA (pv 0) (aA aF aD))) aF) (aA (cC gP aF (aJ a6 hr rfl (aA (pv 0) (aA aF aD)))) aD))))
   (aH (t6 CS rfl (o4 rfl B.range_ (aA (aJ a6 hr rfl (aA (pv 0) (aA (cC gP (pv 1) aF) aD))) aD)) (fV (i:=6) sc_law_log.nd rfl (by walk_at "lc")) (aH (cB (i:=5) sc_law_log.nd rfl (by walk_at "lc") (aJ cf hr rfl (aA (pv 0) (aA (pv 5) aD))))
   (aH (cX (bG aA4 (bL aV (pv 5) aF (fun _ _=>rfl)) aF (bU _)) (aL (cB (i:=5) sc_law_log.nd rfl (by walk_at "lc") (cT (aA (cC gP (cC sY (bL aV (pv 5) aF (fun _ _=>rfl)) (bL aV (pv 5) aF (fun _ _=>rfl))) aF) (aA aF aD))))) bW)
   (aH (cB (i:=7) sc_law_log.nd rfl (by walk_at "lc") (aJ a6 hr rfl (aA (pv 0) (aA aF aD))))
   (aL (cX (PW.pt (qJ (bG (dB hu) (pv 3) (eV aD) (bU _)) (oH (PW.pt (pW (bG a3D (pv 7) aF (bU _)) (oE (bG a3D (bD bT rfl B.len_ BD (aA (pv 3) aD)) aF (bU _)))))))) (aH (gK (jA By CC CD fH (pv 2) (aA (cT (aA aZ (aA (pv 5) (aA (aJ ac hr rfl (aA (pv 0) aD)) (aA (aJ ac hr rfl (aA (pv 0) aD)) aD))))) aD)))
   (aH (gK (jA By CC CD fH (pv 3) (aA (pv 4) aD)))
   (aL (cB (i:=4) sc_law_log.nd rfl (by walk_at "lc") (cC gP (pv 4) aF))))) (aL (cX (bG (dB hu) (pv 7) aF (bU _)) (aL (gK (jA By CC CD fH (pv 2) (aA (cT (aA aZ (aA (pv 5) (aA (jA By PySem.F.slot_list_pop PySem.F.type_list_pop aF5 (pv 3) (aA (aJ a6 hr rfl (aA (pv 0) (aA (bD bT rfl B.len_ BD (aA (pv 3) aD)) aD))) aD)) aD)))) aD)))) (aL (gK (jA By CC CD fH (pv 2) (aA (cT (aA aZ (aA (pv 5) (aA (bL aV (pv 3) (aJ a6 hr rfl (aA (pv 0) (aA (bD bT rfl B.len_ BD (aA (pv 3) aD)) aD))) (fun _ _=>rfl)) (aA (aJ ac hr rfl (aA (pv 0) aD)) aD))))) aD))))))))))))
   (aL (bM (pv 2)))))))),
  ((aX (bY (cW bC))
   (aX (bY (cW bC))
   (aX (bY (aU aG))
   (aX (bY (aU (aN (aP (aO (u9 (aN (aP (cL (aO aG aR)))) aG) (aO (kO aG (aN (aP (cL (aO aG aR))))) aR))))))
   (aX (vN (yM (aC (aN (aP (cL (aO (kO aB aG) aR)))) bC)) fW (aX (bY (aU (aN (aP (cL (aO aB aR))))))
   (aX (dR (bO (aFA (bR aB aG) aG)) (bY (aU (cA (aC (kO (yR (bR aB aG) (bR aB aG)) aG) (aC aG bC))))) dZ)
   (aX (bY (aU (aN (aP (cL (aO aG aR))))))
   (dR (aFC (jZ (bO (gM aB (aN (cW bC)))) (mL (bO (a6P aB aG)) (bO (a6P a5T aG))))) (aX (fG (cA (aC bB (aC aB (aC (aN (aP (cL aR))) (aC (aN (aP (cL aR))) bC))))))
   (aX (fG aB)
   (bY (aU (kO aB aG))))) (dR (bO (gM aB aG)) (fG (cA (aC bB (aC aB (aC (aH8 (aN (aP (cL (aO a5T aR))))) bC))))) (fG (cA (aC bB (aC aB (aC (aEP (aN (aP (cL (aO a5T aR))))) (aC (aN (aP (cL aR))) bC))))))))))))
   (bV aC5)))))):VS P0 _ yI)⟩
abbrev uD:AL:=top 51
theorem a5K:FnScope ["_law_number"] ["_law_number"] (aQ uD):=scM
theorem a5J  (F:Fun K "_law_told" "_law_told" uD f fd)(B:Bl K mg)(Kt:Kit K) :
  FnOk P w K mg base CX0 1 f fd ["_law_number"] (spM P0 1 oU):=
 F.okV a5K rfl rfl fun cdv A outer s H E hr=>
 have hu:=hr.units
 ⟨_,(aH (cX (bG (dB hu) (bL aV (pv 0) aF (fun _ _=>rfl)) aF (bU _)) (aL (bM (dW tL rfl B.str_ Dz (aA (bL aV (pv 0) aF (fun _ _=>rfl)) aD)))) bW)
   (aL (bM (cC mZ (cC mZ (dW tL rfl B.str_ Dz (aA (bL aV (pv 0) aF (fun _ _=>rfl)) aD)) aZ) (dW tL rfl B.str_ Dz (aA (bL aV (pv 0) aF (fun _ _=>rfl)) aD)))))),
  ((aX (dR (bO (gM (bR aB aG) aG)) (bV (aU (a2C (bR aB aG)))) dZ)
   (bV (aU (mV (mV (a2C (bR aB aG)) bB) (a2C (bR aB aG)))))):VS P0 _ uU)⟩
abbrev lK:AL:=top 52
theorem sc_law_lines_of:FnScope ["_law_rows_here", "_law_lines", "_law_row", "_law_words", "_law_part"] ["_law_rows_here"] (aQ lK):=scM
theorem yV  (F:Fun K "_law_lines_of" "_law_lines_of" lK f fd)(B:Bl K mg)(Kt:Kit K)
  (cg:a6H P0 P w K mg base) :
  FnOk P w K mg base CX0 2 f fd ["_law_rows_here"] (spM P0 1 cG):=
 F.okV sc_law_lines_of rfl rfl fun cdv A outer s H E hr=>
 have hu:=hr.units
 ⟨_,(aH (cB (i:=1) sc_law_lines_of.nd rfl (by walk_at "lc") (eV aD))
   (aH (t6 CS rfl (a5D (pv 0)) (fV (i:=2) sc_law_lines_of.nd rfl (by walk_at "lc")) (aH (cB (i:=3) sc_law_lines_of.nd rfl (by walk_at "lc") (eV (aA (bL aV (pv 2) aF (fun _ _=>rfl)) aD)))
   (aH (t6 CS rfl (aC3 (gC aIJ (pv 2) (jO aF) jJ)) (fV (i:=4) sc_law_lines_of.nd rfl (by walk_at "lc")) (aL (cX (dN (bD j4 rfl B.isinstance_ Ba (aA (pv 4) (aA (kI (v:=.ty "tuple") rfl B.tuple_ FY rfl) aD)))) (aL (gK (jA By CC CD fH (pv 3) (aA (aJ cg hr rfl (aA (pv 4) aD)) aD)))) (aL (gK (jA By CC CD fH (pv 3) (aA (dW tL rfl B.str_ Dz (aA (pv 4) aD)) aD)))))))
   (aL (gK (jA By CC CD fH (pv 1) (aA (jA Bo D1 D2 uB aZ (aA (pv 3) aD)) aD)))))))
   (aL (bM (jA Bo D1 D2 uB aZ (aA (pv 1) aD)))))),
  ((aX (bY (cW bC))
   (aX (vN (aJV aB) fW (aX (bY (cW (aC (bR aB aG) bC)))
   (aX (vN (aE6 (aI0 aB (wH aG) wL)) fW (dR (iK (qC Kt (by decide) aB)) (fG (aN (aP (aO aB aR)))) (fG (a2C aB))))
   (a4D (fG (vC bB aB))))))
   (a4D (bV (aU (vC bB aB)))))):VS P0 _ lX)⟩
abbrev uR:AL:=top 53
theorem sc_law_rows:FnScope ["_law_pen", "_law_log_here", "_law_found", "_law_k"] ["_law_pen", "_law_log_here"] (aQ uR):=scM
theorem a5L  (F:Fun K "_law_rows" "_law_rows" uR f fd)(B:Bl K mg)(Kt:Kit K)
  (a6:gH P0 P w K mg base) :
  FnOk P w K mg base CX0 2 f fd ["_law_pen", "_law_log_here"] (spM P0 2 oZ):=
 F.okV sc_law_rows rfl rfl fun cdv A outer s H E hr=>
 have hu:=hr.units
 ⟨_,(aH (cB (i:=2) sc_law_rows.nd rfl (by walk_at "lc") (eV aD))
   (aH (t6 CS rfl (o4 rfl B.range_ (aA (bD bT rfl B.len_ BD (aA (pv 1) aD)) aD)) (fV (i:=3) sc_law_rows.nd rfl (by walk_at "lc")) (aL (cX (bG (dB hu) (aJ a6 hr rfl (aA (pv 0) (aA aF aD))) aF (bU _)) (aL (gK (jA By CC CD fH (pv 2) (aA (cT (aA aZ (aA (aJ a6 hr rfl (aA (pv 0) (aA aF aD))) aD))) aD)))) (aL (gK (jA By CC CD fH (pv 2) (aA (cT (aA aZ (aA (bL aV (bL aV (pv 1) (pv 3) (fun _ _=>rfl)) aF (fun _ _=>rfl)) (aA (aJ a6 hr rfl (aA (pv 0) (aA aF aD))) aD)))) aD)))))))
   (aL (bM (pv 2))))),
  ((aX (bY (cW bC))
   (aX (vN (yM (aC (kY aB) bC)) fW (dR (bO (gM (aN (aP (cL (aO aG aR)))) aG)) (fG (cA (aC bB (aC (aN (aP (cL (aO aG aR)))) bC)))) (fG (cA (aC bB (aC (bR (bR aB aB) aG) (aC (aN (aP (cL (aO aG aR)))) bC)))))))
   (bV aC5))):VS P0 _ uO)⟩
abbrev lM:AL:=top 54
theorem sc_law_bad_line:FnScope ["_law_pen", "_law_is_log", "_law_line", "_law_words", "_law_at", "_law_odd", "_law_bent", "_law_other", "_law_some"] ["_law_pen", "_law_is_log", "_law_line"] (aQ lM):=scM
theorem zA  (F:Fun K "_law_bad_line" "_law_bad_line" lM f fd)(B:Bl K mg)(Kt:Kit K)
  (a6:gH P0 P w K mg base) :
  FnOk P w K mg base CX0 2 f fd ["_law_pen", "_law_is_log", "_law_line"] (spM P0 3 j6):=
 F.okV sc_law_bad_line rfl rfl fun cdv A outer s H E hr=>
 have hu:=hr.units
 ⟨_,(aA1 (eZ (iM (i:=3) sc_law_bad_line.nd rfl (by walk_at "lc") (bF (jA Bo Dx Dy oX (pv 2) (aA aZ aD))))
   (eZ (iM (i:=4) sc_law_bad_line.nd rfl (by walk_at "lc") (lA gP (bF aF) (bF (aJ a6 hr rfl (aA (pv 0) (aA (cC u5 (bD bT rfl B.len_ BD (aA (pv 3) aD)) aF) aD))))))
   (eZ (iM (i:=5) sc_law_bad_line.nd rfl (by walk_at "lc") (n8 (aK (bF aZ) (aK (bF aZ) (aK (bF aZ) (aK (bF aZ) (aK (bF aZ) (aK (bF aZ) (aK (bF aZ) (aK (bF aZ) (aK (bF aZ) (aK (lA aB6 (bF aZ) (bF aF)) (aK (lA mZ (bF aZ) (lA aB6 (bF aZ) (bF aF))) (aK (bF aZ) (aK (bF aZ) cM)))))))))))))))
   (eZ (iM (i:=6) sc_law_bad_line.nd rfl (by walk_at "lc") (bF (jA Bo D1 D2 uB aZ (aA (cC nG (cC nG (gC oM (pv 3) jJ (jO (pv 4))) (eV (aA (bL aV (pv 5) (aJ a6 hr rfl (aA (pv 0) (aA aF aD))) (fun _ _=>rfl)) aD))) (gC oM (pv 3) (jO (cC gP (pv 4) aF)) jJ)) aD))))
   (eZ (iM (i:=7) sc_law_bad_line.nd rfl (by walk_at "lc") (sO aV (n8 (aK (bF aZ) (aK (bF aZ) cM))) (dW mH rfl B.int_ C6 (aA (a8A (pv 1)) aD)) (fun _ _=>rfl)))
   (eZ (iM (i:=8) sc_law_bad_line.nd rfl (by walk_at "lc") (n8 (aK (bF (pv 6)) (aK (bF (jA Bo D1 D2 uB aZ (aA (gC oM (pv 3) jJ (jO (aC2 a2R aF))) aD))) (aK (lA mZ (bF (pv 2)) (bF aZ)) (aK (lA mZ (bF (pv 2)) (bF aZ)) (aGX (aL6 aZ (pv 2)) (aEO 2) (aK (bF aZ) (aK (bF (pv 7)) cM)))))))))
   (eZ (iM (i:=8) sc_law_bad_line.nd rfl (by walk_at "lc") (lA nG (bF (pv 8)) (n8 (aK (lA mZ (bF (aN3 Bo PySem.F.slot_str_upper PySem.F.type_str_upper aH5 (bL aV (pv 3) aF (fun _ _=>rfl)))) (bF (gC aHI (pv 2) (jO (bD a4F rfl B.len_ BD (aA (bL aV (pv 3) aF (fun _ _=>rfl)) aD))) jJ))) (aK (lA mZ (bF aZ) (bF (pv 2))) (aK (sO aV (bF (pv 3)) aF (fun _ _=>rfl)) (aK (lA mZ (sO aV (bF (pv 3)) aF (fun _ _=>rfl)) (bF aZ)) (aK (lA mZ (bF (pv 2)) (bF aZ)) cM))))))))
   (eZ (iM (i:=8) sc_law_bad_line.nd rfl (by walk_at "lc") (lA nG (bF (pv 8)) (n8 (aK (sO aV (n8 (aK (bF aZ) (aK (bF aZ) cM))) (dW mH rfl B.int_ C6 (aA (a8A (pv 1)) aD)) (fun _ _=>rfl)) (aK (sO aV (n8 (aK (bF aZ) (aK (bF aZ) cM))) (dW mH rfl B.int_ C6 (aA (a8A (pv 1)) aD)) (fun _ _=>rfl)) cM)))))
   (a6K (a5G (sO aV (bF (pv 8)) (aJ a6 hr rfl (aA (pv 0) (aA aF aD))) (fun _ _=>rfl))))))))))))),
  ((aX (bY (aU (aN (p7 aB bB))))
   (aX (bY (aU (kO aG (aN (aP (cL (aO (u9 (kY aB) aG) aR)))))))
   (aX (bY (aU (aN (cW (aC bB (aC bB (aC bB (aC bB (aC bB (aC bB (aC bB (aC bB (aC bB (aC (aBZ bB aG) (aC (mV bB (aBZ bB aG)) (aC bB (aC bB bC)))))))))))))))))
   (aX (bY (aU (vC bB (aN (nH (aN (nH (aN (vZ aB wL (wH aB))) (aN (cW (aC (bR aB (aN (aP (cL (aO aG aR))))) bC))))) (aN (vZ aB (wH (kO aB aG)) wL)))))))
   (aX (bY (aU (bR (aN (cW (aC bB (aC bB bC)))) (v8 (a81 aB)))))
   (aX (bY (aU (aN (cW (aC aB (aC (vC bB (aN (vZ aB wL (wH (a4S aG))))) (aC (mV aB bB) (aC (mV aB bB) (aC (aGF bB aB) (aC aFG (aC bB (aC aB bC))))))))))))
   (aX (bY (aU (aN (nH aB (aN (cW (aC (mV (aGH (bR aB aG)) (aHJ aB (wH (aB4 (bR aB aG))) wL)) (aC (mV bB aB) (aC (bR aB aG) (aC (mV (bR aB aG) bB) (aC (mV aB bB) bC)))))))))))
   (aX (bY (aU (aN (nH aB (aN (cW (aC (bR (aN (cW (aC bB (aC bB bC)))) (v8 (a81 aB))) (aC (bR (aN (cW (aC bB (aC bB bC)))) (v8 (a81 aB))) bC))))))))
   (bV (aU (bR aB (aN (aP (cL (aO aG aR))))))))))))))):VS P0 _ lV)⟩
abbrev qL:AL:=top 55
theorem sc_law_heard:FnScope ["_law_is_log", "_law_thing", "_law_caught", "e"] ["_law_is_log", "_law_thing"] (aQ qL):=scM
theorem a0U  {xa:XA}{c:AA}{D0 c0 c1 c2 c3:AA}(F:Fun K "_law_heard" "_law_heard" qL f fd)(B:Bl K mg)(Kt:Kit K)(x:Xcs K mg xa D0 c0 c1 c2 c3)(i_NoText:Ini P w K mg base 1 xa.nt "line")(i_NoLog:Ini P w K mg base 1 xa.nl "at")
  (cx_read_log:CalX P w K mg base 7 "read_log" ["text"] (spX P0 1 (eG xa c)))
  (cx_read_book:CalX P w K mg base 7 "read_book" ["text"] (spX P0 1 (dD xa c))) :
  FnOk P w K mg base CX0 8 f fd ["_law_is_log", "_law_thing"] (spM P0 2 (tV xa c)):=
 F.okV sc_law_heard rfl rfl fun cdv A outer s H E hr=>
 have hu:=hr.units
 ⟨_,(aH (cB (i:=2) sc_law_heard.nd rfl (by walk_at "lc") eQ)
   (aH (aLH (i:=3) (j:=2) (aP1 (dN (pv 0)) (a72 cx_read_log hr rfl (aA (pv 1) aD)) (a72 cx_read_book hr rfl (aA (pv 1) aD))) rfl rfl rfl x.hD x.zD sc_law_heard.nd rfl rfl (B3 rfl) (B3 rfl) rfl (B3 rfl) (.inl rfl) (.inl rfl))
   (aH (cX (bG a79 (pv 2) eQ (bU _)) (aL (bM (cT (aA aZ (aA eQ aD))))) bW)
   (aH (cX (PW.pt (qJ (fX (dN (bD pA rfl B.isinstance_ Ba (aA (pv 2) (aA (kI (v:=.ty "ValueError") rfl x.hV PyProof.Rows.Boot.«ValueError» rfl) aD))))) (oH (dN (bD pA rfl B.isinstance_ Ba (aA (pv 2) (aA (cT (aA (gW (v:=.ref c0) rfl x.h_NoKey rfl) (aA (gW (v:=.ref c1) rfl x.h_NoNumber rfl) (aA (gW (v:=.ref c2) rfl x.h_NoRow rfl) (aA (gW (v:=.ref c3) rfl x.h_NoTime rfl) aD))))) aD))))))) (aL (bM (cT (aA aZ (aA eQ aD))))) bW)
   (aH (cX (PW.pt (pW (dN (bD pA rfl B.isinstance_ Ba (aA (pv 2) (aA (gW (v:=.ref xa.nt) rfl x.h_NoText rfl) aD)))) (pW (fX (dN (bD pA rfl B.isinstance_ Ba (aA (pv 2) (aA (gW (v:=.ref xa.nl) rfl x.h_NoLog rfl) aD))))) (oE (fX (dN (bD j4 rfl B.isinstance_ Ba (aA (a1C (pv 2) rfl) (aA (kI (v:=.ty "bool") rfl B.bool_ boot_bool rfl) aD))))))))) (aL (bM (cT (aA aZ (aA (a1C (pv 2) rfl) aD))))) bW)
   (aH (cX (PW.pt (pW (dN (bD pA rfl B.isinstance_ Ba (aA (pv 2) (aA (gW (v:=.ref xa.nl) rfl x.h_NoLog rfl) aD)))) (pW (fX (dN (bD pA rfl B.isinstance_ Ba (aA (pv 2) (aA (gW (v:=.ref xa.nt) rfl x.h_NoText rfl) aD))))) (oE (fX (dN (bD j4 rfl B.isinstance_ Ba (aA (a1C (pv 2) rfl) (aA (kI (v:=.ty "bool") rfl B.bool_ boot_bool rfl) aD))))))))) (aL (bM (cT (aA aZ (aA (a1C (pv 2) rfl) aD))))) bW)
   (aL (bM (cT (aA aZ (aA eQ aD))))))))))),
  ((aX (bY (aU iC))
   (aX (aJX (aSX (iK aB) (aA8 (cs:=[xa.nt,xa.nl]) (aO aB aR) (dO ⟨x.z_NoText,x.s_NoText⟩ (dO ⟨x.z_NoLog,x.s_NoLog⟩ nP))) (aA8 (cs:=[xa.nt,xa.nl]) (aO aB aR) (dO ⟨x.z_NoText,x.s_NoText⟩ (dO ⟨x.z_NoLog,x.s_NoLog⟩ nP)))))
   (aX (dR (bO aM1) (bV (aU (cA (aC bB (aC iC bC))))) dZ)
   (aX (dR (jZ (dH (iK (zK (c:=.ty "ValueError") (u:=.type "ValueError") (fun _ h=>h) (dO ⟨x.z_NoText,x.k_NoText_ValueError⟩ (dO ⟨x.z_NoLog,x.k_NoLog_ValueError⟩ nP))))) (iK (aJ7 (as:=[c0,c1,c2,c3]) (by simp) (dO ⟨x.z_NoText,x.t_NoText_KNRT⟩ (dO ⟨x.z_NoLog,x.t_NoLog_KNRT⟩ nP))))) (bV (aU (cA (aC bB (aC iC bC))))) dZ)
   (aX (dR (mL (iK (zK (c:=.ref xa.nt) (u:=.ref xa.nt) (fun _ h=>h) (dO ⟨x.z_NoText,x.k_NoText_NoText⟩ (dO ⟨x.z_NoLog,x.k_NoLog_NoText⟩ nP)))) (mL (dH (iK (zK (c:=.ref xa.nl) (u:=.ref xa.nl) (fun _ h=>h) (dO ⟨x.z_NoText,x.k_NoText_NoLog⟩ (dO ⟨x.z_NoLog,x.k_NoLog_NoLog⟩ nP))))) (dH (iK (qC Kt (by decide) (a0Q (dO ⟨x.z_NoText,x.n_NoText,x.d_NoText⟩ nP))))))) (bV (aU (cA (aC bB (aC (a0Q (dO ⟨x.z_NoText,x.n_NoText,x.d_NoText⟩ nP)) bC))))) dZ)
   (aX (dR (mL (iK (zK (c:=.ref xa.nl) (u:=.ref xa.nl) (fun _ h=>h) (dO ⟨x.z_NoText,x.k_NoText_NoLog⟩ (dO ⟨x.z_NoLog,x.k_NoLog_NoLog⟩ nP)))) (mL (dH (iK (zK (c:=.ref xa.nt) (u:=.ref xa.nt) (fun _ h=>h) (dO ⟨x.z_NoText,x.k_NoText_NoText⟩ (dO ⟨x.z_NoLog,x.k_NoLog_NoText⟩ nP))))) (dH (iK (qC Kt (by decide) (a0Q (dO ⟨x.z_NoLog,x.n_NoLog,x.d_NoLog⟩ nP))))))) (bV (aU (cA (aC bB (aC (a0Q (dO ⟨x.z_NoLog,x.n_NoLog,x.d_NoLog⟩ nP)) bC))))) dZ)
   (bV (aU (cA (aC bB (aC iC bC))))))))))):VS P0 _ (mK xa c))⟩
abbrev jH:AL:=top 56
theorem sc_law_bent_right:FnScope ["_law_pen", "_law_is_log", "_law_text", "_law_lines", "_law_at", "_law_bent"] ["_law_pen", "_law_is_log", "_law_text"] (aQ jH):=scM
theorem uH  (F:Fun K "_law_bent_right" "_law_bent_right" jH f fd)(B:Bl K mg)(Kt:Kit K)
  (a7:o8 P0 P w K mg base)
  (a6:gH P0 P w K mg base)
  (ci:xU P0 P w K mg base) :
  FnOk P w K mg base CX0 9 f fd ["_law_pen", "_law_is_log", "_law_text"] (spM P0 3 gA):=
 F.okV sc_law_bent_right rfl rfl fun cdv A outer s H E hr=>
 have hu:=hr.units
 ⟨_,(aH (cB (i:=3) sc_law_bent_right.nd rfl (by walk_at "lc") (jA Bo Dx Dy oX (pv 2) (aA aZ aD)))
   (aH (cB (i:=4) sc_law_bent_right.nd rfl (by walk_at "lc") (aJ a6 hr rfl (aA (pv 0) (aA (bD bT rfl B.len_ BD (aA (pv 3) aD)) aD))))
   (aH (cB (i:=5) sc_law_bent_right.nd rfl (by walk_at "lc") (cC nG (cC nG (gC oM (pv 3) jJ (jO (pv 4))) (eV (aA (aJ ci hr rfl (aA (pv 0) (aA (pv 1) (aA (bL aV (pv 3) (pv 4) (fun _ _=>rfl)) aD)))) aD))) (gC oM (pv 3) (jO (cC gP (pv 4) aF)) jJ)))
   (aH (cX (bG (dB hu) (aJ a6 hr rfl (aA (pv 0) (aA aF aD))) aF (bU _)) (aL (gK (jA By CC CD fH (pv 5) (aA aZ aD)))) bW)
   (aH (cX (bG (dB hu) (pv 5) (eV (aA aZ aD)) (bU _)) (aL (bM mJ)) bW)
   (aL (bM (iQ (dB hu) (aJ a7 hr rfl (aA (pv 1) (aA (jA Bo D1 D2 uB aZ (aA (pv 5) aD)) aD))) (cT (aA aZ (aA (pv 4) aD))) (bU _))))))))),
  ((aX (bY (aU (aN (p7 aB bB))))
   (aX (bY (aU (aN (aP (cL (aO (kY aB) aR))))))
   (aX (bY (nH (aN (nH (aN (vZ aB wL (wH aB))) (aN (cW (aC (aN (aP (cL (aO aB (aO (bR aB aB) aR))))) bC))))) (aN (vZ aB (wH (kO aB aG)) wL))))
   (aX (dR (bO (gM (aN (aP (cL (aO aG aR)))) aG)) (fG bB) dZ)
   (aX (a4D (dR (bO (gM aB (aN (cW (aC bB bC))))) (bV (aU m7)) dZ))
   (a4D (bV (aU (gM (aN (aP (aO aB (aO (vC bB aB) aR)))) (cA (aC bB (aC aB bC)))))))))))):VS P0 _ jN)⟩
abbrev iG:AL:=top 57
theorem sc_law_no_log_right:FnScope ["_law_pen", "_law_log_here", "_law_at", "_law_time", "_law_early", "_law_bad"] ["_law_pen", "_law_log_here"] (aQ iG):=scM
theorem rA  (F:Fun K "_law_no_log_right" "_law_no_log_right" iG f fd)(B:Bl K mg)(Kt:Kit K)
  (a7:o8 P0 P w K mg base)
  (a8:oK P0 P w K mg base)
  (a6:gH P0 P w K mg base) :
  FnOk P w K mg base CX0 9 f fd ["_law_pen", "_law_log_here"] (spM P0 2 eY):=
 F.okV sc_law_no_log_right rfl rfl fun cdv A outer s H E hr=>
 have hu:=hr.units
 ⟨_,(aA1 (eZ (iM (i:=2) sc_law_no_log_right.nd rfl (by walk_at "lc") (bF (aJ a6 hr rfl (aA (pv 0) (aA (cC gP (bD bT rfl B.len_ BD (aA (pv 1) aD)) aF) aD)))))
   (eZ (iM (i:=3) sc_law_no_log_right.nd rfl (by walk_at "lc") (sO aV (sO aV (bF (pv 1)) (bD (aAC rfl) rfl B.min_ boot_min (aA (pv 2) (aA (cC u5 (bD bT rfl B.len_ BD (aA (pv 1) aD)) aF) aD))) (fun _ _=>rfl)) aF (fun _ _=>rfl)))
   (eZ (iM (i:=4) sc_law_no_log_right.nd rfl (by walk_at "lc") (fQ (aK (bF aZ) (aK (fQ (aK (lA gP (bF (aC2 a2R (a0X (v:=1000000000) (by decide) ⟨by decide,by decide,by decide⟩))) (bF aF)) (aK (bF aF) cM))) (aK (fQ (aK (bF aF) (aK (bF aF) cM))) (aK (fQ (aK (bF aF) (aK (bF aF) cM))) cM))))))
   (eZ (iM (i:=5) sc_law_no_log_right.nd rfl (by walk_at "lc") (n8 (aK (fQ (aK (bF aZ) (aK (bF (pv 3)) (aK (bF aF) cM)))) (aK (fQ (aK (bF aZ) (aK (bF (pv 3)) (aK (bF aF) (aK (fQ (aK (bF aF) (aK (bF aF) cM))) cM))))) (aK (fQ (aK (bF aZ) (aK (bF (pv 3)) (aK (fQ (aK (bF (a0X (v:=1000000000) (by decide) ⟨by decide,by decide,by decide⟩)) (aK (bF aF) cM))) (aK (fQ (aK (bF aF) (aK (bF aF) cM))) cM))))) (aK (bF (pv 4)) cM))))))
   (eZ (iM (i:=5) sc_law_no_log_right.nd rfl (by walk_at "lc") (sO aV (lA nG (bF (pv 5)) (n8 (aK (fQ (aK (bF aZ) (aK (bF (pv 3)) (aK (fQ (aK (bF aF) (aK (bF aF) cM))) (aK (fQ (aK (bF aF) (aK (bF aF) cM))) cM))))) cM))) (aJ a6 hr rfl (aA (pv 0) (aA aF aD))) (fun _ _=>rfl)))
   (eZ (aNO (aMZ (PW.pt (pW (bG (dB hu) (pv 5) (pv 4) (bU _)) (oE (PW.pt (qJ (bG (dB hu) (pv 2) aF (bU _)) (oH (bG (dB hu) (bL aV (bL aV (pv 1) (cC u5 (pv 2) aF) (fun _ _=>rfl)) aF (fun _ _=>rfl)) (bL aV (pv 4) aF (fun _ _=>rfl)) (bU _))))))))) (a6K (a5G (bF mJ))) aKD)
   (a6K (a5G (bF (iQ (dB hu) (aJ a7 hr rfl (aA mJ (aA (aJ a8 hr rfl (aA (cC nG (cC nG (gC oM (pv 1) jJ (jO (pv 2))) (eV (aA (pv 5) aD))) (gC oM (pv 1) (jO (pv 2)) jJ)) aD)) aD))) (cT (aA aZ (aA (pv 2) aD))) (bU _)))))))))))),
  ((aX (bY (aU (aN (aP (cL (aO (kO (kY aB) aG) aR))))))
   (aX (bY (aU (bR (bR aB (aPS aB (u9 (kY aB) aG))) aG)))
   (aX (bY (aU (cA (aC bB (aC (cA (aC (kO (a4S aG) aG) (aC aG bC))) (aC (cA (aC aG (aC aG bC))) (aC (cA (aC aG (aC aG bC))) bC)))))))
   (aX (bY (aU (aN (cW (aC (cA (aC bB (aC aB (aC aG bC)))) (aC (cA (aC bB (aC aB (aC aG (aC (cA (aC aG (aC aG bC))) bC))))) (aC (cA (aC bB (aC aB (aC (cA (aC aG (aC aG bC))) (aC (cA (aC aG (aC aG bC))) bC))))) (aC aB bC))))))))
   (aX (bY (aU (bR (aN (nH aB (aN (cW (aC (cA (aC bB (aC aB (aC (cA (aC aG (aC aG bC))) (aC (cA (aC aG (aC aG bC))) bC))))) bC))))) (aN (aP (cL (aO aG aR)))))))
   (aX (dR (mL (bO (gM aB aB)) (jZ (bO (gM aB aG)) (bO (gM (bR (bR aB (u9 aB aG)) aG) (bR aB aG))))) (bV (aU m7)) dZ)
   (bV (aU (gM (aN (aP (aO m7 (aO (aN (aP (aO (aN (nH (aN (nH (aN (vZ aB wL (wH aB))) (aN (cW (aC aB bC))))) (aN (vZ aB (wH aB) wL)))) aR))) aR)))) (cA (aC bB (aC aB bC)))))))))))):VS P0 _ iB)⟩
abbrev fU:AL:=top 58
theorem sc_law_forty_right:FnScope ["_law_first", "_law_log_here", "_law_k"] ["_law_first"] (aQ fU):=scM
theorem tD  (F:Fun K "_law_forty_right" "_law_forty_right" fU f fd)(B:Bl K mg)(Kt:Kit K)
  (a7:o8 P0 P w K mg base)
  (a8:oK P0 P w K mg base) :
  FnOk P w K mg base CX0 9 f fd ["_law_first"] (spM P0 1 fO):=
 F.okV sc_law_forty_right rfl rfl fun cdv A outer s H E hr=>
 have hu:=hr.units
 ⟨_,(aH (cB (i:=1) sc_law_forty_right.nd rfl (by walk_at "lc") (cC nG (eV (aA (pv 0) aD)) (a1E (N:=["_law_k", "_law_first"]) (nt:=1) (fv:=[0]) rfl (a4N (osc:=aQ fU) (ON:=["_law_first", "_law_log_here", "_law_k"]) (by decide +kernel)) (o4 rfl B.range_ (aA aF aD)) (fun _ _ _ _=>(fV (i:=0) (show(["_law_k", "_law_first"]:List Str).Nodup by decide +kernel) rfl (by walk_at "lc"))) (fun _ _ _ _=>zJ) (fun _ _ _ _=>(cT (aA aZ (aA (bL aV (pv 1) aF (fun _ _=>rfl)) (aA aF (aA (cT (aA (cC u5 (cC pQ (pv 0) aF) aF) (aA aF aD))) aD)))))))))
   (aH (cX (bG (q9 hu) (aJ a7 hr rfl (aA mJ (aA (aJ a8 hr rfl (aA (pv 1) aD)) aD))) (cT (aA aZ (aA eQ aD))) (bU _)) (aL (bM mJ)) bW)
   (aL (bM (iQ (dB hu) (aJ a7 hr rfl (aA mJ (aA (aJ a8 hr rfl (aA (cC nG (pv 1) (eV (aA (cT (aA aZ (aA (bL aV (pv 0) aF (fun _ _=>rfl)) (aA aF aD)))) aD))) aD)) aD))) (cT (aA aZ (aA aF aD))) (bU _)))))),
  ((aX (bY (aU (aN (nH (aN (cW (aC aB bC))) (aN (a5M (yM (aC aG bC)) fW tE (cA (aC bB (aC (bR aB aG) (aC aG (aC (cA (aC (u9 (aBM aB aG) aG) (aC aG bC))) bC)))))))))))
   (aX (dR (bO (zV (aN (aP (aO m7 (aO (aN (aP (aO aB aR))) aR)))) (cA (aC bB (aC iC bC))))) (bV (aU m7)) dZ)
   (bV (aU (gM (aN (aP (aO m7 (aO (aN (aP (aO (aN (nH aB (aN (cW (aC (cA (aC bB (aC (bR aB aG) (aC aG bC)))) bC))))) aR))) aR)))) (cA (aC bB (aC aG bC)))))))):VS P0 _ iR)⟩
abbrev aL8:AL:=top 59
theorem sc_law:FnScope ["_law_script", "_law_pen", "_law_log_here", "_law_texts", "_law_turn", "_law_is_log", "_law_k", "_law_thing", "_law_lines"] ["_law_script"] (aQ aL8):=scM
theorem aQN  {c:AA}(F:Fun K "law" "law" aL8 f fd)(B:Bl K mg)(Kt:Kit K)
  (aq:∀ a ns,Cal P w K mg base 9 "_law_forty_right" ["_law_first"] (spM (eO K a ns) 1 fO))
  (ar:∀ a ns,Cal P w K mg base 9 "_law_no_log_right" ["_law_pen", "_law_log_here"] (spM (eO K a ns) 2 eY))
  (a7:∀ a ns,Cal P w K mg base 8 "_law_heard" ["_law_is_log", "_law_thing"] (spM (eO K a ns) 2 cZ))
  (a6:∀ a ns,Cal P w K mg base 1 "_law_take" ["_law_pen", "_law_many"] (spM (eO K a ns) 2 bH))
  (au:∀ a ns,Cal P w K mg base 9 "_law_bent_right" ["_law_pen", "_law_is_log", "_law_text"] (spM (eO K a ns) 3 gA))
  (a8:∀ a ns,Cal P w K mg base 2 "_law_lines_of" ["_law_rows_here"] (spM (eO K a ns) 1 cG))
  (aw:∀ a ns,Cal P w K mg base 2 "_law_rows" ["_law_pen", "_law_log_here"] (spM (eO K a ns) 2 oZ))
  (ac:∀ a ns,Cal P w K mg base 2 "_law_small" ["_law_pen"] (spM (eO K a ns) 1 eN))
  (ax:∀ a ns,Cal P w K mg base 3 "_law_log" ["_law_pen", "_law_most"] (spM (eO K a ns) 2 rT))
  (hL:zF c (.no::.pen::Ar 7 .no) qI) :
  FnOk P w K mg base CX0 10 f fd ["_law_script"] (aGM K):=by
 refine F.ok sc_law (fun vs H Q E h=>?_) (fun cdv A outer s H vs Q E hr h=>?_)
 ·obtain⟨a,ns,rfl,hS,h63,q⟩:=h;rfl
 have hu:=hr.units;obtain⟨a,ns,rfl,hS,h63,q⟩:=h;have aq:=aq a ns;have ar:=ar a ns;have a7:=a7 a ns;have a6:=a6 a ns;have au:=au a ns;have a8:=a8 a ns;have aw:=aw a ns;have ac:=ac a ns;have ax:=ax a ns;exact law_body2 (k:=7) (cB (i:=1) sc_law.nd rfl (by walk_at "lc") (eV (aA aF (aA aF (aA (pv 0) aD))))) ⟨_,(aH (cB (i:=2) sc_law.nd rfl (by walk_at "lc") (aJ ax hr rfl (aA (pv 1) (aA aF aD))))
   (aH (cX (bG (dB hu) (pv 2) (eV aD) (bU _)) (aL (cB (i:=2) sc_law.nd rfl (by walk_at "lc") (eV (aA (cT (aA aZ (aA (cT (aA aF (aA aF aD))) (aA (aJ ac hr rfl (aA (pv 1) aD)) (aA (aJ ac hr rfl (aA (pv 1) aD)) aD))))) aD)))) bW)
   (aH (cB (i:=3) sc_law.nd rfl (by walk_at "lc") (eV (aA (aJ a8 hr rfl (aA (aJ aw hr rfl (aA (pv 1) (aA (pv 2) aD))) aD)) (aA (aJ a8 hr rfl (aA (pv 2) aD)) aD))))
   (aH (t6 CS rfl (o4 rfl B.range_ (aA aF aD)) (fV (i:=4) sc_law.nd rfl (by walk_at "lc")) (aH (t6 CS rfl (aC3 (cT (aA mJ (aA mJ aD)))) (fV (i:=5) sc_law.nd rfl (by walk_at "lc")) (aH (cX (bG (q9 hu) (aJ a7 hr rfl (aA (pv 5) (aA (bL aV (pv 3) (dW mH rfl B.int_ C6 (aA (pv 5) aD)) (fun _ _=>rfl)) aD))) (cT (aA aZ (aA eQ aD))) (bU _)) (aL (bM mJ)) bW)
   (aH (t6 CS rfl (o4 rfl B.range_ (aA aF aD)) (fV (i:=6) sc_law.nd rfl (by walk_at "lc")) (aL (cX (fX (dN (aJ au hr rfl (aA (pv 1) (aA (pv 5) (aA (bL aV (pv 3) (dW mH rfl B.int_ C6 (aA (pv 5) aD)) (fun _ _=>rfl)) aD)))))) (aL (bM mJ)) bW)))
   (aH (cB (i:=7) sc_law.nd rfl (by walk_at "lc") (bL aV (eV (aA eQ (aA aF (aA mJ (aA (pv 2) (aA (eV (aA (bL aV (pv 3) aF (fun _ _=>rfl)) aD)) (aA aKM (aA aF aD)))))))) (aJ a6 hr rfl (aA (pv 1) (aA aF aD))) (fun _ _=>rfl)))
   (aH (cX (bG (q9 hu) (aJ a7 hr rfl (aA (pv 5) (aA (pv 7) aD))) (cT (aA aZ (aA aF aD))) (bU _)) (aL (bM mJ)) bW)
   (aH (cB (i:=8) sc_law.nd rfl (by walk_at "lc") (jA Bo Dx Dy oX (bL aV (pv 3) (dW mH rfl B.int_ C6 (aA (pv 5) aD)) (fun _ _=>rfl)) (aA aZ aD)))
   (aL (cX (bG (q9 hu) (aJ a7 hr rfl (aA (pv 5) (aA (jA Bo D1 D2 uB aZ (aA (cC nG (pv 8) (eV (aA aZ aD))) aD)) aD))) (cT (aA aZ (aA (bD bT rfl B.len_ BD (aA (pv 8) aD)) aD))) (bU _)) (aL (bM mJ)) bW))))))))
   (aL (cX (fX (dN (aJ ar hr rfl (aA (pv 1) (aA (pv 2) aD))))) (aL (bM mJ)) bW))))
   (aL (bM (aJ aq hr rfl (aA (bL aV (pv 2) aF (fun _ _=>rfl)) aD)))))))),
  ((aX (bY (aU (aN (aP (cL (aO aG aR))))))
   (aX (dR (bO (gM aB (aN (cW bC)))) (bY (aU (aN (cW (aC (cA (aC bB (aC (cA (aC aG (aC aG bC))) (aC (aN (aP (cL aR))) (aC (aN (aP (cL aR))) bC))))) bC))))) dZ)
   (aX (bY (aU (aN (cW (aC (aN (aP (aO (aN (aP (cL (aO aB aR)))) aR))) (aC (aN (aP (aO aB aR))) bC))))))
   (aX (vN (yM (aC aG bC)) fW (aX (vN (aE6 (cA (aC m7 (aC m7 bC)))) fW (aX (dR (bO (zV (aN (aP (aO aB (aO (bR aB (v8 aB)) aR)))) (cA (aC bB (aC iC bC))))) (bV (aU m7)) dZ)
   (aX (vN (yM (aC aG bC)) fW (dR (dH (iK (aN (aP (cL (aO aB (aO (bR aB (v8 aB)) aR))))))) (bV (aU m7)) dZ))
   (aX (bY (aU (bR (aN (cW (aC iC (aC aG (aC m7 (aC aB (aC (aN (cW (aC (bR aB aG) bC))) (aC aKX (aC aG bC))))))))) (aN (aP (cL (aO aG aR)))))))
   (aX (dR (bO (zV (aN (aP (aO aB (aO aB aR)))) (cA (aC bB (aC aG bC))))) (bV (aU m7)) dZ)
   (aX (bY (aU (aN (p7 (bR aB (v8 aB)) bB))))
   (dR (bO (zV (aN (aP (aO aB (aO (vC bB (aN (nH aB (aN (cW (aC bB bC)))))) aR)))) (cA (aC bB (aC (kY aB) bC))))) (bV (aU m7)) dZ)))))))
   (dR (dH (iK (aN (aP (cL (aO aB aR)))))) (bV (aU m7)) dZ)))
   (bV (aP (aO (bR aB aG) aR))))))):VS (eO K a ns) _ (zF c))⟩ rfl hS hL q
end
section
variable {Q:Rv→Prop}
theorem yP {i:Int}(q:Q (.val (.bool true))):dU [.val (.int i)] Q:=by
 refine lG ?_;unfold mG;walk_at "!dFĵēą/";exact q
theorem aLW {a b:Int}(q:Q (.val (.int (Az a b:Nat)))):dF [.val (.int a),.val (.int b)] Q:=by
 refine lG ?_;unfold iI jD jC;walk_at "!)ģ%)ģ%>#";refine a2M (fun n Γ=>∃ d r x,Γ=[.val (.int a),.val (.int b),.val (.int d),.val (.int r),x]∧0≤d∧0≤r∧Az d r=Az a b∧n=r.toNat) _ ⟨_,_,.no,rfl,a83 a,a83 b,aEB a b,rfl⟩ ?_;rintro m Γ ⟨d,r,x,rfl,hd,hr,hg,rfl⟩;walk_at "!jk";refine aFI (fun c=>?_) (fun c=>?_)
 ·have hp:0<r:=by omega
  walk_at "!)v";refine⟨hp,?_⟩;walk_at "!)%ĉ@/";have h1:=Ca d (b:=r) (by omega);have h2:=CZ d hp;exact⟨_,by omega,_,_,_,rfl,hr,h1,(a7Y hd hp).trans hg,rfl⟩
 ·subst c;have e:=aAK hd;rw[hg] at e;walk_at "!8/";rw[e] at q;exact q
theorem qF {t b:Int}(h0:b≠0)(hb:Bt 9000 b)(q:Q (.val (cO (Rat.divInt t b)))):iU [.val (.int t),.val (.int b)] Q:=by
 have g0:=aIZ (t:=t) h0;have g1:=aHQ (t:=t) hb h0;refine lG ?_;unfold qH pZ pX;walk_at "!K]";refine yP ?_;walk_at "!Ll7]";refine yP ?_;walk_at "!LAk";refine aJM h0 ?_;walk_at "!e)wB";refine aLW ?_;walk_at "!O*M";refine gF (fun c=>?_) (fun c=>?_)
 ·have n:=aFH (t:=t) c;walk_at "!ĉ@Ĕ%8P&v";refine⟨⟨by omega,g1.neg⟩,?_⟩;walk_at "!&v";refine⟨⟨by omega,g1.neg⟩,?_⟩;walk_at "!,";rw[n.1,n.2];exact q
 ·have n:=n6 (t:=t) (b:=b) (by omega);walk_at "!e8P&v";refine⟨⟨g0,g1⟩,?_⟩;walk_at "!&v";refine⟨⟨g0,g1⟩,?_⟩;walk_at "!,";rw[n.1,n.2];exact q
theorem aEZ {a b:Rat}(ha:Sz 4000 a)(hb:Sz 4000 b)(q:Q (.val (cO (a+b)))):wR [.val (cO a),.val (cO b)] Q:=by
 obtain⟨a0,a1⟩:=id ha;obtain⟨b0,b1⟩:=id hb;refine lG ?_;unfold a1H;walk_at "!V*xx2āWWĊ4";refine qF (Da (nO a) (nO b)) ((a1.mul b1).mono (by decide)) ?_;rw[a7X];exact q
theorem yJ {a b:Rat}(ha:Sz 4000 a)(hb:Sz 4000 b)(q:Q (.val (cO (a-b)))):gZ [.val (cO a),.val (cO b)] Q:=by
 obtain⟨a0,a1⟩:=id ha;obtain⟨b0,b1⟩:=id hb;refine lG ?_;unfold kJ;walk_at "!V*xx2āWWĊ4";refine qF (Da (nO a) (nO b)) ((a1.mul b1).mono (by decide)) ?_;rw[aQX];exact q
theorem vY {a b:Rat}(ha:Sz 4000 a)(hb:Sz 4000 b)(q:Q (.val (cO (a*b)))):j9 [.val (cO a),.val (cO b)] Q:=by
 obtain⟨a0,a1⟩:=id ha;obtain⟨b0,b1⟩:=id hb;refine lG ?_;unfold o9;walk_at "!VĶĕĊ2āWWĊ4";refine qF (Da (nO a) (nO b)) ((a1.mul b1).mono (by decide)) ?_;rw[aHR];exact q
theorem a2Y {a b:Rat}(ha:Sz 9000 a)(hb:Sz 9000 b)(q:Q (.val (.bool (decide (a<b))))):sI [.val (cO a),.val (cO b)] Q:=by
 obtain⟨a0,a1⟩:=id ha;obtain⟨b0,b1⟩:=id hb;refine lG ?_;unfold xW;walk_at "!8*xx#";rw[aUI];exact q
theorem a8Q {l:Rat×Rat}{t:Rat}(h1:Sz 900 l.1)(h2:Sz 900 l.2)(h3:Sz 2900 t)(q:Q (.val (cO (l.1+l.2*t)))):pG [.val (mX l),.val (cO t)] Q:=by
 refine lG ?_;unfold uE;walk_at "!V3Ŗ2?3ŗ2B";refine vY (h2.mono (by decide)) (h3.mono (by decide)) ?_;walk_at "!4";exact aEZ (h1.mono (by decide)) ((h2.mul h3).mono (by decide)) q
end
theorem aGV (i:Int):AH.tuple [.int i,.int 1]=cO (i:Rat):=by
 unfold cO;rw[Rat.num_intCast,Rat.den_intCast];rfl
theorem aEJ {k:Nat}{i:Int}(h1 : -2147483648<i)(h2:i<2147483648)(hk:31≤k:=by decide):Bt k i:=by
 refine Bt.mono (k:=31) ?_ hk;show i.natAbs<2^31;have:(2:Nat)^31=2147483648:=by decide
 omega
def LinesOk (k:Nat)(ls:List (Rat×Rat)):Prop:=∀ l∈ls,Sz k l.1∧Sz k l.2
theorem LinesOk.get {k:Nat}{ls:List (Rat×Rat)}(h:LinesOk k ls){i:Nat}{l:Rat×Rat}(e:ls[i]?=some l):Sz k l.1∧Sz k l.2:=h l (BP e)
theorem aOO {ds:List D}{i:Nat}{d:D}(h:ds[i]?=some d):ixD (.list ds) (.int (i:Int))=some d:=uN h
section
variable {Q:Rv→Prop}
end
section
variable {p:AA}{n:Nat}{Q:Rv→Nat→Prop}
theorem o6 {Q:Rv→Prop}{t b:Int}(h0:0<b)(hb:Bt 9000 b)(q:Q (.val (cO (Rat.divInt t b)))):eF [.val (.int t),.val (.int b)] Q:=by
 have g0:=aIZ (t:=t) (b:=b) (by omega);have g1:=aHQ (t:=t) hb (by omega);refine lG ?_;unfold oG nW oR;walk_at "!)ģ%)%>#";refine a2M (fun n Γ=>∃ d r,Γ=[.val (.int t),.val (.int b),.val (.int d),.val (.int r)]∧0≤d∧0≤r∧Az d r=Az t b∧n=r.toNat) _ ⟨_,_,rfl,a83 t,by omega,by
  have:=aEB t b;rwa[if_neg (c:=b<0) (by omega)] at this,rfl⟩ ?_
 rintro m Γ ⟨d,r,rfl,hd,hr,hg,rfl⟩;walk_at "!0*M";refine gF (fun c=>?_) (fun c=>?_)
 ·walk_at "!Ř5&v";refine⟨c,?_⟩;walk_at "!f";have h1:=Ca d (b:=r) (by omega);have h2:=CZ d c;exact⟨_,by omega,_,_,rfl,hr,h1,(a7Y hd c).trans hg,rfl⟩
 ·have c':r=0:=by omega
  subst c';have e:=aAK hd;rw[hg] at e;subst e;have n:=n6 (t:=t) (b:=b) h0;walk_at "!8P&v";refine⟨⟨g0,g1⟩,?_⟩;walk_at "!&v";refine⟨⟨g0,g1⟩,?_⟩;walk_at "!,";rw[n.1,n.2];exact q
end
def qD (xs:List Nat):List D:=xs.map fun i:Nat=>Ch (i:Int)
theorem iH (xs:List Nat):(qD xs).length=xs.length:=by simp[qD]
theorem aEG (xs:List Nat):Good (.list (qD xs)):=(a73 (n:=0) fun d h=>by
 obtain⟨t,_,rfl⟩:=Ax.mp h;exact vD _).good
section
variable {Q:Rv→Prop}
end
inductive Deed where
 | join (t p m:Rat)
 | leave (t:Rat) (r:Nat)
 | turn (t:Rat) (r:Nat) (m:Rat)
def Deed.t:Deed→Rat
 | .join t _ _=>t
 | .leave t _=>t
 | .turn t _ _=>t
def cV:Deed→D
 | .join t p m=>.tuple [.str "join", cO t,cO p,cO m]
 | .leave t r=>.tuple [.str "leave", cO t,.int (r:Int)]
 | .turn t r m=>.tuple [.str "turn", cO t,.int (r:Int),cO m]
structure Rn where
 ls:List Ln
 rs:List Nat
def Rn.at (s:Rn)(r:Nat):Ln:=s.ls.getD r (0,0)
def stp (s:Rn):Deed→Rn
 | .join t p m=>⟨s.ls++[(p-m*t,m)],s.rs++[s.ls.length]⟩
 | .leave _ r=>⟨s.ls,s.rs.filter fun x=>decide (x≠r)⟩
 | .turn t r m=>⟨s.ls.set r (pl (s.at r) t-m*t,m),s.rs⟩
def Deed.ok (s:Rn):Deed→Prop
 | .join _ _ _=>True
 | .leave _ r=>r∈s.rs
 | .turn _ r _=>r∈s.rs
def run (ds:List Deed):Rn:=ds.foldl stp ⟨[],[]⟩
theorem wQ (ds:List Deed)(d:Deed):run (ds++[d])=stp (run ds) d:=by unfold run; rw[List.foldl_append]; rfl
def LogP (P:Rn→Deed→Prop)(ds:List Deed):Prop:=∀(n:Nat) d,ds[n]?=some d→P (run (ds.take n)) d
def LogOk (ds:List Deed):Prop:=LogP (fun s d=>d.ok s) ds
theorem LogP.snoc {P:Rn→Deed→Prop}{ds:List Deed}{d:Deed}(h:LogP P ds)(hd:P (run ds) d):LogP P (ds++[d]):=fun n e he=>by
 by_cases hn:n<ds.length
 ·rw[BN hn] at he;rw[Gr (Cr hn)];exact h n e he
 ·have hn2:n=ds.length:=by
   have:=(Aq.mp he).1;rw[Ah,A1] at this;omega
  subst hn2;rw[Bj (AV _),DG] at he
  cases he
  rw[Gr (AV _),CI];exact hd
theorem LogP.take {P:Rn→Deed→Prop}{ds:List Deed}(h:LogP P ds)(k:Nat):LogP P (ds.take k):=fun n e he=>by
 rw[List.getElem?_take] at he
 split at he
 ·rename_i hn
  rw[List.take_take,DZ (Cr hn)];exact h n e he
 ·cases he
theorem LogOk.snoc {ds:List Deed}{d:Deed}(h:LogOk ds)(hd:d.ok (run ds)):LogOk (ds++[d]):=LogP.snoc h hd
theorem LogOk.take {ds:List Deed}(h:LogOk ds)(k:Nat):LogOk (ds.take k):=LogP.take h k
def Deed.few (s:Rn):Deed→Prop
 | .join _ _ _=>s.rs.length<8
 | _=>True
def Few (ds:List Deed):Prop:=LogP (fun s d=>d.few s) ds
structure RnOk (s:Rn):Prop where
 up:s.rs.Pairwise (·<·)
 lt:∀ r∈s.rs,r<s.ls.length
theorem aNR {s:Rn}(h:RnOk s)(d:Deed):RnOk (stp s d):=by
 cases d with
 | join t p m=>
  refine⟨Gs.mpr ⟨h.up,Gu _ _,fun a ha b hb=>?_⟩,fun r hr=>?_⟩
  ·rw[AW.mp hb]; exact h.lt a ha
  ·show r<(s.ls++[_]).length;rw[Ah,A1];rcases Aj.mp hr with z|z
   ·have:=h.lt r z; omega
   ·rw[AW.mp z]; omega
 | leave t r=>exact⟨h.up.sublist List.filter_sublist,fun x hx=>h.lt x (Et.mp hx).1⟩
 | turn t r m=>
  refine⟨h.up,fun x hx=>?_⟩;show x<(s.ls.set r _).length;rw[Bk];exact h.lt x hx
theorem a7F:∀(ds:List Deed) {s:Rn},RnOk s→RnOk (ds.foldl stp s)
 | [],_,h=>h
 | d::ds,_,h=>a7F ds (aNR h d)
theorem a0B (ds:List Deed):RnOk (run ds):=a7F ds ⟨Ef.nil,fun _ h=>nomatch h⟩
theorem RnOk.nd {s:Rn}(h:RnOk s):s.rs.Nodup:=h.up.imp fun h=>Aw h
theorem a8U (s:Rn)(d:Deed):(stp s d).rs.length≤s.rs.length+1:=by
 cases d with
 | join t p m=>show(s.rs++[_]).length≤_; rw[Ah,A1]; exact AV _
 | leave t r=>exact Nat.le_succ_of_le (GY _ _)
 | turn t r m=>exact CV _
theorem vK:∀(ds:List Deed) (s:Rn),(ds.foldl stp s).rs.length≤s.rs.length+ds.length
 | [],s=>AV _
 | d::ds,s=>by
  have h1:=vK ds (stp s d);have h2:=a8U s d
  show(ds.foldl stp (stp s d)).rs.length≤_
  rw[Af]; omega
theorem a0L (ds:List Deed):(run ds).rs.length≤ds.length:=by
 have h:(run ds).rs.length≤([]:List Nat).length+ds.length:=vK ds ⟨[],[]⟩;rw[Cm] at h;omega
theorem aAT (s:Rn)(d:Deed):(stp s d).ls.length≤s.ls.length+1:=by
 cases d with
 | join t p m=>show(s.ls++[_]).length≤_; rw[Ah,A1]; exact AV _
 | leave t r=>exact CV _
 | turn t r m=>show(s.ls.set r _).length≤_; rw[Bk]; exact CV _
def a4Z (ls:List Ln)(rs:List Nat):List (Int×D):=rs.map fun r:Nat=>((r:Int),mX (ls.getD r (0,0)))
def jG (s:Rn):List (Int×D):=a4Z s.ls s.rs
theorem kds_len (s:Rn):(jG s).length=s.rs.length:=AO _
theorem aK1 (ls:List Ln):∀(rs:List Nat) (r:Nat),wA (a4Z ls rs) (r:Int)=if r∈rs then some (mX (ls.getD r (0,0))) else none
 | [],r=>by rw[if_neg (by exact fun h=>nomatch h)]; rfl
 | x::rs,r=>by
  show(if (x:Int)=(r:Int) then _ else wA (a4Z ls rs) (r:Int))=_
  by_cases e:x=r
  ·subst e;rw[if_pos rfl,if_pos Ap]
  ·rw[if_neg (by omega),aK1 ls rs r]
   by_cases h:r∈rs
   ·rw[if_pos h,if_pos (Ak _ h)]
   ·rw[if_neg h,if_neg (fun z=>(AT.mp z).elim (fun y=>e y.symm) h)]
theorem aCL {s:Rn}{r:Nat}(h:r∈s.rs):wA (jG s) (r:Int)=some (mX (s.at r)):=by
 unfold jG;rw[aK1,if_pos h];rfl
theorem aE2 (ls:List Ln):∀(rs:List Nat) (n:Int) (d:D),wA (a4Z ls rs) n=some d→∃ r:Nat,n=(r:Int)∧r∈rs∧d=mX (ls.getD r (0,0))
 | [],n,d,h=>nomatch h
 | x::rs,n,d,h=>by
  have h:(if (x:Int)=n then some (mX (ls.getD x (0,0))) else wA (a4Z ls rs) n)=some d:=h
  split at h
  ·rename_i e
   cases h
   exact⟨x,e.symm,Ap,rfl⟩
  ·obtain⟨r,a,b,c⟩:=aE2 ls rs n d h;exact⟨r,a,Ak _ b,c⟩
theorem aFP {s:Rn}(h:RnOk s)(t p m:Rat):wD (jG s) (s.ls.length:Int) (mX (p-m*t,m))=jG (stp s (.join t p m)):=by
 have hn:wA (jG s) (s.ls.length:Int)=none:=by
  unfold jG;rw[aK1,if_neg (fun z=>Bd _ (h.lt _ z))]
 unfold wD;rw[hn,if_neg (by decide)];show a4Z s.ls s.rs++_=a4Z (s.ls++[(p-m*t,m)]) (s.rs++[s.ls.length]);unfold a4Z;rw[BA]
 congr 1
 ·refine GG fun r hr=>?_;have:=h.lt r hr;rw[Bp,Bp,BN this]
 ·rw[List.map_singleton,Bp,Bj (AV _),DG];rfl
theorem aCF (s:Rn)(t:Rat)(r:Nat):nJ (jG s) (r:Int)=jG (stp s (.leave t r)):=by
 show nJ (a4Z s.ls s.rs) _=a4Z s.ls (s.rs.filter _)
 induction s.rs with
 | nil=>rfl
 | cons x rs ih=>
  show(if (x:Int)=(r:Int) then nJ (a4Z s.ls rs) (r:Int) else((x:Int),mX (s.ls.getD x (0,0)))::nJ (a4Z s.ls rs) (r:Int))=_
  by_cases e:x=r
  ·rw[if_pos (by omega),ih,Gv (by simpa using e)]
  ·rw[if_neg (by omega),ih,Gw (by simpa using e)];rfl
theorem aGU {s:Rn}(h:RnOk s){t m:Rat}{r:Nat}(hr:r∈s.rs):wD (jG s) (r:Int) (mX (pl (s.at r) t-m*t,m))=jG (stp s (.turn t r m)):=by
 have hl:=h.lt r hr;unfold wD;rw[aCL hr,if_pos (show(some (mX (s.at r))).isSome=true from rfl)];show a0M (a4Z s.ls s.rs) _ _=a4Z (s.ls.set r _) s.rs;generalize (pl (s.at r) t-m*t,m)=l;clear hr
 induction s.rs with
 | nil=>rfl
 | cons x rs ih=>
  show(if (x:Int)=(r:Int) then((x:Int),mX l) else((x:Int),mX (s.ls.getD x (0,0))))::a0M (a4Z s.ls rs) (r:Int) (mX l)=((x:Int),mX ((s.ls.set r l).getD x (0,0)))::a4Z (s.ls.set r l) rs
  rw[ih]
  congr 1
  by_cases e:x=r
  ·subst e;rw[if_pos rfl,Bp,BX hl];rfl
  ·rw[if_neg (by omega),Bp,Bp,BO (Am e)]
theorem aIO {s:Rn}(h:RnOk s){r:Nat}(hr:r∈s.rs):s.ls[r]?=some (s.at r):=by
 have:=h.lt r hr;unfold Rn.at;rw[Bp,A0 this];rfl
def Rising (ds:List Deed):Prop:=ds.Pairwise fun a b=>a.t≤b.t
theorem Rising.snoc {ds:List Deed}{d:Deed}(h:Rising ds)(hd:∀ e∈ds,e.t≤d.t):Rising (ds++[d]):=
 Gs.mpr ⟨h,Gu _ _,fun a ha b hb=>by rw[AW.mp hb]; exact hd a ha⟩
def G1 (B:Nat)(q:Rat):Prop:=∃ z:Int,q*27720=(z:Rat)∧z.natAbs≤B
def G2 (B:Nat)(q:Rat):Prop:=∃ z:Int,q*768398400=(z:Rat)∧z.natAbs≤B
theorem G1.mul {A B:Nat}{a b:Rat}(h:G1 A a)(g:G1 B b):G2 (A*B) (a*b):=by
 obtain⟨x,hx,bx⟩:=h;obtain⟨y,hy,dy⟩:=g;refine⟨x*y,?_,by rw[Db]; exact E2 bx dy⟩;rw[Cb,←hx,←hy];grind
theorem G1.up {A:Nat}{a:Rat}(h:G1 A a):G2 (A*27720) a:=by
 obtain⟨x,hx,bx⟩:=h;refine⟨x*27720,?_,by rw[Db]; exact E2 bx (AV _)⟩;rw[Cb,←hx];show a*768398400=a*27720*((27720:Int):Rat);rw[show((27720:Int):Rat)=27720 from rfl];grind
theorem G2.mono {A B:Nat}{a:Rat}(h:G2 A a)(l:A≤B):G2 B a:=let ⟨x,hx,bx⟩:=h; ⟨x,hx,Ac bx l⟩
theorem G2.add {A B:Nat}{a b:Rat}(h:G2 A a)(g:G2 B b):G2 (A+B) (a+b):=by
 obtain⟨x,hx,bx⟩:=h;obtain⟨y,hy,dy⟩:=g;refine⟨x+y,?_,Ac (Int.natAbs_add_le _ _) (Nat.add_le_add bx dy)⟩;rw[Rat.intCast_add,←hx,←hy];grind
theorem G2.sub {A B:Nat}{a b:Rat}(h:G2 A a)(g:G2 B b):G2 (A+B) (a-b):=by
 obtain⟨x,hx,bx⟩:=h;obtain⟨y,hy,dy⟩:=g;refine⟨x-y,?_,?_⟩
 ·rw[Rat.intCast_sub,←hx,←hy];grind
 ·omega
theorem G2.sz {B k:Nat}{q:Rat}(h:G2 B q)(hB:B<2^k)(hk:30≤k):Sz k q:=by
 obtain⟨z,hz,bz⟩:=h;rw[← dI (t:=z) (b:=768398400) (q:=q) (by decide) hz.symm];refine Sz.divInt (B2 bz hB) (Bt.mono (k:=30) (by show Int.natAbs 768398400<2^30; decide) hk) (by decide)
theorem G1.sz {B k:Nat}{q:Rat}(h:G1 B q)(hB:B<2^k)(hk:30≤k):Sz k q:=by
 obtain⟨z,hz,bz⟩:=h;rw[← dI (t:=z) (b:=27720) (q:=q) (by decide) hz.symm];refine Sz.divInt (B2 bz hB) (Bt.mono (k:=30) (by show Int.natAbs 27720<2^30; decide) hk) (by decide)
theorem a7D {a b:Int}{B:Nat}(ha:a.natAbs*27720≤B)(b0:1≤b)(b1:b≤12):G1 B (Rat.divInt a b):=by
 obtain⟨c,hc,c0,c1⟩:∃ c:Int,b*c=27720∧0≤c∧c≤27720:=by
  have:b=1∨b=2∨b=3∨b=4∨b=5∨b=6∨b=7∨b=8∨b=9∨b=10∨b=11∨b=12:=by omega
  rcases this with rfl|rfl|rfl|rfl|rfl|rfl|rfl|rfl|rfl|rfl|rfl|rfl
  ·exact⟨27720,by decide⟩
  ·exact⟨13860,by decide⟩
  ·exact⟨9240,by decide⟩
  ·exact⟨6930,by decide⟩
  ·exact⟨5544,by decide⟩
  ·exact⟨4620,by decide⟩
  ·exact⟨3960,by decide⟩
  ·exact⟨3465,by decide⟩
  ·exact⟨3080,by decide⟩
  ·exact⟨2772,by decide⟩
  ·exact⟨2520,by decide⟩
  ·exact⟨2310,by decide⟩
 refine⟨a*c,?_,Ac ?_ ha⟩
 ·have hb:(b:Rat)≠0:=fun z=>by
   have:b=0:=by exact_mod_cast z
   omega
  have hc':(b:Rat)*(c:Rat)=27720:=by
   rw[← Cb,hc]; rfl
  rw[Ct,Cb,←hc'];grind
 ·rw[Db];exact E2 (AV _) (by omega)
def DeedZ:Deed→Prop
 | .join t p m=>G1 (2^45) t∧G1 (2^45) p∧G1 (2^45) m
 | .leave t _=>G1 (2^45) t
 | .turn t _ m=>G1 (2^45) t∧G1 (2^45) m
theorem DeedZ.tz {d:Deed}(h:DeedZ d):Sz 60 d.t:=by
 cases d with
 | join t p m=>exact G1.sz (q:=t) h.1 (by decide) (by decide)
 | leave t r=>exact G1.sz (q:=t) h (by decide) (by decide)
 | turn t r m=>exact G1.sz (q:=t) h.1 (by decide) (by decide)
def RnZ (n:Nat)(s:Rn):Prop:=∀ l∈s.ls,G2 ((n+1)*2^91) l.1∧G1 (2^45) l.2
theorem aRW {n:Nat}{s:Rn}{d:Deed}(h:RnZ n s)(hs:RnOk s)(hd:d.ok s)(hz:DeedZ d):RnZ (n+1) (stp s d):=by
 have old:∀ l∈s.ls,G2 ((n+1+1)*2^91) l.1∧G1 (2^45) l.2:=fun l hl=>⟨(h l hl).1.mono (Cs _ (by omega)),(h l hl).2⟩
 cases d with
 | join t p m=>
  obtain⟨h1,h2,h3⟩:=hz;intro l hl;rcases Aj.mp hl with z|z
  ·exact old l z
  ·rw[AW.mp z];refine⟨(h2.up.sub (h3.mul h1)).mono ?_,h3⟩;refine Ac (m:=1*2^91) (by decide) (Cs _ (by omega))
 | leave t r=>exact old
 | turn t r m=>
  obtain⟨h1,h3⟩:=hz;intro l hl;rcases List.mem_or_eq_of_mem_set hl with z|z
  ·exact old l z
  ·rw[z];have hm:s.at r∈s.ls:=BP (aIO hs hd);obtain⟨a,b⟩:=h _ hm;refine⟨((a.add (b.mul h1)).sub (h3.mul h1)).mono ?_,h3⟩;have e:2^45*2^45+2^45*2^45=2^91:=by decide
   have:(n+1+1)*2^91=(n+1)*2^91+2^91:=Nat.succ_mul _ _;omega
theorem aSA {ds:List Deed}(hl:LogOk ds)(hz:∀ d∈ds,DeedZ d):RnZ ds.length (run ds):=by
 have aux:∀ n,n≤ds.length→RnZ n (run (ds.take n)):=by
  intro n
  induction n with
  | zero=>intro _ l hl; exact nomatch hl
  | succ n ih=>
   intro hn;have hn':n<ds.length:=by omega
   have e:ds[n]?=some ds[n]:=A0 hn';rw[List.take_succ,e];show RnZ (n+1) (run (ds.take n++[ds[n]]));rw[wQ];exact aRW (ih (by omega)) (a0B _) (hl n _ e) (hz _ (B6 hn'))
 have:=aux ds.length (AV _);rw[CI] at this;exact this
theorem aPB {ds:List Deed}(hl:LogOk ds)(hz:∀ d∈ds,DeedZ d)(h40:ds.length≤40):LinesOk 200 (run ds).ls:=fun l h=>by
 obtain⟨a,b⟩:=aSA hl hz l h;refine⟨a.sz ?_ (by decide),b.sz (by decide) (by decide)⟩;exact B2 (Cs _ (show ds.length+1≤41 by omega)) (by decide)
def a7M (q:Rat):Prop:=q.num.natAbs≤999999999∧q.den≤12
theorem aGJ {a b:Int}(ha:a.natAbs≤999999999)(b0:1≤b)(b1:b≤12):a7M (Rat.divInt a b):=by
 obtain⟨h1,h2⟩:=n6 (t:=a) (b:=b) (by omega);rw[fd] at h1 h2;refine⟨?_,?_⟩
 ·rw[← h1];exact Ac (FO _ _) ha
 ·have h3:((Rat.divInt a b).den:Int).natAbs≤b.natAbs:=by
   rw[← h2];exact FO _ _
  omega
def DeedN:Deed→Prop
 | .join t p m=>a7M t∧a7M p∧a7M m
 | .leave t _=>a7M t
 | .turn t _ m=>a7M t∧a7M m
structure LogB (ds:List Deed):Prop where
 ok:LogOk ds
 up:Rising ds
 z:∀ d∈ds,DeedZ d
 nm:∀ d∈ds,DeedN d
 few:Few ds
section
variable {p:AA}{n:Nat}{Q:Rv→Nat→Prop}
theorem aE0 (xs:List Nat):Ae (.list (qD xs)) (.list [])=decide (xs=[]):=by
 cases xs with
 | nil=>rfl
 | cons x xs=>rw[decide_eq_false (fun h=>nomatch h)]; rfl
theorem aD2:Good (.list []):=(a73 (n:=0) (ds:=[]) fun _ h=>nomatch h).good
theorem vV:∀{rs:List Nat} {k:Nat} {r:Nat},rs.Nodup→rs[k]?=some r→rs.eraseIdx k=rs.filter fun x=>decide (x≠r)
 | [],k,r,_,h=>by cases k<;>cases h
 | x::rs,0,r,hn,h=>by
  cases h
  obtain⟨a,b⟩:=DD.mp hn;rw[Gv (by simp),List.eraseIdx_cons_zero];exact(DU.mpr fun y hy=>by simpa using fun(e:y=x)=>a (e▸hy)).symm
 | x::rs,k+1,r,hn,h=>by
  obtain⟨a,b⟩:=DD.mp hn;have h:rs[k]?=some r:=h;have hx:x≠r:=fun e=>a (e▸BP h);rw[Gw (by simpa using hx),List.eraseIdx_cons_succ,vV b h]
theorem a3P {α β:Type}(f:α→β):∀(xs:List α) (k:Nat),(xs.eraseIdx k).map f=(xs.map f).eraseIdx k
 | [],k=>by cases k<;>rfl
 | x::xs,0=>rfl
 | x::xs,k+1=>by
  show f x::(xs.eraseIdx k).map f=f x::(xs.map f).eraseIdx k;rw[a3P f xs k]
theorem aBN {xs:List Nat}{k r:Nat}(h:xs[k]?=some r):(qD xs)[k]?=some (.int (r:Int)):=by
 unfold qD;rw[Ao,h];rfl
theorem aDA {a b c:Int}(hc:0<c)(h:a≤b):Rat.divInt a c≤Rat.divInt b c:=by
 rw[Ct,Ct];have hc':(0:Rat)<(c:Rat):=by exact_mod_cast hc
 have h':(a:Rat)≤(b:Rat):=by exact_mod_cast h
 rw[Rat.div_def,Rat.div_def];exact Rat.mul_le_mul_of_nonneg_right h' (Rat.le_of_lt (Rat.inv_pos.mpr hc'))
end
theorem sixth {m b c:Int}(hb:b*c=6)(h0:0<b):Rat.divInt m b=Rat.divInt (m*c) 6:=by
 refine(dI (t:=m*c) (b:=6) (by decide) ?_).symm;have hb':(b:Rat)≠0:=fun z=>by
  have:b=0:=by exact_mod_cast z
  omega
 have hc:(b:Rat)*(c:Rat)=((6:Int):Rat):=by rw[← Cb,hb]
 rw[Ct,Cb,←hc];grind
theorem aQ2 (z k:Int):Rat.divInt z 6+Rat.divInt k 6=Rat.divInt (z+k) 6:=by
 refine(dI (t:=z+k) (b:=6) (by decide) ?_).symm;rw[Ct,Ct,Rat.intCast_add,show((6:Int):Rat)=6 from rfl];grind
section
variable {Q:Rv→Prop}
theorem jW (q:∀ r:Rat,G1 (2^45) r∧a7M r→Q (.val (cO r))):eN [.pen] Q:=by
 refine lG ?_;unfold qW;walk_at "!)9";refine dX (by decide) (by decide) fun w w0 w1=>?_;walk_at "!O*M";refine gF (fun c=>?_) (fun c=>?_)
 ·walk_at "!8P&*9";refine dX (by decide) (by decide) fun a a0 a1=>?_;walk_at "!$m";rw[aGV];refine q _ ?_;have:=A8 (a7D (a:=a-3) (b:=1) (B:=2^45) (by omega) (by decide) (by decide)) (aGJ (a:=a-3) (b:=1) (by omega) (by decide) (by decide));rwa[dI (t:=a-3) (b:=1) (q:=((a-3:Int):Rat)) (by decide) (by rw[show((1:Int):Rat)=1 from rfl]; grind)] at this
 ·walk_at "!G";unfold pR;walk_at "!Ăk";refine gF (fun c=>?_) (fun c=>?_)
  ·walk_at "!V*9";refine dX (by decide) (by decide) fun a a0 a1=>?_;walk_at "!$2*$9";refine dX (by decide) (by decide) fun b b0 b1=>?_;walk_at "!(";refine o6 (by omega) (aEJ (by omega) (by omega)) ?_;skip;exact q _ ⟨a7D (by omega) (by omega) (by omega),aGJ (by omega) (by omega) (by omega)⟩
  ·walk_at "!G";unfold pU;walk_at "!Vā*Q*$$4";refine dX (by decide) (by decide) fun a a0 a1=>?_;walk_at "!$:HC&Ĕ$19";refine dX (by decide) (by decide) fun s s0 s1=>?_;walk_at "!#";obtain⟨e,he,he'⟩:∃ e:Int,ixD (.list [.int 1,.int (-1)]) (.int s)=some (.int e)∧(e=1∨e = -1):=by
    have hd:s=0∨s=1:=by omega
    rcases hd with rfl|rfl
    ·exact⟨1,rfl,.inl rfl⟩
    ·exact⟨-1,rfl,.inr rfl⟩
   refine cN he ?_;walk_at "!#";refine⟨aSY (k:=31) (aEJ (by omega) (by omega)) (m:=31) (aEJ (by omega) (by omega)),?_⟩;walk_at "!2*$9";refine dX (by decide) (by decide) fun b b0 b1=>?_;walk_at "!(";have hs:((a+1)*e).natAbs≤999999999:=by rcases he' with rfl|rfl<;>omega
   refine o6 (by omega) (aEJ (by omega) (by omega)) ?_;skip;exact q _ ⟨a7D (by omega) (by omega) (by omega),aGJ (by omega) (by omega) (by omega)⟩
theorem aDM {T:Rat}(hT:Sz 100 T)(q:∀ k:Int,0≤k→k≤72→Q (.val (cO (T+Rat.divInt k 6)))):jQ [.pen,.val (cO T)] Q:=by
 refine lG ?_;unfold nD;walk_at "!)?9";refine dX (by decide) (by decide) fun m m0 m1=>?_;walk_at "!2:H^^19";refine dX (by decide) (by decide) fun s s0 s1=>?_;walk_at "!#";obtain⟨b,hb,b1,b3⟩:∃ b:Int,ixD (.list [.int 1,.int 1,.int 2,.int 3]) (.int s)=some (.int b)∧1≤b∧b≤3:=by
  have hd:s=0∨s=1∨s=2∨s=3:=by omega
  rcases hd with rfl|rfl|rfl|rfl
  ·exact⟨1,rfl,by decide,by decide⟩
  ·exact⟨1,rfl,by decide,by decide⟩
  ·exact⟨2,rfl,by decide,by decide⟩
  ·exact⟨3,rfl,by decide,by decide⟩
 refine cN hb ?_;walk_at "!(";refine o6 (by omega) (aEJ (by omega) (by omega)) ?_;walk_at "!):_`5519";refine dX (by decide) (by decide) fun u u0 u1=>?_;walk_at "!#";obtain⟨r,hr,q'⟩:∃ r:Rat,ixD (.list [.tuple [.int 0,.int 1],cO (Rat.divInt m b),cO (Rat.divInt m b)]) (.int u)=some (cO r)∧(∃ m b:Int,0≤m∧m≤12∧1≤b∧b≤3∧r=Rat.divInt m b):=by
  have hd:u=0∨u=1∨u=2:=by omega
  rcases hd with rfl|rfl|rfl
  ·exact⟨0,rfl,0,1,by decide,by decide,by decide,by decide,by rw[Rat.zero_divInt]⟩
  ·exact⟨_,rfl,m,b,m0,by omega,b1,b3,rfl⟩
  ·exact⟨_,rfl,m,b,m0,by omega,b1,b3,rfl⟩
 obtain⟨m',b',x1,x2,x3,x4,rfl⟩:=q';have zr:Sz 31 (Rat.divInt m' b'):=Sz.divInt (aEJ (by omega) (by omega)) (aEJ (by omega) (by omega)) (by omega);have ft:Q (.val (cO (T+Rat.divInt m' b'))):=by
  have hb:b'=1∨b'=2∨b'=3:=by omega
  rcases hb with rfl|rfl|rfl
  ·rw[sixth (c:=6) (by decide) (by decide)]; exact q _ (by omega) (by omega)
  ·rw[sixth (c:=3) (by decide) (by decide)]; exact q _ (by omega) (by omega)
  ·rw[sixth (c:=2) (by decide) (by decide)]; exact q _ (by omega) (by omega)
 generalize Rat.divInt m' b'=r at *;obtain⟨z1,z2⟩:=zr;obtain⟨y1,y2⟩:=hT;refine cN hr ?_;walk_at "!V*xx2āWWĊ4";refine o6 (Int.mul_pos (den_pos T) (den_pos r)) ((y2.mul z2).mono (by decide)) ?_;rw[a7X];exact ft
theorem aM6 {most:Nat}(hm:most≤40)(q:∀ ds:List Deed,ds.length≤40→LogB ds→Q (.own (ds.map cV))):rT [.pen,.val (.int (most:Int))] Q:=by
 refine lG ?_;unfold yI;walk_at "!nă,nă,)$)?*9";refine dX (by decide) (by decide) fun a a0 a1=>?_;walk_at "!$2*$9";refine dX (by decide) (by decide) fun b b0 b1=>?_;walk_at "!(";refine o6 (by omega) (aEJ (by omega) (by omega)) ?_;obtain⟨z0,hz0,z1,z2⟩:∃ z:Int,Rat.divInt (a-20) (1+b)=Rat.divInt z 6 ∧ -120≤z∧z≤120:=by
  have hb:b=0∨b=1:=by omega
  rcases hb with rfl|rfl
  ·exact⟨_,sixth (c:=6) (by decide) (by decide),by omega,by omega⟩
  ·exact⟨_,sixth (c:=3) (by decide) (by decide),by omega,by omega⟩
 rw[hz0];walk_at "!oĖ&Q*Ć4";refine dX (by omega) (by omega) fun many m0 m1=>?_;walk_at "!f";refine⟨by omega,by omega,?_⟩;refine tQ (fun j Γ=>∃(ds:List Deed) (tz:Int) (x y:Sl),Γ=[.pen,.val (.int (most:Int)),.own (ds.map cV),.own (qD (run ds).rs),.val (.int ((run ds).ls.length:Int)),.val (cO (Rat.divInt tz 6)),x,y] ∧
  ds.length=j∧LogB ds∧(∀ d∈ds,d.t≤Rat.divInt tz 6)∧tz.natAbs≤120+72*j) ⟨[],_,_,_,rfl,rfl,⟨fun n d h=>(by cases n<;>cases h),Ef.nil,fun d h=>absurd h Av,fun d h=>absurd h Av,fun n d h=>(by cases n<;>cases h)⟩,fun d h=>absurd h Av,by omega⟩ ?_ ?_
 ·rintro j Γ K hj ⟨ds,tz,x,y,rfl,hl,lb,ts,ht⟩ hK;have hj:j<40:=by omega
  unfold vI;walk_at "!;)QB";refine aDM ((Sz.divInt (k:=31) (aEJ (by omega) (by omega)) (aEJ (by decide) (by decide)) (by decide)).mono (by decide)) fun k k0 k1=>?_;rw[aQ2];have zT:G1 (2^45) (Rat.divInt (tz+k) 6):=a7D (by omega) (by decide) (by decide);have nT:a7M (Rat.divInt (tz+k) 6):=aGJ (by omega) (by decide) (by decide);have tT:∀ d∈ds,d.t≤Rat.divInt (tz+k) 6:=fun d hd=>Rat.le_trans (ts d hd) (aDA (by omega) (by omega));have ht2:(tz+k).natAbs≤120+72*(j+1):=by omega
  revert zT nT tT ht2
  generalize tz+k=tn;intro zT nT tT ht2;generalize hT:Rat.divInt tn 6=T at *;walk_at "!O*WI";refine gF (fun c=>absurd c (by have:=nT.2; omega)) (fun _=>?_);walk_at "!G";unfold wB;walk_at "!)9";refine dX (by decide) (by decide) fun w w0 w1=>?_;walk_at "!XřlA%H1";have ro:=a0B ds;have rl:=a0L ds;have e5:∀ d,(ds++[d]).map cV=ds.map cV++[cV d]:=fun d=>by rw[BA]; rfl
  have done:∀(d:Deed) (x y:Sl),d.ok (run ds)→d.few (run ds)→DeedZ d→DeedN d→d.t=T→K (.nx [.pen,.val (.int (most:Int)),.own (ds.map cV++[cV d]),.own (qD (stp (run ds) d).rs),.val (.int ((stp (run ds) d).ls.length:Int)),.val (cO T),x,y]):=fun d x y h1 h5 h2 h6 h3=>by
   rw[← wQ,←e5,←hT];have mem:∀{P:Deed→Prop},(∀ e∈ds,P e)→P d→∀ e∈ds++[d],P e:=fun ha hb e he=>by
    rcases Aj.mp he with u|u
    ·exact ha e u
    ·rw[AW.mp u]; exact hb
   exact hK.nx _ ⟨ds++[d],tn,x,y,rfl,by rw[Ah,A1,hl],⟨lb.ok.snoc h1,lb.up.snoc (fun e he=>by rw[h3]; exact tT e he),mem lb.z h2,mem lb.nm h6,LogP.snoc lb.few h5⟩,mem (fun e he=>by rw[hT]; exact tT e he) (by rw[h3,hT]; exact Rat.le_refl),ht2⟩
  have ll:(ds.map cV).length=ds.length:=AO _;have e2:∀ t p m,qD (stp (run ds) (.join t p m)).rs=qD (run ds).rs++[.int ((run ds).ls.length:Int)]:=fun t p m=>by
   show qD ((run ds).rs++[_])=_;unfold qD;rw[BA];rfl
  have e4:∀ t p m,(((stp (run ds) (.join t p m)).ls.length:Nat):Int)=((run ds).ls.length:Int)+1:=fun t p m=>by
   show((((run ds).ls++[_]).length:Nat):Int)=_
   rw[Ah,A1];rfl
  refine⟨aEG _,aD2,?_⟩;rw[aE0];refine gF (fun c=>?j1) (fun c=>?rest)
  case' rest=>
   walk_at "!ė0*M";refine gF (fun c2=>?w) (fun c2=>?no1)
  case' w=>
   walk_at "!0*#Ś$Ĥ";refine gF (fun c3=>?j2) (fun c3=>?no2)
  case j1=>
   have hfew:(run ds).rs.length<8:=by rw[c]; decide
   walk_at "!Ĥ.>Rg&y4";refine jW fun pp g1=>?_;walk_at "!&y4";refine jW fun mm g2=>?_;walk_at "!1";refine⟨by omega,?_⟩;walk_at "!>R%";refine⟨by rw[iH]; omega,?_⟩;walk_at "!ĉ@*M";have dn:=done (.join T pp mm) (.val (.int (0+(j:Int)))) (.val (.int w)) trivial hfew ⟨zT,g1.1,g2.1⟩ ⟨nT,g1.2,g2.2⟩ rfl;rw[e2,e4] at dn;exact dn
  case j2=>
   have hfew:(run ds).rs.length<8:=by rw[iH] at c3; omega
   walk_at "!>Rg&y4";refine jW fun pp g1=>?_;walk_at "!&y4";refine jW fun mm g2=>?_;walk_at "!1";refine⟨by omega,?_⟩;walk_at "!>R%";refine⟨by rw[iH]; omega,?_⟩;walk_at "!ĉ@*M";have dn:=done (.join T pp mm) (.val (.int (0+(j:Int)))) (.val (.int w)) trivial hfew ⟨zT,g1.1,g2.1⟩ ⟨nT,g1.2,g2.2⟩ rfl;rw[e2,e4] at dn;exact dn
  all_goals
   have hpos:0<(run ds).rs.length:=DB.mpr c;(first|walk_at "!Ĥ6XAk"|walk_at "!XAk");refine gF (fun c9=>?lv) (fun c9=>?tu)
   case lv=>
    walk_at "!Rg&śQ#Ł(";refine dX (by rw[iH]; omega) (by rw[iH]; omega) fun u u0 u1=>?_;rw[iH] at u1;obtain⟨k,rfl⟩:∃ k:Nat,u=(k:Int):=⟨u.toNat,by omega⟩;have hk:k<(run ds).rs.length:=by omega
    have hr:(run ds).rs[k]?=some (run ds).rs[k]:=A0 hk;refine aT3 (by with_unfolding_all rfl) (by omega) (aBN hr) ?_;walk_at "!,";refine⟨by omega,?_⟩;skip;have dn:=done (.leave T (run ds).rs[k]) (.val (.int (0+(j:Int)))) (.val (.int w)) (BP hr) trivial zT nT rfl;have e6:qD (stp (run ds) (.leave T (run ds).rs[k])).rs=(qD (run ds).rs).eraseIdx k:=by
     show qD (List.filter _ _)=_;rw[← vV ro.nd hr];exact a3P _ _ _
    rw[e6] at dn;exact dn
   case tu=>
    walk_at "!Rg&ŜQ#Ł(";refine dX (by rw[iH]; omega) (by rw[iH]; omega) fun u u0 u1=>?_;rw[iH] at u1;obtain⟨k,rfl⟩:∃ k:Nat,u=(k:Int):=⟨u.toNat,by omega⟩;have hk:k<(run ds).rs.length:=by omega
    have hr:(run ds).rs[k]?=some (run ds).rs[k]:=A0 hk;walk_at "!#ŝ";refine cN (aOO (aBN hr)) ?_;walk_at "!&y4";refine jW fun mm g2=>?_;walk_at "!1";refine⟨by omega,?_⟩;skip;have dn:=done (.turn T (run ds).rs[k] mm) (.val (.int (0+(j:Int)))) (.val (.int w)) (BP hr) trivial ⟨zT,g2.1⟩ ⟨nT,g2.2⟩ rfl;have e7:(((stp (run ds) (.turn T (run ds).rs[k] mm)).ls.length:Nat):Int)=((run ds).ls.length:Int):=by
     show(((List.set _ _ _).length:Nat):Int)=_
     rw[Bk]
    rw[e7] at dn;exact dn
 ·rintro Γ ⟨ds,tz,x,y,rfl,hl,lb,ts,ht⟩;unfold vW;walk_at "!ċł#";exact q _ (by omega) lb
end
theorem aKS {A B:Prop}{d:D}(g:Good d)(a:A):Good d∧Good d∧(if Ae d d=true then A else B):=⟨g,g,by rw[iZ g]; exact a0T a⟩
theorem aEI {A B:Prop}{d e:D}(g:Good d)(f:Good e)(h:Ae d e=false)(b:B):Good d∧Good e∧(if Ae d e=true then A else B):=⟨g,f,by rw[h]; exact a2O b⟩
theorem gJ:Good (.str "join"):=good_str _
theorem gL:Good (.str "leave"):=good_str _
theorem gT':Good (.str "turn"):=good_str _
section
variable {Q:Rv→Prop}{s:Rn}{t T:Rat}
theorem aQU (d:Deed):ixD (cV d) (.int 1)=some (cO d.t):=by cases d<;>rfl
end
section
theorem pP {Q:Rv→Prop}{t p m:Rat}(h1:Sz 900 t)(h2:Sz 4000 p)(h3:Sz 900 m)(q:Q (.val (mX (p-m*t,m)))):fZ [.val (cO t),.val (cO p),.val (cO m)] Q:=by
 refine lG ?_;unfold lL;walk_at "!8P&wwB";refine vY (h3.mono (by decide)) (h1.mono (by decide)) ?_;walk_at "!4";refine yJ h2 ((h3.mul h1).mono (by decide)) ?_;walk_at "!51";exact q
end
def fdS (a b:AA)(s:Rn)(la:D):FS:=⟨a,b,jG s,(s.ls.length:Int),la⟩
section
variable {c w a b:AA}{s:Rn}{la:D}{Q:Rv→FS→Prop}
theorem aJ9 {l:D}(hs:s.rs.length<1000)(q:Q (.val (.int (s.ls.length:Int))) ⟨a,b,wD (jG s) (s.ls.length:Int) l,(s.ls.length:Int)+1,la⟩):iY c w (fdS a b s la) [.val l] Q:=by
 refine aG0 ?_;unfold lQ;walk_at "!)#Ş>Ń%ń%";refine aPF (by with_unfolding_all rfl) (by show(jG s).length<1000; rw[kds_len]; exact hs) ?_;walk_at "!>ş#p@%h";exact q
def aT4 (s:Rn):Deed→D
 | .join _ _ _=>.int (s.ls.length:Int)
 | _=>.none
theorem aP7 {d:Deed}(hs:RnOk s)(hd:d.ok s)(hz:DeedZ d)(lz:LinesOk 200 s.ls)(hl:s.rs.length<1000)(q:Q (.val (aT4 s d)) (fdS a b (stp s d) (cO d.t))):a8C c w (fdS a b s la) [.val (cV d)] Q:=by
 refine aG0 ?_;unfold aBI;walk_at "!>Š3";refine cN (aQU d) ?_;walk_at "!šY"
 cases d with
 | join t p m=>
  obtain⟨z1,z2,z3⟩:=hz;have z1:=G1.sz (k:=60) z1 (by decide) (by decide);have z2:=G1.sz (k:=60) z2 (by decide) (by decide);have z3:=G1.sz (k:=60) z3 (by decide) (by decide);refine cN (d:=.str "join") rfl ?_;walk_at "!$";refine aKS gJ ?_;walk_at "!pĥ2<";refine cN (d:=cO t) rfl ?_;walk_at "!23";refine cN (d:=cO p) rfl ?_;walk_at "!23";refine cN (d:=cO m) rfl ?_;walk_at "!(";refine pP (z1.mono (by decide)) (z2.mono (by decide)) (z3.mono (by decide)) ?_;walk_at "!Ę#Ħ";refine aJ9 (s:=s) (la:=cO t) hl ?_;walk_at "!h";have e:(⟨a,b,wD (jG s) (s.ls.length:Int) (mX (p-m*t,m)),(s.ls.length:Int)+1,cO t⟩:FS)=fdS a b (stp s (.join t p m)) (cO t):=by
   rw[aFP hs];unfold fdS
   congr 1
   show _=(((s.ls++[_]).length:Nat):Int);rw[Ah,A1];rfl
  have z:Q (.val (.int (s.ls.length:Int))) (fdS a b (stp s (.join t p m)) (cO t)):=q;rw[← e] at z;exact z
 | leave t r=>
  have e1:=aCL hd;refine cN (d:=.str "leave") rfl ?_;walk_at "!$";refine aEI gL gJ rfl ?_;unfold zN;walk_at "!eY";refine cN (d:=.str "leave") rfl ?_;walk_at "!$";refine aKS gL ?_;walk_at "!Ņ#Ţ3";refine cN (d:=.int (r:Int)) rfl ?_;refine aT7 (by with_unfolding_all rfl) e1 ?_;unfold yU;walk_at "!#pSh";have e:(⟨a,b,nJ (jG s) (r:Int),(s.ls.length:Int),cO t⟩:FS)=fdS a b (stp s (.leave t r)) (cO t):=by
   rw[aCF s t r];rfl
  exact e▸q
 | turn t r m=>
  obtain⟨z1,z3⟩:=hz;have z1:=G1.sz (k:=60) z1 (by decide) (by decide);have z3:=G1.sz (k:=60) z3 (by decide) (by decide);have e1:=aCL hd;obtain⟨z4,z5⟩:=lz.get (aIO hs hd);refine cN (d:=.str "turn") rfl ?_;walk_at "!$";refine aEI gT' gJ rfl ?_;unfold zN;walk_at "!eY";refine cN (d:=.str "turn") rfl ?_;walk_at "!$";refine aEI gT' gL rfl ?_;walk_at "!)?#ţ3";refine cN (d:=.int (r:Int)) rfl ?_;refine aTV (by with_unfolding_all rfl) e1 ?_;walk_at "!23";refine cN (d:=cO t) rfl ?_;walk_at "!(";refine a8Q (z4.mono (by decide)) (z5.mono (by decide)) (z1.mono (by decide)) ?_;walk_at "!#Ń<";refine cN (d:=cO t) rfl ?_;walk_at "!2ę3";refine cN (d:=cO m) rfl ?_;walk_at "!(";refine pP (z1.mono (by decide)) ((z4.add (z5.mul z1)).mono (by decide)) (z3.mono (by decide)) ?_;walk_at "!#ń3";refine cN (d:=.int (r:Int)) rfl ?_;refine aPF (by with_unfolding_all rfl) (by show(jG s).length<1000; rw[kds_len]; exact hl) ?_;unfold yU;walk_at "!#pSh";have e:(⟨a,b,wD (jG s) (r:Int) (mX (pl (s.at r) t-m*t,m)),(s.ls.length:Int),cO t⟩:FS)=fdS a b (stp s (.turn t r m)) (cO t):=by
   rw[aGU hs hd];unfold fdS
   congr 1
   show _=(((s.ls.set r _).length:Nat):Int);rw[Bk]
  exact e▸q
end
section
variable {c:AA}{ds:List Deed}{T:Rat}{Q:Rv→Prop}
structure LogG (ds:List Deed):Prop where
 ok:LogOk ds
 up:Rising ds
 z:∀ d∈ds,DeedZ d
 n:ds.length≤40
theorem LogG.take {ds:List Deed}(h:LogG ds)(k:Nat):LogG (ds.take k):=⟨h.ok.take k,h.up.sublist (Ew k ds),fun d hd=>h.z d (CH hd),by rw[BK]; have:=h.n; omega⟩
theorem LogG.sz {ds:List Deed}(h:LogG ds):LinesOk 200 (run ds).ls:=aPB h.ok h.z h.n
theorem LogG.rs {ds:List Deed}(h:LogG ds):(run ds).rs.length≤40:=Ac (a0L ds) h.n
end
section
variable {Q:Rv→Prop}
end
section
variable {c w a b:AA}{s:Rn}{la:D}{Q:Rv→FS→Prop}
def aVZ (la:D)(T:Rat):Prop:=la=.none∨∃ q:Rat,la=cO q∧q≤T∧Sz 60 q
theorem a9D {d:Deed}(hs:RnOk s)(hd:d.ok s)(hf:d.few s)(hz:Sz 60 d.t)(hl:aVZ la d.t)(q:Q (.val (.bool true)) (fdS a b s la)):jV c w (fdS a b s la) [.val (cV d)] Q:=by
 have r2:fL c (.box ((bN c).box w (fdS a b s la))::([.val (cV d)]++Ar 0 .no)) fun fl=>
   match fl with
   | .rt rv=>∃ rv0 s',rv=.box (bKp (bN c) rv0 w s')∧Q rv0 s'
   | .nx Γ=>∃ s',Γ[0]?=some (.box ((bN c).box w s'))∧Q (.val .none) s'
   | _=>False:=by
  unfold fL
  cases d with
  | join t p m=>
   walk_at "!Y";refine cN (d:=.str "join") rfl ?_;walk_at "!$";refine aKS gJ ?_;walk_at "!p@*ņIh";rw[decide_eq_true (show(((fdS a b s la).kds.length:Nat):Int)<8 by show(((jG s).length:Nat):Int)<8; rw[kds_len]; have hf:s.rs.length<8:=hf; omega)];exact q
  | leave t r=>
   walk_at "!Y";refine cN (d:=.str "leave") rfl ?_;walk_at "!$";refine aEI gL gJ rfl ?_;unfold gU;walk_at "!Gp@ķ3";refine cN (d:=.int (r:Int)) rfl ?_;walk_at "!ĸh";rw[show(fdS a b s la).kds=jG s from rfl,aCL hd];exact q
  | turn t r m=>
   walk_at "!Y";refine cN (d:=.str "turn") rfl ?_;walk_at "!$";refine aEI gT' gJ rfl ?_;unfold gU;walk_at "!Gp@ķ3";refine cN (d:=.int (r:Int)) rfl ?_;walk_at "!ĸh";rw[show(fdS a b s la).kds=jG s from rfl,aCL hd];exact q
 refine aG0 ?_;unfold pL;rcases hl with rfl|⟨t0,rfl,ht,zt⟩
 ·walk_at "!q0ħ#Č";exact r2
 ·walk_at "!q0ħ#Č";refine cN (aQU d) ?_;walk_at "!2#Č(";refine a2Y (hz.mono (by decide)) (zt.mono (by decide)) ?_;rw[decide_eq_false (show ¬d.t<t0 by grind)];walk_at "!J";exact r2
end
section
variable {c:AA}{ds:List Deed}{Q:Rv→Prop}
theorem LogB.snoc {ds:List Deed}{d:Deed}(h:LogB ds)(h1:d.ok (run ds))(h2:d.few (run ds))(h3:∀ e∈ds,e.t≤d.t)(h4:DeedZ d)(h5:DeedN d):LogB (ds++[d]):=by
 have mem:∀{P:Deed→Prop},(∀ e∈ds,P e)→P d→∀ e∈ds++[d],P e:=fun ha hb e he=>by
  rcases Aj.mp he with u|u
  ·exact ha e u
  ·rw[AW.mp u]; exact hb
 exact⟨h.ok.snoc h1,h.up.snoc h3,mem h.z h4,mem h.nm h5,LogP.snoc h.few h2⟩
end
theorem aJ8 {b:Bool}{A B:Prop}[d:Decidable ((!b)=true)](h:b=true)(hB:B):@ite Prop ((!b)=true) d A B:=by
 subst h;rw[if_neg (by simp)];exact hB
def wh:D→Bool
 | .int _=>true
 | _=>false
def a5B:D→Bool
 | .tuple [.int a,.int b]=>decide (1≤b)&&decide (Az a b=1)
 | _=>false
theorem aQK (d:D):(∃ i,d=.int i)∨wh d=false:=by
 cases d<;>first|exact .inl ⟨_,rfl⟩|exact .inr rfl
theorem aMR (x:D):a5B (.tuple [x])=false:=by cases x<;>rfl
theorem aNY (x y z:D)(l:List D):a5B (.tuple (x::y::z::l))=false:=by cases x<;>cases y<;>rfl
theorem aQH {x:D}(y:D)(h:wh x=false):a5B (.tuple [x,y])=false:=by cases x<;>first|rfl|cases h
theorem aPD {x y:D}(h:wh y=false):a5B (.tuple [x,y])=false:=by cases x<;>cases y<;>first|rfl|cases h
theorem aH3 (r:Rat):a5B (cO r)=true:=by
 have e:Az r.num r.den=1:=r.reduced;have h:=r.den_pos
 show(decide (1≤(r.den:Int))&&decide (Az r.num r.den=1))=true
 rw[decide_eq_true e,decide_eq_true (by omega)];rfl
section
variable {Q:Rv→Prop}
theorem aFL {d:D}(q:Q (.val (.bool (wh d)))):dU [.val d] Q:=by
 refine lG ?_;unfold mG
 cases d<;>((first|walk_at "!dFĵēą/"|walk_at "!dFĨ#"); exact q)
theorem aNQ {a b:Int}(c:1≤b):decide (((Az a b:Nat):Int)=1)=a5B (.tuple [.int a,.int b]):=by
 show _=(decide (1≤b)&&decide (Az a b=1));rw[decide_eq_true c,F7,decide_eq_decide];omega
theorem aLU {a b:Int}(c:¬1≤b):a5B (.tuple [.int a,.int b])=false:=by
 show(decide (1≤b)&&decide (Az a b=1))=false
 rw[decide_eq_false c,EW]
theorem aNB {d:D}(q:Q (.val (.bool (a5B d)))):fJ [.val d] Q:=by
 refine lG ?_;unfold jY
 cases d with
 | tuple ds=>
  walk_at "!KFćj=";refine cN (d:=.int (ds.length:Int)) rfl ?_;walk_at "!N"
  match ds,q with
  | [],q=>
   refine aFI (fun c=>?_) (fun c=>absurd c (by decide));walk_at "!T";exact q
  | [x],q=>
   refine aFI (fun c=>?_) (fun c=>absurd c (by simp));walk_at "!T";rw[aMR] at q;exact q
  | x::y::z::l,q=>
   refine aFI (fun c=>?_) (fun c=>absurd c (by rw[Af,Af,Af]; omega));walk_at "!T";rw[aNY] at q;exact q
  | [x,y],q=>
   refine aJ8 (decide_eq_true rfl) ?_;walk_at "!G";unfold fY;walk_at "!K<";refine cN (d:=x) rfl ?_;walk_at "!(";refine aFL ?_;rcases aQK x with⟨a,rfl⟩|hx
   ·refine aJ8 rfl ?_;walk_at "!7<";refine cN (d:=y) rfl ?_;walk_at "!(";refine aFL ?_;rcases aQK y with⟨b,rfl⟩|hy
    ·refine aJ8 rfl ?_;walk_at "!G";unfold lN;walk_at "!d*i";refine cN (d:=.int b) rfl ?_;walk_at "!I";refine gF (fun c=>?_) (fun c=>?_)
     ·walk_at "!z<";refine cN (d:=.int a) rfl ?_;walk_at "!23";refine cN (d:=.int b) rfl ?_;walk_at "!(";refine aLW ?_;walk_at "!N";rw[aNQ c];exact q
     ·rw[aLU c] at q;exact q
    ·rw[hy];walk_at "!DT";rw[aPD hy] at q;exact q
   ·rw[hx];walk_at "!DZ";rw[aQH y hx] at q;exact q
 | _=>walk_at "!KFĚZ"; exact q
def dnD:D→Bool
 | .tuple [.int a,.int b]=>a5B (.tuple [.int a,.int b])&&(decide (a.natAbs≤999999999)&&decide (b≤12))
 | _=>false
theorem aLG {d:D}(h:a5B d=true):∃ a b:Int,d=.tuple [.int a,.int b]:=by
 unfold a5B at h
 split at h
 ·exact⟨_,_,rfl⟩
 ·cases h
theorem aN6 {d:D}(h:a5B d=false):dnD d=false:=by
 unfold dnD
 split
 ·rw[h]; rfl
 ·rfl
theorem a1I {d:D}(q:Q (.val (.bool (dnD d)))):cJ [.val d] Q:=by
 refine lG ?_;unfold jM;walk_at "!r7]";refine aNB ?_
 cases e:a5B d with
 | false=>
  rw[aN6 e] at q;walk_at "!DT";exact q
 | true=>
  obtain⟨a,b,rfl⟩:=aLG e;have e2:dnD (.tuple [.int a,.int b])=(decide (a.natAbs≤999999999)&&decide (b≤12)):=by
   show(a5B (.tuple [.int a,.int b])&&_)=_
   rw[e]; rfl
  rw[e2] at q;walk_at "![";unfold kE;walk_at "!d*ģi";refine cN (d:=.int a) rfl ?_;walk_at "!I";refine gF (fun c=>?_) (fun c=>?_)
  ·walk_at "!*3";refine cN (d:=.int b) rfl ?_;walk_at "!I";rw[decide_eq_true (show a.natAbs≤999999999 by split at c<;>omega),F7] at q;exact q
  ·rw[decide_eq_false (show ¬a.natAbs≤999999999 by split at c<;>omega),EW] at q;skip;exact q
def aP6:List D→Bool
 | [t,p,m]=>dnD t&&(dnD p&&dnD m)
 | _=>false
def aI1:List D→Bool
 | [t,r]=>dnD t&&wh r
 | _=>false
def aOD:List D→Bool
 | [t,r,m]=>wh r&&(dnD t&&dnD m)
 | _=>false
def v9 (w:AC)(xs:List D):Bool:=if w = "join" then aP6 xs else if w = "leave" then aI1 xs else if w = "turn" then aOD xs else false
def rY:D→Bool
 | .tuple (.str w::xs)=>v9 w xs
 | _=>false
theorem a0N (xs:List D):v9 "join" xs=aP6 xs:=if_pos rfl
theorem aE8 (xs:List D):v9 "leave" xs=aI1 xs:=by unfold v9; rw[if_neg (by decide),if_pos rfl]
theorem a78 (xs:List D):v9 "turn" xs=aOD xs:=by unfold v9; rw[if_neg (by decide),if_neg (by decide),if_pos rfl]
theorem aP5 {w:AC}(xs:List D)(h1:w ≠ "join")(h2:w ≠ "leave")(h3:w ≠ "turn"):v9 w xs=false:=by unfold v9; rw[if_neg h1,if_neg h2,if_neg h3]
theorem aOK {w:AC}{xs:List D}(h:xs.length<2):v9 w xs=false:=by
 unfold v9
 match xs,h with
 | [],_=>split<;>first|rfl|(split<;>first|rfl|(split<;>rfl))
 | [x],_=>split<;>first|rfl|(split<;>first|rfl|(split<;>rfl))
theorem a6Q {a b:AC}(h:a≠b):Ae (.str a) (.str b)=false:=by
 unfold Ae;simpa using h
theorem a9J {ds:List D}(h:ds.length<3):rY (.tuple ds)=false:=by
 match ds,h with
 | [],_=>rfl
 | x::xs,h=>cases x<;>first|rfl|exact aOK (by rw[Af] at h; omega)
theorem aIH {d:D}(hg:∀ w xs,d=.tuple (.str w::xs)→Good (.str w))(q:Q (.val (.bool (rY d)))):oJ [.val d] Q:=by
 refine lG ?_;unfold xT
 cases d with
 | tuple ds=>
  walk_at "!KFćl0*=";refine cN (d:=.int (ds.length:Int)) rfl ?_;walk_at "!I";refine gF (fun c=>?_) (fun c=>?_)
  ·rw[a9J (by omega)] at q;walk_at "!Z";exact q
  match ds,c,q,hg with
  | [],c,_,_=>exact absurd c (by decide)
  | x::xs,c,q,hg=>
   walk_at "!7ąi";have ix0:ixD (.tuple (x::xs)) (.int 0)=some x:=uN (xs:=x::xs) (j:=0) (v:=x) rfl;refine cN ix0 ?_;skip
   cases x with
   | str w=>
    have g:=hg w xs rfl;walk_at "!ćG";unfold vR;walk_at "!Y";refine cN ix0 ?_;walk_at "!$";have lx:((.str w::xs:List D).length:Int)=(xs.length:Int)+1:=by rw[Af]; omega
    by_cases hj:w = "join"
    ·subst hj;refine aKS g ?_;walk_at "!dz=";refine cN (d:=.int ((.str "join" :: xs:List D).length:Int)) rfl ?_;walk_at "!N"
     match xs,c,q with
     | [t,p,m],c,q=>
      refine gF (fun _=>?_) (fun c=>absurd (show(((3+1:Nat):Int)=4) by decide) c);walk_at "!ŇaĹĺ#ň{$b#";refine A8 (fun z=>absurd z.1 (show ¬HT.sIx 4 0 (some 1)=0 by decide)) (A8 (show(3:Nat)≤1000 by decide) ?_);show rJ _ _ _ _ ([t,p,m].map fun x=>x) [] _;refine qM (α:=D) (fun _=>true) (fun x=>.bool (dnD x)) (fun x=>x) [t,p,m] [] _ (fun x hx _ k k0 g1 g0=>?_) ?_
      ·walk_at "!;";unfold a3U;walk_at "!.]";refine a1I ?_;walk_at "!#";exact g1 rfl
      ·rw[show rY (.tuple [.str "join", t,p,m])=(dnD t&&(dnD p&&dnD m)) from a0N [t,p,m]] at q;show Q (.val (.bool _))
       cases e1:dnD t<;>cases e2:dnD p<;>cases e3:dnD m<;>(simp only[e1,e2,e3] at q ⊢; exact q)
     | [],c,q=>exact absurd (show((1:Nat):Int)<3 by decide) c
     | [_],c,q=>exact absurd (show((2:Nat):Int)<3 by decide) c
     | [a,b],c,q=>
      refine gF (fun c=>absurd c (show ¬(((2+1:Nat):Int)=4) by decide)) (fun _=>?_);rw[show rY (.tuple [.str "join", a,b])=false from a0N [a,b]] at q;skip;exact q
     | a::b::d::e::l,c,q=>
      refine gF (fun c=>absurd c (by simp only[Af]; omega)) (fun _=>?_);rw[show rY (.tuple (.str "join" :: a::b::d::e::l))=false from a0N _] at q;skip;exact q
    refine aEI g gJ (a6Q hj) ?_;unfold vQ;walk_at "!eY";refine cN ix0 ?_;walk_at "!$"
    by_cases hl:w = "leave"
    ·subst hl;refine aKS g ?_;walk_at "!dz=";refine cN (d:=.int ((.str "leave" :: xs:List D).length:Int)) rfl ?_;walk_at "!N"
     match xs,c,q with
     | [t,r],c,q=>
      refine gF (fun _=>?_) (fun c=>absurd (show(((2+1:Nat):Int)=3) by decide) c);rw[show rY (.tuple [.str "leave", t,r])=(dnD t&&wh r) from aE8 [t,r]] at q;walk_at "!ĩ<";refine cN (d:=t) rfl ?_;walk_at "!(";refine a1I ?_
      cases e1:dnD t with
      | false=>
       rw[e1] at q;walk_at "!6";exact q
      | true=>
       rw[e1] at q;walk_at "!.<";refine cN (d:=r) rfl ?_;walk_at "!(";refine aFL ?_;walk_at "!#";exact q
     | [],c,q=>exact absurd (show((1:Nat):Int)<3 by decide) c
     | [_],c,q=>exact absurd (show((2:Nat):Int)<3 by decide) c
     | a::b::d::l,c,q=>
      refine gF (fun c=>absurd c (by simp only[Af]; omega)) (fun _=>?_);rw[show rY (.tuple (.str "leave" :: a::b::d::l))=false from aE8 _] at q;skip;exact q
    refine aEI g gL (a6Q hl) ?_;unfold vU;walk_at "!eY";refine cN ix0 ?_;walk_at "!$"
    by_cases ht:w = "turn"
    ·subst ht;refine aKS g ?_;walk_at "!dz=";refine cN (d:=.int ((.str "turn" :: xs:List D).length:Int)) rfl ?_;walk_at "!N"
     match xs,c,q with
     | [t,r,m],c,q=>
      refine gF (fun _=>?_) (fun c=>absurd (show(((3+1:Nat):Int)=4) by decide) c);rw[show rY (.tuple [.str "turn", t,r,m])=(wh r&&(dnD t&&dnD m)) from a78 [t,r,m]] at q;walk_at "!ĩ<";refine cN (d:=r) rfl ?_;walk_at "!(";refine aFL ?_
      cases e0:wh r with
      | false=>
       rw[e0] at q;walk_at "!6";exact q
      | true=>
       rw[e0] at q;walk_at "!.ĩ<";refine cN (d:=t) rfl ?_;walk_at "!(";refine a1I ?_
       cases e1:dnD t with
       | false=>
        rw[e1] at q;walk_at "!6";exact q
       | true=>
        rw[e1] at q;walk_at "!.<";refine cN (d:=m) rfl ?_;walk_at "!(";refine a1I ?_;walk_at "!#";exact q
     | [],c,q=>exact absurd (show((1:Nat):Int)<3 by decide) c
     | [_],c,q=>exact absurd (show((2:Nat):Int)<3 by decide) c
     | [a,b],c,q=>
      refine gF (fun c=>absurd c (show ¬(((2+1:Nat):Int)=4) by decide)) (fun _=>?_);rw[show rY (.tuple [.str "turn", a,b])=false from a78 [a,b]] at q;skip;exact q
     | a::b::d::e::l,c,q=>
      refine gF (fun c=>absurd c (by simp only[Af]; omega)) (fun _=>?_);rw[show rY (.tuple (.str "turn" :: a::b::d::e::l))=false from a78 _] at q;skip;exact q
    refine aEI g gT' (a6Q ht) ?_;rw[show rY (.tuple (.str w::xs))=false from aP5 xs hj hl ht] at q;unfold vX;walk_at "!eT";exact q
   | _=>walk_at "!ĚT"; exact q
 | _=>walk_at "!KFĚZ"; exact q
end
theorem uV {q:Rat}(h:a7M q):dnD (cO q)=true:=by
 have e:=aH3 q;obtain⟨h1,h2⟩:=h
 show(a5B (.tuple [.int q.num,.int q.den])&&(decide (q.num.natAbs≤999999999)&&decide ((q.den:Int)≤12)))=true
 rw[show a5B (.tuple [.int q.num,.int q.den])=true from e,decide_eq_true h1,decide_eq_true (by omega:(q.den:Int)≤12)];rfl
theorem aDS (d:Deed):∀ w xs,cV d=.tuple (.str w::xs)→Good (.str w):=fun w xs h=>by
 cases d<;>(cases h; first|exact gJ|exact gL|exact gT')
theorem aFK {d:Deed}(h:DeedN d):rY (cV d)=true:=by
 cases d with
 | join t p m=>
  show v9 "join" [cO t,cO p,cO m]=true;rw[a0N]
  show(dnD (cO t)&&(dnD (cO p)&&dnD (cO m)))=true
  rw[uV h.1,uV h.2.1,uV h.2.2];rfl
 | leave t r=>
  show v9 "leave" [cO t,.int (r:Int)]=true;rw[aE8]
  show(dnD (cO t)&&true)=true
  rw[uV h];rfl
 | turn t r m=>
  show v9 "turn" [cO t,.int (r:Int),cO m]=true;rw[a78]
  show(true&&(dnD (cO t)&&dnD (cO m)))=true
  rw[uV h.1,uV h.2];rfl
theorem aAU {Q:Rv→Prop}{d:Deed}(h:DeedN d)(q:Q (.val (.bool true))):oJ [.val (cV d)] Q:=aIH (aDS d) (by rw[aFK h]; exact q)
theorem aO6 {s:Rn}{z:Int}(h:∀ r∈s.rs,(r:Int)≠z):wA (jG s) z=none:=by
 cases e:wA (jG s) z with
 | none=>rfl
 | some d=>
  obtain⟨r,a,b,_⟩:=aE2 s.ls s.rs z d e;exact absurd a.symm (h r b)
def laO (ds:List Deed):D:=match ds.getLast? with|none=>.none|some e=>cO e.t
theorem aH7 (ds:List Deed)(d:Deed):laO (ds++[d])=cO d.t:=by unfold laO; rw[List.getLast?_concat]
def Ref (ds:List Deed)(x:D):Prop:=
 (∃ t p m,x=cV (.join t p m)∧Sz 60 t∧((∃ e,ds.getLast?=some e∧t<e.t)∨¬(run ds).rs.length<8)) ∨
 (∃(t:Rat) (z:Int) (w:AC) (r:List D),x=.tuple (.str w::cO t::.int z::r)∧(w = "leave" ∨ w = "turn")∧Sz 60 t∧∀ q∈(run ds).rs,(q:Int)≠z)
section
variable {c w a b:AA}{s:Rn}{la:D}{Q:Rv→FS→Prop}
theorem aMU {x:D}{z:Int}(hx:ixD x (.int 2)=some (.int z))(h:∀ q∈s.rs,(q:Int)≠z)(q:Q (.val (.bool false)) (fdS a b s la)):gU c (.box ((bN c).box w (fdS a b s la))::([.val x]++Ar 0 .no)) fun fl=>
   match fl with
   | .rt rv=>∃ rv0 s',rv=.box (bKp (bN c) rv0 w s')∧Q rv0 s'
   | .nx Γ=>∃ s',Γ[0]?=some (.box ((bN c).box w s'))∧Q (.val .none) s'
   | _=>False:=by
 unfold gU;walk_at "!p@ķ3";refine cN hx ?_;walk_at "!ĸh";rw[show(fdS a b s la).kds=jG s from rfl,aO6 h];exact q
theorem a9G {ds:List Deed}{x:D}(hz:∀ e∈ds,Sz 60 e.t)(h:Ref ds x)(q:Q (.val (.bool false)) (fdS a b (run ds) (laO ds))):jV c w (fdS a b (run ds) (laO ds)) [.val x] Q:=by
 have main:∀ t:Rat,Sz 60 t→ixD x (.int 1)=some (cO t)→((∃ e,ds.getLast?=some e∧t<e.t)∨fL c (.box ((bN c).box w (fdS a b (run ds) (laO ds)))::([.val x]++Ar 0 .no)) fun fl=>
   match fl with
   | .rt rv=>∃ rv0 s',rv=.box (bKp (bN c) rv0 w s')∧Q rv0 s'
   | .nx Γ=>∃ s',Γ[0]?=some (.box ((bN c).box w s'))∧Q (.val .none) s'
   | _=>False)→jV c w (fdS a b (run ds) (laO ds)) [.val x] Q:=fun t zt ix hh=>by
  refine aG0 ?_;unfold pL;unfold laO at q hh ⊢
  cases e:ds.getLast? with
  | none=>
   rw[e] at q hh;walk_at "!q0ħ#Č";rcases hh with⟨e',z,_⟩|hh
   ·cases z
   ·exact hh
  | some d=>
   rw[e] at q hh;walk_at "!q0ħ#Č";refine cN ix ?_;walk_at "!2#Č(";refine a2Y (zt.mono (by decide)) ((hz d (Gx e)).mono (by decide)) ?_
   by_cases lt:t<d.t
   ·rw[decide_eq_true lt];walk_at "!.pSh";exact q
   ·rw[decide_eq_false lt];walk_at "!J";rcases hh with⟨e',z,y⟩|hh
    ·cases z
     exact absurd y lt
    ·exact hh
 rcases h with⟨t,p,m,rfl,zt,h⟩|⟨t,z,w',r,rfl,hw,zt,h⟩
 ·refine main t zt rfl ?_;rcases h with h|h
  ·exact .inl h
  ·refine .inr ?_;unfold fL;walk_at "!Y";refine cN (d:=.str "join") rfl ?_;walk_at "!$";refine aKS gJ ?_;walk_at "!p@*ņIh";rw[decide_eq_false (show ¬(((fdS a b (run ds) (laO ds)).kds.length:Nat):Int)<8 by show ¬(((jG (run ds)).length:Nat):Int)<8; rw[kds_len]; omega)];exact q
 ·have i1:ixD (.tuple (.str w'::cO t::.int z::r)) (.int 1)=some (cO t):=uN (xs:=(.str w'::cO t::.int z::r:List D)) (j:=1) rfl;have i2:ixD (.tuple (.str w'::cO t::.int z::r)) (.int 2)=some (.int z):=uN (xs:=(.str w'::cO t::.int z::r:List D)) (j:=2) rfl;have i0:ixD (.tuple (.str w'::cO t::.int z::r)) (.int 0)=some (.str w'):=uN (xs:=(.str w'::cO t::.int z::r:List D)) (j:=0) rfl;refine main t zt i1 (.inr ?_);unfold fL;rcases hw with rfl|rfl
  ·walk_at "!Y";refine cN i0 ?_;walk_at "!$";refine aEI gL gJ rfl ?_;exact aMU (z:=z) i2 h q
  ·walk_at "!Y";refine cN i0 ?_;walk_at "!$";refine aEI gT' gJ rfl ?_;exact aMU (z:=z) i2 h q
end
section
variable {xa:XA}{c:AA}{Q:Rv→Prop}
abbrev aRN (xa:XA)(n:Nat):Rv:=.box (a2L xa.nl (some ("at", .int (n:Int))))
def Bad (ds:List Deed)(x:D):Prop:=(rY x=false∨Ref ds x)∧∀ w xs,x=.tuple (.str w::xs)→Good (.str w)
theorem aTR {xs:List D}{n:Nat}{d:D}(hd:(wK xs)[n]?=some d):∃ e,xs[n]?=some e∧d=.tuple [.int (n:Int),e]:=by
 have hl:(wK xs).length=xs.length:=by unfold wK; rw[AO,DV]
 have hn:n<xs.length:=by have:=(Aq.mp hd).1; omega
 unfold wK at hd;rw[Ao,EB hn] at hd
 cases hd
 refine⟨xs[n],A0 hn,?_⟩;show AH.tuple [.int (n:Int),xs.getD n .none]=_;rw[Bp,A0 hn];rfl
theorem a4I {ds:List Deed}{r:List D}(h:LogB ds)(hl:ds.length≤40)
  (q:match r with|[]=>Q (.own (ds.map cV))|x::_=>(ds.length=40∨Bad ds x)∧Q (aRN xa ds.length)):iW xa c [.val (.list (ds.map cV++r))] Q:=by
 refine lG ?_;unfold v7;walk_at "!r7FćG";unfold sU;walk_at "!n#";refine aJZ fun w a b=>?_;walk_at "!o#Ť/";refine vA (fun n Γ=>n≤ds.length∧∃ x y,Γ=[.val (.list (ds.map cV++r)),.box ((bN c).box w (fdS a b (run (ds.take n)) (laO (ds.take n)))),x,y]) ⟨Be _,_,_,rfl⟩ ?_ ?_
 ·rintro n d Γ K hd ⟨hn,u,v,rfl⟩ hK;obtain⟨e,he,rfl⟩:=aTR hd;have g:LogG ds:=⟨h.ok,h.up,h.z,hl⟩;have gn:=g.take n;have zs:∀ e∈ds.take n,Sz 60 e.t:=fun e he=>(h.z e (CH he)).tz
  by_cases hn2:n<ds.length
  ·have he':cV ds[n]=e:=by
    rw[BN (by rw[AO]; exact hn2),Ao,A0 hn2] at he;exact Option.some.inj he
   subst he';have hd:ds[n]?=some ds[n]:=A0 hn2;have hem:ds[n]∈ds:=B6 hn2;have hk3:=hK.nx;have tk:ds.take (n+1)=ds.take n++[ds[n]]:=by rw[List.take_succ,hd]; rfl
   rw[tk,wQ,aH7] at hk3;have lo:aVZ (laO (ds.take n)) ds[n].t:=by
    unfold laO
    cases e:(ds.take n).getLast? with
    | none=>exact .inl rfl
    | some e'=>
     have hm:=Gx e;refine .inr ⟨e'.t,rfl,?_,zs e' hm⟩;obtain⟨i,hi⟩:=EA hm;rw[List.getElem?_take] at hi
     split at hi
     ·rename_i lt
      have h1:=Aq.mp hi;have:=List.pairwise_iff_getElem.mp h.up i n h1.1 hn2 lt;rw[h1.2] at this;exact this
     ·cases hi
   unfold mR;walk_at "!Ļč;č;ļĈAk";refine gF (fun cc=>absurd cc (by omega)) (fun _=>?_);walk_at "!l7]";refine aAU (h.nm _ hem) ?_;walk_at "!L7aĥ2%ĘĦ";refine a9D (a0B _) (h.ok n _ hd) (h.few n _ hd) (h.z _ hem).tz lo ?_;walk_at "![";unfold rK;walk_at "!Ņaĥ2%ĘĦ";refine aP7 (a0B _) (h.ok n _ hd) (h.z _ hem) gn.sz (B2 gn.rs (by decide)) ?_;walk_at "!#";exact hk3 _ ⟨hn2,_,_,rfl⟩
  ·have hn3:n=ds.length:=by omega
   subst hn3;rw[Bj (by rw[AO]; exact AV _),AO,DG] at he
   match r,q,he with
   | x::r',q,he=>
    obtain rfl:x=e:=Option.some.inj he;rw[CI];have hr:K (.rt (aRN xa ds.length)):=hK.rt _ q.2;unfold mR;walk_at "!Ļč;č;ļĈAk";refine gF (fun cc=>?_) (fun cc=>?_)
    ·walk_at "!.ě5f";exact⟨(ds.length:Int),rfl,by omega,hr⟩
    ·walk_at "!l7]";rcases q.1 with hq|⟨hq,hg⟩
     ·exact absurd (show(ds.length:Int)=40 by omega) cc
     refine aIH hg ?_
     cases e:rY x with
     | false=>
      walk_at "!D.ě5f";exact⟨(ds.length:Int),rfl,by omega,hr⟩
     | true=>
      walk_at "!L7aĥ2%ĘĦ";rcases hq with hq|hq
      ·rw[hq] at e
       cases e
      refine a9G (fun e he=>(h.z e he).tz) hq ?_;walk_at "!Dě5f";exact⟨(ds.length:Int),rfl,by omega,hr⟩
 ·rintro Γ ⟨hn,x,y,rfl⟩;have e:r=[]:=by
   have e2:(wK (ds.map cV++r)).length=(ds.map cV++r).length:=by unfold wK; rw[AO,DV]
   rw[e2,Ah,AO] at hn;exact Gy.mp (by omega)
  subst e;rw[Bb] at *;unfold rE;walk_at "!ċť/";exact q
end
section
open PySem.NumText
def dg (m:Nat):List Nat:=(FZ 10 m).map Char.toNat
theorem wU {m:Nat}(h:m<10):dg m=[(Em m).toNat]:=by unfold dg; rw[Gz h]; rfl
theorem a1U {m:Nat}(h:10≤m):dg m=dg (m/10)++[(Em (m%10)).toNat]:=by
 have hm:m%10<10:=mod_lt m (by decide);have t:FZ 10 (m/10)++FZ 10 (m%10)=FZ 10 (10*(m/10)+m%10):=Nat.toDigits_append_toDigits (by decide) (by omega) hm;rw[Nat.div_add_mod] at t;unfold dg;rw[← t,BA,Gz hm];rfl
theorem dg1:∀ d:Nat,d<10→48≤(Em d).toNat∧(Em d).toNat≤57:=by decide
theorem aW3:∀ d:Nat,d<10→(Em d).toNat=48→d=0:=by decide
theorem a4U (m:Nat):AllDigits (dg m):=by
 induction m using Nat.strongRecOn with
 | _ m ih=>
  intro c hc
  by_cases h:m<10
  ·rw[wU h] at hc;rw[AW.mp hc];exact dg1 m h
  ·rw[a1U (by omega)] at hc;rcases Aj.mp hc with q|q
   ·exact ih (m/10) (by omega) c q
   ·rw[AW.mp q];exact dg1 _ (mod_lt m (by decide))
theorem aPM (m:Nat):digitsVal (dg m)=m:=PySem.W.KIN.val_back m
theorem aAN:∀{k m:Nat},1≤k→m<10^k→(dg m).length≤k
 | k,m,hk,h=>by
  by_cases q:m<10
  ·rw[wU q]; exact hk
  ·rw[a1U (by omega),Ah]
   match k,hk,h with
   | 1,_,h=>exact absurd h (by omega)
   | k+2,_,h=>
    have:=aAN (k:=k+1) (m:=m/10) (by omega) (by rw[Nat.pow_succ] at h; omega)
    show(dg (m/10)).length+1≤k+2
    omega
theorem aPN (m:Nat):dg m≠[]:=by
 by_cases h:m<10
 ·rw[wU h]; exact A7 _ _
 ·rw[a1U (by omega)]; exact GH _ (A7 _ _)
theorem aKE (m:Nat):(dg m)[0]?=some 48→m=0:=by
 induction m using Nat.strongRecOn with
 | _ m ih=>
  intro e
  by_cases h:m<10
  ·rw[wU h] at e;exact aW3 m h (by simpa using e)
  ·rw[a1U (by omega)] at e;have l:0<(dg (m/10)).length:=DB.mpr (aPN _);rw[BN l] at e;have:=ih (m/10) (by omega) e;omega
theorem xO (m:Nat):(txI (m:Int)).cps.toList=dg m:=PySem.W.KIN.signs_num m
theorem aCE {m:Nat}(h:0<m):(txI (-(m:Int))).cps.toList=45::dg m:=by
 obtain⟨k,rfl⟩:∃ k,m=k+1:=⟨m-1,by omega⟩
 show(Du (toString (Int.negSucc k))).cps.toList=_
 rw[Str.ofString_eq_toList]
 show("-" ++ Nat.repr (k+1)).toList.map Char.toNat=_
 rw[String.toList_append,BA,Nat.toList_repr];rfl
theorem fC {a b:AC}(h:a.cps.toList=b.cps.toList):a=b:=AC.ext' (toList_inj.mp h)
theorem aM4 {m:Nat}(h:0<m):txI (-(m:Int))=("-" : AC)++txI (m:Int):=fC (by rw[aCE h,A9,A4,xO]; rfl)
theorem tx_len (m:Nat)(h:m<10^60):(txI (m:Int)).length≤60:=by
 have:=aAN (k:=60) (by decide) h;rw[← xO] at this;simpa [AC.length] using this
theorem a2A (i:Int):∀ c∈(txI i).cps.toList,c=45∨(48≤c∧c≤57):=by
 intro c hc;rcases ER i with⟨m,rfl|rfl⟩
 ·rw[xO] at hc;exact .inr (a4U m c hc)
 ·by_cases z:0<m
  ·rw[aCE z] at hc;rcases AT.mp hc with q|q
   ·exact .inl q
   ·exact .inr (a4U m c q)
  ·have:m=0:=by omega
   subst this;exact .inr (a4U 0 c (by rw[← xO]; exact hc))
theorem jL (c:Nat)(x y:AC)(r:List AC):(BR ⟨#[c]⟩ (x::y::r)).cps.toList=x.cps.toList++c::(BR ⟨#[c]⟩ (y::r)).cps.toList:=by
 show(x++(⟨#[c]⟩:AC)++BR ⟨#[c]⟩ (y::r)).cps.toList=_
 rw[A9,A9,A4,A4,B0];rfl
theorem aBF {c:Nat}:∀{a a' b b':List Nat},c∉a→c∉a'→a++c::b=a'++c::b'→a=a'∧b=b'
 | [],[],_,_,_,_,e=>⟨rfl,by simpa using e⟩
 | [],y::a',_,_,_,h',e=>by simp at e; exact absurd (AT.mpr (.inl e.1)) h'
 | x::a,[],_,_,h,_,e=>by simp at e; exact absurd (AT.mpr (.inl e.1.symm)) h
 | x::a,y::a',b,b',h,h',e=>by
  simp only[D6,GC] at e;obtain⟨q1,q2⟩:=aBF (fun z=>h (Ak _ z)) (fun z=>h' (Ak _ z)) e.2;exact⟨by rw[e.1,q1],q2⟩
theorem a2E {c:Nat}:∀{ps qs:List AC},ps≠[]→qs≠[]→(∀ p∈ps,c∉p.cps.toList)→(∀ p∈qs,c∉p.cps.toList)→BR ⟨#[c]⟩ ps=BR ⟨#[c]⟩ qs→ps=qs
 | [],_,h,_,_,_,_=>absurd rfl h
 | _,[],_,h,_,_,_=>absurd rfl h
 | [x],[y],_,_,_,_,e=>by rw[show x=y from e]
 | [x],y::z::r,_,_,hp,_,e=>by
  have e:=congrArg (fun s:AC=>s.cps.toList) e;simp only[jL] at e;exact absurd (show c∈x.cps.toList from by rw[show x.cps.toList=_ from e]; simp) (hp x (Ap ..))
 | x::w::r,[y],_,_,_,hq,e=>by
  have e:=congrArg (fun s:AC=>s.cps.toList) e;simp only[jL] at e;exact absurd (show c∈y.cps.toList from by rw[show y.cps.toList=_ from e.symm]; simp) (hq y (Ap ..))
 | x::w::r,y::z::r',_,_,hp,hq,e=>by
  have e:=congrArg (fun s:AC=>s.cps.toList) e;simp only[jL] at e;obtain⟨q1,q2⟩:=aBF (hp x (Ap ..)) (hq y (Ap ..)) e;rw[fC q1,a2E (A7 _ _) (A7 _ _) (fun p h=>hp p (Ak _ h)) (fun p h=>hq p (Ak _ h)) (fC q2)]
theorem sV (x y:AC):Txt.split x y≠[]:=by
 unfold Txt.split
 split
 ·exact A7 _ _
 ·split
  ·exact A7 _ _
  ·rw[StrLaws.partsBetween_eq];obtain⟨p,r,e⟩:=StrLaws.partsFrom_ne x y.length 0 (CB x y 0 x.length (x.length+1));rw[e];exact A7 _ _
theorem jU {c:Nat}{ps:List AC}(h:ps≠[])(hp:∀ p∈ps,c∉p.cps.toList):Txt.split (Txt.join ⟨#[c]⟩ ps) ⟨#[c]⟩=ps:=by
 refine a2E (sV _ _) h (StrLaws.split_free _ c) hp ?_;rw[StrLaws.join_split];exact Fa _ _
theorem u6 {c d:Nat}(hcd:c≠d):∀{ps:List AC},(∀ p∈ps,c∉p.cps.toList)→c∉(BR ⟨#[d]⟩ ps).cps.toList
 | [],_=>by simp[BR,AC.empty]
 | [x],h=>h x (Ap ..)
 | x::y::r,h=>by
  rw[jL,Aj,AT]
  rintro(q|q|q)
  ·exact h x (Ap ..) q
  ·exact hcd q
  ·exact u6 hcd (fun p hp=>h p (Ak _ hp)) q
end
section
open PySem.NumText
def a6Z (r:Rat):AC:=if r.den=1 then txI r.num else txI r.num++("/" : AC)++txI (r.den:Int)
def tZ (r:Rat):Prop:=r.num.natAbs<10^60∧r.den<10^60
def Asc (a:AC):Prop:=∀ c∈a.cps.toList,c<128
theorem yD {a:AC}(h:(a.cps.toList.all fun c=>decide (c<128))=true):Asc a:=fun c hc=>of_decide_eq_true (Bz.mp h c hc)
inductive Pk
 | whole (n:Nat)
 | num (r:Rat)
def Pk.d:Pk→D
 | .whole n=>.int (n:Int)
 | .num r=>cO r
def Pk.tx:Pk→AC
 | .whole n=>txI (n:Int)
 | .num r=>a6Z r
def Pk.k:Pk→AC
 | .whole _ => "whole"
 | .num _ => "number"
def Pk.Ok:Pk→Prop
 | .whole n=>n<10^60
 | .num r=>tZ r
structure Rw where
 w:AC
 ps:List Pk
def Rw.d (w:Rw):D:=.tuple (.str w.w::w.ps.map Pk.d)
def Rw.ws (w:Rw):List AC:=w.w::w.ps.map Pk.tx
def Rw.tx (w:Rw):AC:=Txt.join ⟨#[32]⟩ w.ws
def bkT (ws:List Rw):AC:=Txt.join ⟨#[10]⟩ (ws.map Rw.tx)
abbrev a3B:=List (AC×D)
structure Rw.Ok (fs:a3B)(w:Rw):Prop where
 f:a7R fs w.w=some (.tuple (w.ps.map fun p=>.str p.k))
 p:∀ p∈w.ps,p.Ok
 l:w.ps.length≤3
 s:w.w.length≤10
 a:Asc w.w
 b:32∉w.w.cps.toList
 c:10∉w.w.cps.toList
 e:w.w ≠ ""
def a7L:a3B:=[("deed", .tuple [.str "whole"]),("pass", .tuple [.str "number", .str "whole"])]
def rQ:a3B:=[("join", .tuple [.str "number", .str "number", .str "number"]),("leave", .tuple [.str "number", .str "whole"]),("turn", .tuple [.str "number", .str "whole", .str "number"])]
theorem Rw.mk_ok {fs:a3B}{a:AC}{ps:List Pk}(f:a7R fs a=some (.tuple (ps.map fun p=>.str p.k)))(p:∀ p∈ps,p.Ok)(l:ps.length≤3)(h:(decide (a.length≤10)&&decide (a ≠ "")&&a.cps.toList.all fun c=>decide (c<128)&&decide (c≠32)&&decide (c≠10))=true):Rw.Ok fs ⟨a,ps⟩:=by
 rw[BF,BF,Bz] at h;obtain⟨⟨h1,h2⟩,h3⟩:=h;have h4:∀ c∈a.cps.toList,c<128∧c≠32∧c≠10:=fun c hc=>by
  have:=h3 c hc;rw[BF,BF] at this;exact⟨of_decide_eq_true this.1.1,of_decide_eq_true this.1.2,of_decide_eq_true this.2⟩
 exact⟨f,p,l,of_decide_eq_true h1,fun c hc=>(h4 c hc).1,fun hc=>(h4 _ hc).2.1 rfl,fun hc=>(h4 _ hc).2.2 rfl,of_decide_eq_true h2⟩
theorem a8R {t b:Int}(ht:t.natAbs<10^60)(h0:0<b)(hb:b<10^60):tZ (Rat.divInt t b):=by
 obtain⟨n1,n2⟩:=n6 (t:=t) (b:=b) h0;rw[fd] at n1 n2;have h1:(Rat.divInt t b).num.natAbs≤t.natAbs:=by
  rw[← n1];exact FO _ _
 have h2:((Rat.divInt t b).den:Int)≤b:=by
  rw[← n2];exact Int.ediv_le_self _ (by omega)
 exact⟨by omega,by omega⟩
end
section
open PySem.NumText PySem.StrLaws
def dgB (c:Nat):Bool:=decide (48≤c)&&decide (c≤57)
theorem dgB_iff {c:Nat}:dgB c=true↔48≤c∧c≤57:=by unfold dgB; rw[BF,decide_eq_true_iff,decide_eq_true_iff]
def whB (l:List Nat):Bool := !l.isEmpty&&decide (l.length≤60)&&l.all dgB&&(!decide (l[0]?=some 48)||decide (l=[48]))
def whO (l:List Nat):Option Nat:=if whB l=true then some (digitsVal l) else none
def oN:Option Nat→D
 | some n=>.int (n:Int)
 | none=>.none
def oI:Option Int→D
 | some n=>.int n
 | none=>.none
def oT:Option (Int×Nat)→D
 | some p=>.tuple [.int p.1,.int (p.2:Int)]
 | none=>.none
theorem aVN (n:Nat):oN (some n)=.int (n:Int):=rfl
theorem aV8:oN none=.none:=rfl
theorem aUX (n:Int):oI (some n)=.int n:=rfl
theorem aVF:oI none=.none:=rfl
def whD (l:List Nat):D:=oN (whO l)
def a5A (l:List Nat):Option Int:=if l[0]?=some 45 then(match whO l.tail with
  | some n=>if n=0 then none else some (-(n:Int))
  | none=>none)
 else(whO l).map Int.ofNat
def aI4 (l:List Nat):D:=oI (a5A l)
def wF:List Nat→Option (List Nat×List Nat)
 | []=>none
 | c::r=>if c=47 then some ([],r) else(wF r).map fun p=>(c::p.1,p.2)
def a6W (l:List Nat):Option (Int×Nat):=match wF l with
 | none=>(a5A l).map fun t=>(t,1)
 | some (a,b)=>match a5A a,whO b with
  | some t,some n=>if 2≤n∧Az t n=1 then some (t,n) else none
  | _,_=>none
def nmD (l:List Nat):D:=oT (a6W l)
theorem cut47_none {l:List Nat}:wF l=none↔47∉l:=by
 induction l with
 | nil=>simp[wF]
 | cons c r ih=>
  unfold wF
  by_cases h:c=47
  ·simp[h]
  ·rw[if_neg h,Option.map_eq_none_iff,ih];simp[Am h]
theorem pM {l a b:List Nat}(h:wF l=some (a,b)):l=a++47::b∧47∉a:=by
 induction l generalizing a with
 | nil=>cases h
 | cons c r ih=>
  unfold wF at h
  by_cases z:c=47
  ·rw[if_pos z] at h; cases h; exact⟨by rw[z]; rfl,fun z=>nomatch z⟩
  ·rw[if_neg z,CN] at h;obtain⟨⟨a',b'⟩,h1,h2⟩:=h
   cases h2
   obtain⟨e,n⟩:=ih h1;exact⟨by rw[e]; rfl,fun q=>(AT.mp q).elim (fun e=>z e.symm) n⟩
theorem len_list (x:AC):x.cps.toList.length=x.length:=by simp[AC.length]
theorem zX {x:AC}(h:47∉x.cps.toList):Txt.split x ⟨#[47]⟩=[x]:=
 jU (ps:=[x]) (A7 _ _) fun p hp=>by rw[AW.mp hp]; exact h
theorem a3R {x:AC}{a b:List Nat}(h:x.cps.toList=a++47::b)(ha:47∉a):Txt.split x ⟨#[47]⟩=⟨a.toArray⟩::Txt.split ⟨b.toArray⟩ ⟨#[47]⟩:=by
 refine a2E (c:=47) (sV _ _) (A7 _ _) (split_free _ 47) (fun p hp=>?_) ?_
 ·rcases AT.mp hp with e|e
  ·rw[e]; exact ha
  ·exact split_free _ 47 p e
 ·rw[Eo];obtain⟨y,r,e⟩:=C7 (sV ⟨b.toArray⟩ ⟨#[47]⟩);refine fC ?_;have jb:=congrArg (fun s:AC=>s.cps.toList) (Eo (⟨b.toArray⟩:AC) ⟨#[47]⟩);rw[e] at jb ⊢;rw[jL,h];dsimp only at jb;rw[jb]
theorem aA3 {b:List Nat}(h:47∈b):2≤(Txt.split (⟨b.toArray⟩:AC) ⟨#[47]⟩).length:=by
 cases e:wF b with
 | none=>exact absurd h (cut47_none.mp e)
 | some p=>
  obtain⟨a,c⟩:=p;obtain⟨e1,e2⟩:=pM e;rw[a3R (x:=⟨b.toArray⟩) e1 e2,Af];have:=DB.mpr (sV (⟨c.toArray⟩:AC) ⟨#[47]⟩);omega
theorem a3A {c:Nat}:∀ ps:List AC,ps.length≤(BR ⟨#[c]⟩ ps).cps.toList.length+1
 | []=>by simp
 | [x]=>by simp
 | x::y::r=>by
  have:=a3A (c:=c) (y::r);rw[jL,Ah];simp only[Af] at this ⊢;omega
theorem uF (x:AC)(c:Nat):(Txt.split x ⟨#[c]⟩).length≤x.length+1:=by
 have:=a3A (c:=c) (Txt.split x ⟨#[c]⟩);rw[Eo,len_list] at this;exact this
theorem a3X (s sub:AC)(hi:Nat):∀(l:List Nat) (st:Array Nat×Nat),1≤st.fst.size→(forIn l st (Ep s sub hi 1)).run=st
 | [],_,_=>rfl
 | i::l,st,h=>by
  rw[Cj];unfold Ep;rw[if_neg (by omega)];exact a3X s sub hi l st h
theorem aIG (x:AC)(c:Nat){k:Nat}(hk:x.cps.toList[k]?=some c)(hn:∀ j,j<k→x.cps.toList[j]?≠some c):∀(m cur:Nat),cur≤k→k<cur+m→(forIn (GI cur m) (#[],0) (Ep x ⟨#[c]⟩ x.length 1)).run.fst.toList=[k]
 | 0,cur,h1,h2=>absurd h2 (by omega)
 | m+1,cur,h1,h2=>by
  rw[List.range'_succ,Cj];unfold Ep
  by_cases e:cur=k
  ·subst e;obtain⟨q1,q2⟩:=(subAt_one x c cur).mpr hk;rw[if_pos ⟨⟨⟨by decide,Be _⟩,q1⟩,q2⟩];have:=a3X x ⟨#[c]⟩ x.length (GI (cur+1) m) (#[].push cur,cur+(⟨#[c]⟩:AC).length) (by simp)
   show(forIn (GI (cur+1) m) _ (Ep x ⟨#[c]⟩ x.length 1)).run.fst.toList=_
   rw[this];rfl
  ·rw[if_neg (fun z=>hn cur (by omega) ((subAt_one x c cur).mp ⟨z.1.2,z.2⟩))];exact aIG x c hk hn m (cur+1) (by omega) (by omega)
theorem occ_first {x:AC}{c:Nat}{a b:List Nat}(h:x.cps.toList=a++c::b)(ha:c∉a):CB x ⟨#[c]⟩ 0 x.length 1=[a.length]:=by
 rw[occ_eq];have hl:a.length<x.length:=by rw[← len_list,h]; simp
 refine aIG x c (by rw[h]; simp) (fun j hj e=>?_) _ 0 (by omega) (by omega);rw[h,BN hj] at e;exact ha (BP e)
theorem aMF:dg 0=[48]:=by decide +kernel
theorem aFE {n:Nat}(h:n<10^60):whO (dg n)=some n:=by
 unfold whO whB;rw[if_pos,aPM];rw[BF,BF,BF];refine⟨⟨⟨?_,decide_eq_true (aAN (by decide) h)⟩,Bz.mpr fun c hc=>dgB_iff.mpr (a4U n c hc)⟩,?_⟩
 ·cases e:dg n with
  | nil=>exact absurd e (aPN n)
  | cons a b=>rfl
 ·by_cases z:(dg n)[0]?=some 48
  ·rw[aKE n z,aMF];decide
  ·rw[decide_eq_false z]; rfl
theorem aII {i:Int}(h:i.natAbs<10^60):a5A (txI i).cps.toList=some i:=by
 unfold a5A;rcases ER i with⟨m,rfl|rfl⟩
 ·rw[xO,if_neg,aFE (by omega)]
  ·rfl
  ·intro e;have:=a4U m 45 (BP e);omega
 ·by_cases z:0<m
  ·rw[aCE z,if_pos (show(45::dg m)[0]?=some 45 from rfl)]
   show(match whO (dg m) with|some n=>if n=0 then none else some (-(n:Int))|none=>none)=_
   rw[aFE (by omega)]
   show(if m=0 then none else some (-(m:Int)))=_
   rw[if_neg (by omega)]
  ·have:m=0:=by omega
   subst this;decide +kernel
theorem aO1 {r:Rat}(h:tZ r):a6W (a6Z r).cps.toList=some (r.num,r.den):=by
 have f1:∀ i,47∉(txI i).cps.toList:=fun i hc=>by have:=a2A i 47 hc; omega
 have hd:=r.den_pos;unfold a6Z
 split
 ·rename_i z
  unfold a6W;rw[cut47_none.mpr (f1 _),aII h.1,z];rfl
 ·rename_i z
  have e:(txI r.num++("/" : AC)++txI (r.den:Int)).cps.toList=(txI r.num).cps.toList++47::(txI (r.den:Int)).cps.toList:=by
   rw[A9,A9,A4,A4,B0];rfl
  have c:wF ((txI r.num).cps.toList++47::(txI (r.den:Int)).cps.toList)=some ((txI r.num).cps.toList,(txI (r.den:Int)).cps.toList):=by
   cases q:wF ((txI r.num).cps.toList++47::(txI (r.den:Int)).cps.toList) with
   | none=>exact absurd (show 47∈_ from by simp) (cut47_none.mp q)
   | some p=>
    obtain⟨a,b⟩:=p;obtain⟨e1,e2⟩:=pM q;obtain⟨rfl,rfl⟩:=aBF (f1 _) e2 e1;rfl
  rw[e];unfold a6W;rw[c,xO];dsimp only;rw[aII h.1,aFE h.2];dsimp only;rw[if_pos ⟨by omega,r.reduced⟩]
theorem aM8 {l:List Nat}(h:60<l.length):whO l=none:=by
 unfold whO whB;rw[if_neg];rw[decide_eq_false (by omega)];simp
end
theorem aFM {Γ:En}{Q:Bool→En→Prop}(h:Q true Γ):a3U Γ Q:=h
section
variable {Q:Rv→Prop}{fs:a3B}
theorem aJP {i:Int}(h:i.natAbs<10^60):i.natAbs.log2<1920:=by
 by_cases z:i.natAbs=0
 ·rw[z]; decide
 ·exact(EO z).mpr (As (DF h (by decide:10^60<2^240)) (Fx (by decide) (by decide)))
theorem a2H {i:Int}(h:i.natAbs<10^60):(txI i).length≤61:=by
 rcases ER i with⟨m,rfl|rfl⟩
 ·exact Ac (tx_len m (by omega)) (by decide)
 ·by_cases z:0<m
  ·rw[aM4 z,CF];have:=tx_len m (by omega);have e:AC.length ("-" : AC)=1:=rfl;omega
  ·have:m=0:=by omega
   subst this;exact Ac (tx_len 0 (by decide)) (by decide)
theorem yX:AC.length ("/" : AC)=1:=rfl
theorem a7T {r:Rat}(h:tZ r):(a6Z r).length≤130:=by
 have h1:=a2H h.1;have h2:=a2H (i:=(r.den:Int)) (by have:=h.2; omega);unfold a6Z
 split
 ·omega
 ·rw[CF,CF,yX];omega
theorem a9E {r:Rat}(h:tZ r)(q:Q (.val (.str (a6Z r)))):oU [.val (cO r)] Q:=by
 have h1:=aJP h.1;have h2:=aJP (i:=(r.den:Int)) (by have:=h.2; omega);have h3:=a2H h.1;have h4:=a2H (i:=(r.den:Int)) (by have:=h.2; omega);refine lG ?_;unfold uU;walk_at "!ĂWN#";refine gF (fun c=>?_) (fun c=>?_)
 ·unfold a6Z at q;rw[if_pos (by omega)] at q;walk_at "!8#Ĝĕ";refine aGL h1 ?_;skip;exact q
 ·unfold a6Z at q;rw[if_neg (by omega)] at q;walk_at "!G";unfold tR;walk_at "!8#||Ĝĕ";refine aGL h1 ?_;walk_at "!}$";refine a1X (by rw[CF,yX]; omega) ?_;walk_at "!}ĜW";refine aGL h2 ?_;skip;refine a1X (by rw[CF,CF,yX]; omega) ?_;skip;exact q
inductive Pt:D→AC→Prop
 | word (a:AC):a.length≤10→Pt (.str a) a
 | whole (n:Nat):n<10^60→Pt (.int (n:Int)) (txI (n:Int))
 | num (r:Rat):tZ r→Pt (cO r) (a6Z r)
theorem Pt.len {d:D}{a:AC}(h:Pt d a):a.length≤130:=by
 cases h with
 | word _ h=>omega
 | whole n h=>exact Ac (tx_len n h) (by decide)
 | num r h=>exact a7T h
theorem Pk.pt {p:Pk}(h:p.Ok):Pt p.d p.tx:=by
 cases p with
 | whole n=>exact .whole n h
 | num r=>exact .num r h
theorem Rw.pts {w:Rw}(h:w.Ok fs):∃ ps:List (D×AC),w.d=.tuple (ps.map fun p=>p.1)∧w.ws=ps.map (fun p=>p.2)∧(∀ p∈ps,Pt p.1 p.2)∧ps.length≤4∧∃ a r,ps=(.str a,a)::r∧a.length≤10:=
 ⟨(.str w.w,w.w)::w.ps.map fun p=>(p.d,p.tx),by rw[A2,B7]; rfl,by rw[A2,B7]; rfl,fun p hp=>by
  rcases AT.mp hp with rfl|z
  ·exact .word _ h.s
  ·obtain⟨x,hx,rfl⟩:=Ax.mp z;exact Pk.pt (h.p x hx),by rw[Af,AO]; have:=h.l; omega,_,_,rfl,h.s⟩
theorem yH {c k B:Nat}{ts:List AC}(hl:ts.length≤k)(hB:∀ y∈ts,y.length≤B)(h:k*B+k*1≤16777216):JoinOk ⟨#[c]⟩ ts=true:=by
 unfold JoinOk;rw[StrLaws.joinFits (sep:=⟨#[c]⟩) hB (Ac (Nat.add_le_add (Cs _ hl) (Cs _ hl)) h)];rfl
theorem sJ {c k B:Nat}{ts:List AC}(hl:ts.length≤k)(hB:∀ y∈ts,y.length≤B):(Txt.join ⟨#[c]⟩ ts).length≤k*B+k:=by
 have h1:=StrLaws.join_length_le ⟨#[c]⟩ ts;have h2:=StrLaws.sumLen_le ts hB;have h3:ts.length*B≤k*B:=Cs _ hl;rw[show Txt.join ⟨#[c]⟩ ts=BR ⟨#[c]⟩ ts from Fa _ _];have e:AC.length ⟨#[c]⟩=1:=rfl;rw[e] at h1;omega
theorem Rw.tx_len {w:Rw}(h:w.Ok fs):w.tx.length≤600:=by
 obtain⟨ps,_,e,hp,hl,_⟩:=w.pts h;refine Ac (sJ (k:=4) (B:=130) (by rw[e,AO]; exact hl) fun y hy=>?_) (by decide);rw[e] at hy;obtain⟨p,hm,rfl⟩:=Ax.mp hy;exact(hp p hm).len
theorem aIT {ws:List Rw}(hl:ws.length≤40)(h:∀ w∈ws,w.Ok fs):(bkT ws).length≤30000:=by
 refine Ac (sJ (k:=40) (B:=600) (by rw[AO]; exact hl) fun y hy=>?_) (by decide);obtain⟨w,hm,rfl⟩:=Ax.mp hy;exact Rw.tx_len (h w hm)
end
section
variable {Q:Rv→Prop}
theorem a01 (a b:AC):Ae (.str a) (.str b)=decide (a=b):=by
 show(a==b)=decide (a=b)
 by_cases h:a=b
 ·subst h; simp
 ·rw[decide_eq_false h]; exact beq_eq_false_iff_ne.mpr h
theorem aL3 (x:AC)(c:Nat):Txt.startswith x ⟨#[c]⟩=decide (x.cps.toList[0]?=some c):=by
 unfold Txt.startswith
 have h:=StrLaws.subAt_one x c 0
 by_cases q:x.cps.toList[0]?=some c
 ·obtain⟨h1,h2⟩:=h.mpr q;rw[decide_eq_true q,h2,decide_eq_true h1];rfl
 ·rw[decide_eq_false q,Bool.and_eq_false_iff]
  by_cases z:0+(⟨#[c]⟩:AC).length≤x.length
  ·right
   cases e:AM.Str.subAt x ⟨#[c]⟩ 0
   ·rfl
   ·exact absurd (h.mp ⟨z,e⟩) q
  ·exact .inl (decide_eq_false z)
theorem at0 (c:Nat)(r:List Nat):atI (c::r) 0=some c:=by simp[atI,ixN]
theorem aOF:(("-" : AC))=⟨#[45]⟩:=rfl
theorem aWA {x:AC}{c:Nat}{r:List Nat}(h:x.cps.toList=c::r):aHV x (some 1) none=⟨r.toArray⟩:=by
 have e:aHV x (some 1) none=StrLaws.sliceText x (some 1) none:=rfl;rw[e,G4 ⟨by decide,by rw[h,Af]; omega⟩,h];simp
theorem a7S (i:Int):Asc (txI i):=fun c hc=>by have:=a2A i c hc; omega
theorem Asc.app {a b:AC}(ha:Asc a)(hb:Asc b):Asc (a++b):=fun c hc=>by
 rw[A9,A4] at hc;rcases Aj.mp hc with z|z
 ·exact ha c z
 ·exact hb c z
theorem aKF (r:Rat):Asc (a6Z r):=by
 unfold a6Z
 split
 ·exact a7S _
 ·exact((a7S _).app (yD (by decide +kernel))).app (a7S _)
theorem a1S {d:Nat}(hd:d<128){ps:List AC}(h:∀ p∈ps,Asc p):Asc (Txt.join ⟨#[d]⟩ ps):=by
 rw[show Txt.join ⟨#[d]⟩ ps=BR ⟨#[d]⟩ ps from Fa _ _];intro c hc;apply Classical.byContradiction;intro n;exact u6 (c:=c) (d:=d) (by omega) (fun p hp q=>n (h p hp c q)) hc
theorem a9U {a:AC}(h:Asc a):Gd 0 (.str a):=aHK a (by
 show a.cps.all (fun c=>decide (c<0x110000))=true;rw[← Array.all_toList];exact Bz.mpr fun c hc=>decide_eq_true (by have:=h c hc; omega))
theorem iV {a:AC}(h:Asc a):Good (.str a):=(a9U h).good
end
section
variable {Q:Rv→Prop}
theorem a1V {c:Nat}(hc:c<45∨45<c∧c<48∨57<c)(i:Int):c∉(txI i).cps.toList:=fun h=>by
 have:=a2A i c h;omega
theorem aN5:(("/" : AC))=⟨#[47]⟩:=rfl
end
section
variable {ma:ME}{Γ:En}
theorem aIC {Q:D→En→Prop}(h:ma Γ (tlK Q)):aJ6 ma Γ Q:=h
theorem aSD {Q:D→En→Prop}{ds:List D}(h:Q (.tuple ds) Γ):tlK Q (.list ds) Γ:=⟨ds,rfl,h⟩
theorem aLK {i:Nat}{Q:D→En→Prop}{fs:List (AC×D)}(h0:Γ[i]?=some (.pub (pFm fs)))(h:ma Γ fun x Γ1=>∃ fs a,Γ1[i]?=some (.pub (pFm fs))∧x=.str a∧Q ((a7R fs a).getD .none) Γ1):aAW i ma Γ Q:=⟨⟨fs,h0⟩,h⟩
theorem aN4 {Q:List (AC×D)→En→Prop}(h:Q [] Γ):aRG Γ Q:=h
theorem aAF {a:AC}{r:MPs}{Q:List (AC×D)→En→Prop}(h:ma Γ fun d Γ1=>r Γ1 fun fs Γ2=>Q ((a,d)::fs) Γ2):aK5 a ma r Γ Q:=h
theorem aE4 {mp:MPs}{mr:MA}{Q:List Sl→En→Prop}(h:mp Γ fun fs Γ1=>fs.length≤15∧(fs.map fun f=>f.1).Nodup∧mr Γ1 fun xs Γ2=>Q (.pub (pFm fs)::xs) Γ2):aFU mp mr Γ Q:=h
end
section
variable {Q:Rv→Prop}{fs:a3B}
theorem ad (x:AC)(h:(x.cps.toList.all fun c=>decide (c<128))=true:=by decide +kernel):Asc x:=yD h
theorem aJW (x:D)(xs:List D):ixD (.list (x::xs)) (.int 0)=some x:=by simp[ixD,atI,ixN]
theorem aEX {c:Nat}(hc:c<45∨57<c)(r:Rat):c∉(a6Z r).cps.toList:=by
 unfold a6Z
 split
 ·exact a1V (by omega) _
 ·rw[A9,A9,A4,A4];intro h;rcases Aj.mp h with z|z
  ·rcases Aj.mp z with y|y
   ·exact a1V (by omega) _ y
   ·have:(Du "/").cps.toList=[47]:=by decide +kernel
    rw[this] at y;have:=AW.mp y;omega
  ·exact a1V (by omega) _ z
theorem Pk.free {p:Pk}{c:Nat}(hc:c<45):c∉p.tx.cps.toList:=by
 cases p with
 | whole n=>exact a1V (by omega) _
 | num r=>exact aEX (by omega) r
theorem Pk.asc (p:Pk):Asc p.tx:=by
 cases p with
 | whole n=>exact a7S _
 | num r=>exact aKF r
theorem Pk.gd (p:Pk):Gd 1 p.d:=by
 cases p with
 | whole n=>exact(vD _).mono
 | num r=>exact aNT r
theorem Pk.some (p:Pk):Ae p.d .none=false:=by
 cases p<;>rfl
theorem aIN:((" " : AC))=⟨#[32]⟩:=rfl
theorem lf1:(("\n" : AC))=⟨#[10]⟩:=rfl
theorem Rw.split {w:Rw}(h:w.Ok fs):Txt.split w.tx ⟨#[32]⟩=w.ws:=by
 refine jU (A7 _ _) fun p hp=>?_;rcases AT.mp hp with rfl|z
 ·exact h.b
 ·obtain⟨y,hy,rfl⟩:=Ax.mp z;exact Pk.free (by decide)
theorem aNG (x:D)(xs:List D):VS.cutD (x::xs) (some 1) none=xs:=by simp[VS.cutD,HT.sIx]
theorem Rw.ne {w:Rw}(h:w.Ok fs):w.tx ≠ "" := by
 intro z;apply h.e;have:=Rw.split h;rw[z,show Txt.split ("" : AC) ⟨#[32]⟩=[("" : AC)] from by decide +kernel] at this;injection this with q _;exact q.symm
theorem Rw.lf {w:Rw}(h:w.Ok fs):10∉w.tx.cps.toList:=by
 unfold Rw.tx;rw[show Txt.join ⟨#[32]⟩ w.ws=BR ⟨#[32]⟩ w.ws from Fa _ _];refine u6 (by decide) fun p hp=>?_;rcases AT.mp hp with rfl|z
 ·exact h.c
 ·obtain⟨y,hy,rfl⟩:=Ax.mp z;exact Pk.free (by decide)
theorem Rw.asc {w:Rw}(h:w.Ok fs):Asc w.tx:=by
 refine a1S (by decide) fun p hp=>?_;rcases AT.mp hp with rfl|z
 ·exact h.a
 ·obtain⟨y,hy,rfl⟩:=Ax.mp z;exact Pk.asc y
theorem a7G {ws:List Rw}(hn:ws≠[])(h:∀ w∈ws,w.Ok fs):Txt.split (bkT ws) ⟨#[10]⟩=ws.map Rw.tx:=by
 refine jU (fun z=>hn (EC.mp z)) fun p hp=>?_;obtain⟨w,hw,rfl⟩:=Ax.mp hp;exact Rw.lf (h w hw)
theorem aBX {w:Rw}(h:w.Ok fs):Gd 2 w.d:=by
 refine a4C (n:=1) fun d hd=>?_;rcases AT.mp hd with rfl|z
 ·exact(a9U h.a).mono
 ·obtain⟨p,hp,rfl⟩:=Ax.mp z;exact Pk.gd p
end
section
open PySem.NumText
variable {Q:Rv→Prop}
theorem aGY:("0123456789" : AC).cps.toList=[48,49,50,51,52,53,54,55,56,57]:=by decide +kernel
theorem aKL (c:Nat):inS ⟨#[c]⟩ ("0123456789" : AC)=dgB c:=by
 unfold inS;rw[StrLaws.found_one,aGY]
 by_cases h:48≤c∧c≤57
 ·rw[dgB_iff.mpr h];have:c=48∨c=49∨c=50∨c=51∨c=52∨c=53∨c=54∨c=55∨c=56∨c=57:=by omega
  exact decide_eq_true (by simp only[AT,Av,or_false]; exact this)
 ·rw[E4.mpr (fun z=>h (dgB_iff.mp z))];refine decide_eq_false fun z=>h ?_;simp only[AT,Av,or_false] at z;omega
theorem aAR {l:List Nat}{x:AC}(hx:Asc x)(h:∀ c∈l,c∈x.cps.toList):Asc ⟨l.toArray⟩:=fun c hc=>hx c (h c (by simpa using hc))
theorem aKZ {x:AC}(h:x.cps.toList=[]):x = "" := fC (by rw[h]; rfl)
theorem one_zero {c:Nat}:((⟨#[c]⟩:AC) = "0")↔c=48:=by
 have e:(Du "0").cps.toList=[48]:=by decide +kernel
 constructor
 ·intro z;have:=congrArg (fun s:AC=>s.cps.toList) z;simpa [e] using this
 ·intro z; subst z; exact fC (by rw[e])
theorem aRF {x:AC}(hx:Asc x)(hl:x.length≤700)(q:Q (.val (whD x.cps.toList))):gQ [.val (.str x)] Q:=by
 have ln:=len_list x;refine lG ?_;unfold uC;walk_at "!ĈAM";refine⟨iV hx,iV (yD (by decide +kernel)),?_⟩;rw[a01]
 by_cases z0:x = ""
 ·rw[decide_eq_true z0];walk_at "!.Z";rw[z0] at q;exact q
 have ne:x.cps.toList≠[]:=fun e=>z0 (aKZ e);rw[decide_eq_false z0];walk_at "!6l0*#ŉ%";refine aQ5 (by omega) ?_;walk_at "!I"
 by_cases z1:60<x.length
 ·rw[decide_eq_true (show(60:Int)<(x.length:Int) by omega)];walk_at "!.Z";unfold whD at q;rw[aM8 (by omega)] at q;exact q
 rw[decide_eq_false (show ¬((60:Int)<(x.length:Int)) by omega)];walk_at "!67ŇaĹ#Ŧ%ŧ";refine⟨by unfold L2.VS.signs; rw[AO,ln]; omega,?_⟩;refine qM (α:=Nat) (fun _=>true) (fun c=>.bool (dgB c)) (fun c=>.str ⟨#[c]⟩) x.cps.toList [] _ (fun c hc _ k k0 h1 h0=>?_) ?_
 ·walk_at "!;";refine aFM ?_;walk_at "!.Ũ%ũ$Ū";rw[aKL];exact h1 rfl
 have e:(([]:List D)++(List.filter (fun _=>true) x.cps.toList).map fun c=>C3 (dgB c))=(x.cps.toList.map dgB).map C3:=by
  rw[DU.mpr fun _ _=>rfl,B1,B7];rfl
 skip;rw[e,a98];walk_at "!#";have e2:(x.cps.toList.map dgB).all id=x.cps.toList.all dgB:=by rw[List.all_map]; rfl
 rw[e2]
 cases ha:x.cps.toList.all dgB with
 | false=>
  walk_at "!DT";unfold whD whO whB at q;rw[ha,if_neg (by simp)] at q;exact q
 | true=>
  walk_at "![";unfold tX;walk_at "!qA#ū%Ŭ$";obtain⟨c,r,hcr⟩:=C7 ne;refine aUL (c:=c) (by omega) (by rw[hcr]; exact at0 c r) ?_;walk_at "!$";refine⟨iV (fun z hz=>by
   have:z=c:=by simpa using hz
   rw[this];exact hx c (by rw[hcr]; simp)),iV (yD (by decide +kernel)),?_⟩
  have ad:PySem.NumText.AllDigits x.cps.toList:=fun c hc=>dgB_iff.mp (Bz.mp ha c hc);have good:(c=48→x = "0")→whD x.cps.toList=.int ((PySem.NumText.digitsVal x.cps.toList:Nat):Int):=fun h=>by
   show oN (whO _)=_;refine(congrArg oN (if_pos ?_)).trans rfl;unfold whB;rw[ha,decide_eq_true (show x.cps.toList.length≤60 by omega),hcr]
   by_cases z:c=48
   ·have h3:=congrArg (fun s:AC=>s.cps.toList) (h z);rw[show x.cps.toList=_ from rfl,hcr] at h3;rw[show(c::r)=[48] from h3.trans (by decide +kernel)];decide
   ·rw[show decide ((c::r)[0]?=some 48)=false from decide_eq_false (by simpa using z)];rfl
  have fin:(c=48→x = "0")→nC [.val (.str x),.no] fun fl=>match fl with
   | .rt rv=>Q rv
   | _=>False:=fun h=>by
   unfold nC;walk_at "!8#ŭ%";refine aT5 (intText_digits ad ne (by omega)) (by omega) ?_;skip;rw[good h] at q;exact q
  rw[a01]
  by_cases z:c=48
  ·rw[decide_eq_true (one_zero.mpr z)];walk_at "!.jM";refine⟨iV hx,iV (yD (by decide +kernel)),?_⟩;rw[a01]
   by_cases z2:x = "0"
   ·rw[decide_eq_true z2];walk_at "![";exact fin fun _=>z2
   ·rw[decide_eq_false z2];walk_at "!DT";have n:whD x.cps.toList=.none:=by
     show oN (whO _)=_;refine(congrArg oN (if_neg ?_)).trans rfl;unfold whB;rw[hcr,show decide ((c::r)[0]?=some 48)=true from decide_eq_true (by simp[z]),show decide ((c::r)=[48])=false from decide_eq_false fun e=>z2 (fC (by rw[hcr,e]; decide +kernel))];simp
    rw[n] at q;exact q
  ·rw[decide_eq_false (fun e=>z (one_zero.mp e))];walk_at "!6J";exact fin fun e=>absurd e z
theorem aR6 {l:List Nat}{n:Nat}(h:whO l=some n):whD l=.int (n:Int):=by unfold whD; rw[h]; rfl
theorem aKK {l:List Nat}(h:whO l=none):whD l=.none:=by unfold whD; rw[h]; rfl
theorem aO4 {x:AC}(hx:Asc x)(hl:x.length≤700)(q:Q (.val (aI4 x.cps.toList))):xH [.val (.str x)] Q:=by
 have ln:=len_list x;refine lG ?_;unfold a2B;walk_at "!r7Ů%ů$Ű#";rw[aOF,aL3]
 by_cases z:x.cps.toList[0]?=some 45
 ·rw[decide_eq_true z];walk_at "![";unfold yL;walk_at "!)?#Ŋ{$b";refine aHX (by omega) ?_;walk_at "!(";obtain⟨r,hr⟩:∃ r,x.cps.toList=45::r:=by
   cases e:x.cps.toList with
   | nil=>rw[e] at z; cases z
   | cons a b=>rw[e] at z; exact⟨b,by rw[show a=45 by simpa using z]⟩
  rw[aWA hr];refine aRF (aAR hx fun c hc=>by rw[hr]; exact Ak _ hc) (by show(r.toArray).size≤700; rw[hr] at ln; simp at ln ⊢; omega) ?_;have tl:a5A x.cps.toList=match whO r with
   | some n=>if n=0 then none else some (-(n:Int))
   | none=>none:=by unfold a5A; rw[if_pos z,hr]; rfl
  cases e:whO r with
  | none=>
   rw[aKK e];walk_at "!~l0ĝ/..S";rw[e] at tl;unfold aI4 at q;rw[tl] at q;exact q
  | some n=>
   rw[aR6 e];walk_at "!~l0ĝ/6Ak";rw[e] at tl;unfold aI4 at q;rw[tl] at q
   by_cases n0:n=0
   ·rw[decide_eq_true (show(n:Int)=0 by omega)];walk_at "!.S";rw[show(match some n with|some n=>if n=0 then none else some (-(n:Int))|none=>none)=none from if_pos n0] at q;exact q
   ·rw[decide_eq_false (show ¬(n:Int)=0 by omega)];walk_at "!6@Ĕ/";rw[show(match some n with|some n=>if n=0 then none else some (-(n:Int))|none=>none)=some (-(n:Int)) from if_neg n0] at q;exact q
 ·rw[decide_eq_false z];walk_at "!DVB";refine aRF hx hl ?_;skip;have tl:aI4 x.cps.toList=whD x.cps.toList:=by
   unfold aI4 a5A whD;rw[if_neg z]
   cases whO x.cps.toList<;>rfl
  rw[tl] at q;exact q
theorem a0Z (q:Q (.val (.bool false))):dU [.val .none] Q:=by
 refine lG ?_;unfold mG;walk_at "!dFĨ#";exact q
theorem aLB {a b:D}(h:(a=.none∧(b=.none∨∃ j,b=.int j))∨(∃ i,a=.int i)∧b=.none)(q:Q (.val (.bool false))):fJ [.val (.tuple [a,b])] Q:=by
 have go:∀ a b:D,fY [.val (.tuple [a,b])] (fun fl=>match fl with|.rt rv=>Q rv|.nx _=>Q (.val .none)|_=>False)→fJ [.val (.tuple [a,b])] Q:=fun a b k=>by
  refine lG ?_;unfold jY;walk_at "!KFćj=";refine cN (d:=.int 2) rfl ?_;walk_at "!N";rw[decide_eq_true rfl];walk_at "![";exact k
 refine go a b ?_;unfold fY;rcases h with⟨rfl,rfl|⟨j,rfl⟩⟩|⟨⟨i,rfl⟩,rfl⟩
 ·walk_at "!K<";refine cN (d:=.none) rfl ?_;walk_at "!(";refine a0Z ?_;walk_at "!DZ";exact q
 ·walk_at "!K<";refine cN (d:=.none) rfl ?_;walk_at "!(";refine a0Z ?_;walk_at "!DZ";exact q
 ·walk_at "!K<";refine cN (d:=.int i) rfl ?_;walk_at "!(";refine yP ?_;walk_at "!L7<";refine cN (d:=.none) rfl ?_;walk_at "!(";refine a0Z ?_;walk_at "!DT";exact q
theorem aP2 {t:Int}{n:Nat}(q:Q (.val (.bool (decide (1≤n)&&decide (Az t n=1))))):fJ [.val (.tuple [.int t,.int (n:Int)])] Q:=by
 refine lG ?_;unfold jY;walk_at "!KFćj=";refine cN (d:=.int 2) rfl ?_;walk_at "!N";rw[decide_eq_true rfl];walk_at "![";unfold fY;walk_at "!K<";refine cN (d:=.int t) rfl ?_;walk_at "!(";refine yP ?_;walk_at "!L7<";refine cN (d:=.int (n:Int)) rfl ?_;walk_at "!(";refine yP ?_;walk_at "![";unfold lN;walk_at "!d*i";refine cN (d:=.int (n:Int)) rfl ?_;walk_at "!I"
 by_cases h:1≤n
 ·rw[decide_eq_true (show(1:Int)≤(n:Int) by omega)];rw[decide_eq_true h] at q;walk_at "!.z<";refine cN (d:=.int t) rfl ?_;walk_at "!23";refine cN (d:=.int (n:Int)) rfl ?_;walk_at "!(";refine aLW ?_;walk_at "!N"
  by_cases g:Az t n=1
  ·rw[g] at q ⊢;exact q
  ·rw[decide_eq_false (fun e=>g (by omega))];rw[decide_eq_false g] at q;exact q
 ·rw[decide_eq_false (show ¬(1:Int)≤(n:Int) by omega)];rw[decide_eq_false h] at q;walk_at "!6";exact q
theorem aUB {x:AC}(hx:Asc x)(hl:x.length≤700)(q:Q (.val (nmD x.cps.toList))):mW [.val (.str x)] Q:=by
 have ln:=len_list x;refine lG ?_;unfold qN;walk_at "!)aĎ%ď$";rw[aN5]
 cases e:wF x.cps.toList with
 | none=>
  have n47:=cut47_none.mp e;have sp:=zX n47;refine a4Q rfl (by omega) (by rw[sp]; exact DE rfl) ?_;rw[sp];walk_at "!O*=";refine cN (d:=.int 1) rfl ?_;walk_at "!I";rw[decide_eq_false (show ¬((2:Int)<1) by decide)];walk_at "!J";unfold lU;walk_at "!)<";refine cN (d:=.str x) rfl ?_;walk_at "!(";refine aO4 hx hl ?_;walk_at "!Ă=";refine cN (d:=.int 1) rfl ?_;walk_at "!N";rw[decide_eq_true (show(1:Int)=1 from rfl)];walk_at "!.~0ĝ/";have nu:a6W x.cps.toList=(a5A x.cps.toList).map fun t=>(t,1):=by unfold a6W; rw[e]
  unfold nmD at q;rw[nu] at q
  cases z:a5A x.cps.toList with
  | none=>
   unfold aI4;rw[z,aVF];rw[z] at q;walk_at "!.S";exact q
  | some t=>
   unfold aI4;rw[z,aUX];rw[z] at q;walk_at "!6@P5m";exact q
 | some p=>
  obtain⟨a,b⟩:=p;obtain⟨e1,e2⟩:=pM e;have la:a.length+b.length+1=x.length:=by rw[← ln,e1,Ah,Af]; omega
  have sc:=a3R e1 e2;have aa:Asc ⟨a.toArray⟩:=aAR hx fun c hc=>by rw[e1]; exact CG _ hc
  have ab:Asc ⟨b.toArray⟩:=aAR hx fun c hc=>by rw[e1]; exact BY _ (Ak _ hc)
  have nu:a6W x.cps.toList=match a5A a,whO b with
   | some t,some n=>if 2≤n∧Az t n=1 then some (t,n) else none
   | _,_=>none:=by unfold a6W; rw[e]<;>rfl
  by_cases hb:47∈b
  ·have s2:=aA3 hb;have wb:whO b=none:=by
    unfold whO;rw[if_neg];unfold whB;rw[show b.all dgB=false from List.all_eq_false.mpr ⟨47,hb,by decide⟩];simp
   refine a4Q rfl (by omega) (Ac (uF x 47) (by omega)) ?_;rw[sc];walk_at "!O*=";refine cN (d:=.int ((⟨a.toArray⟩::Txt.split (⟨b.toArray⟩:AC) ⟨#[47]⟩).map Ad).length) rfl ?_;walk_at "!I";rw[decide_eq_true (show(2:Int)<(((⟨a.toArray⟩::Txt.split (⟨b.toArray⟩:AC) ⟨#[47]⟩).map Ad).length:Int) by rw[AO,Af]; omega)];walk_at "!Z";unfold nmD at q;rw[nu,wb] at q
   cases h:a5A a with
   | none=>rw[h] at q; exact q
   | some t=>rw[h] at q; exact q
  have sb:Txt.split (⟨b.toArray⟩:AC) ⟨#[47]⟩=[⟨b.toArray⟩]:=zX hb;rw[sb] at sc;refine a4Q rfl (by omega) (by rw[sc]; exact DE rfl) ?_;rw[sc];walk_at "!O*=";refine cN (d:=.int 2) rfl ?_;walk_at "!I";rw[decide_eq_false (show ¬((2:Int)<2) by decide)];walk_at "!J";unfold lU;walk_at "!)<";refine cN (d:=.str ⟨a.toArray⟩) rfl ?_;walk_at "!(";refine aO4 aa (by show a.toArray.size≤700; simp; omega) ?_;walk_at "!Ă=";refine cN (d:=.int 2) rfl ?_;walk_at "!N";rw[decide_eq_false (show ¬((2:Int)=1) by decide)];walk_at "!J";unfold q8;walk_at "!)<";refine cN (d:=.str ⟨b.toArray⟩) rfl ?_;walk_at "!(";refine aRF ab (by show b.toArray.size≤700; simp; omega) ?_;walk_at "!~ėjM";unfold nmD at q;rw[nu] at q;unfold aI4 whD
  cases h1:a5A a with
  | none=>
   rw[h1] at q;rw[aVF]
   cases h2:whO b with
   | none=>
    rw[aV8];skip;refine⟨good_none,good_int _,a0T ?_⟩;walk_at "!0?P55,4";refine aLB (.inl ⟨rfl,.inl rfl⟩) ?_;walk_at "!6S";exact q
   | some n=>
    rw[aVN];walk_at "!Ī"
    by_cases n1:n=1
    ·rw[decide_eq_true (show(n:Int)=1 by omega)];walk_at "!L6S";exact q
    ·rw[decide_eq_false (show ¬(n:Int)=1 by omega)];walk_at "!D0?P55,4";refine aLB (.inl ⟨rfl,.inr ⟨_,rfl⟩⟩) ?_;walk_at "!6S";exact q
  | some t=>
   rw[h1] at q;rw[aUX]
   cases h2:whO b with
   | none=>
    rw[h2] at q;rw[aV8];skip;refine⟨good_none,good_int _,a0T ?_⟩;walk_at "!0?P55,4";refine aLB (.inr ⟨⟨_,rfl⟩,rfl⟩) ?_;walk_at "!6S";exact q
   | some n=>
    rw[h2] at q;dsimp only at q;rw[aVN];walk_at "!Ī"
    by_cases n1:n=1
    ·rw[decide_eq_true (show(n:Int)=1 by omega)];rw[if_neg (by omega)] at q;walk_at "!L6S";exact q
    ·rw[decide_eq_false (show ¬(n:Int)=1 by omega)];walk_at "!D0?P55,4";refine aP2 ?_
     by_cases g:1≤n∧Az t n=1
     ·rw[if_pos ⟨by omega,g.2⟩] at q;rw[decide_eq_true g.1,decide_eq_true g.2,Bool.and_true];walk_at "!.@P55,";exact q
     ·rw[if_neg (fun z=>g ⟨by omega,z.2⟩)] at q;rw[show(decide (1≤n)&&decide (Az t n=1))=false from by rw[← Bool.decide_and]; exact decide_eq_false g];walk_at "!6S";exact q
end
section
variable {Q:Rv→Prop}{fs:a3B}
theorem aUM (x:D)(xs:List D):¬(HT.sIx (x::xs).length 0 (some 1)=0∧HT.sIx (x::xs).length (x::xs).length none=(x::xs).length):=by
 rintro⟨h,_⟩
 simp[HT.sIx] at h
theorem gB {ws:List Rw}(hl:ws.length≤41)(h:∀ w∈ws,w.Ok fs)(q:Q (.val (.str (bkT ws)))):cG [.val (.list (ws.map Rw.d))] Q:=by
 refine lG ?_;unfold lX;walk_at "!nă,oű/";refine vA (fun i Γ=>∃ x y z,Γ=[.val (.list (ws.map Rw.d)),.own ((ws.take i).map fun w=>.str w.tx),x,y,z]) ⟨_,_,_,rfl⟩ ?_ ?_
 ·rintro i d Γ K hd ⟨x,y,z,rfl⟩ hK;rw[Ao] at hd;obtain⟨w,hw,rfl⟩:=CN.mp hd;have hwm:=BP hw;have hi:=(Aq.mp hw).1;obtain⟨ps,e1,e2,hp,hps,a,r,rfl,ha⟩:=w.pts (h w hwm);rw[e1,A2];unfold mD;walk_at "!;nă&i";refine cN (by simp[ixD,atI,ixN]; rfl) ?_;walk_at "!,oĺň{$b#";refine⟨aUM _ _,?_⟩;rw[aNG];skip;refine vA (fun j Γ=>∃ z,Γ=[.val (.list (ws.map Rw.d)),.own ((ws.take i).map fun w=>.str w.tx),.val (.tuple (.str a::r.map fun p=>p.1)),.own (.str a::(r.take j).map fun p=>.str p.2),z]) ⟨_,rfl⟩ ?_ ?_
  ·rintro j d Γ K2 hd ⟨z,rfl⟩ hK2;rw[Ao] at hd;obtain⟨p,hpj,rfl⟩:=CN.mp hd;have hpm:=BP hpj;have hj:=(Aq.mp hpj).1;have et:((r.take (j+1)).map fun p=>(Ad p.2:D))=(r.take j).map (fun p=>.str p.2)++[.str p.2]:=by
    rw[EI,hpj,BA];rfl
   have hjl:(.str a::(r.take j).map fun p=>(Ad p.2:D)).length≤5:=by
    simp only[Af,AO,BK] at hps ⊢;omega
   obtain⟨d,b⟩:=p;have hpt:Pt d b:=hp (d,b) (Ak _ hpm);have fin:∀ v,K2 (.nx [.val (.list (ws.map Rw.d)),.own ((ws.take i).map fun w=>.str w.tx),.val (.tuple (.str a::r.map fun p=>p.1)),.own (.str a::(r.take j).map (fun p=>.str p.2)++[.str b]),v]):=fun v=>
    hK2.nx _ ⟨v,by rw[et]; rfl⟩
   unfold m8
   cases hpt with
   | word b hb=>
    walk_at "!;X0FĨR#Ĝ%Ų";refine vJ (ds:=.str a::(r.take j).map fun p=>.str p.2) rfl (by omega) ?_;exact fin _
   | whole n hn=>
    walk_at "!;X0FĨR#Ĝ%";refine aGL (aJP (by omega)) ?_;skip;refine vJ (ds:=.str a::(r.take j).map fun p=>.str p.2) rfl (by omega) ?_;exact fin _
   | num t ht=>
    walk_at "!;X0FĵR]";refine a9E ht ?_;walk_at "!#";refine vJ (ds:=.str a::(r.take j).map fun p=>.str p.2) rfl (by omega) ?_;exact fin _
  ·rintro Γ ⟨z,rfl⟩;rw[AO,CI];unfold m9;walk_at "!īRĐ$đ%";rw[show(Ad a::r.map fun p=>(Ad p.2:D))=w.ws.map Ad by rw[e2,A2,A2,B7]; rfl];refine a8Z (yH (k:=4) (B:=130) (by rw[e2,AO]; exact hps) (fun y hy=>?_) (by decide)) ?_
   ·rw[e2] at hy;obtain⟨p,hm,rfl⟩:=Ax.mp hy;exact(hp p hm).len
   ·refine vJ (ds:=(ws.take i).map fun w=>.str w.tx) rfl (by rw[AO,BK]; omega) ?_;refine hK.nx _ ⟨.val (.tuple (.str a::r.map fun p=>p.1)),.val (.list (w.ws.map Ad)),z,?_⟩
    ·have et:((ws.take (i+1)).map fun w=>(Ad w.tx:D))=(ws.take i).map (fun w=>.str w.tx)++[.str w.tx]:=by
      rw[EI,hw,BA];rfl
     rw[et];rfl
 ·rintro Γ ⟨x,y,z,rfl⟩;rw[AO,CI];unfold mF;walk_at "!ī8#Đ$đ%";rw[show(ws.map fun w=>(Ad w.tx:D))=(ws.map Rw.tx).map Ad by rw[B7]; rfl];refine a8Z (yH (k:=41) (B:=600) (by rw[AO]; exact hl) (fun y hy=>?_) (by decide)) ?_
  ·obtain⟨w,hm,rfl⟩:=Ax.mp hy;exact Rw.tx_len (h w hm)
  ·skip;exact q
theorem pO {ws:List Rw}(hl:ws.length≤40)(h:∀ w∈ws,w.Ok fs)(q:Q (.val (.str (bkT ws)))):cG [.val (.list (ws.map Rw.d))] Q:=gB (by omega) h q
end
section
open PySem.NumText PySem.StrLaws
theorem aIS {c:Nat}:∀{ps:List AC} {p:AC},p∈ps→∀ s∈p.cps.toList,s∈(BR ⟨#[c]⟩ ps).cps.toList
 | [x],p,h,s,hs=>by rw[AW.mp h] at hs; exact hs
 | x::y::r,p,h,s,hs=>by
  rw[jL,Aj,AT];rcases AT.mp h with rfl|h
  ·exact .inl hs
  ·exact .inr (.inr (aIS h s hs))
theorem aIA {c:Nat}:∀{ps:List AC} {p:AC},p∈ps→p.length≤(BR ⟨#[c]⟩ ps).cps.toList.length
 | [x],p,h=>by rw[AW.mp h,←len_list]; exact AV _
 | x::y::r,p,h=>by
  rw[jL,Ah,Af];rcases AT.mp h with rfl|h
  ·rw[len_list]; omega
  ·have:=aIA (c:=c) h;omega
theorem aOT {x p:AC}{c:Nat}(h:p∈Txt.split x ⟨#[c]⟩):∀ s∈p.cps.toList,s∈x.cps.toList:=fun s hs=>by
 have:=aIS (c:=c) h s hs;rwa[Eo] at this
theorem aP9 {x p:AC}{c:Nat}(h:p∈Txt.split x ⟨#[c]⟩):p.length≤x.length:=by
 have:=aIA (c:=c) h;rwa[Eo,len_list] at this
theorem aIW {x p:AC}{c:Nat}(hx:Asc x)(h:p∈Txt.split x ⟨#[c]⟩):Asc p:=fun s hs=>hx s (aOT h s hs)
def thD (k w:AC):D:=if k = "number" then nmD w.cps.toList else whD w.cps.toList
def kinds (b:Bool)(w:AC):Option (List AC):=
 if b then(if "join" = w then some ["number", "number", "number"] else if "leave" = w then some ["number", "whole"] else if "turn" = w then some ["number", "whole", "number"] else none)
 else(if "deed" = w then some ["whole"] else if "pass" = w then some ["number", "whole"] else none)
def fsB (b:Bool):a3B:=if b then rQ else a7L
theorem a7E (b:Bool)(w:AC):a7R (fsB b) w=(kinds b w).map fun ks=>.tuple (ks.map Ad):=by
 cases b with
 | true=>
  show a7R rQ w=_;unfold rQ kinds;simp only[a7R,if_true]
  split
  ·rfl
  ·split
   ·rfl
   ·split<;>rfl
 | false=>
  show a7R a7L w=_;unfold a7L kinds;simp only[a7R,Cc,if_false]
  split
  ·rfl
  ·split<;>rfl
theorem a4V {b:Bool}{w:AC}{ks:List AC}(h:kinds b w=some ks):ks.length≤3∧1≤ks.length:=by
 unfold kinds at h
 cases b<;>simp only[Cc,if_false,if_true] at h<;>(repeat' split at h)<;>cases h<;>decide
def jB (ps:List D):Bool:=ps.any fun e=>Ae e .none
def pF (b:Bool):List AC→D
 | []=>.none
 | w::r=>match kinds b w with
  | none=>.none
  | some ks=>if ks.length=r.length then(if jB (BW thD ks r)=true then .none else .tuple (.str w::BW thD ks r)) else .none
def paF (b:Bool)(x:AC):D:=pF b (Txt.split x ⟨#[32]⟩)
theorem aGA {b:Bool}{w:AC}{r:List AC}(h:kinds b w=none):pF b (w::r)=.none:=by unfold pF; dsimp only; rw[h]
theorem aCA {b:Bool}{w:AC}{r ks:List AC}(h:kinds b w=some ks)(hl:ks.length≠r.length):pF b (w::r)=.none:=by unfold pF; dsimp only; rw[h]; exact if_neg hl
theorem aDO {b:Bool}{w:AC}{r ks:List AC}(h:kinds b w=some ks)(hn:jB (BW thD ks r)=true):pF b (w::r)=.none:=by
 unfold pF;dsimp only;rw[h]
 by_cases hl:ks.length=r.length
 ·show(if ks.length=r.length then(if jB (BW thD ks r)=true then _ else _) else _)=_
  rw[if_pos hl,if_pos hn]
 ·show(if ks.length=r.length then(if jB (BW thD ks r)=true then _ else _) else _)=_
  rw[if_neg hl]
theorem aJB {b:Bool}{w:AC}{r ks:List AC}(h:kinds b w=some ks)(hl:ks.length=r.length)(hn:jB (BW thD ks r)=false):pF b (w::r)=.tuple (.str w::BW thD ks r):=by
 unfold pF;dsimp only;rw[h]
 show(if ks.length=r.length then _ else _)=_
 rw[if_pos hl,if_neg (by rw[hn]; exact BB)]
theorem aTH {p:Pk}(h:p.Ok):thD p.k p.tx=p.d:=by
 cases p with
 | whole n=>
  show(if ("whole" : AC) = "number" then _ else whD (txI (n:Int)).cps.toList)=_
  rw[if_neg (by decide +kernel),xO];show oN (whO (dg n))=_;rw[aFE h];rfl
 | num r=>
  show(if ("number" : AC) = "number" then nmD (a6Z r).cps.toList else _)=_
  rw[if_pos rfl];show oT (a6W _)=_;rw[aO1 h];rfl
theorem kinds_ok {b:Bool}{w:Rw}(h:w.Ok (fsB b)):kinds b w.w=some (w.ps.map Pk.k):=by
 have e:=h.f;rw[a7E] at e;obtain⟨ks,h1,h2⟩:=CN.mp e;rw[h1];injection h2 with h2;have h3:ks.map Ad=(w.ps.map Pk.k).map Ad:=by rw[h2,B7]; rfl
 rw[List.map_inj_right (fun a b h=>by injection h) |>.mp h3]
theorem aQL {ps:List Pk}(h:∀ p∈ps,p.Ok):BW thD (ps.map Pk.k) (ps.map Pk.tx)=ps.map Pk.d:=by
 induction ps with
 | nil=>rfl
 | cons p r ih=>
  rw[A2,A2,List.zipWith_cons_cons,A2,aTH (h p (Ap ..)),ih fun q hq=>h q (Ak _ hq)]
theorem aSQ {b:Bool}{w:Rw}(h:w.Ok (fsB b)):pF b w.ws=w.d:=by
 show pF b (w.w::w.ps.map Pk.tx)=_;rw[aJB (kinds_ok h) (by rw[AO,AO]),aQL h.p]
 ·rfl
 ·rw[aQL h.p];unfold jB;rw[any_map,Er];intro p _;rw[show((fun e=>Ae e .none)∘Pk.d) p=Ae p.d .none from rfl,Pk.some p];exact BB
theorem aA5 {b:Bool}{w:Rw}(h:w.Ok (fsB b)):paF b w.tx=w.d:=by
 unfold paF;rw[Rw.split h];exact aSQ h
theorem aM2 {k w:AC}{ks r:List AC}{j:Nat}(h1:ks[j]?=some k)(h2:r[j]?=some w)(h:thD k w=.none):jB (BW thD ks r)=true:=by
 unfold jB;rw[D5];refine⟨.none,?_,rfl⟩;refine BP (i:=j) ?_;rw[GJ,h1,h2];show some (thD k w)=_;rw[h]
theorem a1R {l:List Nat}{c:Nat}(h:c∈l)(hc:dgB c=false):whO l=none:=by
 unfold whO;refine if_neg fun z=>?_;unfold whB at z;rw[show l.all dgB=false from List.all_eq_false.mpr ⟨c,h,by rw[hc]; exact BB⟩] at z;simp at z
theorem a89 {l:List Nat}{c:Nat}(h:c∈l)(hc:dgB c=false)(h45:c≠45):a5A l=none:=by
 unfold a5A
 split
 ·rename_i z
  cases l with
  | nil=>cases h
  | cons a r=>
   have:a=45:=by simpa using z
   subst this;rw[show(45::r).tail=r from rfl,a1R ((AT.mp h).resolve_left h45) hc]
 ·rw[a1R h hc]; rfl
theorem aEV {l:List Nat}{c:Nat}(h:c∈l)(hc:dgB c=false)(h45:c≠45)(h47:c≠47):a6W l=none:=by
 unfold a6W
 cases e:wF l with
 | none=>rw[a89 h hc h45]; rfl
 | some p=>
  obtain⟨a,b⟩:=p;obtain⟨e1,_⟩:=pM e;rw[e1] at h;dsimp only;rcases Aj.mp h with q|q
  ·rw[a89 q hc h45]
  ·rw[a1R ((AT.mp q).resolve_left h47) hc]
   cases a5A a<;>rfl
theorem aK4 {k w:AC}{c:Nat}(h:c∈w.cps.toList)(hc:dgB c=false)(h45:c≠45)(h47:c≠47):thD k w=.none:=by
 unfold thD nmD whD
 split
 ·rw[aEV h hc h45 h47]; rfl
 ·rw[a1R h hc]; rfl
end
section
variable {Q:Rv→Prop}{b:Bool}
theorem aQ1 (k w:AC):Gd 1 (thD k w):=by
 unfold thD nmD whD
 split
 ·cases a6W w.cps.toList with
  | none=>exact gd_none.mono
  | some p=>
   refine a4C (n:=0) fun d hd=>?_;simp only[AT,Av,or_false] at hd;rcases hd with rfl|rfl<;>exact vD _
 ·cases whO w.cps.toList with
  | none=>exact gd_none.mono
  | some n=>exact(vD _).mono
theorem aJH {k w:AC}(hk:k = "number" ∨ k = "whole")(hw:Asc w)(hl:w.length≤700)(q:Q (.val (thD k w))):p8 [.val (.str k),.val (.str w)] Q:=by
 rcases hk with rfl|rfl
 ·rw[show thD "number" w=nmD w.cps.toList from if_pos rfl] at q;refine lG ?_;unfold pK;walk_at "!~AM";refine⟨iV (ad _),iV (ad _),?_⟩;rw[a01,decide_eq_true rfl];walk_at "!.s%(";refine aUB hw hl ?_;skip;exact q
 ·rw[show thD "whole" w=whD w.cps.toList from if_neg (by decide +kernel)] at q;refine lG ?_;unfold pK;walk_at "!~AM";refine⟨iV (ad _),iV (ad _),?_⟩;rw[a01,decide_eq_false (by decide +kernel)];walk_at "!6s%(";refine aRF hw hl ?_;skip;exact q
theorem aDN {w k:AC}{ks:List AC}(h:kinds b w=some ks)(hk:k∈ks):k = "number" ∨ k = "whole" := by
 unfold kinds at h
 cases b<;>simp only[Cc,if_false,if_true] at h<;>(repeat' split at h)<;>cases h<;>simp only[AT,Av,or_false] at hk<;>rcases hk with rfl|hk<;>first|exact .inl rfl|exact .inr rfl|skip
 all_goals first
  | (rcases hk with rfl|rfl<;>first|exact .inl rfl|exact .inr rfl)
  | (subst hk; first|exact .inl rfl|exact .inr rfl)
theorem aKA (ks r:List AC)(i:Nat){k w:AC}(h1:ks[i]?=some k)(h2:r[i]?=some w):BW thD (ks.take (i+1)) (r.take (i+1))=BW thD (ks.take i) (r.take i)++[thD k w]:=by
 have e1:=(Aq.mp h1).1;have e2:=(Aq.mp h2).1;rw[EI,EI,h1,h2,List.zipWith_append (by rw[BK,BK]; omega)];rfl
theorem aDP {x:AC}(hx:Asc x)(hl:x.length≤700)(q:Q (.val (paF b x))):lZ [.val (.str x),.pub (pFm (fsB b))] Q:=by
 have sm:=uF x 32;have sa:∀ p∈Txt.split x ⟨#[32]⟩,Asc p∧p.length≤700:=fun p hp=>⟨aIW hx hp,Ac (aP9 hp) hl⟩;unfold paF at q
 revert q sm sa
 obtain⟨a,r,e⟩:=C7 (sV x ⟨#[32]⟩);have e0:=e;rw[e];intro q sm sa;have ha:=(sa a (Ap ..)).1;refine lG ?_;unfold uQ;walk_at "!)aĎ%ď$";rw[aIN];refine a4Q rfl (by omega) (by rw[e0]; omega) ?_;rw[e0,A2];walk_at "!)#";refine aLK rfl ?_;walk_at "!3";refine cN (aJW _ _) ?_;refine⟨fsB b,a,rfl,rfl,?_⟩;rw[a7E]
 cases hk:kinds b a with
 | none=>
  rw[aGA hk] at q;rw[Option.map_none,E3];walk_at "!Ĉ0ĝ/.Z";exact q
 | some ks=>
  obtain⟨k3,k1⟩:=a4V hk;rw[Option.map_some,getD_some];walk_at "!Ĉ0ĝ/6j=";refine cN (d:=.int ((r.length:Int)+1)) (by simp[a9Y]) ?_;walk_at "!*ŋ%";refine cN (d:=.int (ks.length:Int)) (by simp[a9Y]) ?_;walk_at "!N"
  by_cases hlen:ks.length=r.length
  ·rw[decide_eq_true (show(r.length:Int)+1=(ks.length:Int)+1 by omega)];walk_at "![";unfold rR;walk_at "!nă&i";refine cN (aJW _ _) ?_;walk_at "!,oų%Ā{$b#";rw[aNG];refine vA (fun i Γ=>∃ u v,Γ=[.val (.str x),.pub (pFm (fsB b)),.val (.list (.str a::r.map Ad)),.val (.tuple (ks.map Ad)),.own (.str a::BW thD (ks.take i) (r.take i)),u,v]) ⟨_,_,rfl⟩ ?_ ?_
   ·rintro i d Γ K hd ⟨u,v,rfl⟩ hK;unfold aIE at hd;rw[Ao] at hd;obtain⟨p,hp,rfl⟩:=CN.mp hd;rw[Gn] at hp;obtain⟨h1,h2⟩:=hp;rw[Ao] at h1 h2;obtain⟨k,hk1,e1⟩:=CN.mp h1;obtain⟨w,hw1,e2⟩:=CN.mp h2;rw[← e1,←e2];have hwm:=sa w (Ak _ (BP hw1));have hi:=(Aq.mp hk1).1;unfold rP;walk_at "!Ļč;č;ļRwB";refine aJH (aDN hk (BP hk1)) hwm.1 hwm.2 ?_;walk_at "!#";refine vJ (ds:=.str a::BW thD (ks.take i) (r.take i)) rfl (by simp; omega) ?_;refine hK.nx _ ⟨.val (.str k),.val (.str w),?_⟩;rw[aKA ks r i hk1 hw1];rfl
   ·rintro Γ ⟨u,v,rfl⟩;have lz:(aIE (ks.map Ad) (r.map Ad)).length=ks.length:=by
     unfold aIE;rw[AO,List.length_zip,AO,AO];omega
    rw[lz,CI,hlen,CI];unfold sZ;walk_at "!ī~0Ō$/";refine⟨good_none,?_,?_⟩
    ·refine a2I (n:=1) fun d hd=>?_;rcases AT.mp hd with rfl|z
     ·exact(a9U ha).mono
     ·obtain⟨j,hj⟩:=EA z;rw[GJ] at hj
      cases h1:ks[j]? with
      | none=>rw[h1] at hj; cases hj
      | some k=>cases h2:r[j]? with
       | none=>rw[h1,h2] at hj; cases hj
       | some w=>rw[h1,h2] at hj; cases hj; exact aQ1 k w
    ·have e:((Ad a::BW thD ks r).any fun e=>Ae e .none)=jB (BW thD ks r):=by
      rw[D4,show Ae (.str a) .none=false from rfl,Bool.false_or];rfl
     rw[if_neg BB,e]
     cases hn:jB (BW thD ks r) with
     | true=>
      rw[aDO hk hn] at q;walk_at "!.S";exact q
     | false=>
      rw[aJB hk hlen hn] at q;walk_at "!6@Ŵ%";refine aSD ?_;skip;exact q
  ·rw[aCA hk hlen] at q;rw[decide_eq_false (show ¬((r.length:Int)+1=(ks.length:Int)+1) by omega)];walk_at "!DT";exact q
theorem aS2 {x:AC}(hx:Asc x)(hl:x.length≤700)(q:Q (.val (paF false x))):xJ [.val (.str x)] Q:=by
 refine lG ?_;unfold a0O;walk_at "!V/";refine aE4 ?_;refine aAF ?_;walk_at "!Ğ,";refine aAF ?_;walk_at "!`";refine aN4 ?_;refine⟨(show 2≤15 by decide),(show([("deed" : AC),("pass" : AC)]:List AC).Nodup by decide +kernel),?_⟩;walk_at "!(";exact aDP (b:=false) hx hl q
theorem aOC {x:AC}(hx:Asc x)(hl:x.length≤700)(q:Q (.val (paF true x))):tK [.val (.str x)] Q:=by
 refine lG ?_;unfold xZ;walk_at "!V/";refine aE4 ?_;refine aAF ?_;walk_at "!tm";refine aAF ?_;walk_at "!`";refine aAF ?_;walk_at "!tm";refine aN4 ?_;refine⟨(show 3≤15 by decide),(show([("join" : AC),("leave" : AC),("turn" : AC)]:List AC).Nodup by decide +kernel),?_⟩;walk_at "!(";exact aDP (b:=true) hx hl q
end
section
variable {Q:Rv→Prop}{xa:XA}{c:AA}
theorem a8D {i:Nat}{m:MO}{Γ:En}{Q:Fl→Prop}(h:m Γ fun rv Γ1=>o5 rv (Q (.rt rv)) (Q (.nx (Γ1.set i rv.sl)))):aGP i m Γ Q:=h
theorem aDJ {m:MO}{Γ:En}{Q:Fl→Prop}(h:m Γ fun rv Γ1=>o5 rv (Q (.rt rv)) (Q (.nx Γ1))):a7N m Γ Q:=h
abbrev aKP (xa:XA)(n:Nat):Rv:=.box (a2L xa.nt (some ("line", .int (n:Int))))
def lnF (x:AC):List AC:=if x = "" then[] else Txt.split x ⟨#[10]⟩
theorem aBY {x:AC}(hx:Asc x)(hl:x.length≤50000)(q:Q (.own ((lnF x).map Ad))):dG xa c [.val (.str x)] Q:=by
 have sm:=uF x 10;refine lG ?_;unfold lJ;walk_at "!r7FćG";unfold nZ;walk_at "!~jM";refine⟨iV hx,iV (ad _),?_⟩;rw[a01];unfold lnF at q
 by_cases z:x = ""
 ·rw[if_pos z] at q;rw[decide_eq_true z];walk_at "!Lă,";exact q
 ·rw[if_neg z] at q;rw[decide_eq_false z];walk_at "!DĎ%ď$";rw[lf1];refine a4Q rfl (by omega) (by omega) ?_;skip;exact q
theorem a0F {d:D}(hd:a0Y (jF d) "str" = false)(q:Q (aKP xa 0)):dG xa c [.val d] Q:=by
 refine lG ?_;unfold lJ;walk_at "!r7ą/";rw[hd];walk_at "!DěCf";exact⟨0,rfl,by decide,q⟩
def a0K (ds:List D):Nat:=ds.findIdx fun e=>Ae e .none
def aAA (xa:XA)(Q:Rv→Prop)(ds:List D)(A:Prop):Prop:=if jB ds=true then Q (aKP xa (a0K ds)) else A
theorem a82 {ds:List D}(hg:∀ d∈ds,Gd 3 d)(hl:ds.length≤100)(q:aAA xa Q ds (Q (.val .none))):bZ xa c [.val (.list ds)] Q:=by
 refine lG ?_;unfold fB;walk_at "!X0Ō$/";refine⟨good_none,a2I (n:=3) hg,?_⟩;rw[if_neg BB];unfold aAA jB at q
 cases hn:ds.any fun e=>Ae e .none with
 | false=>
  rw[hn,if_neg BB] at q;walk_at "!J";exact q
 | true=>
  rw[hn,if_pos rfl] at q;walk_at "!.ě&#";have hlt:a0K ds<ds.length:=by
   unfold a0K;rw[List.findIdx_lt_length];obtain⟨d,h1,h2⟩:=D5.mp hn;exact⟨d,h1,h2⟩
  refine aET ?_;walk_at "!%";refine⟨⟨_,rfl⟩,?_⟩;walk_at "!$";refine⟨ds,a0K ds,rfl,good_none,a2I (n:=3) hg,hlt,by omega,?_,fun m hm=>?_,?_⟩
  ·rw[Bp,A0 hlt];exact List.findIdx_getElem (w:=hlt)
  ·have hm2:m<ds.length:=DF hm hlt;rw[Bp,A0 hm2];exact List.not_of_lt_findIdx hm
  ·walk_at "!Ľ";exact⟨_,rfl,by omega,q⟩
def rdF (b:Bool)(x:AC):List D:=(lnF x).map (paF b)
theorem aSC (b:Bool)(x:AC)(hx:Asc x):Gd 2 (paF b x):=by
 unfold paF;have sa:∀ p∈Txt.split x ⟨#[32]⟩,Asc p:=fun p hp=>aIW hx hp
 revert sa
 generalize Txt.split x ⟨#[32]⟩=ws;intro sa
 cases ws with
 | nil=>exact gd_none.mono
 | cons w r=>
  cases hk:kinds b w with
  | none=>rw[aGA hk]; exact gd_none.mono
  | some ks=>
   by_cases hl:ks.length=r.length
   ·cases hn:jB (BW thD ks r) with
    | true=>rw[aDO hk hn]; exact gd_none.mono
    | false=>
     rw[aJB hk hl hn];refine a4C (n:=1) fun d hd=>?_;rcases AT.mp hd with rfl|z
     ·exact(a9U (sa w (Ap ..))).mono
     ·obtain⟨j,hj⟩:=EA z;rw[GJ] at hj
      cases h1:ks[j]? with
      | none=>rw[h1] at hj; cases hj
      | some k=>cases h2:r[j]? with
       | none=>rw[h1,h2] at hj; cases hj
       | some w=>rw[h1,h2] at hj; cases hj; exact aQ1 k w
   ·rw[aCA hk hl]; exact gd_none.mono
structure TxOk (x:AC):Prop where
 a:Asc x
 l:x.length≤50000
 n:(lnF x).length≤45
 s:∀ p∈lnF x,Asc p∧p.length≤700
theorem TxOk.gd {x:AC}(h:TxOk x)(b:Bool):∀ d∈rdF b x,Gd 3 d:=fun d hd=>by
 obtain⟨p,hp,rfl⟩:=Ax.mp hd;exact(aSC b p (h.s p hp).1).mono
theorem aI5 {x:AC}(h:TxOk x)(q:aAA xa Q (rdF false x) (Q (.val (.list (rdF false x))))):dD xa c [.val (.str x)] Q:=by
 have hn:=h.n;refine lG ?_;unfold jR;walk_at "!>";refine a8D ?_;walk_at "!#Ĭ#ĭsB";refine aBY h.a h.l ?_;refine a1F ⟨_,rfl,by rw[AO]; omega,?_⟩;refine qM (α:=AC) (fun _=>true) (paF false) Ad (lnF x) [] _ (fun p hp _ k k0 h1 h0=>?_) ?_
 ·walk_at "!;";refine aFM ?_;walk_at "!.]";refine aS2 (h.s p hp).1 (h.s p hp).2 ?_;walk_at "!#";exact h1 rfl
 ·rw[DU.mpr fun _ _=>rfl,B1,show B4 (paF false) (lnF x)=rdF false x from rfl];refine a1F ⟨_,rfl,?_⟩;refine a1N ?_;walk_at "!>";refine aDJ ?_;walk_at "!sB";refine a82 (h.gd false) (by unfold rdF; rw[AO]; omega) ?_;unfold aAA at q ⊢
  split
  ·rename_i z
   rw[if_pos z] at q;exact oF q
  ·rename_i z
   rw[if_neg z] at q;refine a1N ?_;walk_at "!8/";exact q
theorem aD3 {d:D}(hd:a0Y (jF d) "str" = false)(q:Q (aKP xa 0)):dD xa c [.val d] Q:=by
 refine lG ?_;unfold jR;walk_at "!>";refine a8D ?_;walk_at "!#Ĭ#ĭsB";refine a0F hd ?_;exact oF (oF (oF q))
theorem aCJ {x:AC}(h:TxOk x)(q:aAA xa Q (rdF true x) (iW xa c [.val (.list (rdF true x))] Q)):eG xa c [.val (.str x)] Q:=by
 have hn:=h.n;refine lG ?_;unfold lE;walk_at "!>";refine a8D ?_;walk_at "!#Ĭ#ĭsB";refine aBY h.a h.l ?_;refine a1F ⟨_,rfl,by rw[AO]; omega,?_⟩;refine qM (α:=AC) (fun _=>true) (paF true) Ad (lnF x) [] _ (fun p hp _ k k0 h1 h0=>?_) ?_
 ·walk_at "!;";refine aFM ?_;walk_at "!.]";refine aOC (h.s p hp).1 (h.s p hp).2 ?_;walk_at "!#";exact h1 rfl
 ·rw[DU.mpr fun _ _=>rfl,B1,show B4 (paF true) (lnF x)=rdF true x from rfl];refine a1F ⟨_,rfl,?_⟩;refine a1N ?_;walk_at "!>";refine aDJ ?_;walk_at "!sB";refine a82 (h.gd true) (by unfold rdF; rw[AO]; omega) ?_;unfold aAA at q ⊢
  split
  ·rename_i z
   rw[if_pos z] at q;exact oF q
  ·rename_i z
   rw[if_neg z] at q;refine a1N ?_;walk_at "!VB";exact q
theorem aD1 {d:D}(hd:a0Y (jF d) "str" = false)(q:Q (aKP xa 0)):eG xa c [.val d] Q:=by
 refine lG ?_;unfold lE;walk_at "!>";refine a8D ?_;walk_at "!#Ĭ#ĭsB";refine a0F hd ?_;exact oF (oF (oF q))
end
inductive Out
 | read
 | text (n:Nat)
 | log (n:Nat)
def Out.d:Out→D
 | .read=>.tuple [.str "read", .none]
 | .text n=>.tuple [.str "text", .int (n:Int)]
 | .log n=>.tuple [.str "log", .int (n:Int)]
def Out.q (xa:XA)(Q:Rv→Prop):Out→Prop
 | .read=>∀ rv,aFO rv→Q rv
 | .text n=>Q (aKP xa n)
 | .log n=>Q (aRN xa n)
def a0S (b:Bool)(d:D)(o:Out):Prop:=∀ xa c (Q:Rv→Prop),o.q xa Q→if b=true then eG xa c [.val d] Q else dD xa c [.val d] Q
theorem qG {Q:Rv→Prop}{b:Bool}{d:D}{o:Out}(h:a0S b d o)(q:Q (.val o.d)):cZ [.val (.bool b),.val d] Q:=by
 intro xa c hne;have m1:xa.nt∈[xa.nt,xa.nl]:=Ap ..;have m2:xa.nl∈[xa.nt,xa.nl]:=Ak _ (Ap ..);have k1:∀ u v:Bool,Bh xa.nt [(xa.nt,u),(xa.nl,v)]=some u:=fun u v=>by simp[Bh]
 have k2:∀ u v:Bool,Bh xa.nl [(xa.nt,u),(xa.nl,v)]=some v:=fun u v=>by
  have:(xa.nl==xa.nt)=false:=beq_eq_false_iff_ne.mpr (Am hne);simp[Bh,this]
 have fin:∀(u v:Sl),o.q xa fun rv=>xsp [xa.nt,xa.nl] rv (fun C o=>(cI (mIf (dY (a8L 2)) (fK (cR (j7 (aM (mC (.str "read")) (aM (mC .none) cY))))) mNx) (eU xa c)) (enX 3 2 C o [.val (.bool b),.val d,.val .none,u]) fun fl=>match fl with|.rt rv=>Q rv|.nx _=>Q (.val .none)|_=>False)
   ((cI (mIf (dY (a8L 2)) (fK (cR (j7 (aM (mC (.str "read")) (aM (mC .none) cY))))) mNx) (eU xa c)) [.val (.bool b),.val d,.val .none,u] fun fl=>match fl with|.rt rv=>Q rv|.nx _=>Q (.val .none)|_=>False):=fun u v=>by
  cases o with
  | read=>
   intro rv hrv;refine⟨fun C o e=>absurd e (hrv C o),fun _=>?_⟩;walk_at "!O";refine aKI (d:=.none) rfl ?_;walk_at "!#.8t1";exact q
  | text n=>
   refine aD0 m1 ?_;unfold enX;walk_at "!O";refine aA6 (C:=xa.nt) (o:=some ("line", .int (n:Int))) rfl ?_;walk_at "!J";unfold eU;walk_at "!K";refine a1W (C:=xa.nt) (o:=some ("line", .int (n:Int))) rfl (k1 true true) ?_;walk_at "!L0";refine a1W (C:=xa.nt) (o:=some ("line", .int (n:Int))) rfl (k1 false false) ?_;walk_at "!J";unfold jK;walk_at "!q0";refine a1W (C:=xa.nt) (o:=some ("line", .int (n:Int))) rfl (k1 true false) ?_;walk_at "!.ė7";refine a1W (C:=xa.nt) (o:=some ("line", .int (n:Int))) rfl (k1 false true) ?_;walk_at "!D7ą#";refine a7Z (C:=xa.nt) (d:=.int (n:Int)) rfl (AW.mpr rfl) ?_;walk_at "!Ě8u#";refine a7Z (C:=xa.nt) (d:=.int (n:Int)) rfl (AW.mpr rfl) ?_;walk_at "!,";exact q
  | log n=>
   refine aD0 m2 ?_;unfold enX;walk_at "!O";refine aA6 (C:=xa.nl) (o:=some ("at", .int (n:Int))) rfl ?_;walk_at "!J";unfold eU;walk_at "!K";refine a1W (C:=xa.nl) (o:=some ("at", .int (n:Int))) rfl (k2 true true) ?_;walk_at "!L0";refine a1W (C:=xa.nl) (o:=some ("at", .int (n:Int))) rfl (k2 false false) ?_;walk_at "!J";unfold jK;walk_at "!q0";refine a1W (C:=xa.nl) (o:=some ("at", .int (n:Int))) rfl (k2 true false) ?_;walk_at "!6J";unfold nQ;walk_at "!q0";refine a1W (C:=xa.nl) (o:=some ("at", .int (n:Int))) rfl (k2 false true) ?_;walk_at "!.ė7";refine a1W (C:=xa.nl) (o:=some ("at", .int (n:Int))) rfl (k2 true false) ?_;walk_at "!D7ą#";refine a7Z (C:=xa.nl) (d:=.int (n:Int)) rfl (AW.mpr rfl) ?_;walk_at "!Ě8u#";refine a7Z (C:=xa.nl) (d:=.int (n:Int)) rfl (AW.mpr rfl) ?_;walk_at "!,";exact q
 have hh:=h xa c _ (fin .no .no);refine lG ?_;unfold mK;walk_at "!)$O/"
 cases b with
 | true=>
  walk_at "!.";unfold sX;exact⟨rfl,hh⟩
 | false=>
  walk_at "!6";unfold sX;exact⟨rfl,hh⟩
section
open PySem.NumText PySem.StrLaws
theorem aDT {c:Nat}{p:AC}:∀{ps:List AC},ps≠[]→(BR ⟨#[c]⟩ (ps++[p])).cps.toList=(BR ⟨#[c]⟩ ps).cps.toList++c::p.cps.toList
 | [],h=>absurd rfl h
 | [x],_=>jL c x p []
 | x::y::r,_=>by
  show(BR ⟨#[c]⟩ (x::y::(r++[p]))).cps.toList=_
  rw[jL,jL,show y::(r++[p])=(y::r)++[p] from rfl,aDT (A7 y r)];simp
theorem tj (c:Nat)(ps:List AC):Txt.join ⟨#[c]⟩ ps=BR ⟨#[c]⟩ ps:=glued_eq_join _ _
theorem a65 {c:Nat}{p:AC}{ps:List AC}(h:ps≠[]):Txt.join ⟨#[c]⟩ (ps++[p])=Txt.join ⟨#[c]⟩ ps++(⟨#[c]⟩++p):=by
 rw[tj,tj];refine fC ?_;rw[aDT h,A9,A9,A4,A4];rfl
theorem lW {c:Nat}{p:AC}{ps:List AC}(h:ps≠[]):Txt.join ⟨#[c]⟩ (p::ps)=p++(⟨#[c]⟩++Txt.join ⟨#[c]⟩ ps):=by
 rw[tj,tj];refine fC ?_;obtain⟨y,r,rfl⟩:=C7 h;rw[jL,A9,A9,A4,A4];rfl
theorem yO (a b c:AC):a++b++c=a++(b++c):=fC (by simp only[A9,A4,B0])
structure Wd (p:AC):Prop where
 b:32∉p.cps.toList
 c:10∉p.cps.toList
 a:Asc p
 l:p.length≤132
theorem a6L {p:AC}(h:(decide (p.length≤132)&&p.cps.toList.all fun c=>decide (c<128)&&decide (c≠32)&&decide (c≠10))=true):Wd p:=by
 rw[BF,Bz] at h;have h4:∀ c∈p.cps.toList,c<128∧c≠32∧c≠10:=fun c hc=>by
  have:=h.2 c hc;rw[BF,BF] at this;exact⟨of_decide_eq_true this.1.1,of_decide_eq_true this.1.2,of_decide_eq_true this.2⟩
 exact⟨fun hc=>(h4 _ hc).2.1 rfl,fun hc=>(h4 _ hc).2.2 rfl,fun c hc=>(h4 c hc).1,of_decide_eq_true h.1⟩
structure BadL (b:Bool)(x:AC):Prop where
 no:paF b x=.none
 c:10∉x.cps.toList
 a:Asc x
 l:x.length≤700
theorem a87 {b:Bool}{ps:List AC}(hne:ps≠[])(hp:∀ p∈ps,Wd p)(hl:ps.length≤5)(no:pF b ps=.none):BadL b (Txt.join ⟨#[32]⟩ ps):=by
 refine⟨?_,?_,a1S (by decide) fun p h=>(hp p h).a,Ac (sJ (k:=5) (B:=132) hl fun y hy=>(hp y hy).l) (by decide)⟩
 ·unfold paF;rw[jU hne fun p h=>(hp p h).b];exact no
 ·rw[tj];exact u6 (by decide) fun p h=>(hp p h).c
structure Lw (b:Bool)(w:AC)(ts:List AC):Prop where
 k:∃ ks,kinds b w=some ks∧ks.length=ts.length
 t:∀ p∈ts,Wd p
 s:∀ p∈ts,p.length≤131
theorem mY {b:Bool}{w:AC}{ks:List AC}(h:kinds b w=some ks):w∈(["join", "leave", "turn", "deed", "pass"]:List AC):=by
 unfold kinds at h
 cases b<;>simp only[Cc,if_false,if_true] at h<;>(repeat' split at h)<;>first|(cases h; done)|(subst_vars; decide)
theorem wV:∀ w∈(["join", "leave", "turn", "deed", "pass"]:List AC),(decide (w.length≤132)&&w.cps.toList.all fun c=>decide (c<128)&&decide (c≠32)&&decide (c≠10))=true∧(∀ b,kinds b (upT w)=none)∧(∀ b,kinds b (("x" : AC)++w)=none)∧(decide ((upT w).length≤132)&&(upT w).cps.toList.all fun c=>decide (c<128)&&decide (c≠32)&&decide (c≠10))=true∧w.length≤5∧w ≠ "" := by
 decide +kernel
variable {b:Bool}{w:AC}{ts:List AC}
theorem Lw.wd (h:Lw b w ts):Wd w:=by
 obtain⟨ks,h1,_⟩:=h.k;exact a6L (wV w (mY h1)).1
theorem Lw.n (h:Lw b w ts):1≤ts.length∧ts.length≤3:=by
 obtain⟨ks,h1,h2⟩:=h.k;have:=a4V h1;omega
theorem Lw.ne (h:Lw b w ts):ts≠[]:=fun e=>by
 have:=h.n.1;rw[e] at this;simp at this
theorem Lw.all (h:Lw b w ts){ps:List AC}(hp:∀ p∈ps,p∈w::ts∨Wd p):∀ p∈ps,Wd p:=fun p hq=>(hp p hq).elim (fun z=>(AT.mp z).elim (fun e=>e▸h.wd) (h.t p)) id
def ln (w:AC)(ts:List AC):AC:=Txt.join ⟨#[32]⟩ (w::ts)
theorem Lw.many (h:Lw b w ts){r:List AC}(hr:∀ p∈r,p∈w::ts∨Wd p)(hl:r.length≠ts.length)(h4:r.length≤4):BadL b (Txt.join ⟨#[32]⟩ (w::r)):=by
 obtain⟨ks,h1,h2⟩:=h.k;refine a87 (A7 _ _) (h.all fun p hp=>(AT.mp hp).elim (fun e=>.inl (e▸Ap ..)) (hr p)) (by rw[Af]; omega) (aCA h1 (by omega))
theorem Lw.first (h:Lw b w ts){v:AC}(hv:Wd v)(hk:kinds b v=none):BadL b (Txt.join ⟨#[32]⟩ (v::ts)):=by
 have:=h.n;exact a87 (A7 _ _) (h.all fun p hp=>(AT.mp hp).elim (fun e=>.inr (e▸hv)) fun z=>.inl (Ak _ z)) (by rw[Af]; omega) (aGA hk)
theorem Lw.odd (h:Lw b w ts){r:List AC}{v:AC}{j:Nat}(hr:∀ p∈r,p∈w::ts∨Wd p)(hl:r.length=ts.length)(hj:r[j]?=some v)(hv:∀ k,thD k v=.none):BadL b (Txt.join ⟨#[32]⟩ (w::r)):=by
 obtain⟨ks,h1,h2⟩:=h.k;have hn:=h.n;have hjl:=(Aq.mp hj).1;refine a87 (A7 _ _) (h.all fun p hp=>(AT.mp hp).elim (fun e=>.inl (e▸Ap ..)) (hr p)) (by rw[Af]; omega) ?_;refine aDO h1 (aM2 (k:=ks[j]'(by omega)) (A0 (by omega)) hj (hv _))
theorem a1G:Wd "" := a6L (by decide +kernel)
def aQ3:List AC:=["01", "-0", "1/1", "2/4", "1/0", "1.5", "x", "+1", "1_0", Txt.mul "9" 61,("1/" : AC)++Txt.mul "9" 61, "/2", "3/"]
theorem aDX:∀ v∈aQ3,(decide (v.length≤132)&&v.cps.toList.all fun c=>decide (c<128)&&decide (c≠32)&&decide (c≠10))=true∧(a6W v.cps.toList).isNone=true∧(whO v.cps.toList).isNone=true:=by decide +kernel
theorem aQD {v:AC}(h:v∈aQ3)(k:AC):thD k v=.none:=by
 obtain⟨_,h1,h2⟩:=aDX v h;unfold thD nmD whD
 split
 ·rw[G7.mp h1]; rfl
 ·rw[G7.mp h2]; rfl
theorem aIF {v:AC}(h:v∈aQ3):Wd v:=a6L (aDX v h).1
theorem aJ3 (h:Lw b w ts){v:AC}(hv:v∈aQ3){a:Nat}(h1:1≤a)(h2:a≤ts.length):BadL b (Txt.join ⟨#[32]⟩ ((w::ts).take a++[v]++(w::ts).drop (a+1))):=by
 obtain⟨a,rfl⟩:∃ k,a=k+1:=⟨a-1,by omega⟩;rw[List.take_succ_cons,List.drop_succ_cons];show BadL b (Txt.join ⟨#[32]⟩ (w::(ts.take a++[v]++ts.drop (a+1))));refine h.odd (v:=v) (j:=a) (fun p hp=>?_) ?_ ?_ (aQD hv)
 ·rcases Aj.mp hp with z|z
  ·rcases Aj.mp z with z|z
   ·exact .inl (Ak _ (CH z))
   ·rw[AW.mp z]; exact .inr (aIF hv)
  ·exact .inl (Ak _ (EE z))
 ·simp; omega
 ·rw[B0,Bj (by simp; omega)];simp[DZ (show a≤ts.length by omega)]
theorem aLQ (h:Lw b w ts):BadL b (Txt.join ⟨#[32]⟩ (w::ts).dropLast):=by
 obtain⟨y,r,e⟩:=C7 h.ne;have hn:=h.n;rw[show(w::ts).dropLast=w::ts.dropLast by rw[e]; rfl];exact h.many (fun p hp=>.inl (Ak _ ((GK _).subset hp))) (by rw[DA]; omega) (by rw[DA]; omega)
theorem aAI (h:Lw b w ts){v:AC}(hv:Wd v):BadL b (ln w ts++(⟨#[32]⟩++v)):=by
 have hn:=h.n;unfold ln;rw[← a65 (A7 _ _)];show BadL b (Txt.join ⟨#[32]⟩ (w::(ts++[v])));exact h.many (fun p hp=>(Aj.mp hp).elim (fun z=>.inl (Ak _ z)) fun z=>.inr (by rw[AW.mp z]; exact hv)) (by rw[Ah,A1]; omega) (by rw[Ah,A1]; omega)
theorem aG2 (h:Lw b w ts):BadL b ((⟨#[32]⟩:AC)++ln w ts):=by
 have hn:=h.n;have e:((⟨#[32]⟩:AC)++ln w ts)=Txt.join ⟨#[32]⟩ (("" : AC)::w::ts):=by
  rw[lW (A7 _ _)];exact fC (by simp only[A9,A4]; rfl)
 rw[e];exact a87 (A7 _ _) (h.all fun p hp=>(AT.mp hp).elim (fun e=>.inr (e▸a1G)) fun z=>.inl z) (by rw[Af,Af]; omega) (aGA (by cases b<;>decide +kernel))
theorem aW7 (h:Lw b w ts):BadL b (("x" : AC)++ln w ts):=by
 obtain⟨ks,h1,_⟩:=h.k;obtain⟨w1,w2,w3,w4,w5,_⟩:=wV w (mY h1);have e:("x" : AC)++ln w ts=Txt.join ⟨#[32]⟩ ((("x" : AC)++w)::ts):=by
  unfold ln;rw[lW h.ne,lW h.ne,yO]
 rw[e];refine h.first ⟨?_,?_,?_,?_⟩ (w3 b)
 ·rw[A9,A4];exact fun z=>(Aj.mp z).elim (by decide +kernel) h.wd.b
 ·rw[A9,A4];exact fun z=>(Aj.mp z).elim (by decide +kernel) h.wd.c
 ·exact(yD (by decide +kernel)).app h.wd.a
 ·rw[CF];have:("x" : AC).length=1:=rfl;omega
theorem aST (h:Lw b w ts):BadL b (upT w++(⟨#[32]⟩++Txt.join ⟨#[32]⟩ ts)):=by
 obtain⟨ks,h1,_⟩:=h.k;obtain⟨w1,w2,w3,w4,w5,_⟩:=wV w (mY h1);rw[← lW h.ne];exact h.first (a6L w4) (w2 b)
theorem aLM (h:Lw b w ts):BadL b w:=by
 have hn:=h.n;exact h.many (r:=[]) (fun _ z=>nomatch z) (by rw[Cm]; omega) (Be _)
theorem aG5 (h:Lw b w ts):BadL b (w++(" -" : AC)):=by
 have hn:=h.n;have e:w++(" -" : AC)=Txt.join ⟨#[32]⟩ [w, "-"]:=by
  rw[lW (A7 _ _)];rfl
 have wm:Wd "-" := a6L (by decide +kernel);rw[e]
 by_cases hl:([("-" : AC)]:List AC).length=ts.length
 ·refine h.odd (v := "-") (j:=0) (fun p hp=>.inr (by rw[AW.mp hp]; exact wm)) hl rfl fun k=>?_;unfold thD nmD whD
  split
  ·rw[show a6W (Du "-").cps.toList=none by decide +kernel]; rfl
  ·rw[show whO (Du "-").cps.toList=none by decide +kernel]; rfl
 ·exact h.many (fun p hp=>.inr (by rw[AW.mp hp]; exact wm)) hl (by decide)
theorem aM0 (h:Lw b w ts):BadL b (ln w ts++(";" : AC)):=by
 have hn:=h.n;have e0:ts=ts.dropLast++[ts.getLast h.ne]:=(List.dropLast_concat_getLast h.ne).symm;have e:ln w ts++(";" : AC)=Txt.join ⟨#[32]⟩ (w::(ts.dropLast++[ts.getLast h.ne++(";" : AC)])):=by
  show _=Txt.join ⟨#[32]⟩ ((w::ts.dropLast)++[ts.getLast h.ne++(";" : AC)]);rw[a65 (A7 _ _)];unfold ln
  conv=>lhs; rw[e0]
  rw[show w::(ts.dropLast++[ts.getLast h.ne])=(w::ts.dropLast)++[ts.getLast h.ne] from rfl,a65 (A7 _ _),yO,yO]
 have wl:=h.t _ (List.getLast_mem h.ne);rw[e];refine h.odd (v:=ts.getLast h.ne++(";" : AC)) (j:=ts.length-1) (fun p hp=>?_) ?_ ?_ fun k=>?_
 ·rcases Aj.mp hp with z|z
  ·exact .inl (Ak _ ((GK _).subset z))
  ·rw[AW.mp z];refine .inr ⟨?_,?_,wl.a.app (yD (by decide +kernel)),?_⟩
   ·rw[A9,A4];exact fun z=>(Aj.mp z).elim wl.b (by decide +kernel)
   ·rw[A9,A4];exact fun z=>(Aj.mp z).elim wl.c (by decide +kernel)
   ·rw[CF];have h1:=h.s _ (List.getLast_mem h.ne);have h2:(";" : AC).length=1:=rfl;omega
 ·rw[Ah,DA,A1]; omega
 ·rw[Bj (by rw[DA]; omega),DA,DG];rfl
 ·refine aK4 (c:=59) ?_ (by decide) (by decide) (by decide);rw[A9,A4];exact BY _ (by decide +kernel)
theorem jT (b:Bool)(x:AC)(h:(match paF b x with|.none=>true|_=>false)=true)(hc:(decide (x.length≤700)&&x.cps.toList.all fun c=>decide (c<128)&&decide (c≠10))=true):BadL b x:=by
 rw[BF,Bz] at hc;refine⟨?_,fun z=>?_,fun c hx=>?_,of_decide_eq_true hc.1⟩
 ·split at h
  ·assumption
  ·cases h
 ·have:=hc.2 10 z;simp at this
 ·have:=hc.2 c hx;rw[BF] at this;exact of_decide_eq_true this.1
theorem aJR (h:Lw b w ts):BadL b (a1K (ln w ts) ⟨#[32]⟩ ⟨#[32,32]⟩):=by
 have hn:=h.n;have hc:(ln w ts).cps.toList=w.cps.toList++32::(Txt.join ⟨#[32]⟩ ts).cps.toList:=by
  unfold ln;rw[lW h.ne,A9,A9,A4,A4];rfl
 have e:a1K (ln w ts) ⟨#[32]⟩ ⟨#[32,32]⟩=Txt.join ⟨#[32]⟩ (w::("" : AC)::ts):=by
  unfold a1K;rw[glued_eq_join,occ_first hc h.wd.b,partsBetween_eq];refine fC ?_
  show(BR ⟨#[32,32]⟩ [D3 (ln w ts) 0 w.cps.toList.length,D3 (ln w ts) (w.cps.toList.length+1) (ln w ts).length]).cps.toList=_
  have e1:(D3 (ln w ts) 0 w.cps.toList.length).cps.toList=w.cps.toList:=by
   show((ln w ts).cps.extract 0 w.cps.toList.length).toList=_
   rw[G8,hc,G9,Es,sub_zero,List.take_left'];rfl
  have e2:(D3 (ln w ts) (w.cps.toList.length+1) (ln w ts).length).cps.toList=(Txt.join ⟨#[32]⟩ ts).cps.toList:=by
   show((ln w ts).cps.extract (w.cps.toList.length+1) (ln w ts).length).toList=_
   have hl:(ln w ts).length=(w.cps.toList++32::(Txt.join ⟨#[32]⟩ ts).cps.toList).length:=by rw[← hc,len_list]
   rw[G8,hc,G9,hl,←Ck,CI];rw[List.drop_append,List.drop_eq_nil_of_le (by omega),B1,Gf];rfl
  show(D3 (ln w ts) 0 w.cps.toList.length++(⟨#[32,32]⟩:AC)++D3 (ln w ts) (w.cps.toList.length+1) (ln w ts).length).cps.toList=_
  rw[lW (A7 _ _),lW h.ne];simp only[A9,A4,e1,e2,B0];rfl
 rw[e];exact h.many (fun p hp=>(AT.mp hp).elim (fun e=>.inr (e▸a1G)) fun z=>.inl (Ak _ z)) (by rw[Af]; omega) (by rw[Af]; omega)
end
section
variable {Q:Rv→Prop}{b:Bool}{w:AC}{ts:List AC}
theorem aVG:MulOk ("9" : AC) 61:=⟨by decide,fun _ _=>by decide +kernel,fun _ _=>by decide +kernel⟩
theorem Lw.sp (h:Lw b w ts):Txt.split (ln w ts) ⟨#[32]⟩=w::ts:=jU (A7 _ _) fun p hp=>(h.all (ps:=w::ts) (fun p hp=>.inl hp) p hp).b
theorem Lw.len (h:Lw b w ts):(ln w ts).length≤600:=by
 have:=h.n;exact Ac (sJ (k:=4) (B:=132) (by rw[Af]; omega) fun y hy=>(h.all (ps:=w::ts) (fun p hp=>.inl hp) y hy).l) (by decide)
theorem aHP {ps:List AC}(hp:∀ p∈ps,Wd p)(hl:ps.length≤5):JoinOk ⟨#[32]⟩ ps=true:=yH (k:=5) (B:=132) hl (fun y hy=>(hp y hy).l) (by decide)
theorem a6S {ds:List D}{k:Nat}{i:Int}(hi:i=(k:Int))(h:k≤ds.length):L2.VS.cutD ds none (some i)=ds.take k:=by
 subst hi;unfold L2.VS.cutD;rw[HT.sIx_nat,HT.sIx_none,Es,DZ h,sub_zero]
theorem yZ {ds:List D}{k:Nat}{i:Int}(hi:i=(k:Int))(h:k≤ds.length):L2.VS.cutD ds (some i) none=ds.drop k:=by
 subst hi;unfold L2.VS.cutD;rw[HT.sIx_nat,HT.sIx_none,DZ h,←Ck,CI]
theorem aOP {ds:List D}:L2.VS.cutD ds none (some (-1))=ds.dropLast:=by
 unfold L2.VS.cutD;rw[HT.sIx_none,Es,sub_zero,List.dropLast_eq_take];have e:HT.sIx ds.length ds.length (some (-1))=ds.length-1:=by
  show(if (-1:Int)<0 then(-1+(ds.length:Int)).toNat else min (-1:Int).toNat ds.length)=_
  rw[if_pos (by decide)];omega
 rw[e]
theorem a74 {xs:List AC}{z:Int}(h0:0≤z)(h1:z<xs.length):∃ v∈xs,ixD (.list (xs.map Ad)) (.int z)=some (.str v):=by
 obtain⟨k,rfl⟩:∃ k:Nat,z=k:=⟨z.toNat,by omega⟩;have hk:k<xs.length:=by omega
 refine⟨xs[k],B6 hk,?_⟩;show atI (xs.map Ad) (k:Int)=_;unfold atI ixN;rw[AO,if_pos (by omega)];simp[hk]
theorem aPY (h:Lw b w ts):aHV (ln w ts) (some (w.length:Int)) none=⟨#[32]⟩++Txt.join ⟨#[32]⟩ ts:=by
 have hc:(ln w ts).cps.toList=w.cps.toList++((⟨#[32]⟩:AC)++Txt.join ⟨#[32]⟩ ts).cps.toList:=by
  unfold ln;rw[lW h.ne,A9,A4]
 have e:aHV (ln w ts) (some (w.length:Int)) none=StrLaws.sliceText (ln w ts) (some (w.length:Int)) none:=rfl;have hl:w.length=w.cps.toList.length:=(len_list w).symm;rw[e,G4 ⟨by omega,by rw[hc,Ah,hl]; omega⟩];refine fC ?_;show List.take _ (List.drop _ _)=_;rw[hc,Ah,hl,Dc,List.drop_left,List.take_of_length_le];omega
theorem aIU (h:Lw b w ts):(ln w ts).cps.toList=w.cps.toList++32::(Txt.join ⟨#[32]⟩ ts).cps.toList:=by
 unfold ln;rw[lW h.ne,A9,A9,A4,A4];rfl
theorem aS6 (h:Lw b w ts):((ln w ts).length==0)=false:=by
 refine beq_eq_false_iff_ne.mpr fun z=>?_;rw[← len_list,aIU h,Ah,Af] at z;omega
theorem aWM:(("  " : AC))=⟨#[32,32]⟩:=rfl
theorem aO5 (h:Lw b w ts):(upT w).length≤132:=by
 obtain⟨ks,h1,_⟩:=h.k;exact(a6L (wV w (mY h1)).2.2.2.1).l
theorem aED (b:Bool)(x y:AC):ixD (.list [.str x,.str y]) (.int (if (!b)=true then 1 else 0))=some (.str (if b then x else y)):=by
 cases b<;>rfl
theorem a9P (h:Lw b w ts)(q:∀ x,BadL b x→Q (.val (.str x))):j6 [.pen,.val (.bool b),.val (.str (ln w ts))] Q:=by
 have hn:=h.n;have sp:=h.sp;have hll:=h.len;have wl:=h.wd.l;refine lG ?_;unfold lV;walk_at "!)aĎ%ď$";rw[aIN];refine a4Q rfl (by omega) (by rw[sp]; simp; omega) ?_;rw[sp];walk_at "!)*$Q*=";refine cN (d:=.int ((ts.length:Int)+1)) (by simp[a9Y]) ?_;walk_at "!$(";refine dX (by omega) (by omega) fun a a0 a1=>?_;walk_at "!)H^^^^C&#ō$Ŏ$";refine aOU aVG ?_;walk_at "!&|$}ō$Ŏ$";refine aOU aVG ?_;skip;refine a1X (by decide +kernel) ?_;walk_at "!^,)#Đ$đccĀ%bğ/_:%9";refine dX (by decide) (by decide) fun o o0 o1=>?_;obtain⟨v,hv,ev⟩:=a74 (xs:=aQ3) o0 o1;obtain⟨k,rfl⟩:∃ k:Nat,a=k:=⟨a.toNat,by omega⟩;walk_at "!#";refine cN (d:=.str v) ev ?_;rw[a6S (k:=k+1) (by omega) (by rw[AO,Af]; omega)];walk_at "!,";refine⟨by rw[BK]; simp; omega,?_⟩;walk_at "!Ā{*Ćb#";rw[yZ (k:=k+2) (by omega) (by rw[AO,Af]; omega)];refine⟨by simp; omega,?_⟩;have e6:List.take (k+1) (B4 Ad (w::ts))++[Ad v]++List.drop (k+2) (B4 Ad (w::ts))=((w::ts).take (k+1)++[v]++(w::ts).drop (k+1+1)).map Ad:=by
  rw[BA,BA,DX,DW];rfl
 rw[e6];have b0:=aJ3 h hv (a:=k+1) (by omega) (by omega);refine a8Z (aHP (h.all fun p hp=>?_) (by simp; omega)) ?_
 ·rcases Aj.mp hp with z|z
  ·rcases Aj.mp z with z|z
   ·exact .inl (CH z)
   ·rw[AW.mp z]; exact .inr (aIF hv)
  ·exact .inl (EE z)
 revert b0
 generalize Txt.join ⟨#[32]⟩ ((w::ts).take (k+1)++[v]++(w::ts).drop (k+1+1))=x0;intro b0;walk_at "!):H^1Ēē/";refine cN (aED b _ _) ?_;have b7:BadL b (if b then("pass 1 0" : AC) else "join 1 2 3"):=by
  cases b
  ·exact jT false "join 1 2 3" (by decide +kernel) (by decide +kernel)
  ·exact jT true "pass 1 0" (by decide +kernel) (by decide +kernel)
 revert b7
 generalize (if b then("pass 1 0" : AC) else "join 1 2 3")=x7;intro b7;walk_at "!)H5&#Đ$đĀ%bğĔI";rw[aOP,←List.map_dropLast];have b1:=aLQ h;refine a8Z (aHP (h.all fun p hp=>.inl ((GK _).subset hp)) (by rw[DA,Af]; omega)) ?_;walk_at "!&|%}$";refine a1X (by rw[CF]; have:AC.length (" 1" : AC)=2:=rfl; omega) ?_;walk_at "!&|%}$";refine a1X (by rw[CF]; have:AC.length (⟨#[32]⟩:AC)=1:=rfl; omega) ?_;walk_at "!&ŵ$%";refine aRZ rfl (aS6 h) (by rw[CF]; have:AC.length (⟨#[32]⟩:AC)=1:=rfl; omega) ?_;have b5:=aJR h;have l5:=b5.l;walk_at "!&";rw[aWM];refine⟨ln w ts,rfl,by rw[occ_first (aIU h) h.wd.b]; rfl,rfl,by decide +kernel,by have:AC.length (⟨#[32,32]⟩:AC)=2:=rfl; omega,by omega,?_⟩
 revert b5
 generalize a1K (ln w ts) ⟨#[32]⟩ ⟨#[32,32]⟩=x5;intro b5
 revert b1
 generalize Txt.join ⟨#[32]⟩ (w::ts).dropLast=x1;intro b1;walk_at "!C5,)c%_#|Ŷ3";refine cN (aJW _ _) ?_;skip;refine aUU (by have:=aO5 h; omega) ?_;walk_at "!}Ŋ{ŉ3";refine cN (aJW _ _) ?_;skip;refine aQ5 (by omega) ?_;walk_at "!b";refine aHX (by omega) ?_;rw[aPY h];skip;have b2:BadL b (ln w ts++(" 1" : AC)):=by
  have:=aAI h (v := "1") (a6L (by decide +kernel));rwa[show(⟨#[32]⟩:AC)++("1" : AC) = " 1" by decide +kernel] at this
 have b3:BadL b (ln w ts++(⟨#[32]⟩:AC)):=by
  have:=aAI h (v := "") a1G;rwa[show(⟨#[32]⟩:AC)++("" : AC)=⟨#[32]⟩ by decide +kernel] at this
 have b4:=aG2 h;have b6:BadL b "" := by
  cases b
  ·exact jT false "" (by decide +kernel) (by decide +kernel)
  ·exact jT true "" (by decide +kernel) (by decide +kernel)
 have b8:=aST h;have b9:=aW7 h;have ba:=aLM h;have bb:=aG5 h;have bc:=aM0 h;refine a1X (Ac b8.l (by decide)) ?_
 revert b2 b3 b4 b6 b8 b9 ba bb bc
 generalize upT w++(⟨#[32]⟩++Txt.join ⟨#[32]⟩ ts)=x8;generalize ln w ts++(" 1" : AC)=x2;generalize ln w ts++(⟨#[32]⟩:AC)=x3;generalize (⟨#[32]⟩:AC)++ln w ts=x4;intro b2 b3 b4 b6 b8 b9 ba bb bc;walk_at "!&|$}%";refine a1X (Ac b9.l (by decide)) ?_;walk_at "!&3";refine cN (aJW _ _) ?_;walk_at "!&|3";refine cN (aJW _ _) ?_;walk_at "!}$";refine a1X (Ac bb.l (by decide)) ?_;walk_at "!&|%}$";refine a1X (Ac bc.l (by decide)) ?_
 revert b9 bb bc
 generalize ("x" : AC)++ln w ts=x9;generalize w++(" -" : AC)=xb;generalize ln w ts++(";" : AC)=xc;intro b9 bb bc;walk_at "!,Į)c%_:H^1Ēē/";refine cN (aED b _ _) ?_;walk_at "!&:H^1Ēē/";refine cN (aED b _ _) ?_;walk_at "!,Į8:%9";refine dX (by decide) (by decide) fun z z0 z1=>?_;walk_at "!#";have bd:BadL b (if b then("leave 1 -1" : AC) else "deed -1"):=by
  cases b
  ·exact jT false "deed -1" (by decide +kernel) (by decide +kernel)
  ·exact jT true "leave 1 -1" (by decide +kernel) (by decide +kernel)
 have be:BadL b (if b then("turn 1 1/2 0" : AC) else "pass 1 1/2"):=by
  cases b
  ·exact jT false "pass 1 1/2" (by decide +kernel) (by decide +kernel)
  ·exact jT true "turn 1 1/2 0" (by decide +kernel) (by decide +kernel)
 obtain⟨u,hu,eu⟩:=a74 (xs:=[x0,x1,x2,x3,x4,x5, "", x7,x8,x9,w,xb,xc,(if b then("leave 1 -1" : AC) else "deed -1"),(if b then("turn 1 1/2 0" : AC) else "pass 1 1/2")]) z0 z1;refine cN eu ?_;refine q u ?_;simp only[AT,Av,or_false] at hu;rcases hu with rfl|rfl|rfl|rfl|rfl|rfl|rfl|rfl|rfl|rfl|rfl|rfl|rfl|rfl|rfl<;>assumption
end
def Deed.rw:Deed→Rw
 | .join t p m=>⟨"join", [.num t,.num p,.num m]⟩
 | .leave t r=>⟨"leave", [.num t,.whole r]⟩
 | .turn t r m=>⟨"turn", [.num t,.whole r,.num m]⟩
theorem aWP (d:Deed):d.rw.d=cV d:=by cases d<;>rfl
theorem a4W (ds:List Deed):ds.map cV=(ds.map Deed.rw).map Rw.d:=by
 rw[B7];exact GG fun d _=>(aWP d).symm
theorem a1Z {q:Rat}(h:a7M q):tZ q:=⟨B2 h.1 (by decide),B2 h.2 (by decide)⟩
theorem zH:∀(ds:List Deed) (s:Rn),(ds.foldl stp s).ls.length≤s.ls.length+ds.length
 | [],s=>AV _
 | d::ds,s=>by
  have h1:=zH ds (stp s d);have h2:=aAT s d
  show(ds.foldl stp (stp s d)).ls.length≤_
  rw[Af]; omega
theorem a3L (ds:List Deed):(run ds).ls.length≤ds.length:=by
 have h:(run ds).ls.length≤([]:List Ln).length+ds.length:=zH ds ⟨[],[]⟩;rw[Cm] at h;omega
theorem aA2 {ds:List Deed}(h:LogB ds)(hl:ds.length≤40):∀ w∈ds.map Deed.rw,w.Ok rQ:=fun w hw=>by
 obtain⟨d,hd,rfl⟩:=Ax.mp hw;obtain⟨n,hn⟩:=EA hd;have ok:=h.ok n d hn;have nm:=h.nm d hd;have rl:∀ r∈(run (ds.take n)).rs,r<10^60:=fun r hr=>by
  have h1:=(a0B (ds.take n)).lt r hr;have h2:=a3L (ds.take n);rw[BK] at h2;exact As (show r<40 by omega) (by decide)
 cases d with
 | join t p m=>
  refine Rw.mk_ok rfl (fun x hx=>?_) (show 3≤3 by decide) (by decide +kernel);simp only[AT,Av,or_false] at hx;rcases hx with rfl|rfl|rfl
  ·exact a1Z nm.1
  ·exact a1Z nm.2.1
  ·exact a1Z nm.2.2
 | leave t r=>
  refine Rw.mk_ok rfl (fun x hx=>?_) (show 2≤3 by decide) (by decide +kernel);simp only[AT,Av,or_false] at hx;rcases hx with rfl|rfl
  ·exact a1Z nm
  ·exact rl r ok
 | turn t r m=>
  refine Rw.mk_ok rfl (fun x hx=>?_) (show 3≤3 by decide) (by decide +kernel);simp only[AT,Av,or_false] at hx;rcases hx with rfl|rfl|rfl
  ·exact a1Z nm.1
  ·exact rl r ok
  ·exact a1Z nm.2
section
variable {b:Bool}
theorem aD5 {ls:List AC}(hne:ls≠[])(hp:∀ p∈ls,10∉p.cps.toList)(h1:ls≠[("" : AC)]):lnF (Txt.join ⟨#[10]⟩ ls)=ls:=by
 have sp:=jU hne hp;unfold lnF;rw[if_neg fun z=>?_,sp];rw[z,show Txt.split ("" : AC) ⟨#[10]⟩=[("" : AC)] from by decide +kernel] at sp;exact h1 sp.symm
structure Ls (ls:List AC):Prop where
 ne:ls≠[]
 c:∀ p∈ls,10∉p.cps.toList
 e:ls≠[("" : AC)]
 s:∀ p∈ls,Asc p∧p.length≤700
 n:ls.length≤45
theorem Ls.tx {ls:List AC}(h:Ls ls):TxOk (Txt.join ⟨#[10]⟩ ls):=by
 have e:=aD5 h.ne h.c h.e;refine⟨a1S (by decide) fun p hp=>(h.s p hp).1,Ac (sJ (k:=45) (B:=700) h.n fun y hy=>(h.s y hy).2) (by decide),by rw[e]; exact h.n,by rw[e]; exact h.s⟩
theorem Ls.rd {ls:List AC}(h:Ls ls):rdF b (Txt.join ⟨#[10]⟩ ls)=ls.map (paF b):=by unfold rdF; rw[aD5 h.ne h.c h.e]
theorem aGQ {ds:List D}{n:Nat}(hn:ds[n]?=some .none)(h:∀ j,j<n→∀ d,ds[j]?=some d→Ae d .none=false):jB ds=true∧a0K ds=n:=by
 have hl:=(Aq.mp hn).1;have e:=(Aq.mp hn).2;constructor
 ·unfold jB;exact D5.mpr ⟨.none,BP hn,rfl⟩
 ·unfold a0K;rw[List.findIdx_eq hl];refine⟨by rw[e]; rfl,fun j hj=>?_⟩;exact h j hj _ (A0 (DF hj hl))
theorem a0H {ls:List AC}{n:Nat}{x:AC}(h:Ls ls)(hn:ls[n]?=some x)(hx:paF b x=.none)(hj:∀ j,j<n→∀ p,ls[j]?=some p→Ae (paF b p) .none=false):a0S b (.str (Txt.join ⟨#[10]⟩ ls)) (.text n):=by
 have f:=aGQ (ds:=ls.map (paF b)) (n:=n) (by rw[Ao,hn]; exact congrArg some hx) fun j hj' d hd=>by
  rw[Ao] at hd;obtain⟨p,hp,rfl⟩:=CN.mp hd;exact hj j hj' p hp
 intro xa c Q q;have q:Q (aKP xa n):=q
 cases b with
 | true=>
  rw[if_pos rfl];refine aCJ h.tx ?_;unfold aAA;rw[h.rd,if_pos f.1,f.2];exact q
 | false=>
  rw[if_neg BB];refine aI5 h.tx ?_;unfold aAA;rw[h.rd,if_pos f.1,f.2];exact q
theorem aGC {d:D}(hd:a0Y (jF d) "str" = false):a0S b d (.text 0):=by
 intro xa c Q q;have q:Q (aKP xa 0):=q
 cases b with
 | true=>rw[if_pos rfl]; exact aD1 hd q
 | false=>rw[if_neg BB]; exact aD3 hd q
variable {ws:List Rw}
theorem yS (hne:ws≠[])(hl:ws.length≤41)(h:∀ w∈ws,w.Ok (fsB b)):Ls (ws.map Rw.tx):=by
 refine⟨fun z=>hne (EC.mp z),fun p hp=>?_,fun z=>?_,fun p hp=>?_,by rw[AO]; omega⟩
 ·obtain⟨w,hw,rfl⟩:=Ax.mp hp;exact Rw.lf (h w hw)
 ·match ws,hne,z with
  | w::r,_,z=>
   injection z with q _;exact Rw.ne (h w (Ap ..)) q
 ·obtain⟨w,hw,rfl⟩:=Ax.mp hp;exact⟨Rw.asc (h w hw),Ac (Rw.tx_len (h w hw)) (by decide)⟩
theorem aEA (hne:ws≠[])(hl:ws.length≤41)(h:∀ w∈ws,w.Ok (fsB b)):rdF b (bkT ws)=ws.map Rw.d∧jB (ws.map Rw.d)=false:=by
 constructor
 ·show rdF b (Txt.join ⟨#[10]⟩ (ws.map Rw.tx))=_;rw[(yS hne hl h).rd,B7];exact GG fun w hw=>aA5 (h w hw)
 ·unfold jB;rw[any_map,Er];intro w _;exact BB
theorem a9L (hne:ws≠[])(hl:ws.length≤41)(h:∀ w∈ws,w.Ok (fsB false)):a0S false (.str (bkT ws)) .read:=by
 intro xa c Q q;obtain⟨e1,e2⟩:=aEA hne hl h;rw[if_neg BB];refine aI5 (yS hne hl h).tx ?_;unfold aAA;rw[e1,e2,if_neg BB];exact q _ aJD
theorem a4M {ds:List Deed}(hne:ds≠[])(hl:ds.length≤40)(lb:LogB ds):a0S true (.str (bkT (ds.map Deed.rw))) .read:=by
 intro xa c Q q;have hn:ds.map Deed.rw≠[]:=fun z=>hne (EC.mp z);have h41:(ds.map Deed.rw).length≤41:=by rw[AO]; omega
 have ok:∀ w∈ds.map Deed.rw,w.Ok (fsB true):=aA2 lb hl;obtain⟨e1,e2⟩:=aEA hn h41 ok;rw[if_pos rfl];refine aCJ (yS hn h41 ok).tx ?_;unfold aAA;rw[e1,e2,if_neg BB,←a4W];have:=a4I (xa:=xa) (c:=c) (r:=[]) (Q:=Q) lb hl (q _ aKR);rwa[Bb] at this
theorem a4G {ds:List Deed}{x:D}{r:List D}(hne:ws≠[])(hl:ws.length≤41)(h:∀ w∈ws,w.Ok (fsB true))(e:ws.map Rw.d=ds.map cV++x::r)(lb:LogB ds)(h40:ds.length≤40)(hb:ds.length=40∨Bad ds x):a0S true (.str (bkT ws)) (.log ds.length):=by
 intro xa c Q q;have q:Q (aRN xa ds.length):=q;obtain⟨e1,e2⟩:=aEA hne hl h;rw[if_pos rfl];refine aCJ (yS hne hl h).tx ?_;unfold aAA;rw[e1,e2,if_neg BB,e];exact a4I lb h40 ⟨hb,q⟩
theorem aUT {w:Rw}(h:w.Ok (fsB b)):Lw b w.w (w.ps.map Pk.tx):=by
 have hp:∀ p∈w.ps.map Pk.tx,Wd p∧p.length≤131:=fun p hp=>by
  obtain⟨k,hk,rfl⟩:=Ax.mp hp;have hl:k.tx.length≤131:=by
   have ok:=h.p k hk
   cases k with
   | whole n=>exact Ac (tx_len n ok) (by decide)
   | num r=>exact Ac (a7T ok) (by decide)
  exact⟨⟨Pk.free (by decide),Pk.free (by decide),Pk.asc k,by omega⟩,hl⟩
 exact⟨⟨_,kinds_ok h,by rw[AO,AO]⟩,fun p z=>(hp p z).1,fun p z=>(hp p z).2⟩
end
section
variable {Q:Rv→Prop}{b:Bool}{ws:List Rw}
theorem xK {ls:List AC}(h:∀ p∈ls,Asc p):Good (.list (ls.map Ad)):=(a73 (n:=0) fun d hd=>by
 obtain⟨p,hp,rfl⟩:=Ax.mp hd;exact a9U (h p hp)).good
theorem cP (o:Out):Good o.d:=by
 have st:∀(x:AC) (d:D),Asc x→Gd 0 d→Good (.tuple [.str x,d]):=fun x d hx hd=>(a4C (n:=0) fun e he=>by
  simp only[AT,Av,or_false] at he;rcases he with rfl|rfl
  ·exact a9U hx
  ·exact hd).good
 cases o with
 | read=>exact st _ _ (ad _) gd_none
 | text n=>exact st _ _ (ad _) (vD _)
 | log n=>exact st _ _ (ad _) (vD _)
theorem aQZ (hne:ws≠[])(hl:ws.length≤40)(h:∀ w∈ws,w.Ok (fsB b))(q:Q (.val (.bool true))):gA [.pen,.val (.bool b),.val (.str (bkT ws))] Q:=by
 have sp:=a7G hne h;have lsk:=yS hne (by omega) h;have hbl:=aIT hl h;have hw0:0<ws.length:=DB.mpr hne;refine lG ?_;unfold jN;walk_at "!)aĎ%ď$";rw[lf1];refine a4Q rfl (by omega) (by rw[sp,AO]; omega) ?_;rw[sp];walk_at "!)Q=";refine cN (d:=.int (ws.length:Int)) (by simp[a9Y]) ?_;walk_at "!(";refine dX (by omega) (by omega) fun a a0 a1=>?_;obtain⟨k,rfl⟩:∃ k:Nat,a=k:=⟨a.toNat,by omega⟩;have hk:k<ws.length:=by omega
 walk_at "!nŏcĀ%bğ/_Qę:į";rw[a6S (k:=k) rfl (by rw[AO,AO]; omega)];skip;refine cN (d:=.str (ws[k]).tx) (by
  show atI _ (k:Int)=_;unfold atI ixN;rw[if_pos (by omega)];simp[hk]) ?_
 walk_at "!(";have okk:=h _ (B6 hk);refine a9P (w:=(ws[k]).w) (ts:=(ws[k]).ps.map Pk.tx) (aUT okk) fun x hx=>?_;have xw:∀ w∈ws,10∉w.tx.cps.toList∧Asc w.tx∧w.tx.length≤700:=fun w hw=>⟨Rw.lf (h w hw),Rw.asc (h w hw),Ac (Rw.tx_len (h w hw)) (by decide)⟩;have fin:∀ ls:List AC,ls≠[]→ls.length≤45→(∀ p∈ls,10∉p.cps.toList∧Asc p∧p.length≤700)→ls[k]?=some x→(∀ j,j<k→∀ p,ls[j]?=some p→∃ w∈ws,p=w.tx) →
   gO [.pen,.val (.bool b),.val (.str (bkT ws)),.val (.list ((ws.map Rw.tx).map Ad)),.val (.int (k:Int)),.own (ls.map Ad)] fun fl=>match fl with|.rt rv=>Q rv|.nx _=>Q (.val .none)|_=>False:=fun ls l1 l2 l3 l4 l5=>by
  unfold gO;walk_at "!>īXA%HC1";refine⟨xK fun p hp=>(l3 p hp).2.1,xK (ls:=[""]) (fun p hp=>by rw[AW.mp hp]; exact ad _),?_⟩
  cases hv:Ae (.list (ls.map Ad)) (.list [.str ""]) with
  | true=>
   walk_at "!Z";exact q
  | false=>
   have le:ls≠[("" : AC)]:=fun z=>by
    rw[z] at hv;rw[show Ae (.list (B4 Ad [("" : AC)])) (.list [.str ""])=true from iZ (xK (ls:=[""]) (fun p hp=>by rw[AW.mp hp]; exact ad _))] at hv
    cases hv
   walk_at "!J";unfold kW;walk_at "!ŷ8zw#Đ$đ%";rw[lf1];refine a8Z (yH (k:=45) (B:=700) l2 (fun y hy=>(l3 y hy).2.2) (by decide)) ?_;walk_at "!(";have hh:a0S b (.str (Txt.join ⟨#[10]⟩ ls)) (.text k):=a0H ⟨l1,fun p hp=>(l3 p hp).1,le,fun p hp=>(l3 p hp).2,l2⟩ l4 hx.no fun j hj p hp=>by
    obtain⟨w,hw,rfl⟩:=l5 j hj p hp;rw[aA5 (h w hw)];rfl
   refine qG hh ?_;walk_at "!g1";refine⟨cP _,cP (.text k),?_⟩;rw[show Ae (Out.text k).d (.tuple [.str "text", .int (k:Int)])=true from iZ (cP (.text k))];exact q
 walk_at "!1";refine⟨by simp; omega,?_⟩;walk_at "!Ā{*Ćb#";rw[yZ (k:=k+1) (by omega) (by rw[AO,AO]; omega)];refine⟨by simp; omega,?_⟩;have e5:List.take k (B4 Ad (B4 Rw.tx ws))++[Ad x]++List.drop (k+1) (B4 Ad (B4 Rw.tx ws))=((ws.take k).map Rw.tx++[x]++(ws.drop (k+1)).map Rw.tx).map Ad:=by
  rw[BA,BA,←DX,←DX,←DW,←DW];rfl
 rw[e5];have ml:∀ p∈(ws.take k).map Rw.tx++[x]++(ws.drop (k+1)).map Rw.tx,10∉p.cps.toList∧Asc p∧p.length≤700:=fun p hp=>by
  rcases Aj.mp hp with z|z
  ·rcases Aj.mp z with z|z
   ·obtain⟨w,hw,rfl⟩:=Ax.mp z;exact xw w (CH hw)
   ·rw[AW.mp z];exact⟨hx.c,hx.a,hx.l⟩
  ·obtain⟨w,hw,rfl⟩:=Ax.mp z;exact xw w (EE hw)
 have tl:((ws.take k).map Rw.tx).length=k:=by rw[AO,BK]; omega
 have ll:((ws.take k).map Rw.tx++[x]++(ws.drop (k+1)).map Rw.tx).length=ws.length:=by
  rw[Ah,Ah,tl,AO,Ck,A1];omega
 have lk:((ws.take k).map Rw.tx++[x]++(ws.drop (k+1)).map Rw.tx)[k]?=some x:=by
  rw[B0,Bj (by omega),tl,DG];rfl
 have lj:∀ j,j<k→∀ p,((ws.take k).map Rw.tx++[x]++(ws.drop (k+1)).map Rw.tx)[j]?=some p→∃ w∈ws,p=w.tx:=fun j hj p hp=>by
  rw[B0,BN (by omega)] at hp;obtain⟨w,hw,rfl⟩:=Ax.mp (BP hp);exact⟨w,CH hw,rfl⟩
 revert ml ll lk lj
 generalize (ws.take k).map Rw.tx++[x]++(ws.drop (k+1)).map Rw.tx=ls;intro ml ll lk lj;have lne:ls≠[]:=fun z=>by rw[z] at lk; cases lk
 walk_at "!Ă9";refine dX (by decide) (by decide) fun r r0 r1=>?_;walk_at "!N";refine gF (fun _=>?_) (fun _=>?_)
 ·walk_at "!R$";refine vJ (ds:=ls.map Ad) rfl (by rw[AO]; omega) ?_;have:=fin (ls++[("x" : AC)]) (List.append_ne_nil_of_left_ne_nil lne _) (by rw[Ah,A1]; omega) (fun p hp=>(Aj.mp hp).elim (ml p) fun z=>by
   rw[AW.mp z];exact⟨by decide +kernel,ad _,by decide⟩) (by rw[BN (by omega)]; exact lk) (fun j hj p hp=>lj j hj p (by rwa[BN (by omega)] at hp))
  rw[BA] at this;exact this
 ·walk_at "!G";exact fin ls lne (by omega) ml lk lj
end
section
variable {Q:Rv→Prop}{ds:List Deed}
theorem aD6 {xs:List D}{k:Nat}{x:D}(h:xs[k]?=some x):ixD (.list xs) (.int (k:Int))=some x:=by
 have hk:=(Aq.mp h).1;show atI xs (k:Int)=_;unfold atI ixN;rw[if_pos (by omega)];simp[hk,(Aq.mp h).2]
theorem aQ8 (d:Deed):ixD (cV d) (.int 1)=some (cO d.t):=by cases d<;>rfl
theorem aF6 (n:Nat)(h:n<10^60):Rw.Ok (fsB false) ⟨"deed", [.whole n]⟩:=by
 refine Rw.mk_ok rfl (fun x hx=>?_) (show 1≤3 by decide) (by decide +kernel);rw[AW.mp hx];exact h
theorem aKB {t:Rat}(n:Nat)(ht:tZ t)(h:n<10^60):Rw.Ok (fsB false) ⟨"pass", [.num t,.whole n]⟩:=by
 refine Rw.mk_ok rfl (fun x hx=>?_) (show 2≤3 by decide) (by decide +kernel);simp only[AT,Av,or_false] at hx;rcases hx with rfl|rfl
 ·exact ht
 ·exact h
theorem DeedN.t {d:Deed}(h:DeedN d):a7M d.t:=by
 cases d with
 | join t p m=>exact h.1
 | leave t r=>exact h
 | turn t r m=>exact h.1
theorem aN2 (hl:ds.length≤40)(hd:∀ d∈ds,DeedN d)(q:∀ ws:List Rw,ws.length=ds.length→(∀ w∈ws,w.Ok (fsB false))→Q (.own (ws.map Rw.d))):oZ [.pen,.val (.list (ds.map cV))] Q:=by
 refine lG ?_;unfold uO;walk_at "!nă,oĖ&=";refine cN (d:=.int (ds.length:Int)) (by simp[a9Y]) ?_;walk_at "!f";refine⟨by omega,by omega,?_⟩;refine tQ (fun j Γ=>∃(ws:List Rw) (x:Sl),Γ=[.pen,.val (.list (ds.map cV)),.own (ws.map Rw.d),x]∧ws.length=j∧∀ w∈ws,w.Ok (fsB false)) ⟨[],_,rfl,rfl,fun _ h=>nomatch h⟩ ?_ ?_
 ·rintro j Γ K hj ⟨ws,x,rfl,hw,ok⟩ hK;have hj:j<ds.length:=by omega
  have nx:∀(w:Rw) (x:Sl),w.Ok (fsB false)→K (.nx [.pen,.val (.list (ds.map cV)),.own (ws.map Rw.d++[w.d]),x]):=fun w x hw'=>by
   have e:ws.map Rw.d++[w.d]=(ws++[w]).map Rw.d:=by rw[BA]; rfl
   rw[e];exact hK.nx _ ⟨ws++[w],x,rfl,by rw[Ah,A1,hw],fun v hv=>(Aj.mp hv).elim (ok v) fun z=>by rw[AW.mp z]; exact hw'⟩
  unfold sH;walk_at "!;XA9";refine dX (by decide) (by decide) fun r r0 r1=>?_;walk_at "!N";refine gF (fun _=>?_) (fun _=>?_)
  ·walk_at "!Ru9";refine dX (by decide) (by decide) fun u u0 u1=>?_;walk_at "!1";refine vJ (ds:=ws.map Rw.d) rfl (by rw[AO]; omega) ?_;obtain⟨n,rfl⟩:∃ n:Nat,u=n:=⟨u.toNat,by omega⟩;exact nx ⟨"deed", [.whole n]⟩ _ (aF6 n (As (show n<40 by omega) (by decide)))
  ·walk_at "!Ru::%%";refine cN (d:=cV ds[j]) (by rw[Int.zero_add]; exact aD6 (by rw[Ao,A0 hj]; rfl)) ?_;walk_at "!$";refine cN (aQ8 _) ?_;walk_at "!&9";refine dX (by decide) (by decide) fun u u0 u1=>?_;walk_at "!1";refine vJ (ds:=ws.map Rw.d) rfl (by rw[AO]; omega) ?_;obtain⟨n,rfl⟩:∃ n:Nat,u=n:=⟨u.toNat,by omega⟩;exact nx ⟨"pass", [.num (ds[j]).t,.whole n]⟩ _ (aKB n (a1Z (hd _ (B6 hj)).t) (As (show n<9 by omega) (by decide)))
 ·rintro Γ ⟨ws,x,rfl,hw,ok⟩;unfold tH;walk_at "!ċł#";exact q ws (by omega) ok
def ftT (t:Rat)(k:Nat):Deed:=.turn t 0 (((((k:Int)%7)-3:Int)):Rat)
def ftL (t p m:Rat)(n:Nat):List Deed:=.join t p m::(B8 n).map (ftT t)
theorem aD8 (t p m:Rat)(n:Nat):ftL t p m (n+1)=ftL t p m n++[ftT t n]:=by
 unfold ftL;rw[List.range_succ,BA];rfl
theorem aA0 (t p m:Rat):∀ n,(run (ftL t p m n)).rs=[0]
 | 0=>rfl
 | n+1=>by
  rw[aD8,wQ];exact aA0 t p m n
theorem aPX (t p m:Rat)(n:Nat):(ftL t p m n).length=n+1:=by unfold ftL; rw[Af,AO,DV]
theorem aVL {t p m:Rat}{n:Nat}:∀ e∈ftL t p m n,e.t=t:=fun e he=>by
 rcases AT.mp he with rfl|he
 ·rfl
 ·obtain⟨k,_,rfl⟩:=Ax.mp he;rfl
theorem a7C {z:Int}(h:z.natAbs≤100):G1 (2^45) (z:Rat):=⟨z*27720,by rw[Cb]; rfl,by rw[Db]; show z.natAbs*27720≤_; omega⟩
theorem aDF {t p m:Rat}(hz:DeedZ (.join t p m))(hn:DeedN (.join t p m)):∀ n,LogB (ftL t p m n)
 | 0=>LogB.snoc (ds:=[]) ⟨fun n d h=>(by cases n<;>cases h),Ef.nil,fun d h=>(nomatch h),fun d h=>(nomatch h),fun n d h=>(by cases n<;>cases h)⟩ trivial (show(0:Nat)<8 by decide) (fun e h=>(nomatch h)) hz hn
 | n+1=>by
  rw[aD8];refine LogB.snoc (aDF hz hn n) ?_ trivial (fun e he=>by rw[aVL e he]; exact Rat.le_refl) ⟨hz.1,a7C (by omega)⟩ ⟨hn.1,⟨?_,?_⟩⟩
  ·show 0∈(run (ftL t p m n)).rs;rw[aA0];exact AW.mpr rfl
  ·show((n:Int)%7-3).natAbs≤999999999
   omega
  ·show 1≤12;decide
theorem aK3 {t p m:Rat}(hz:DeedZ (.join t p m))(hn:DeedN (.join t p m))(q:Q (.val (.bool true))):fO [.val (cV (.join t p m))] Q:=by
 have lb:=aDF hz hn 39;have h40:(ftL t p m 39).length=40:=aPX t p m 39;refine lG ?_;unfold iR;walk_at "!)cH51aĹĖCf";refine⟨by decide,by decide,by decide,?_⟩;refine qM (α:=Nat) (fun _=>true) (fun k=>cV (ftT t k)) (fun k=>.int (0+(k:Int))) (B8 39) [] _ (fun k _ _ kk k0 h1 h0=>?_) ?_
 ·walk_at "!;";refine aFM ?_;walk_at "!.u3";refine cN (aQ8 _) ?_;walk_at "!C&P&*āM";rw[Int.zero_add];refine⟨by decide,?_⟩;walk_at "!$m,";exact h1 rfl
 rw[DU.mpr fun _ _=>rfl,B1];have e1:[cV (.join t p m)]++(B8 39).map (fun k=>cV (ftT t k))=((ftL t p m 39).map Deed.rw).map Rw.d:=by
  rw[← a4W];unfold ftL;rw[A2,B7];rfl
 refine⟨by rw[AO,DV,A1]; decide,?_⟩;rw[e1];have ok:=aA2 lb (by omega);have hne:ftL t p m 39≠[]:=A7 _ _;walk_at "!Oİ?$2]";refine gB (fs:=rQ) (by rw[AO]; omega) ok ?_;walk_at "!4";refine qG (a4M hne (by omega) lb) ?_;walk_at "!t1";refine⟨cP _,cP .read,?_⟩;rw[show Ae Out.read.d (.tuple [.str "read", .none])=true from iZ (cP .read)];walk_at "![";have e2:((ftL t p m 39).map Deed.rw).map Rw.d++[.tuple [.str "leave", cO (Deed.join t p m).t,.int 0]]=((ftL t p m 39++[Deed.leave t 0]).map Deed.rw).map Rw.d:=by
  rw[BA,BA];rfl
 have e3:(((ftL t p m 39).map Deed.rw).map Rw.d).length=40:=by rw[AO,AO,h40]
 revert e2 e3
 generalize ((ftL t p m 39).map Deed.rw).map Rw.d=L;intro e2 e3;unfold jP;walk_at "!8z?$2?c%_ui";refine cN (aQ8 _) ?_;walk_at "!m,";refine⟨by rw[e3,A1]; decide,?_⟩;rw[e2];have lb2:LogB (ftL t p m 39++[Deed.leave t 0]):=LogB.snoc lb (by show 0∈(run (ftL t p m 39)).rs; rw[aA0]; exact AW.mpr rfl) trivial (fun e he=>by rw[aVL e he]; exact Rat.le_refl) hz.1 hn.1;have ok2:∀ w∈(ftL t p m 39++[Deed.leave t 0]).map Deed.rw,w.Ok rQ:=fun w hw=>by
  rw[BA] at hw;rcases Aj.mp hw with z|z
  ·exact ok w z
  ·rw[AW.mp z];refine Rw.mk_ok rfl (fun x hx=>?_) (show 2≤3 by decide) (by decide +kernel);simp only[AT,Av,or_false] at hx;rcases hx with rfl|rfl
   ·exact a1Z hn.1
   ·show 0<10^60;decide
 have l41:((ftL t p m 39++[Deed.leave t 0]).map Deed.rw).length≤41:=by rw[AO,Ah,h40,A1]; decide
 walk_at "!(";refine gB (fs:=rQ) l41 ok2 ?_;walk_at "!4";have hh:=a4G (ds:=ftL t p m 39) (x:=cV (.leave t 0)) (r:=[]) (ws:=(ftL t p m 39++[Deed.leave t 0]).map Deed.rw) (fun z=>by rw[BA] at z; exact GH _ (A7 _ _) z) l41 ok2 (by rw[← a4W,BA]; rfl) lb (by omega) (.inl h40);rw[h40] at hh;refine qG hh ?_;walk_at "!t1";refine⟨cP _,cP (.log 40),?_⟩;rw[show Ae (Out.log 40).d (.tuple [.str "log", .int 40])=true from iZ (cP (.log 40))];exact q
end
section
variable {Q:Rv→Prop}{ds:List Deed}
theorem aNW (h:LogB ds)(k:Nat):LogB (ds.take k):=⟨h.ok.take k,h.up.sublist (Ew _ _),fun d hd=>h.z d (CH hd),fun d hd=>h.nm d (CH hd),LogP.take h.few k⟩
theorem tY {z:Int}(h:z.natAbs≤1000000000):tZ (z:Rat):=⟨B2 (show z.natAbs≤1000000000 from h) (by decide),by show(1:Nat)<10^60; decide⟩
def aME (T:Rat):List Rw:=[⟨"leave", [.num T,.whole 40]⟩,⟨"turn", [.num T,.whole 41,.num ((0:Int):Rat)]⟩,⟨"join", [.num T,.num ((1000000000:Int):Rat),.num ((0:Int):Rat)]⟩,⟨"join", [.num ((-999999999:Int):Rat),.num ((0:Int):Rat),.num ((0:Int):Rat)]⟩,⟨"join", [.num T,.num (Rat.divInt 1 13),.num ((0:Int):Rat)]⟩]
def earR:Rw:=⟨"join", [.num ((-999999999:Int):Rat),.num ((0:Int):Rat),.num ((0:Int):Rat)]⟩
theorem aRP:tZ (Rat.divInt 1 13):=a8R (by decide) (by decide) (by decide)
theorem d13:cO (Rat.divInt 1 13)=.tuple [.int 1,.int 13]:=by
 have h1:(Rat.divInt 1 13).num=1:=by decide +kernel
 have h2:(Rat.divInt 1 13).den=13:=by decide +kernel
 unfold cO;rw[h1,h2];rfl
theorem aAO {T:Rat}(hT:tZ T):∀ w∈aME T,w.Ok (fsB true):=fun w hw=>by
 have f0:tZ ((0:Int):Rat):=tY (by decide);have f9:tZ ((1000000000:Int):Rat):=tY (by decide);have fe:tZ ((-999999999:Int):Rat):=tY (by decide);have w40:(40:Nat)<10^60:=by decide
 have w41:(41:Nat)<10^60:=by decide
 have f13:=aRP;unfold aME at hw;simp only[AT,Av,or_false] at hw;rcases hw with rfl|rfl|rfl|rfl|rfl
 all_goals
  refine Rw.mk_ok rfl (fun x hx=>?_) (DE rfl) (by decide +kernel);simp only[AT,Av,or_false] at hx
 ·rcases hx with rfl|rfl<;>assumption
 ·rcases hx with rfl|rfl|rfl<;>assumption
 ·rcases hx with rfl|rfl|rfl<;>assumption
 ·rcases hx with rfl|rfl|rfl<;>assumption
 ·rcases hx with rfl|rfl|rfl<;>assumption
theorem aG6 {t:Rat}(h:a7M t):((-999999999:Int):Rat)≤t:=by
 have hd:=t.den_pos;have h1:=h.1;rw[Rat.le_iff];show -999999999*(t.den:Int)≤t.num*((1:Nat):Int);have:(1:Int)≤t.den:=by omega
 have h2 : -999999999*(t.den:Int) ≤ -999999999*1:=by omega
 omega
theorem aPW (h:LogB ds)(hl:ds.length≤40)(k:Nat):∀ q∈(run (ds.take k)).rs,q<40:=fun r hr=>by
 have h1:=(a0B (ds.take k)).lt r hr;have h2:=a3L (ds.take k);rw[BK] at h2;omega
theorem a4B (w:AC)(h:Asc w)(x:List D):∀ v xs,(.tuple (.str w::x):D)=.tuple (.str v::xs)→Good (.str v):=fun v xs e=>by
 injection e with e;injection e with e1 _;injection e1 with e1;rw[← e1];exact iV h
theorem a4L {T:Rat}(lb:LogB ds)(hl:ds.length≤40)(hT:Sz 60 T)(k:Nat){w:Rw}(hw:w∈aME T)(he:w=earR→∃ e,(ds.take k).getLast?=some e∧((-999999999:Int):Rat)<e.t):Bad (ds.take k) w.d:=by
 have rl:=aPW lb hl k;unfold aME at hw;simp only[AT,Av,or_false] at hw;rcases hw with rfl|rfl|rfl|rfl|rfl
 ·exact⟨.inr (.inr ⟨T,40, "leave", [],rfl,.inl rfl,hT,fun q hq z=>by have:=rl q hq; omega⟩),a4B "leave" (ad _) _⟩
 ·exact⟨.inr (.inr ⟨T,41, "turn", [cO ((0:Int):Rat)],rfl,.inr rfl,hT,fun q hq z=>by have:=rl q hq; omega⟩),a4B "turn" (ad _) _⟩
 ·refine⟨.inl ?_,a4B "join" (ad _) _⟩;refine(a0N _).trans ?_
  show(dnD (cO T)&&(dnD (cO ((1000000000:Int):Rat))&&dnD (cO ((0:Int):Rat))))=false
  rw[show dnD (cO ((1000000000:Int):Rat))=false by decide +kernel,EW,Bool.and_false]
 ·obtain⟨e,h1,h2⟩:=he rfl;exact⟨.inr (.inl ⟨_,_,_,rfl,G1.sz (B:=2^45) (q:=((-999999999:Int):Rat)) ⟨-999999999*27720,by rw[Cb]; rfl,by decide⟩ (by decide) (by decide),.inl ⟨e,h1,h2⟩⟩),a4B "join" (ad _) _⟩
 ·refine⟨.inl ?_,a4B "join" (ad _) _⟩;refine(a0N _).trans ?_
  show(dnD (cO T)&&(dnD (cO (Rat.divInt 1 13))&&dnD (cO ((0:Int):Rat))))=false
  rw[d13,show dnD (.tuple [.int 1,.int 13])=false by decide +kernel,EW,Bool.and_false]
theorem aNC:earR.Ok (fsB true):=aAO (T:=((0:Int):Rat)) (tY (by decide)) earR (by unfold aME earR; simp)
theorem aHN {α:Type}{f:α→D}{xs:List α}{z:Int}(h0:0≤z)(h1:z<xs.length):∃ w∈xs,ixD (.list (xs.map f)) (.int z)=some (f w):=by
 obtain⟨k,rfl⟩:∃ k:Nat,z=k:=⟨z.toNat,by omega⟩;have hk:k<xs.length:=by omega
 exact⟨xs[k],B6 hk,aD6 (by rw[Ao,A0 hk]; rfl)⟩
theorem aJE {T:Rat}{k:Nat}{w:Rw}(hne:ds≠[])(hl:ds.length≤40)(lb:LogB ds)(hk:k≤ds.length)(ok:w.Ok (fsB true))(hb:Bad (ds.take k) w.d)(q:Q (.val (.bool true))) :
  dC [.pen,.val (.list (ds.map cV)),.val (.int (k:Int)),.val (cO T),.val earR.d,.val w.d] fun fl=>match fl with|.rt rv=>Q rv|.nx _=>Q (.val .none)|_=>False:=by
 have okd:=aA2 lb hl;unfold dC;walk_at "!8z?$2?ccĀ%bğ/H51";rw[a6S (k:=k) rfl (by rw[AO]; omega)];skip;refine⟨by rw[BK,AO,A1]; omega,?_⟩;walk_at "!Ā{%b#";rw[yZ (k:=k) rfl (by rw[AO]; omega)];refine⟨by rw[Ah,BK,Ck,AO,A1]; omega,?_⟩;have e:List.take k (ds.map cV)++[w.d]++List.drop k (ds.map cV)=((ds.take k).map Deed.rw++[w]++(ds.drop k).map Deed.rw).map Rw.d:=by
  rw[BA,BA,←a4W,←a4W,DX,DW];rfl
 have e9:((ds.take k).map Deed.rw++[w]++(ds.drop k).map Deed.rw).map Rw.d=(ds.take k).map cV++w.d::(ds.drop k).map cV:=by
  rw[← e,←DX,←DW,B0];rfl
 have l41:((ds.take k).map Deed.rw++[w]++(ds.drop k).map Deed.rw).length≤41:=by
  rw[Ah,Ah,AO,AO,BK,Ck,A1];omega
 have ok2:∀ v∈(ds.take k).map Deed.rw++[w]++(ds.drop k).map Deed.rw,v.Ok (fsB true):=fun v hv=>by
  rcases Aj.mp hv with z|z
  ·rcases Aj.mp z with z|z
   ·obtain⟨d,hd,rfl⟩:=Ax.mp z;exact okd _ (Ax.mpr ⟨d,CH hd,rfl⟩)
   ·rw[AW.mp z]; exact ok
  ·obtain⟨d,hd,rfl⟩:=Ax.mp z;exact okd _ (Ax.mpr ⟨d,EE hd,rfl⟩)
 have hn:(ds.take k).map Deed.rw++[w]++(ds.drop k).map Deed.rw≠[]:=fun z=>by
  have:=congrArg List.length z;rw[Ah,Ah,A1,Cm] at this;omega
 have hh:=a4G hn l41 ok2 e9 (aNW lb k) (by rw[BK]; omega) (.inr hb);have lt:(ds.take k).length=k:=by rw[BK]; omega
 rw[lt] at hh;rw[e]
 revert hh ok2 l41
 generalize (ds.take k).map Deed.rw++[w]++(ds.drop k).map Deed.rw=ws;intro l41 ok2 hh;walk_at "!(";refine gB (fs:=rQ) l41 ok2 ?_;walk_at "!4";refine qG hh ?_;walk_at "!g1";refine⟨cP _,cP (.log k),?_⟩;rw[show Ae (Out.log k).d (.tuple [.str "log", .int (k:Int)])=true from iZ (cP (.log k))];exact q
theorem aFD (hne:ds≠[])(hl:ds.length≤40)(lb:LogB ds)(q:Q (.val (.bool true))):eY [.pen,.val (.list (ds.map cV))] Q:=by
 have h0:0<ds.length:=DB.mpr hne;refine lG ?_;unfold iB;walk_at "!)Q*=";refine cN (d:=.int (ds.length:Int)) (by simp[a9Y]) ?_;walk_at "!$(";refine dX (by omega) (by omega) fun a a0 a1=>?_;obtain⟨k,rfl⟩:∃ k:Nat,a=k:=⟨a.toNat,by omega⟩;walk_at "!)::%Ÿ%*=";refine cN (d:=.int (ds.length:Int)) (by simp[a9Y]) ?_;walk_at "!I";obtain⟨d,hd,hdk⟩:∃ d∈ds,ixD (.list (ds.map cV)) (.int (if (ds.length:Int)-1<(k:Int) then(ds.length:Int)-1 else(k:Int)))=some (cV d):=by
  obtain⟨j,hj,ej⟩:∃ j:Nat,j<ds.length∧(if (ds.length:Int)-1<(k:Int) then(ds.length:Int)-1 else(k:Int))=(j:Int):=by
   split
   ·exact⟨ds.length-1,by omega,by omega⟩
   ·exact⟨k,by omega,rfl⟩
  exact⟨ds[j],B6 hj,by rw[ej]; exact aD6 (by rw[Ao,A0 hj]; rfl)⟩
 refine cN hdk ?_;walk_at "!$";refine cN (aQ8 _) ?_;have nT:a7M d.t:=(lb.nm d hd).t;have zT:Sz 60 d.t:=(lb.z d hd).tz
 revert nT zT
 generalize d.t=T;intro nT zT;have okb:=aAO (a1Z nT);walk_at "!)uP&*Ĕ$$m&`&`,)_gm&gC&`,&g&`&`,51):c%_g&`&`,1Į9";refine dX (by decide) (by decide) fun z z0 z1=>?_;walk_at "!#";have eL:(aME T).map Rw.d=[.tuple [.str "leave", cO T,.int 40],.tuple [.str "turn", cO T,.int 41,.tuple [.int 0,.int 1]],.tuple [.str "join", cO T,.tuple [.int 1000000000,.int 1],.tuple [.int 0,.int 1]],.tuple [.str "join", .tuple [.int (-1000000000+1),.int 1],.tuple [.int 0,.int 1],.tuple [.int 0,.int 1]]]++[.tuple [.str "join", cO T,.tuple [.int 1,.int 13],.tuple [.int 0,.int 1]]]:=by
  rw[← d13];rfl
 rw[← eL];obtain⟨w,hw,ew⟩:=aHN (f:=Rw.d) (xs:=aME T) z0 z1;refine cN ew ?_;have okw:=okb w hw;have fin:Bad (ds.take k) w.d→_:=fun hb=>aJE (T:=T) (k:=k) hne hl lb (by omega) okw hb q;have g1:Good w.d:=(aBX okw).good;have g2:Good earR.d:=(aBX aNC).good;have eE:(.tuple [.str "join", .tuple [.int (-1000000000+1),.int 1],.tuple [.int 0,.int 1],.tuple [.int 0,.int 1]]:D)=earR.d:=rfl;rw[eE]
 show(cI _ dC) [.pen,.val (.list (ds.map cV)),.val (.int (k:Int)),.val (cO T),.val earR.d,.val w.d] _
 clear eL;walk_at "!qAį";refine⟨g1,g2,?_⟩
 cases hv:Ae w.d earR.d with
 | false=>
  walk_at "!6J";exact fin (a4L lb hl zT k hw fun e=>by rw[e,iZ g2] at hv; cases hv)
 | true=>
  walk_at "!.lAk";refine gF (fun c=>?_) (fun c=>?_)
  ·walk_at "!Z";exact q
  ·have k1:1≤k:=by omega
   have hk1:k-1<ds.length:=by omega
   walk_at "!A::%*M";refine cN (d:=cV ds[k-1]) (by rw[show(k:Int)-1=((k-1:Nat):Int) by omega]; exact aD6 (by rw[Ao,A0 hk1]; rfl)) ?_;walk_at "!$";refine cN (aQ8 _) ?_;walk_at "!3";refine cN (d:=cO ((-999999999:Int):Rat)) rfl ?_;walk_at "!Ź";refine gF (fun c2=>?_) (fun c2=>?_)
   ·walk_at "!T";exact q
   ·walk_at "!G";refine fin (a4L lb hl zT k hw fun _=>⟨ds[k-1],?_,?_⟩)
    ·rw[List.getLast?_eq_getElem?,BK,DZ (by omega),GS (by omega)];exact A0 hk1
    ·exact Rat.lt_of_le_of_ne (aG6 (lb.nm _ (B6 hk1)).t) (fun z=>c2 z.symm)
end
section
theorem a77 {ds:List Deed}(h:LogB ds)(hl:ds.length≤40):Good (.list (ds.map cV)):=by
 rw[a4W];exact(a73 (n:=2) fun d hd=>by
  obtain⟨w,hw,rfl⟩:=Ax.mp hd;exact aBX (aA2 h hl w hw)).good
theorem aUS (d:D)(h:(match d with|.str _=>false|_=>true)=true):a0Y (jF d) "str" = false:=by
 cases d<;>first|rfl|cases h
theorem aMQ {xs:List D}{z:Int}(h0:0≤z)(h1:z<xs.length):∃ x∈xs,ixD (.list xs) (.int z)=some x:=by
 obtain⟨x,hx,e⟩:=aHN (f:=id) (xs:=xs) h0 h1;rw[List.map_id] at e;exact⟨x,hx,e⟩
theorem aD:∀ b,paF b "" = .none:=fun b=>(jT b "" (by cases b<;>decide +kernel) (by decide +kernel)).no
theorem a9R {b:Bool}{W:List Rw}(hne:W≠[])(hl:W.length≤41)(ok:∀ w∈W,w.Ok (fsB b)):a0S b (.str (Txt.join ⟨#[10]⟩ (W.map Rw.tx++[("" : AC)]))) (.text W.length):=by
 have lsk:=yS hne hl ok;have h0:0<W.length:=DB.mpr hne;have ll:(W.map Rw.tx).length=W.length:=AO _;refine a0H (x := "") ⟨GH _ (A7 _ _),fun p hp=>?_,fun z=>?_,fun p hp=>?_,?_⟩ ?_ (aD b) fun j hj p hp=>?_
 ·rcases Aj.mp hp with z|z
  ·exact lsk.c p z
  ·rw[AW.mp z]; decide +kernel
 ·have:=congrArg List.length z;rw[Ah,ll,A1] at this;have this:W.length+1=1:=this;omega
 ·rcases Aj.mp hp with z|z
  ·exact lsk.s p z
  ·rw[AW.mp z]; exact⟨ad _,by decide⟩
 ·rw[Ah,ll,A1]; omega
 ·rw[Bj (by omega),ll,DG];rfl
 ·rw[BN (by omega)] at hp;obtain⟨w,hw,rfl⟩:=Ax.mp (BP hp);rw[aA5 (ok w hw)];rfl
abbrev eGt (lg ts x4 x5 x6 x7 x8:Sl):En:=[.no,.pen,lg,ts,x4,x5,x6,x7,x8]
theorem aP8 {c:AA}{b:Bool}{W:List Rw}{lg:List D}{u v:AC}{x4 x6 x7 x8:Sl}{K:Fl→Prop}(hne:W≠[])(hl:W.length≤40)(ok:∀ w∈W,w.Ok (fsB b))(hr:a0S b (.str (bkT W)) .read)
  (hix:ixD (.list [.str u,.str v]) (.int (if b=true then 1 else 0))=some (.str (bkT W))) (hK:∀ x6 x7 x8,K (.nx (eGt (.val (.list lg)) (.val (.list [.str u,.str v])) x4 (.val (.bool b)) x6 x7 x8))) :
  uY c (eGt (.val (.list lg)) (.val (.list [.str u,.str v])) x4 (.val (.bool b)) x6 x7 x8) K:=by
 have hbl:=aIT hl ok;have sp:=a7G hne ok;unfold uY;walk_at "!Oİw:%Ē/";refine cN hix ?_;walk_at "!(";refine qG hr ?_;walk_at "!t1";refine⟨cP _,cP .read,?_⟩;rw[show Ae Out.read.d (.tuple [.str "read", .none])=true from iZ (cP .read)];walk_at "![";unfold a05;walk_at "!oĖCf";refine⟨by decide,by decide,?_⟩;refine tQ (fun j Γ=>∃ x6,Γ=eGt (.val (.list lg)) (.val (.list [.str u,.str v])) x4 (.val (.bool b)) x6 x7 x8) ⟨_,rfl⟩ ?_ ?_
 ·rintro j Γ K2 hj ⟨y6,rfl⟩ hK2;unfold a0D;walk_at "!;X7Qę:%Ē/";refine cN hix ?_;walk_at "!(";refine aQZ hne hl ok ?_;walk_at "!Le";exact hK2.nx _ ⟨_,rfl⟩
 ·rintro Γ ⟨y6,rfl⟩;unfold a0G;walk_at "!):H^C5&_i";refine cN (aJW _ _) ?_;walk_at "!,&źm9";refine dX (by decide) (by decide) fun z z0 z1=>?_;walk_at "!#";obtain⟨d,hd,ed⟩:=aMQ (xs:=[AH.none,.int 5,.bool true,.list lg,.list [.str u],.dict [],.int 0]) z0 z1;refine cN ed ?_;have hk:a0Y (jF d) "str" = false:=by
   simp only[AT,Av,or_false] at hd;rcases hd with rfl|rfl|rfl|rfl|rfl|rfl|rfl<;>exact aUS _ rfl
  clear ed hd
  show(cI _ (uW c)) (eGt (.val (.list lg)) (.val (.list [.str u,.str v])) x4 (.val (.bool b)) y6 (.val d) x8) K
  walk_at "!OİwB";refine qG (aGC hk) ?_;walk_at "!t1";refine⟨cP _,cP (.text 0),?_⟩;rw[show Ae (Out.text 0).d (.tuple [.str "text", .int 0])=true from iZ (cP (.text 0))];walk_at "![";unfold uW;walk_at "!)aĎ:%Ē/";refine cN hix ?_;walk_at "!ď$";rw[lf1];refine a4Q rfl (by omega) (by rw[sp,AO]; omega) ?_;rw[sp];have lsk:=yS hne (by omega) ok;have hf:=a9R hne (by omega) ok;walk_at "!Xjw#Đ$đc%HC1";refine⟨by rw[AO,AO,A1]; omega,?_⟩;have e:B4 Ad (B4 Rw.tx W)++[Ad ""]=(W.map Rw.tx++[("" : AC)]).map Ad:=by rw[BA]; rfl
  rw[e];refine a8Z (yH (k:=45) (B:=700) (by rw[Ah,AO,A1]; omega) (fun y hy=>(Aj.mp hy).elim (fun z=>(lsk.s y z).2) fun z=>by rw[AW.mp z]; decide) (by decide)) ?_;walk_at "!(";refine qG hf ?_;walk_at "!u=";refine cN (d:=.int (W.length:Int)) (by simp[a9Y]) ?_;walk_at "!,";refine⟨cP _,cP (.text W.length),?_⟩;rw[show Ae (Out.text W.length).d (.tuple [.str "text", .int (W.length:Int)])=true from iZ (cP (.text W.length))];walk_at "!Le";exact hK _ _ _
end
section
theorem aCN {c:AA}{ds:List Deed}{Qf:Fl→Prop}{x:Sl}(hl:ds.length≤40)(lb:LogB ds)(h0:∃ t p m,ds[0]?=some (.join t p m))(q:Qf (.rt (.val (.bool true)))) :
  v5 c [.no,.pen,.val (.list (ds.map cV)),.no,.no,.no,.no,.no,.no] Qf:=by
 obtain⟨t,p,m,e0⟩:=h0;have hne:ds≠[]:=fun z=>by rw[z] at e0; cases e0
 have okd:=aA2 lb hl;unfold v5;walk_at "!)_?QB";refine aN2 hl lb.nm fun ws hw ok=>?_;walk_at "!4";refine pO (fs:=a7L) (by omega) ok ?_;walk_at "!&]";rw[a4W];refine pO (fs:=rQ) (by rw[AO]; exact hl) okd ?_;rw[← a4W];walk_at "!,oĖCf";refine⟨by decide,by decide,?_⟩;have hwn:ws≠[]:=fun z=>hne (Gy.mp (by rw[← hw,z]; rfl));have hr1:=a4M hne hl lb;have hr0:=a9L hwn (by omega) ok;have hrn:ds.map Deed.rw≠[]:=fun z=>hne (EC.mp z);refine tQ (fun j Γ=>∃ x4 x5 x6 x7 x8,Γ=eGt (.val (.list (ds.map cV))) (.val (.list [.str (bkT ws),.str (bkT (ds.map Deed.rw))])) x4 x5 x6 x7 x8) ⟨_,_,_,_,_,rfl⟩ ?_ ?_
 ·rintro j Γ K hj ⟨x4,x5,x6,x7,x8,rfl⟩ hK;unfold a04;walk_at "!;oĺt1";refine vA (fun i Γ=>∃ x4 x5 x6 x7 x8,Γ=eGt (.val (.list (ds.map cV))) (.val (.list [.str (bkT ws),.str (bkT (ds.map Deed.rw))])) x4 x5 x6 x7 x8) ⟨_,_,_,_,_,rfl⟩ ?_ ?_
  ·rintro i d Γ K2 hd ⟨y4,y5,y6,y7,y8,rfl⟩ hK2
   match i,hd with
   | 0,hd=>
    cases hd
    walk_at "!;";exact aP8 (b:=true) (W:=ds.map Deed.rw) hrn (by rw[AO]; exact hl) okd hr1 rfl fun _ _ _=>hK2.nx _ ⟨_,_,_,_,_,rfl⟩
   | 1,hd=>
    cases hd
    walk_at "!;";exact aP8 (b:=false) (W:=ws) hwn (by omega) ok hr0 rfl fun _ _ _=>hK2.nx _ ⟨_,_,_,_,_,rfl⟩
   | i+2,hd=>cases hd
  ·rintro Γ ⟨y4,y5,y6,y7,y8,rfl⟩;unfold a0C;walk_at "!X7QB";refine aFD hne hl lb ?_;walk_at "!Le";exact hK.nx _ ⟨_,_,_,_,_,rfl⟩
 ·rintro Γ ⟨x4,x5,x6,x7,x8,rfl⟩;unfold a09;walk_at "!V3";refine cN (d:=cV (.join t p m)) (aD6 (k:=0) (by rw[Ao,e0]; rfl)) ?_;walk_at "!(";have hm:=BP e0;refine aK3 (lb.z _ hm) (lb.nm _ hm) ?_;skip;exact q
theorem a9K {ds:List Deed}(lb:LogB ds)(hne:ds≠[]):∃ t p m,ds[0]?=some (.join t p m):=by
 obtain⟨d,r,rfl⟩:=C7 hne;have h:=lb.ok 0 d rfl
 cases d with
 | join t p m=>exact⟨t,p,m,rfl⟩
 | leave t r=>exact absurd h (Av)
 | turn t r m=>exact absurd h (Av)
theorem law_true (c:AA):zF c (.no::.pen::Ar 7 .no) qI:=by
 unfold zF;walk_at "!)9";refine aM6 (most:=11) (by decide) fun ds hl lb=>?_;walk_at "!Ă%H1";refine⟨a77 lb hl,a77 (ds:=[]) ⟨fun n d h=>(by cases n<;>cases h),Ef.nil,fun d h=>(nomatch h),fun d h=>(nomatch h),fun n d h=>(by cases n<;>cases h)⟩ (by decide),?_⟩
 cases hv:Ae (.list (ds.map cV)) (.list []) with
 | false=>
  have hne:ds≠[]:=fun z=>by
   rw[z] at hv
   cases hv
  walk_at "!J";exact aCN (x:=.no) hl lb (a9K lb hne) rfl
 | true=>
  walk_at "!.ĉ@_u`&y4";refine jW fun pp g1=>?_;walk_at "!&y4";refine jW fun mm g2=>?_;walk_at "!,1";have lb1:LogB [.join ((0:Int):Rat) pp mm]:=aDF (t:=((0:Int):Rat)) ⟨a7C (by decide),g1.1,g2.1⟩ ⟨⟨by decide,by decide⟩,g1.2,g2.2⟩ 0;exact aCN (ds:=[.join ((0:Int):Rat) pp mm]) (x:=.no) (DE rfl) lb1 ⟨_,_,_,rfl⟩ rfl
end
theorem ln1 {α:Type}{us:List α}(h:us.length=1):∃ x0,us=[x0]:=by
 match us,h with
 | [_],_=>exact⟨_,rfl⟩
theorem ln2 {α:Type}{us:List α}(h:us.length=2):∃ x0 x1,us=[x0,x1]:=by
 match us,h with
 | [_,_],_=>exact⟨_,_,rfl⟩
theorem ln3 {α:Type}{us:List α}(h:us.length=3):∃ x0 x1 x2,us=[x0,x1,x2]:=by
 match us,h with
 | [_,_,_],_=>exact⟨_,_,_,rfl⟩
theorem aU5 {K:Fg}{h:AG}{mg:Mg}(X:K.In h)(G:h.Ns Ai mg)
  (z_len:Ay K Ai "len" = some none)
  (z_abs:Ay K Ai "abs" = some none)
  (z_range:Ay K Ai "range" = some none)
  (z_isinstance:Ay K Ai "isinstance" = some none)
  (z_int:Ay K Ai "int" = some none)
  (z_bool:Ay K Ai "bool" = some none)
  (z_tuple:Ay K Ai "tuple" = some none)
  (z_max:Ay K Ai "max" = some none)
  (z_min:Ay K Ai "min" = some none)
  (z_list:Ay K Ai "list" = some none)
  (z_all:Ay K Ai "all" = some none)
  (z_any:Ay K Ai "any" = some none)
  (z_sorted:Ay K Ai "sorted" = some none)
  (z_zip:Ay K Ai "zip" = some none)
  (z_set:Ay K Ai "set" = some none)
  (z_sum:Ay K Ai "sum" = some none)
  (z_str:Ay K Ai "str" = some none)
  (z_enumerate:Ay K Ai "enumerate" = some none)
  (z_repr:Ay K Ai "repr" = some none)
  (kt_int_bool:AS K (.type "int") (.type "bool")=some false)    (kt_bool_int:AS K (.type "bool") (.type "int")=some true):Bl K mg:=⟨BI X G z_len,BI X G z_abs,BI X G z_range,BI X G z_isinstance,BI X G z_int,BI X G z_bool,BI X G z_tuple,BI X G z_max,BI X G z_min,BI X G z_list,BI X G z_all,BI X G z_any,BI X G z_sorted,BI X G z_zip,BI X G z_set,BI X G z_sum,BI X G z_str,BI X G z_enumerate,BI X G z_repr,kt_int_bool,kt_bool_int⟩
theorem aOI {K:Fg}
  (kt_NoneType_bool:AS K (.type "NoneType") (.type "bool")=some false)
  (kt_NoneType_int:AS K (.type "NoneType") (.type "int")=some false)
  (kt_NoneType_str:AS K (.type "NoneType") (.type "str")=some false)
  (kt_NoneType_list:AS K (.type "NoneType") (.type "list")=some false)
  (kt_NoneType_tuple:AS K (.type "NoneType") (.type "tuple")=some false)
  (kt_NoneType_dict:AS K (.type "NoneType") (.type "dict")=some false)
  (kt_bool_NoneType:AS K (.type "bool") (.type "NoneType")=some false)
  (kt_bool_int:AS K (.type "bool") (.type "int")=some true)
  (kt_bool_str:AS K (.type "bool") (.type "str")=some false)
  (kt_bool_list:AS K (.type "bool") (.type "list")=some false)
  (kt_bool_tuple:AS K (.type "bool") (.type "tuple")=some false)
  (kt_bool_dict:AS K (.type "bool") (.type "dict")=some false)
  (kt_int_NoneType:AS K (.type "int") (.type "NoneType")=some false)
  (kt_int_bool:AS K (.type "int") (.type "bool")=some false)
  (kt_int_str:AS K (.type "int") (.type "str")=some false)
  (kt_int_list:AS K (.type "int") (.type "list")=some false)
  (kt_int_tuple:AS K (.type "int") (.type "tuple")=some false)
  (kt_int_dict:AS K (.type "int") (.type "dict")=some false)
  (kt_str_NoneType:AS K (.type "str") (.type "NoneType")=some false)
  (kt_str_bool:AS K (.type "str") (.type "bool")=some false)
  (kt_str_int:AS K (.type "str") (.type "int")=some false)
  (kt_str_list:AS K (.type "str") (.type "list")=some false)
  (kt_str_tuple:AS K (.type "str") (.type "tuple")=some false)
  (kt_str_dict:AS K (.type "str") (.type "dict")=some false)
  (kt_list_NoneType:AS K (.type "list") (.type "NoneType")=some false)
  (kt_list_bool:AS K (.type "list") (.type "bool")=some false)
  (kt_list_int:AS K (.type "list") (.type "int")=some false)
  (kt_list_str:AS K (.type "list") (.type "str")=some false)
  (kt_list_tuple:AS K (.type "list") (.type "tuple")=some false)
  (kt_list_dict:AS K (.type "list") (.type "dict")=some false)
  (kt_tuple_NoneType:AS K (.type "tuple") (.type "NoneType")=some false)
  (kt_tuple_bool:AS K (.type "tuple") (.type "bool")=some false)
  (kt_tuple_int:AS K (.type "tuple") (.type "int")=some false)
  (kt_tuple_str:AS K (.type "tuple") (.type "str")=some false)
  (kt_tuple_list:AS K (.type "tuple") (.type "list")=some false)
  (kt_tuple_dict:AS K (.type "tuple") (.type "dict")=some false)
  (kt_dict_NoneType:AS K (.type "dict") (.type "NoneType")=some false)
  (kt_dict_bool:AS K (.type "dict") (.type "bool")=some false)
  (kt_dict_int:AS K (.type "dict") (.type "int")=some false)
  (kt_dict_str:AS K (.type "dict") (.type "str")=some false)
  (kt_dict_list:AS K (.type "dict") (.type "list")=some false)
  (kt_dict_tuple:AS K (.type "dict") (.type "tuple")=some false)
  : Kit K:=Kit.mk' (by
  intro a ha b hb;simp only[tyL,AT,Av,or_false] at ha hb;rcases ha with rfl|rfl|rfl|rfl|rfl|rfl|rfl<;>rcases hb with rfl|rfl|rfl|rfl|rfl|rfl|rfl<;>intro e<;>first|assumption|exact absurd e (by decide))
def DfP (K:Fg)(mg:Mg)(x:Str)(st:AL):Prop:=∃(f:AA) (fd:An),Fun K x x st f fd∧mg x=some (.ref f)
theorem eX {K:Fg}{h:AG}{mg:Mg}(X:K.In h)(G:h.Ns Ai mg){x:Str}{st:AL}{f:AA}{od an:Option AA}{sl:Array (Option AB)}{oc kV dc pm cd ct:AB}
  (a:Ay K Ai x=some (some (.ref f))) (l:K.lookup f=some ⟨oc,od,.func (fnOf x x (o7 st) (iT st) (aQ st) .none kV dc pm an cd ct),sl⟩) (c:Cn K cd x=true) (k:Bc K (.ref f)=true):DfP K mg x st:=
 ⟨f,_,a88 l c k,BZ X G a⟩
def MeP (K:Fg)(C:AA)(m q:Str)(st:AL):Prop:=∃(f:AA) (fd:An),Fun K m q st f fd∧Meth K C m f
theorem aK6 {K:Fg}{C:AA}{m q:Str}{st:AL}{f:AA}{od an:Option AA}{sl:Array (Option AB)}{oc kV dc pm cd ct:AB}
  (a:Ag K (.ref C) m=some (some (.ref f))) (n:isFn K (.ref f)=true) (l:K.lookup f=some ⟨oc,od,.func (fnOf m q (o7 st) (iT st) (aQ st) .none kV dc pm an cd ct),sl⟩) (c:Cn K cd q=true) (k:Bc K (.ref f)=true):MeP K C m q st:=⟨f,_,a88 l c k,a,n,k⟩
def InP (K:Fg)(C:AA)(q:Str)(st:AL):Prop:=∃(f:AA) (fd:An),Fun K "__init__" q st f fd∧Mk K C f
theorem aSO {K:Fg}{C:AA}{q:Str}{st:AL}{f:AA}{od an:Option AA}{sl:Array (Option AB)}{oc kV dc pm cd ct:AB}
  (y:makesIn K C=true) (a:Ag K (.ref C) "__init__" = some (some (.ref f))) (n:isFn K (.ref f)=true) (z:Bc K (.ref C)=true) (l:K.lookup f=some ⟨oc,od,.func (fnOf "__init__" q (o7 st) (iT st) (aQ st) .none kV dc pm an cd ct),sl⟩) (c:Cn K cd q=true) (k:Bc K (.ref f)=true):InP K C q st:=⟨f,_,a88 l c k,y,a,n,z⟩
theorem aKV {K:Fg}{C:AA}{f:Str}(h:Ag K (.ref C) f=some none):NoAttr K C f:=h
def InX (K:Fg)(C:AA)(q:Str)(st:AL):Prop:=∃(f:AA) (fd:An),Fun K "__init__" q st f fd∧Ag K (.ref C) "__init__" = some (some (.ref f))∧Cq K (.ref f)=some (.type "function")
theorem aHO {K:Fg}{C:AA}{q:Str}{st:AL}{f:AA}{od an:Option AA}{sl:Array (Option AB)}{oc kV dc pm cd ct:AB}
  (a:Ag K (.ref C) "__init__" = some (some (.ref f))) (n:Cq K (.ref f)=some (.type "function")) (l:K.lookup f=some ⟨oc,od,.func (fnOf "__init__" q (o7 st) (iT st) (aQ st) .none kV dc pm an cd ct),sl⟩) (c:Cn K cd q=true) (k:Bc K (.ref f)=true):InX K C q st:=⟨f,_,a88 l c k,a,n⟩
theorem a8X {P:AQ}{w:AK}{K:Fg}{mg:Mg}{base:AG}{V:XA}{D0 c0 c1 c2 c3:AA}(x:Xcs K mg V D0 c0 c1 c2 c3)(d:InX K V.nt "NoText.__init__" pI):Ini P w K mg base 1 V.nt "line" := by
 obtain⟨f,fd,F,h1,h2⟩:=d;exact⟨f,fd,_,a69 F x,h1,h2,F.binds fun _ _ _ _ _ _ us hl=>by
  obtain⟨_,_,rfl⟩:=ln2 hl;rfl⟩
theorem aC4 {P:AQ}{w:AK}{K:Fg}{mg:Mg}{base:AG}{V:XA}{D0 c0 c1 c2 c3:AA}(x:Xcs K mg V D0 c0 c1 c2 c3)(d:InX K V.nl "NoLog.__init__" tO):Ini P w K mg base 1 V.nl "at" := by
 obtain⟨f,fd,F,h1,h2⟩:=d;exact⟨f,fd,_,a93 F x,h1,h2,F.binds fun _ _ _ _ _ _ us hl=>by
  obtain⟨_,_,rfl⟩:=ln2 hl;rfl⟩
theorem aNZ {K:Fg}{h:AG}{mg:Mg}(X:K.In h)(G:h.Ns Ai mg){nt nl D0 c0 c1 c2 c3:AA}
  {dd_D:Option AA} {nm_D qn_D:Str} {bs_D sub_D:List AB} {sn_D:List Str} {ab_D:Bool} {col_D:Option Bool} {k0_D k1_D k2_D k3_D k5_D:Option AB} {ns_D:AA}
  {dd_NoText:Option AA} {nm_NoText qn_NoText:Str} {bs_NoText sub_NoText:List AB} {sn_NoText:List Str} {ab_NoText:Bool} {col_NoText:Option Bool} {k0_NoText k1_NoText k2_NoText k3_NoText k5_NoText:Option AB} {ns_NoText:AA}
  {dd_NoLog:Option AA} {nm_NoLog qn_NoLog:Str} {bs_NoLog sub_NoLog:List AB} {sn_NoLog:List Str} {ab_NoLog:Bool} {col_NoLog:Option Bool} {k0_NoLog k1_NoLog k2_NoLog k3_NoLog k5_NoLog:Option AB} {ns_NoLog:AA}
  (gh_NoText:Ay K Ai "NoText" = some (some (.ref nt)))
  (gh_NoLog:Ay K Ai "NoLog" = some (some (.ref nl)))
  (ghD:Ay K Ai "LeadError" = some (some (.ref D0)))
  (ghV:Ay K Ai "ValueError" = some none)
  (gh_NoKey:Ay K Ai "NoKey" = some (some (.ref c0)))
  (gh_NoNumber:Ay K Ai "NoNumber" = some (some (.ref c1)))
  (gh_NoRow:Ay K Ai "NoRow" = some (some (.ref c2)))
  (gh_NoTime:Ay K Ai "NoTime" = some (some (.ref c3)))
  (xl_D:K.lookup D0=some ⟨.type "type", dd_D,.cls ⟨nm_D,bs_D,[.ref D0,.type "ValueError", .type "Exception", .type "BaseException", .type "object"],ns_D,qn_D,true,sn_D,sub_D,ab_D,col_D,false⟩,#[k0_D,k1_D,k2_D,k3_D,some (.builtin "ValueError.__new__"),k5_D]⟩)
  (x1_D:Ag K (.ref D0) "__class__" = some (some (.builtin "object.__class__")))
  (x2_D:Ag K (.ref D0) "__getattribute__" = some (some (.builtin "BaseException.__getattribute__")))
  (x3_D:Ag K (.ref D0) "__getattr__" = some none)
  (xeD:excIn K D0 [.type "ValueError", .type "Exception", .type "BaseException", .type "object"] "ValueError.__new__" = true)
  (xl_NoText:K.lookup nt=some ⟨.type "type", dd_NoText,.cls ⟨nm_NoText,bs_NoText,[.ref nt,.ref D0,.type "ValueError", .type "Exception", .type "BaseException", .type "object"],ns_NoText,qn_NoText,true,sn_NoText,sub_NoText,ab_NoText,col_NoText,false⟩,#[k0_NoText,k1_NoText,k2_NoText,k3_NoText,some (.builtin "ValueError.__new__"),k5_NoText]⟩)
  (x1_NoText:Ag K (.ref nt) "__class__" = some (some (.builtin "object.__class__")))
  (x2_NoText:Ag K (.ref nt) "__getattribute__" = some (some (.builtin "BaseException.__getattribute__")))
  (x3_NoText:Ag K (.ref nt) "__getattr__" = some none)
  (gs_NoText:CL K nt (.ref D0)=some true)
  (ga_NoText:Ag K (.ref nt) "__setattr__" = some (some (.builtin "object.__setattr__")))
  (gn_NoText:Ag K (.ref nt) "line" = some none)
  (gd_NoText:CK K nt=true)
  (xl_NoLog:K.lookup nl=some ⟨.type "type", dd_NoLog,.cls ⟨nm_NoLog,bs_NoLog,[.ref nl,.ref D0,.type "ValueError", .type "Exception", .type "BaseException", .type "object"],ns_NoLog,qn_NoLog,true,sn_NoLog,sub_NoLog,ab_NoLog,col_NoLog,false⟩,#[k0_NoLog,k1_NoLog,k2_NoLog,k3_NoLog,some (.builtin "ValueError.__new__"),k5_NoLog]⟩)
  (x1_NoLog:Ag K (.ref nl) "__class__" = some (some (.builtin "object.__class__")))
  (x2_NoLog:Ag K (.ref nl) "__getattribute__" = some (some (.builtin "BaseException.__getattribute__")))
  (x3_NoLog:Ag K (.ref nl) "__getattr__" = some none)
  (gs_NoLog:CL K nl (.ref D0)=some true)
  (ga_NoLog:Ag K (.ref nl) "__setattr__" = some (some (.builtin "object.__setattr__")))
  (gn_NoLog:Ag K (.ref nl) "at" = some none)
  (gd_NoLog:CK K nl=true)
  (gpD:EN K (.ref D0) "__getattribute__" = some (some (.builtin "type.__getattribute__")))
  (grD:readsIn K D0 (.type "type")=true)
  (gfD:findCls K (.ref D0) (.type "type") "__init__" = some (.val (.builtin "ValueError.__init__")))
  (gt_NoLog_KNRT:Co K (.ref nl) [.ref c0,.ref c1,.ref c2,.ref c3]=some false)
  (gt_NoText_KNRT:Co K (.ref nt) [.ref c0,.ref c1,.ref c2,.ref c3]=some false)
  (gk_NoLog_NoText:AS K (.ref nl) (.ref nt)=some false)
  (gk_NoText_NoText:AS K (.ref nt) (.ref nt)=some true)
  (gk_NoLog_NoLog:AS K (.ref nl) (.ref nl)=some true)
  (gk_NoText_NoLog:AS K (.ref nt) (.ref nl)=some false)
  (gk_NoLog_ValueError:AS K (.ref nl) (.type "ValueError")=some true)
  (gk_NoText_ValueError:AS K (.ref nt) (.type "ValueError")=some true):Xcs K mg ⟨nt,nl,0,0⟩ D0 c0 c1 c2 c3:=
 ⟨BZ X G gh_NoText,⟨aIQ xl_NoText xeD,x1_NoText,x2_NoText,x3_NoText⟩,gs_NoText,ga_NoText,gn_NoText,gd_NoText,BZ X G gh_NoLog,⟨aIQ xl_NoLog xeD,x1_NoLog,x2_NoLog,x3_NoLog⟩,gs_NoLog,ga_NoLog,gn_NoLog,gd_NoLog,BZ X G ghD,⟨aR9 xl_D,x1_D,x2_D,x3_D⟩,gpD,grD,gfD,BI X G ghV,BZ X G gh_NoKey,BZ X G gh_NoNumber,BZ X G gh_NoRow,BZ X G gh_NoTime,gt_NoLog_KNRT,gt_NoText_KNRT,gk_NoLog_NoText,gk_NoText_NoText,gk_NoLog_NoLog,gk_NoText_NoLog,gk_NoLog_ValueError,gk_NoText_ValueError⟩
section
variable {P:AQ}{w:AK}{K:Fg}{mg:Mg}{base:AG}
end
theorem aW0 {P:AQ}{w:AK}{K:Fg}{mg:Mg}{base:AG}{n:Nat}{x:Str}{st:AL}{ps:List Str}{sp:Sp}(d:DfP K mg x st)(h:∀{f fd},Fun K x x st f fd→FnOk P w K mg base CX0 n f fd ps sp)(b:∀{f fd},Fun K x x st f fd→Binds K fd ps []):Cal P w K mg base n x ps sp:=
 let ⟨f,fd,F,hm⟩:=d; ⟨f,fd,h F,hm,F.kp,b F⟩
theorem cH {P:AQ}{w:AK}{K:Fg}{mg:Mg}{base:AG}{n:Nat}{x:Str}{st:AL}{ps:List Str}{sp:AA→List Int→Sp}(d:DfP K mg x st)(h:∀{f fd} (a:AA) (ns:List Int),Fun K x x st f fd→FnOk P w K mg base CX0 n f fd ps (sp a ns))(b:∀{f fd},Fun K x x st f fd→Binds K fd ps [])(a:AA)(ns:List Int):Cal P w K mg base n x ps (sp a ns):=
 let ⟨f,fd,F,hm⟩:=d; ⟨f,fd,h a ns F,hm,F.kp,b F⟩
set_option hygiene false in
local macro_rules|`(tactic| walk_at "bd")=>`(tactic| (intro _ _ _ _ _ _ us hl; first|(obtain⟨_,rfl⟩:=ln1 hl; rfl)|(obtain⟨_,_,rfl⟩:=ln2 hl; rfl)|(obtain⟨_,_,_,rfl⟩:=ln3 hl; rfl)))
theorem aQJ {l:Fw}{w:AK}{K:Fg}{mg:Mg}{fa:AA}(hfa:mg "law" = some (.ref fa))(B:Bl K mg)(Kt:Kit K)
  (d0:DfP K mg "_law_take" pC)
  (d1:DfP K mg "is_whole" uP)
  (d2:DfP K mg "greatest_divisor" gY)
  (d3:DfP K mg "number_of" qZ)
  (d4:DfP K mg "sum_of" a2G)
  (d5:DfP K mg "difference_of" jX)
  (d6:DfP K mg "product_of" nU)
  (d7:DfP K mg "is_less" xR)
  (d8:DfP K mg "place_at" vB)
  (d9:DfP K mg "line_through" lO)
  (d10:DfP K mg "is_number" qY)
  (d11:DfP K mg "whole_in" pH)
  (d12:DfP K mg "top_in" a1T)
  (d13:DfP K mg "number_in" qK)
  (d14:DfP K mg "thing_in" uI)
  (d15:DfP K mg "parts_in" uG)
  (d16:DfP K mg "row_in" a2J)
  (d17:DfP K mg "deed_in" xM)
  (d18:DfP K mg "is_deed_number" jE)
  (d19:DfP K mg "is_deed" rG)
  (d20:DfP K mg "log_of" a0R)
  (d21:DfP K mg "lines_in" uX)
  (d22:DfP K mg "refuse_first_none" gG)
  (d23:DfP K mg "read_log" oV)
  (d24:DfP K mg "read_book" mQ)
  (d25:DfP K mg "_law_lowest" nY)
  (d26:DfP K mg "_law_time_on" nA)
  (d27:DfP K mg "_law_small" qT)
  (d28:DfP K mg "_law_log" xQ)
  (d29:DfP K mg "_law_told" uD)
  (d30:DfP K mg "_law_lines_of" lK)
  (d31:DfP K mg "_law_rows" uR)
  (d32:DfP K mg "_law_bad_line" lM)
  (d33:DfP K mg "_law_heard" qL)
  (d34:DfP K mg "_law_bent_right" jH)
  (d35:DfP K mg "_law_no_log_right" iG)
  (d36:DfP K mg "_law_forty_right" fU)
  (d37:DfP K mg "law" aL8)
  {c:AA} (hmF:mg "Field" = some (.ref c)) (cl:Cls K c) (n_running:NoAttr K c "running") (n_joined:NoAttr K c "joined") (n_last:NoAttr K c "last") (mI:InP K c "Field.__init__" a2F) (me_add_runner:MeP K c "add_runner" "Field.add_runner" lR) (me_do:MeP K c "do" "Field.do" aAL) (me_allows:MeP K c "allows" "Field.allows" uZ) {tk_MOST_RUNNERS:Tok} (hg_MOST_RUNNERS:mg "MOST_RUNNERS" = some (.int 8 tk_MOST_RUNNERS)) {tk_MOST_DEEDS:Tok} (hg_MOST_DEEDS:mg "MOST_DEEDS" = some (.int 40 tk_MOST_DEEDS)) {tk_GREATEST_TOP:Tok} (hg_GREATEST_TOP:mg "GREATEST_TOP" = some (.int 999999999 tk_GREATEST_TOP)) {tk_GREATEST_BOTTOM:Tok} (hg_GREATEST_BOTTOM:mg "GREATEST_BOTTOM" = some (.int 12 tk_GREATEST_BOTTOM)) {tk_FIGURES:Tok} (hg_FIGURES:mg "FIGURES" = some (.str "0123456789" tk_FIGURES)) {tk_MOST_FIGURES:Tok} (hg_MOST_FIGURES:mg "MOST_FIGURES" = some (.int 60 tk_MOST_FIGURES))
  {nt nl D0 c0 c1 c2 c3:AA} (xc:Xcs K mg ⟨nt,nl,0,0⟩ D0 c0 c1 c2 c3) (ix_NoText:InX K nt "NoText.__init__" pI) (ix_NoLog:InX K nl "NoLog.__init__" tO)
  (hL:∀ c,(zF c) (.no::.pen::Ar 7 .no) qI) :
  ∃ fd:An,(∀(s:AD) (v:AB),Dn s fd ⟨[v],[]⟩ [("_law_script", v)])∧∀ base:AG,K.In base→base.Ns Ai mg→FnOk l.prog w K mg base CX0 10 fa fd ["_law_script"] (aGM K):=by
 obtain⟨f,fd,F,hm⟩:=d37
 cases hfa.symm.trans hm
 refine⟨fd,?_,fun base _ _=>?_⟩
 ·obtain⟨oc,od,kV,doc,pm,an,cdv,ct,osl,rfl,lk,hcd⟩:=F.ex;exact fun s v=>.of_eq rfl
 obtain⟨fi,fdi,FI,M⟩:=mI;obtain⟨f_add_runner,fd_add_runner,F_add_runner,M_add_runner⟩:=me_add_runner;obtain⟨f_do,fd_do,F_do,M_do⟩:=me_do;obtain⟨f_allows,fd_allows,F_allows,M_allows⟩:=me_allows;have i_NoText:=a8X (P:=l.prog) (w:=w) (base:=base) xc ix_NoText;have i_NoLog:=aC4 (P:=l.prog) (w:=w) (base:=base) xc ix_NoLog;have xne:nt≠nl:=fun e=>by
  have h1:=xc.k_NoText_NoLog;have h2:=xc.k_NoLog_NoLog;dsimp only at h1 h2;rw[e,h2] at h1
  cases h1
 have ae:=cH (P:=l.prog) (w:=w) (base:=base) d0 (fun a ns F=>a3N (a:=a) (ns:=ns) F B) (·.binds (by walk_at "bd"));have ay:=cH (P:=l.prog) (w:=w) (base:=base) d1 (fun a ns F=>a5Y (P0:=eO K a ns) F B Kt) (·.binds (by walk_at "bd"));have bj:=cH (P:=l.prog) (w:=w) (base:=base) d2 (fun a ns F=>qO (P0:=eO K a ns) F B Kt) (·.binds (by walk_at "bd"));have az:=cH d3 (fun a ns F=>a2Q F B Kt (bj a ns) (ay a ns)) (·.binds (by walk_at "bd"));have cj:=cH d4 (fun a ns F=>aDV F B Kt (az a ns)) (·.binds (by walk_at "bd"));have ck:=cH d5 (fun a ns F=>wN F B Kt (az a ns)) (·.binds (by walk_at "bd"));have bn:=cH d6 (fun a ns F=>a0V F B Kt (az a ns)) (·.binds (by walk_at "bd"));have cm:=cH (P:=l.prog) (w:=w) (base:=base) d7 (fun a ns F=>a8V (P0:=eO K a ns) F B Kt) (·.binds (by walk_at "bd"));have cn:=cH d8 (fun a ns F=>a6A F B Kt (cj a ns) (bn a ns)) (·.binds (by walk_at "bd"));have cq:=cH d9 (fun a ns F=>yG F B Kt (ck a ns) (bn a ns)) (·.binds (by walk_at "bd"));have bo:=cH d10 (fun a ns F=>a4T F B Kt (bj a ns) (ay a ns)) (·.binds (by walk_at "bd"));obtain⟨f2_whole_in,fd2_whole_in,F2_whole_in,hm2_whole_in⟩:=d11;have bf:∀ a ns,Cal l.prog w K mg base 1 "whole_in" ["word"] (spM (eO K a ns) 1 gQ):=fun a ns=>⟨f2_whole_in,fd2_whole_in,a6F hg_FIGURES hg_MOST_FIGURES F2_whole_in B Kt,hm2_whole_in,F2_whole_in.kp,(F2_whole_in.binds (ps:=["word"]) (by walk_at "bd"))⟩;have cr:=cH d12 (fun a ns F=>aCG F B Kt (bf a ns)) (·.binds (by walk_at "bd"));have cu:=cH d13 (fun a ns F=>a2T F B Kt (bo a ns) (bf a ns) (cr a ns)) (·.binds (by walk_at "bd"));have cw:=cH d14 (fun a ns F=>a6N F B Kt (cu a ns) (bf a ns)) (·.binds (by walk_at "bd"));have bp:=cH d15 (fun a ns F=>a5F F B Kt (cw a ns)) (·.binds (by walk_at "bd"));have cy:=cH d16 (fun a ns F=>aB3 F B Kt (bp a ns)) (·.binds (by walk_at "bd"));have cz:=cH d17 (fun a ns F=>a9O F B Kt (bp a ns)) (·.binds (by walk_at "bd"));obtain⟨f2_is_deed_number,fd2_is_deed_number,F2_is_deed_number,hm2_is_deed_number⟩:=d18;have da:∀ a ns,Cal l.prog w K mg base 3 "is_deed_number" ["thing"] (spM (eO K a ns) 1 cJ):=fun a ns=>⟨f2_is_deed_number,fd2_is_deed_number,uT hg_GREATEST_TOP hg_GREATEST_BOTTOM F2_is_deed_number B Kt (bo a ns),hm2_is_deed_number,F2_is_deed_number.kp,(F2_is_deed_number.binds (ps:=["thing"]) (by walk_at "bd"))⟩;have db:=cH d19 (fun a ns F=>a8I F B Kt (da a ns) (ay a ns)) (·.binds (by walk_at "bd"));have O_add_runner:=fun(a:AA) (ns:List Int)=>yW (P0:=(eO K a ns)) (P:=l.prog) (w:=w) (mg:=mg) (base:=base) cl n_running n_joined n_last F_add_runner B Kt;have B_add_runner:Binds K fd_add_runner ["self", "line"] []:=(F_add_runner.binds (ps:=["self", "line"]) (by walk_at "bd"));have O_do:=fun(a:AA) (ns:List Int)=>aJQ (P0:=(eO K a ns)) (P:=l.prog) (w:=w) (mg:=mg) (base:=base) cl n_running n_joined n_last M_add_runner (O_add_runner a ns) B_add_runner F_do B Kt (cq a ns) (cn a ns);have B_do:Binds K fd_do ["self", "deed"] []:=(F_do.binds (ps:=["self", "deed"]) (by walk_at "bd"));have O_allows:=fun(a:AA) (ns:List Int)=>a6J (P0:=(eO K a ns)) (P:=l.prog) (w:=w) (mg:=mg) (base:=base) cl n_running n_joined n_last hg_MOST_RUNNERS F_allows B Kt (cm a ns);have B_allows:Binds K fd_allows ["self", "deed"] []:=(F_allows.binds (ps:=["self", "deed"]) (by walk_at "bd"));obtain⟨f2_log_of,fd2_log_of,F2_log_of,hm2_log_of⟩:=d20;have CX_log_of:∀ a ns,CalX l.prog w K mg base 6 "log_of" ["thing"] (spX (eO K a ns) 1 (iW (XA.mk nt nl 0 0) c)):=fun a ns=>⟨f2_log_of,fd2_log_of,a97 (xa:=(XA.mk nt nl 0 0)) (c:=c) cl n_running n_joined n_last hmF M (a8N (P:=l.prog) (w:=w) (mg:=mg) (base:=base) cl n_running n_joined n_last FI B) (FI.binds (ps:=["self"]) (by walk_at "bd")) M_allows (O_allows a ns) B_allows M_do (O_do a ns) B_do hg_MOST_DEEDS F2_log_of B Kt xc i_NoText i_NoLog (db a ns),hm2_log_of,F2_log_of.kp,(F2_log_of.binds (ps:=["thing"]) (by walk_at "bd"))⟩;have dq:∀ a ns,Cal l.prog w K mg base 6 "log_of" ["thing"] (spM (eO K a ns) 1 aH9):=fun a ns=>(let ⟨f,fd,F,r⟩:=(CX_log_of a ns).ex; ⟨f,fd,F.noX2 fun _ _ z=>z _ _,r⟩);obtain⟨f2_lines_in,fd2_lines_in,F2_lines_in,hm2_lines_in⟩:=d21;have CX_lines_in:∀ a ns,CalX l.prog w K mg base 3 "lines_in" ["text"] (spX (eO K a ns) 1 (dG (XA.mk nt nl 0 0) c)):=fun a ns=>⟨f2_lines_in,fd2_lines_in,a3J (xa:=(XA.mk nt nl 0 0)) (c:=c) F2_lines_in B Kt xc i_NoText i_NoLog,hm2_lines_in,F2_lines_in.kp,(F2_lines_in.binds (ps:=["text"]) (by walk_at "bd"))⟩;have dr:∀ a ns,Cal l.prog w K mg base 3 "lines_in" ["text"] (spM (eO K a ns) 1 a8H):=fun a ns=>(let ⟨f,fd,F,r⟩:=(CX_lines_in a ns).ex; ⟨f,fd,F.noX2 fun _ _ z=>z _ _,r⟩);obtain⟨f2_refuse_first_none,fd2_refuse_first_none,F2_refuse_first_none,hm2_refuse_first_none⟩:=d22;have CX_refuse_first_none:∀ a ns,CalX l.prog w K mg base 3 "refuse_first_none" ["parts"] (spX (eO K a ns) 1 (bZ (XA.mk nt nl 0 0) c)):=fun a ns=>⟨f2_refuse_first_none,fd2_refuse_first_none,oO (xa:=(XA.mk nt nl 0 0)) (c:=c) F2_refuse_first_none B Kt xc i_NoText i_NoLog,hm2_refuse_first_none,F2_refuse_first_none.kp,(F2_refuse_first_none.binds (ps:=["parts"]) (by walk_at "bd"))⟩;have dw:∀ a ns,Cal l.prog w K mg base 3 "refuse_first_none" ["parts"] (spM (eO K a ns) 1 rB):=fun a ns=>(let ⟨f,fd,F,r⟩:=(CX_refuse_first_none a ns).ex; ⟨f,fd,F.noX2 fun _ _ z=>z _ _,r⟩);obtain⟨f2_read_log,fd2_read_log,F2_read_log,hm2_read_log⟩:=d23;have CX_read_log:∀ a ns,CalX l.prog w K mg base 7 "read_log" ["text"] (spX (eO K a ns) 1 (eG (XA.mk nt nl 0 0) c)):=fun a ns=>⟨f2_read_log,fd2_read_log,a2X (xa:=(XA.mk nt nl 0 0)) (c:=c) F2_read_log B Kt xc i_NoText i_NoLog (CX_log_of a ns) (CX_refuse_first_none a ns) (CX_lines_in a ns) (cz a ns),hm2_read_log,F2_read_log.kp,(F2_read_log.binds (ps:=["text"]) (by walk_at "bd"))⟩;have dz:∀ a ns,Cal l.prog w K mg base 7 "read_log" ["text"] (spM (eO K a ns) 1 a9V):=fun a ns=>(let ⟨f,fd,F,r⟩:=(CX_read_log a ns).ex; ⟨f,fd,F.noX2 fun _ _ z=>z _ _,r⟩);obtain⟨f2_read_book,fd2_read_book,F2_read_book,hm2_read_book⟩:=d24;have CX_read_book:∀ a ns,CalX l.prog w K mg base 7 "read_book" ["text"] (spX (eO K a ns) 1 (dD (XA.mk nt nl 0 0) c)):=fun a ns=>⟨f2_read_book,fd2_read_book,a1A (xa:=(XA.mk nt nl 0 0)) (c:=c) F2_read_book B Kt xc i_NoText i_NoLog (CX_refuse_first_none a ns) (CX_lines_in a ns) (cy a ns),hm2_read_book,F2_read_book.kp,(F2_read_book.binds (ps:=["text"]) (by walk_at "bd"))⟩;have ee:∀ a ns,Cal l.prog w K mg base 7 "read_book" ["text"] (spM (eO K a ns) 1 a6E):=fun a ns=>(let ⟨f,fd,F,r⟩:=(CX_read_book a ns).ex; ⟨f,fd,F.noX2 fun _ _ z=>z _ _,r⟩);have bg:=cH (P:=l.prog) (w:=w) (base:=base) d25 (fun a ns F=>a1D (P0:=eO K a ns) F B Kt) (·.binds (by walk_at "bd"));have de:=cH d26 (fun a ns F=>zP F B Kt (bg a ns) (ae a ns)) (·.binds (by walk_at "bd"));have bq:=cH d27 (fun a ns F=>a2P F B Kt (bg a ns) (ae a ns)) (·.binds (by walk_at "bd"));have df:=cH d28 (fun a ns F=>a9M F B Kt (ae a ns) (bq a ns) (de a ns) (bg a ns)) (·.binds (by walk_at "bd"));have dh:=cH (P:=l.prog) (w:=w) (base:=base) d29 (fun a ns F=>a5J (P0:=eO K a ns) F B Kt) (·.binds (by walk_at "bd"));have bh:=cH d30 (fun a ns F=>yV F B Kt (dh a ns)) (·.binds (by walk_at "bd"));have di:=cH d31 (fun a ns F=>a5L F B Kt (ae a ns)) (·.binds (by walk_at "bd"));have dj:=cH d32 (fun a ns F=>zA F B Kt (ae a ns)) (·.binds (by walk_at "bd"));obtain⟨f2_law_heard,fd2_law_heard,F2_law_heard,hm2_law_heard⟩:=d33;have aj:∀ a ns,Cal l.prog w K mg base 8 "_law_heard" ["_law_is_log", "_law_thing"] (spM (eO K a ns) 2 cZ):=fun a ns=>⟨f2_law_heard,fd2_law_heard,(a0U (xa:=(XA.mk nt nl 0 0)) (c:=c) F2_law_heard B Kt xc i_NoText i_NoLog (CX_read_log a ns) (CX_read_book a ns)).imp (fun vs H Q E ⟨F,as,Qm,h1,h2,h3,h4,h5,h6⟩=>⟨F,as,Qm,h1,h2,h3,h4,h5 _ _ xne,h6⟩),hm2_law_heard,F2_law_heard.kp,(F2_law_heard.binds (ps:=["_law_is_log", "_law_thing"]) (by walk_at "bd"))⟩;have dk:=cH d34 (fun a ns F=>uH F B Kt (aj a ns) (ae a ns) (dj a ns)) (·.binds (by walk_at "bd"));have dl:=cH d35 (fun a ns F=>rA F B Kt (aj a ns) (bh a ns) (ae a ns)) (·.binds (by walk_at "bd"));have dm:=cH d36 (fun a ns F=>tD F B Kt (aj a ns) (bh a ns)) (·.binds (by walk_at "bd"));exact aQN F B Kt  dm dl aj ae dk bh di bq df (hL c)
theorem walk {l:Fw}{q:AQ}{loose:List Str}{XP:Mg→AG→Prop}{YP:AK→AG→Prop}{d:DefRec}{K:Params→Fg}(hn:l.most=some 63)(hdf:d.params.defaults=[])(him:GW q=true)
  (hY:∀(w:AK) (h:AG),YP w h→(K w.params).In h)
  (F:∀(w:AK) (mg:Mg) (fa:AA) (h:AG),(K w.params).In h→h.Ns Ai mg→mg d.name=some (.ref fa) →
   ∃ fd:An,(∀(s:AD) (u:AB),Dn s fd ⟨[u],[]⟩ [("_law_script", u)])∧∀ base:AG,(K w.params).In base→base.Ns Ai mg→FnOk l.prog w (K w.params) mg base CX0 10 fa fd ["_law_script"] (aGM (K w.params))) :
  PySem.W.WalkO q loose XP YP l.row.toRowW d [] (fun f vs=>PySem.call f vs):=
 L2.aJG (n:=63) (k:=10) (x := "_law_script") (CX:=fun _=>CX0) (sp:=fun w=>aGM (K w.params)) hn (by decide) hdf him ⟨rfl,by decide,by decide,rfl⟩ hY F (fun _ _ a ns hl _ hS=>⟨a,ns,rfl,hS,hl,fun _=>rfl⟩) fun _ _ _ _ _ z=>z
end My
def PySem.W.Fast.tw10190259051810331048:=()
def PySem.W.Fast.tw11140512357064342096:=()
def PySem.W.Fast.tw12710266010988844140:=()
def PySem.W.Fast.tw12979131911536488902:=()
def PySem.W.Fast.tw13621014990440340405:=()
def PySem.W.Fast.tw17364955247123686679:=()
def PySem.W.Fast.tw2323076671600593775:=()
def PySem.W.Fast.tw2797240175501451087:=()
def PySem.W.Fast.tw7596167354863498815:=()
def PySem.W.Fast.tw7852211303740344302:=()
def PySem.W.Fast.tw8735564158871372163:=()
def PySem.W.Fast.tw9392260151759531171:=()
def PySem.W.Fast.tw9993902484173467023:=()
def PySem.W.Fast.tw3703611864558662993:=()
def PySem.W.Fast.tw9253108600321239177:=()
def PySem.W.Fast.tw11264634653086925003:=()
def PySem.W.Fast.tw9628444415401996700:=()
def PySem.W.Fast.tw7807440702409517414:=()
def PySem.W.Fast.tw14983165691767088711:=()
def PySem.W.Fast.tw5939662947200628820:=()
def PySem.W.Fast.tw4666997337095788150:=()
def PySem.W.Fast.tw5236690882857051913:=()
def PySem.W.Fast.tw14719995946066077710:=()
def PySem.W.Fast.tw3293296140499182314:=()
open PySem PySem.W PyProof.Rows
set_option maxRecDepth 100000 in
set_option maxHeartbeats 0 in
theorem PySem.Challenge.cw_leadtimes_k44_texts_refused_holds : PySem.Challenge.rw_leadtimes_k44_texts_refused.Holds := by
 w_on; o_law; k_head; (case hw => w_witness2)
 k_fill
 refine My.walk (l := PySem.Challenge.rw_leadtimes_k44_texts_refused) rfl rfl (by decide +kernel) (fun w h Y => kIn_of Y) ?F
 case F =>
  intro w mg fa h KX G hmg
  refine' My.aQJ hmg (My.aU5 KX G ?x0 ?x1 ?x2 ?x3 ?x4 ?x5 ?x6 ?x7 ?x8 ?x9 ?xa ?xb ?xc ?xd ?xe ?xf ?xg ?xh ?xi ?xj ?xk) (My.aOI ?xl ?xm ?xn ?xo ?xp ?xq ?xr ?xk ?xs ?xt ?xu ?xv ?xw ?xj ?xx ?xy ?xz ?x10 ?x11 ?x12 ?x13 ?x14 ?x15 ?x16 ?x17 ?x18 ?x19 ?x1a ?x1b ?x1c ?x1d ?x1e ?x1f ?x1g ?x1h ?x1i ?x1j ?x1k ?x1l ?x1m ?x1n ?x1o) (My.eX KX G ?x1p ?x1q ?x1r ?x1s) (My.eX KX G ?x1t ?x1u ?x1v ?x1w) (My.eX KX G ?x1x ?x1y ?x1z ?x20) (My.eX KX G ?x21 ?x22 ?x23 ?x24) (My.eX KX G ?x25 ?x26 ?x27 ?x28) (My.eX KX G ?x29 ?x2a ?x2b ?x2c) (My.eX KX G ?x2d ?x2e ?x2f ?x2g) (My.eX KX G ?x2h ?x2i ?x2j ?x2k) (My.eX KX G ?x2l ?x2m ?x2n ?x2o) (My.eX KX G ?x2p ?x2q ?x2r ?x2s) (My.eX KX G ?x2t ?x2u ?x2v ?x2w) (My.eX KX G ?x2x ?x2y ?x2z ?x30) (My.eX KX G ?x31 ?x32 ?x33 ?x34) (My.eX KX G ?x35 ?x36 ?x37 ?x38) (My.eX KX G ?x39 ?x3a ?x3b ?x3c) (My.eX KX G ?x3d ?x3e ?x3f ?x3g) (My.eX KX G ?x3h ?x3i ?x3j ?x3k) (My.eX KX G ?x3l ?x3m ?x3n ?x3o) (My.eX KX G ?x3p ?x3q ?x3r ?x3s) (My.eX KX G ?x3t ?x3u ?x3v ?x3w) (My.eX KX G ?x3x ?x3y ?x3z ?x40) (My.eX KX G ?x41 ?x42 ?x43 ?x44) (My.eX KX G ?x45 ?x46 ?x47 ?x48) (My.eX KX G ?x49 ?x4a ?x4b ?x4c) (My.eX KX G ?x4d ?x4e ?x4f ?x4g) (My.eX KX G ?x4h ?x4i ?x4j ?x4k) (My.eX KX G ?x4l ?x4m ?x4n ?x4o) (My.eX KX G ?x4p ?x4q ?x4r ?x4s) (My.eX KX G ?x4t ?x4u ?x4v ?x4w) (My.eX KX G ?x4x ?x4y ?x4z ?x50) (My.eX KX G ?x51 ?x52 ?x53 ?x54) (My.eX KX G ?x55 ?x56 ?x57 ?x58) (My.eX KX G ?x59 ?x5a ?x5b ?x5c) (My.eX KX G ?x5d ?x5e ?x5f ?x5g) (My.eX KX G ?x5h ?x5i ?x5j ?x5k) (My.eX KX G ?x5l ?x5m ?x5n ?x5o) (My.eX KX G ?x5p ?x5q ?x5r ?x5s) (My.eX KX G ?x5t ?x5u ?x5v ?x5w) (BZ KX G ?x5x) ⟨?x5y, ?x5z, ?x60, ?x61⟩ (My.aKV ?x62) (My.aKV ?x63) (My.aKV ?x64) (My.aSO ?x65 ?x66 ?x67 ?x68 ?x69 ?x6a ?x6b) (My.aK6 ?x6c ?x6d ?x6e ?x6f ?x6g) (My.aK6 ?x6h ?x6i ?x6j ?x6k ?x6l) (My.aK6 ?x6m ?x6n ?x6o ?x6p ?x6q) (BZ KX G ?x6r) (BZ KX G ?x6s) (BZ KX G ?x6t) (BZ KX G ?x6u) (BZ KX G ?x6v) (BZ KX G ?x6w) (My.aNZ KX G ?x6x ?x6y ?x6z ?x70 ?x71 ?x72 ?x73 ?x74 ?x75 ?x76 ?x77 ?x78 ?x79 ?x7a ?x7b ?x7c ?x7d ?x7e ?x7f ?x7g ?x7h ?x7i ?x7j ?x7k ?x7l ?x7m ?x7n ?x7o ?x7p ?x7q ?x7r ?x7s ?x7t ?x7u ?x7v ?x7w ?x7x ?x7y ?x7z ?x80) (My.aHO ?x81 ?x82 ?x83 ?x84 ?x85) (My.aHO ?x86 ?x87 ?x88 ?x89 ?x8a) My.law_true
  (case x5x|x5y|x5z|x60|x61|x62|x63|x64|x65|x66|x67|x68|x69|x6a|x6b|x6c|x6d|x6e|x6f|x6g|x6h|x6i|x6j|x6k|x6l|x6m|x6n|x6o|x6p|x6q|x6r|x6s|x6t|x6u|x6v|x6w|x6x|x6y|x6z|x70|x71|x72|x73|x74|x75|x76|x77|x78|x7a|x7b|x7c|x7d|x7e|x7f|x7g|x7h|x7i|x7j|x7k|x7l|x7m|x7n|x7o|x7p|x7q|x7r|x7s|x81|x82|x83|x84|x85|x86|x87|x88|x89|x8a => k_is)
  (case x79 => k_exc)
  (case x7t|x7u|x7v|x7w|x7x|x7y|x7z|x80 => kit_is)
  (case x1p|x1q|x1r|x1s|x1t|x1u|x1v|x1w|x1x|x1y|x1z|x20|x21|x22|x23|x24|x25|x26|x27|x28|x29|x2a|x2b|x2c|x2d|x2e|x2f|x2g|x2h|x2i|x2j|x2k|x2l|x2m|x2n|x2o|x2p|x2q|x2r|x2s|x2t|x2u|x2v|x2w|x2x|x2y|x2z|x30|x31|x32|x33|x34|x35|x36|x37|x38|x39|x3a|x3b|x3c|x3d|x3e|x3f|x3g|x3h|x3i|x3j|x3k|x3l|x3m|x3n|x3o|x3p|x3q|x3r|x3s|x3t|x3u|x3v|x3w|x3x|x3y|x3z|x40|x41|x42|x43|x44|x45|x46|x47|x48|x49|x4a|x4b|x4c|x4d|x4e|x4f|x4g|x4h|x4i|x4j|x4k|x4l|x4m|x4n|x4o|x4p|x4q|x4r|x4s|x4t|x4u|x4v|x4w|x4x|x4y|x4z|x50|x51|x52|x53|x54|x55|x56|x57|x58|x59|x5a|x5b|x5c|x5d|x5e|x5f|x5g|x5h|x5i|x5j|x5k|x5l|x5m|x5n|x5o|x5p|x5q|x5r|x5s|x5t|x5u|x5v|x5w|x0|x1|x2|x3|x4|x5|x6|x7|x8|x9|xa|xb|xc|xd|xe|xf|xg|xh|xi => k_is)
  (case xl|xm|xn|xo|xp|xq|xr|xk|xs|xt|xu|xv|xw|xj|xx|xy|xz|x10|x11|x12|x13|x14|x15|x16|x17|x18|x19|x1a|x1b|x1c|x1d|x1e|x1f|x1g|x1h|x1i|x1j|x1k|x1l|x1m|x1n|x1o => kit_is)
#print axioms PySem.Challenge.cw_leadtimes_k44_texts_refused_holds
