import PyProof.Rows.All
import Wide.All
import OpenK.AllK
import Wide.FinOn
import Lean
import PyProof.EqAt
import PyProof.EqKinds
import PyProof.TupleCall
import PyProof.P3Eq
import PyProof.P3In
import PyProof.NeData
import PyProof.FitsBits
import PySem.Challenge.RW_leadtimes_k47_whole_mirrored_in_time
open And renaming intro→A7
open Array renaming forIn_toList→D8,getD_eq_getD_getElem?→BW,getElem?_eq_getElem→A1,getElem?_eq_none→CU,getElem?_eq_some_iff→EQ,getElem?_toList→BX,getElem_toList→D9,length_toList→Af,mem_of_getElem?→FX,mem_toList_iff→CV,perm_iff_toList_perm→EA,replicate→FY,size_push→FU,size_replicate→GJ,size_setIfInBounds→GI,toList_filterMap→Ee,toList→E9
open Bool renaming and_eq_true→CT,beq_eq_decide_eq→GC,eq_false_iff→Ec,eq_iff_iff→El,false_and→FC,false_eq_true→Ae,false_ne_true→BZ,not_eq_true→Ed,not_false→EL,not_true→Bb,or_false→EJ
open False renaming elim→CC
open ForInStep renaming yield→Di
open Int renaming emod_lt_of_pos→CA,emod_nonneg→CB,fdiv_eq_ediv_of_nonneg→F0,gcd→BK,mul_ne_zero→BM,mul_one→Da,mul_pos→D5,toNat_natCast→B7,zero_add→Cu,zero_sub→D6
open List renaming any_eq_false→ES,any_eq_true→ET,append_assoc→DL,append_nil→CK,ext_getElem?→Cv,filterMap_cons→CL,filter_cons→Cw,filter_eq_self→CM,filter_sublist→Dv,find?_eq_none→DM,foldl_cons→DN,forIn_cons→EU,getD_eq_getElem?_getD→Bs,getElem?_append_left→Bu,getElem?_append_right→B3,getElem?_cons_succ→DO,getElem?_eq_getElem→AQ,getElem?_map→Aa,getElem?_range→DP,getElem?_replicate→CN,getElem?_set_ne→Bh,getElem?_set_self→Bn,getElem_inj→EV,getElem_mem→B9,isEmpty_nil→EW,length_append→BN,length_cons→An,length_drop→DQ,length_filter_le→B4,length_map→AS,length_nil→Ch,length_pos_iff→Dw,length_range→Bv,length_replicate→Cy,length_set→CO,length_singleton→Cz,length_take→Bw,lookup_cons→DR,map_append→Bi,map_congr_left→DS,map_cons→BD,map_map→A9,mem_append_left→Dx,mem_append_right→Bo,mem_append→BO,mem_cons_of_mem→AU,mem_cons→AK,mem_filterMap→C0,mem_filter→Ap,mem_iff_getElem→Dy,mem_map_of_mem→Dz,mem_map→Ab,mem_of_getElem?→BL,mem_range→A2,nil_append→By,nodup_append→DT,nodup_cons→BS,nodup_nil→CP,not_mem_nil→B5,of_mem_zip→EX,pairwise_append→C1,pairwise_cons→BU,pairwise_iff_getElem→CQ,pairwise_map→C2,range_succ→EY,size_toArray→Ak,take_length→DU,take_sublist→D0,take_succ→DV,zip_cons_cons→EZ
open Nat renaming div_add_mod→Ft,div_eq_of_lt→FW,le_add_right→FV,le_of_ble_eq_true→GB,le_of_lt_succ→DW,le_of_lt→Bz,le_of_not_lt→FI,le_refl→AN,le_trans→Aw,lt_irrefl→BI,lt_of_le_of_lt→FK,lt_of_lt_of_le→Al,lt_of_succ_lt_succ→DX,lt_succ_of_lt→Ba,lt_succ_self→D1,lt_trichotomy→C3,min_le_left→Ci,mul_comm→C4,mul_le_mul_right→Fu,mul_le_mul→Cj,ne_of_gt→A5,ne_of_lt→Ag,not_lt_zero→B0,pow_le_pow_right→F9,succ_le_succ→FR,succ_mul→D2,succ_pos→D3,zero_add→DY,zero_le→A8
open Option renaming isNone_some→E7,isSome_iff_exists→D4,map_eq_some_iff→C5,some→Az
open Or renaming inl→DA
open Prod renaming ext→EM,fst→Dj
open Prod.mk renaming injEq→E5
open PyProof.Rows renaming AllBare→CY,IntsAre→B1,assignInOrder_cons→FB,boot_abs→ER,boot_sorted→Fs,callWith_type1→EE,envOfC→CF,importsNone→F7,lt_int→F1,seqObj→As,subscriptTail_builtinR→FH,subscriptTail→FF
open PyProof.Rows.F renaming entry_set_update_loop→GS,plain_set_update_loop→Fn
open PySem renaming Addr→AB,Around.under_plainId→DE,Around→AV,BindsTo→Dh,Builtin.Dict.showsAll→GL,Builtin.Dict_items.ownsTuple→GM,Builtin.Int.intBits→GA,Builtin.List.listExtendWith→Ce,Builtin.List.listFitsIndex→GE,Builtin.List.listItems→Eu,Builtin.List.listLengthHint→Ev,Builtin.List.listSameRef→Do,Builtin.List.listTouch→GH,Builtin.List.listUpdate→GG,Builtin.Range.rangeSize→Fz,Builtin.SmallTypes.nextOf→Es,Builtin.SmallTypes.ownedTupleIsFree→Et,Builtin.Tuple.tupleHashOf→DJ,Builtin→AM,Calls.Name_function_global→Fx,Calls.callWith_builtin→F5,Calls.call_function_entry→GQ,Calls.evalArgs_plain→F6,DictEntry→B8,Expr→AR,FuncData→BR,GenState→Dd,Heap.SameBut.update→CI,Heap.SameBut→Ar,Heap→AF,IntMulOk→Df,IsPair→Bc,IsTupleKey→CG,ItemsOf→DI,Keyword→EH,NameKind→A3,Obj.cls_mapFields→Fd,Obj.data_mapDictKeys→GP,Obj.data_mapFields→Dq,Obj.isFreed_of_fields→Fc,Obj.mapFields→E1,Obj.mapSeq→Aj,Obj.putSet→DH,Paired→AX,PassesOwn.never→BC,PassesOwn→A6,Program→AL,PyData.bool→FQ,PyData.canLayAll0→FO,PyData.depthAll→FP,PyData.eqv→Av,PyData.int→A0,PyData→AJ,Result→Cn,Scope→BH,SeqAt.EqAt→Ef,SetTable→Bd,Shared.TypeIs→Fo,Shared→AC,Spec→AW,Stmt→AO,Str.ofString→DC,Value.bool→Eg,Value.int→Db,Value.none→BF,Value.ref→Ac,Value.type→BG,Value→AA,World→AI,ZipApart→DB,assignEach→De,assignInOrder→FA,assign→CZ,backTo→Bq,behindInMarks→EC,binaryOp→CD,bootBuiltins→Dc,boot_len→Ay,builtinLookup_eq_fast→Er,cLine→Ai,callerA→C9,codeAny_builtin→Cq,codeAny_extend_loopS→GO,codeAny_mono→EF,codeAny→Bk,compareOp→BQ,dictSetDefault→Fi,entryOfKey→Eh,eqIsQuiet→Dr,evalPart_none→FE,eval→Ah,firstArgMember→E2,foldedSetIterable→FD,hashByValue→CH,holding→ED,intKind_is→Ew,intKind→Ax,isSubtype_stop→FT,isSubtype_tuple_tuple→GT,isSubtype_type→Ff,letOwnedTupleGo→Ek,mainGlobals→Ao,mem_of_lookup→EI,model→AH,ofAClassStatement→Cg,pickOrder→Cs,plainId_quiet→Cr,pyNext→BJ,rawInt→Au,seqIndex_of→FG,setSearchFrom→Fk,sizeLine_eq→Br,sliceBounds→Co,slicePick→Em,starEach→Am,sysModules→BP,tupleKeyHash→DK,tupleKind→EB,typeLookup_type→Ep,updateSeq→Cc,wpAny_Call_Name_kw→EG,wpAny_Call_method_late→F4,wpAny_askSetting→E4,wpAny_attempt→Dl,wpAny_bind→AD,wpAny_callSpecial?_slot→Dm,wpAny_call_entry→Bm,wpAny_comprehension_free→GD,wpAny_dictEntries→Ex,wpAny_dictEpoch→Fa,wpAny_eqBool_int→E8,wpAny_eqBool_tuple→E3,wpAny_execs_nil→Ei,wpAny_fieldsOf→Dp,wpAny_field→Cp,wpAny_forIn_list→C8,wpAny_getItem_list_slice→F3,wpAny_holding→BB,wpAny_isInstance→DD,wpAny_isOneOf_keyiter→Fb,wpAny_isSame_ref_self→GR,wpAny_isTrue_Compare1→Fy,wpAny_ite_split→Fh,wpAny_loadName_cell→Fw,wpAny_loadName_local→Fv,wpAny_mono→BY,wpAny_newList→Fj,wpAny_newObj_type→Ca,wpAny_nextOf_list_end→GF,wpAny_nextOf_list_item→FS,wpAny_notOrdered_dict→GK,wpAny_of_eq→Fe,wpAny_passesOwn→C7,wpAny_pure→AG,wpAny_pyIter_keyiter→GN,wpAny_pyIter_slot→FZ,wpAny_rule→Cm,wpAny_seqItems→Cb,wpAny_setEntries_of→Fq,wpAny_setField→EN,wpAny_setState_of→CJ,wpAny_specialOf→Cf,wpAny_standAt→Ej,wpAny_truthy_bool→C6,wpAny_tupleItemsOf→Fp,wpAny_typeNameOfWhole_keyiter→Ey,wpAny_typeNameOf_keyiter→Ez,wpAny_typeOf→DF,wpAny_updateSeq→Cd,wpAny→AE
open PySem.F renaming plainAttrs_list→Ct,slot_list_append→Ds,slot_list_insert→GU,type_list_append→Du,type_list_insert→GV
open PySem.Heap renaming get?_push_of_some→AZ,get?_push_size→Aq,get?_update_other→Bj,get?_update_self→BV,lt_size→AT,size_push→B6,size_update→DZ
open PySem.SetTable renaming Probe→Be,advance→DG,bits→A4,insertAt→B2,turns→Bg
open PySem.W renaming Frag→Ad,KasT.kasWp_bind→EO,OpenLaw→FJ,cellsFrom_some→E6,kia_one→Bp,kitOne→AY,kitx_dict→Ea,methodObj→Eb,mg_none_of→BE,nsIn→BA
open Rat renaming divInt_mul_divInt→FL,divInt_mul_right→F8,div_mul_cancel→D7,ext→EK,intCast_mul→FN,le_refl→Dk,mul_pos→Eo,num_divInt_den→CS,zero_divInt→FM
open Sum renaming inl→CW,inr→Ck
open True renaming intro→Dg
open List (map_drop map_nil mem_cons_self mem_singleton)
open PySem.W (codeIn findIn fnOf instObj kIn_of keepIn kitx_list lookIn mg_of mroIn plainGet)
open Nat (mod_lt not_lt sub_self)
open Array (size_map toList_inj)
noncomputable section
set_option compiler.extract_closed false
set_option Elab.async false
set_option linter.all false
set_option maxRecDepth 100000
namespace L2
open PySem PySem.Spec PyProof.Rows
abbrev Key:=Sum Int Str
noncomputable def aKZ:Key→AA→Bool
 | .inl k,v=>AA.isInt k v
 | .inr x,v=>AA.isStrOf x v
noncomputable def aSN (w:AI):Key→Int
 | .inl k=>hashInt k
 | .inr x=>hashStr w x
theorem dG:∀{k:Key} {v:AA},aKZ k v=true→(∃ i t,k=CW i∧v=Db i t)∨(∃ x t,k=Ck x∧v=AA.str x t)
 | .inl i,v,h=>by
  obtain⟨t,e⟩:=AA.isInt_shape (k:=i) (v:=v) h;exact .inl ⟨i,t,rfl,e⟩
 | .inr x,v,h=>by
  obtain⟨t,e⟩:=AA.isStrOf_shape (x:=x) (v:=v) h;exact .inr ⟨x,t,rfl,e⟩
theorem aOA (a b:Int):decide ((CW a:Key)=CW b)=(a==b):=by
 by_cases e:a=b
 ·subst e; simp
 ·have h:¬(CW a:Key)=CW b:=fun q=>e (CW.inj q);rw[decide_eq_false h];exact(beq_eq_false_iff_ne.mpr e).symm
theorem aOE (a b:Str):decide ((Ck a:Key)=Ck b)=decide (a=b):=by
 by_cases e:a=b
 ·subst e; simp
 ·have h:¬(Ck a:Key)=Ck b:=fun q=>e (Ck.inj q);rw[decide_eq_false h,decide_eq_false e]
theorem aN3 (a:Int)(b:Str):decide ((CW a:Key)=Ck b)=false:=decide_eq_false (fun q=>nomatch q)
theorem aNZ (a:Str)(b:Int):decide ((Ck a:Key)=CW b)=false:=decide_eq_false (fun q=>nomatch q)
noncomputable def a3Z (prog:AL)(w:AI):PySem.KeyKind prog w Key where
 is:=aKZ
 hash:=aSN w
 inj:=fun v a b ha hb=>by
  rcases dG ha with⟨i,t,rfl,rfl⟩|⟨x,t,rfl,rfl⟩
  ·rcases dG hb with⟨j,u,rfl,e⟩|⟨y,u,rfl,e⟩
   ·injection e with e1 _; rw[e1]
   ·exact nomatch e
  ·rcases dG hb with⟨j,u,rfl,e⟩|⟨y,u,rfl,e⟩
   ·exact nomatch e
   ·injection e with e1 _; rw[e1]
 byValue:=fun k v h=>by
  rcases dG h with⟨i,t,rfl,rfl⟩|⟨x,t,rfl,rfl⟩<;>rfl
 pyHash:=fun hv h=>by
  rcases dG hv with⟨i,t,rfl,rfl⟩|⟨x,t,rfl,rfl⟩
  ·exact wpAny_pyHash_int h
  ·exact wpAny_pyHash_str h
 eqBool:=fun hu hv h=>by
  rcases dG hu with⟨i,t,rfl,rfl⟩|⟨x,t,rfl,rfl⟩
  ·rcases dG hv with⟨j,u,rfl,rfl⟩|⟨y,u,rfl,rfl⟩
   ·rw[aOA] at h; exact E8 h
   ·rw[aN3] at h; exact Ef.int_str i t y u _ _ _ _ h
  ·rcases dG hv with⟨j,u,rfl,rfl⟩|⟨y,u,rfl,rfl⟩
   ·rw[aNZ] at h; exact Ef.str_int x t j u _ _ _ _ h
   ·rw[aOE] at h; exact wpAny_eqBool_str h
 «strs»:=fun k x t v h=>by
  rcases dG h with⟨i,u,rfl,e⟩|⟨y,u,rfl,e⟩
  ·exact nomatch e
  ·injection e with e1 _;subst e1
   cases v<;>rfl
theorem aBO (prog:AL)(w:AI)(k:Key)(v:AA):(a3Z prog w).is k v=aKZ k v:=rfl
end L2
namespace L2
open PySem PySem.Spec PyProof.Rows
inductive V where
 | non|bl (b:Bool)|int (i:Int)|str (x:Str)|byt (b:Array UInt8)|flt (b:UInt64)|ref (a:AB)|ty (n:String)
 deriving DecidableEq
noncomputable def RelV:V→AA→Prop
 | .non,u=>u=BF
 | .bl b,u=>u=Eg b
 | .int i,u=>∃ t,u=Db i t
 | .str x,u=>∃ t,u=AA.str x t
 | .byt b,u=>∃ t,u=AA.bytes b t
 | .flt b,u=>∃ t,u=AA.float b t
 | .ref a,u=>u=Ac a
 | .ty n,u=>u=BG n
abbrev Vals:List V→List AA→Prop:=AX RelV
theorem Vals.length {xs:List V}{us:List AA}(r:Vals xs us):xs.length=us.length:=AX.length r
theorem Vals.get:∀{xs:List V} {us:List AA} {i:Nat} {x:V},Vals xs us→xs[i]?=some x→∃ u,us[i]?=some u∧RelV x u
 | _,_,_,_,.nil,e=>by simp at e
 | _,_,0,_,.cons r _,e=>by simp at e; subst e; exact⟨_,rfl,r⟩
 | _,_,i+1,x,.cons _ t,e=>by
  obtain⟨u,h1,h2⟩:=Vals.get (i:=i) (x:=x) t (by simpa using e);exact⟨u,by simpa using h1,h2⟩
theorem Vals.set {x:V}{u:AA}(r:RelV x u):∀{xs:List V} {us:List AA} (i:Nat),Vals xs us→Vals (xs.set i x) (us.set i u)
 | _,_,_,.nil=>.nil
 | _,_,0,.cons _ t=>.cons r t
 | _,_,i+1,.cons q t=>.cons q (Vals.set r i t)
theorem Vals.append:∀{xs ys:List V} {us ws:List AA},Vals xs us→Vals ys ws→Vals (xs++ys) (us++ws):=by
 intro xs ys us ws h q
 induction h with
 | nil=>exact q
 | cons r t ih=>exact .cons r ih
theorem Vals.take:∀{xs:List V} {us:List AA} (n:Nat),Vals xs us→Vals (xs.take n) (us.take n)
 | _,_,0,_=>.nil
 | _,_,_+1,.nil=>.nil
 | _,_,n+1,.cons r t=>.cons r (Vals.take n t)
theorem Vals.drop:∀{xs:List V} {us:List AA} (n:Nat),Vals xs us→Vals (xs.drop n) (us.drop n)
 | _,_,0,r=>r
 | _,_,_+1,.nil=>.nil
 | _,_,n+1,.cons _ t=>Vals.drop n t
theorem Vals.none_of:∀{xs:List V} {us:List AA} {i:Nat},Vals xs us→xs[i]?=none→us[i]?=none:=fun{xs us i} r e=>by
 have h1:=r.length;have h2:xs.length≤i:=List.getElem?_eq_none_iff.mp e;exact List.getElem?_eq_none_iff.mpr (by omega)
noncomputable def aPR:Option V→Option AA→Prop
 | some v,some u=>RelV v u
 | none,none=>True
 | _,_=>False
noncomputable def KV {κ:Type}:List (κ×V)→List (κ×AA)→Prop:=AX fun(p:κ×V) (q:κ×AA)=>p.1=q.1∧RelV p.2 q.2
noncomputable def kV:Key→V
 | .inl i=>.int i
 | .inr x=>.str x
inductive HO where
 | lst (xs:List V)
 | tup (xs:List V)
 | dK (kvs:List (Key×V))|dT (kvs:List (List Key×V))
 | set (S:Int→Bool) (n:Nat)
 | ins (C dx:AB) (fs:List (Str×V))
 | own (x:AB)
 | xd (fs:List (Str×V))
 | met (f x:AB)
 | rng (lo hi:Int)
 | frz (o:Obj) (u:HO)
 | tbl (ps:Array AA)
 | ext (φ:AF→Prop)
abbrev Hp:=AB→Option HO
noncomputable def upd (H:Hp)(a:AB)(o:HO):Hp:=fun b=>if b=a then some o else H b
theorem bO {H:Hp}{a:AB}{o:HO}:upd H a o a=some o:=by unfold upd; rw[if_pos rfl]
theorem aY {H:Hp}{a b:AB}{o:HO}(h:b≠a):upd H a o b=H b:=by unfold upd; rw[if_neg h]
theorem aO6 {H:Hp}{a b:AB}{o u:HO}(h:H a=some o)(h':H b=some u)(d:o≠u):a≠b:=by
 intro e; subst e; rw[h] at h'; exact d (Az.inj h')
theorem bA {H:Hp}{a b:AB}{o:HO}(h:H a=some o)(h':H b=none):a≠b:=by
 intro e; subst e; rw[h] at h'; cases h'
section
variable (P:AL)(w:AI)
noncomputable def ObjOk (H:Hp)(h:AF)(a:AB):HO→Prop
 | .lst xs=>xs.length≤sizeLine∧∃(its:List AA) (n:Nat),Vals xs its∧h.get? a=some { cls:=.type "list", data:=.seq its.toArray n }
 | .tup xs=>xs.length≤sizeLine∧∃ its:List AA,Vals xs its∧IsTup h a its.toArray
 | .dK kvs=>kvs.length≤sizeLine∧(a==BP)=false∧∃ vs,KV kvs vs∧h.DictOf (a3Z P w) a vs
 | .dT kvs=>kvs.length≤sizeLine∧(a==BP)=false∧∃ xs:List (List Key×AB×AA),
   AX (fun(p:List Key×V) (q:List Key×AB×AA)=>p.1=q.1∧H q.2.1=some (.tup (p.1.map kV))∧RelV p.2 q.2.2) kvs xs ∧
   ∃ o es ep,h.get? a=some o∧o.ExactDict∧o.data=.dict es ep∧es.toList=xs.map (Eh (EB (a3Z P w)))∧(xs.map (·.1)).Nodup
 | .set S n=>h.SetOf (Ax P w) a S n
 | .ins C dx fs=>H dx=some (.own a)∧fs.length≤1000∧dx≠a∧h.get? a=some (instObj C dx) ∧
   ∃ mA,h.Ns1 dx mA∧(∀ f,aPR (fs.lookup f) (mA f))∧PySem.Within mA (fs.map (·.1))
 | .own _=>∃ o,h.get? a=some o
 | .xd fs=>∃ mA,h.Ns1 a mA∧∀ f,aPR (fs.lookup f) (mA f)
 | .rng lo hi=>∃ t u v,h.get? a=some { cls:=.type "range", data:=.fields #[.int lo t,.int hi u,.int 1 v] }
 | .frz o u=>h.get? a=some o∧ObjOk H h a u
 | .tbl ps=>h.get? a=some { cls:=.none,data:=.fields ps }
 | .met f x=>h.get? a=some (Eb (.ref f) (.ref x))
 | .ext φ=>φ h∧(∃ o,h.get? a=some o)∧∀ h1 h2:AF,φ h1→(∀ o,h1.get? a=some o→h2.get? a=some o)→φ h2
noncomputable def HOk (H:Hp)(h:AF):Prop:=∀ a o,H a=some o→ObjOk P w H h a o
end
section
variable {P:AL}{w:AI}{H H':Hp}{h h':AF}{a:AB}{o:HO}
theorem ObjOk.lt (x:ObjOk P w H h a o):a<h.objs.size:=by
 cases o with
 | lst xs=>obtain⟨_,_,_,_,e⟩:=x; exact AT e
 | tup xs=>obtain⟨_,_,_,p⟩:=x; exact p.lt
 | dK kvs=>obtain⟨_,_,_,_,o,_,_,e,_⟩:=x; exact AT e
 | dT kvs=>obtain⟨_,_,_,_,o,_,_,e,_⟩:=x; exact AT e
 | set S n=>obtain⟨o,_,_,_,e,_⟩:=x; exact AT e
 | ins C dx fs=>obtain⟨_,_,_,e,_⟩:=x; exact AT e
 | own y=>obtain⟨_,e⟩:=x; exact AT e
 | xd fs=>obtain⟨_,⟨_,_,_,e,_⟩,_⟩:=x; exact AT e
 | rng lo hi=>obtain⟨_,_,_,e⟩:=x; exact AT e
 | frz ob u=>obtain⟨e,_⟩:=x; exact AT e
 | tbl ps=>exact AT (show h.get? a=some _ from x)
 | met f y=>exact AT (show h.get? a=some _ from x)
 | ext φ=>obtain⟨_,⟨_,e⟩,_⟩:=x; exact AT e
theorem AX.mapP {α β:Type}{F G:α→β→Prop}:∀{l₁:List α} {l₂:List β},AX F l₁ l₂→(∀ a b,F a b→G a b)→AX G l₁ l₂:=by
 intro l₁ l₂ h f
 induction h with
 | nil=>exact .nil
 | cons r t ih=>exact .cons (f _ _ r) ih
theorem AX.imp' {α β:Type}{F G:α→β→Prop}(f:∀ a b,F a b→G a b){l₁:List α}{l₂:List β}(r:AX F l₁ l₂):AX G l₁ l₂:=AX.mapP r f
theorem ObjOk.stay (x:ObjOk P w H h a o)(k:∀ b u,(b=a∨H b=some (.own a))→h.get? b=some u→h'.get? b=some u)
  (ho:∀ b,H b=some (.own a)→H' b=some (.own a)) (ht:∀ b xs,H b=some (.tup xs)→H' b=some (.tup xs)):ObjOk P w H' h' a o:=by
 induction o with
 | lst xs=>obtain⟨z,its,n,r,e⟩:=x; exact⟨z,its,n,r,k _ _ (.inl rfl) e⟩
 | tup xs=>obtain⟨z,its,r,ob,e,c⟩:=x; exact⟨z,its,r,ob,k _ _ (.inl rfl) e,c⟩
 | dK kvs=>obtain⟨z,y,vs,r,ob,es,ep,e,c⟩:=x; exact⟨z,y,vs,r,ob,es,ep,k _ _ (.inl rfl) e,c⟩
 | dT kvs=>
  obtain⟨z,y,xs,r,ob,es,ep,e,c⟩:=x;exact⟨z,y,xs,AX.mapP r fun p q z=>⟨z.1,ht _ _ z.2.1,z.2.2⟩,ob,es,ep,k _ _ (.inl rfl) e,c⟩
 | set S n=>obtain⟨ob,es,ep,t,e,c⟩:=x; exact⟨ob,es,ep,t,k _ _ (.inl rfl) e,c⟩
 | ins C dx fs=>
  obtain⟨d,z,ne,e,mA,⟨od,es,ep,e2,c⟩,r⟩:=x;exact⟨ho _ d,z,ne,k _ _ (.inl rfl) e,mA,⟨od,es,ep,k _ _ (.inr d) e2,c⟩,r⟩
 | own y=>obtain⟨ob,e⟩:=x; exact⟨ob,k _ _ (.inl rfl) e⟩
 | xd fs=>obtain⟨mA,⟨od,es,ep,e,c⟩,r⟩:=x; exact⟨mA,⟨od,es,ep,k _ _ (.inl rfl) e,c⟩,r⟩
 | rng lo hi=>obtain⟨t,u,v,e⟩:=x; exact⟨t,u,v,k _ _ (.inl rfl) e⟩
 | frz ob u ih=>obtain⟨e,q⟩:=x; exact⟨k _ _ (.inl rfl) e,ih q⟩
 | tbl ps=>
  have e:h.get? a=some { cls:=.none,data:=.fields ps }:=x;show h'.get? a=some { cls:=.none,data:=.fields ps };exact k a _ (.inl rfl) e
 | met f y=>
  have e:h.get? a=some (Eb (.ref f) (.ref y)):=x;show h'.get? a=some (Eb (.ref f) (.ref y));exact k a _ (.inl rfl) e
 | ext φ=>obtain⟨p,⟨o,e⟩,st⟩:=x; exact⟨st _ _ p fun o q=>k _ _ (.inl rfl) q,⟨o,k _ _ (.inl rfl) e⟩,st⟩
theorem HOk.lt (x:HOk P w H h)(e:H a=some o):a<h.objs.size:=(x a o e).lt
theorem HOk.fresh (x:HOk P w H h)(e:h.objs.size≤a):H a=none:=by
 cases q:H a with
 | none=>rfl
 | some u=>exact absurd (Al (x.lt q) e) (BI _)
theorem HOk.kept (x:HOk P w H h)(k:∀ b u,h.get? b=some u→h'.get? b=some u):HOk P w H h':=fun a o e=>
 (x a o e).stay (fun b u _ q=>k b u q) (fun _ q=>q) fun _ _ q=>q
theorem HOk.laid (x:HOk P w H h)(k:∀ b u,h.get? b=some u→h'.get? b=some u)(hp:h.objs.size≤a)(new:ObjOk P w (upd H a o) h' a o):HOk P w (upd H a o) h':=fun b u e=>by
 have hn:=x.fresh hp
 by_cases hb:b=a
 ·subst hb; rw[bO] at e; cases e; exact new
 ·rw[aY hb] at e;exact(x b u e).stay (fun c v _ q=>k c v q) (fun c q=>by rw[aY (bA q hn)]; exact q) fun c xs q=>by rw[aY (bA q hn)]; exact q
end
noncomputable def Rd (H:Hp)(a:AB)(u:HO):Prop:=H a=some u∨∃ o,H a=some (.frz o u)
theorem Rd.ok {P:AL}{w:AI}{H:Hp}{h:AF}{a:AB}{u:HO}(r:Rd H a u)(x:HOk P w H h):ObjOk P w H h a u:=by
 rcases r with r|⟨o,r⟩
 ·exact x a u r
 ·obtain⟨_,q⟩:=x a _ r;exact q
noncomputable def Mut:Option HO→Prop
 | some (.lst _)=>True
 | some (.dK _)=>True
 | some (.dT _)=>True
 | some (.set _ _)=>True
 | some (.ins _ _ _)=>True
 | some (.ext _)=>True
 | _=>False
section
variable {P:AL}{w:AI}{H:Hp}{h h':AF}{x e:AB}{o':HO}
theorem HOk.write (ok:HOk P w H h)(mu:Mut (H x))(he:e=x∨H e=some (.own x))(k:∀ b u,b≠e→h.get? b=some u→h'.get? b=some u)(heo:∃ u,h'.get? e=some u)
  (new:ObjOk P w (upd H x o') h' x o'):HOk P w (upd H x o') h':=fun b u q=>by
 have nown:∀ c y,H c=some (.own y)→c≠x:=fun c y r z=>by subst z; rw[r] at mu; exact mu
 have ntup:∀ c xs,H c=some (.tup xs)→c≠x:=fun c xs r z=>by subst z; rw[r] at mu; exact mu
 by_cases hb:b=x
 ·subst hb; rw[bO] at q; cases q; exact new
 ·rw[aY hb] at q
  by_cases hbe:b=e
  ·have q':H b=some (.own x):=by
    rcases he with z|z
    ·exact absurd (hbe.trans z) hb
    ·rw[hbe]; exact z
   rw[q] at q'; cases q';obtain⟨v,hv⟩:=heo;exact⟨v,by rw[hbe]; exact hv⟩
  ·refine(ok b u q).stay (fun c v hc r=>k c v ?_ r) (fun c r=>by rw[aY (nown c b r)]; exact r) fun c xs r=>by rw[aY (ntup c xs r)]; exact r
   rcases hc with rfl|hc
   ·exact hbe
   ·rintro rfl;rcases he with z|z
    ·exact nown c b hc z
    ·rw[hc] at z; cases z; exact hb rfl
end
structure Un (fs ex:List AB)(H H':Hp)(h h':AF):Prop where
 keep:∀ b o,h.get? b=some o→H b=none→b∉fs→b∉ex→h'.get? b=some o
 slot:∀ b o,h.get? b=some o→H b=none→b∈fs→b∉ex→∃ sl,h'.get? b=some { o with slots:=sl }
 free:∀ b o,h.get? b=some o→H b=none→b∉ex→H' b=none
 there:∀ b o,h.get? b=some o→b∉ex→∃ o',h'.get? b=some o'
 tups:∀ b xs,H b=some (.tup xs)→H' b=some (.tup xs)
 frzs:∀ b o u,H b=some (.frz o u)→H' b=some (.frz o u)
 tbls:∀ b ps,H b=some (.tbl ps)→∃ more,H' b=some (.tbl (ps++more))
section
variable {fs fs' ex ex':List AB}{H H1 H2:Hp}{h h1 h2 h':AF}{a x e:AB}{o:HO}
theorem Un.any (u:Un fs ex H H1 h h1){b:AB}{ob:Obj}(q:h.get? b=some ob)(n:H b=none)(hx:b∉ex):∃ sl,h1.get? b=some { ob with slots:=sl }:=by
 by_cases hb:b∈fs
 ·exact u.slot b ob q n hb hx
 ·exact⟨ob.slots,u.keep b ob q n hb hx⟩
theorem Un.kept (k:∀ b u,h.get? b=some u→h'.get? b=some u):Un fs ex H H h h':=
 ⟨fun b ob q _ _ _=>k b ob q,fun b ob q _ _ _=>⟨ob.slots,k b ob q⟩,fun _ _ _ n _=>n,fun b ob q _=>⟨ob,k b ob q⟩,fun _ _ q=>q,fun _ _ _ q=>q,fun _ ps q=>⟨#[],by rw[q]; simp⟩⟩
theorem Un.refl:Un fs ex H H h h:=Un.kept fun _ _ q=>q
theorem Un.laid (k:∀ b u,h.get? b=some u→h'.get? b=some u)(hp:h.objs.size≤a)(hn:H a=none):Un fs ex H (upd H a o) h h' where
 keep:=fun b u q _ _ _=>k b u q
 slot:=fun b u q _ _ _=>⟨u.slots,k b u q⟩
 free:=fun b u q n _=>by rw[aY (Ag (Al (AT q) hp))]; exact n
 there:=fun b u q _=>⟨u,k b u q⟩
 tups:=fun b xs q=>by rw[aY (bA q hn)]; exact q
 frzs:=fun b u xs q=>by rw[aY (bA q hn)]; exact q
 tbls:=fun b ps q=>⟨#[],by rw[aY (bA q hn),q]; simp⟩
theorem Un.write (mu:Mut (H x))(he:e=x∨H e=some (.own x))(k:∀ b u,b≠e→h.get? b=some u→h'.get? b=some u)(heo:∃ u,h'.get? e=some u):Un fs ex H (upd H x o) h h':=by
 have hx:∀ b,H b=none→b≠x:=fun b n z=>by subst z; rw[n] at mu; exact mu
 have hb:∀ b,H b=none→b≠e:=fun b n z=>by
  subst z;rcases he with r|r
  ·exact hx b n r
  ·rw[n] at r; cases r
 have hm:∀ b u,H b=some u→¬Mut (some u)→b≠x:=fun b u q nm z=>by subst z; rw[q] at mu; exact nm mu
 refine⟨fun b u q n _ _=>k b u (hb b n) q,fun b u q n _ _=>⟨u.slots,k b u (hb b n) q⟩,fun b u q n _=>by rw[aY (hx b n)]; exact n,fun b u q _=>?_,
  fun b xs q=>by rw[aY (hm b _ q fun z=>z)]; exact q,fun b u xs q=>by rw[aY (hm b _ q fun z=>z)]; exact q,fun b ps q=>⟨#[],by rw[aY (hm b _ q fun z=>z),q]; simp⟩⟩
 by_cases hbe:b=e
 ·subst hbe; exact heo
 ·exact⟨u,k b u hbe q⟩
end
noncomputable def trk (h:AF)(H:Hp):List AB:=(List.range h.objs.size).filter fun a=>(H a).isSome
noncomputable def aHK (h:AF)(H:Hp):AF:=PySem.W.hideAll h (trk h H)
theorem aD7 (h:AF)(H:Hp):(aHK h H).objs.size=h.objs.size:=PySem.W.hideAll_size _ _
theorem aI9 {h:AF}{H:Hp}{b:AB}{o:Obj}(e:h.get? b=some o)(n:H b=none):(aHK h H).get? b=some o:=
 PySem.W.hideAll_get _ e fun hm=>by
  have q:(H b).isSome=true:=(Ap.mp hm).2;rw[n] at q; simp at q
theorem aK5 {h:AF}{H:Hp}{b:AB}{o:Obj}(e:(aHK h H).get? b=some o):h.get? b=some o∧H b=none:=by
 have e':h.get? b=some o:=PySem.W.of_hideAll (trk h H) e;refine⟨e',?_⟩
 cases q:H b with
 | none=>rfl
 | some x=>
  have hm:b∈trk h H:=Ap.mpr ⟨A2.mpr (AT e'),by simp[q]⟩;have z:(aHK h H).get? b=none:=PySem.W.hideAll_none (trk h H) hm;rw[z] at e; cases e
end L2
namespace L2
open PySem PySem.Spec PyProof.Rows
structure Mod (K:Ad)(mg:Str→Option AA)(base:AF):Prop where
 kin:K.In base
 glob:base.Ns Ao mg
 blt:∃ mb,base.Ns builtinsNs mb∧∀ x:Str,x ≠ "__name__" → mb x=Dc x
 nolimit:base.NoLimit
 sm:∃ mm,base.Ns BP mm
structure Cx where
 prog:AL
 w:AI
 K:Ad
 mg:Str→Option AA
 base:AF
 A:AV
 N:List Str
 s₀:AC
 H₀:Hp
 env:Env
 outer:List Env
 stack:List Env
 ex:List AB
 fn:Str→Bool
 calm:Bool
 pn:List (AB×Obj)
 xe:AA→AC→Prop
noncomputable def frs (l:List Env):List AB:=l.filterMap (·.frame)
abbrev Cx.fs (X:Cx):List AB:=frs X.outer
noncomputable def Vis (sc:BH)(x:Str):Prop:=sc.names.lookup x=some .local∨sc.names.lookup x=some .cell∨sc.names.lookup x=some .free
noncomputable def Loc (sc:BH)(x:Str):Prop:=sc.names.lookup x=some .local∨sc.names.lookup x=some .cell
noncomputable def Look (env:Env)(h:AF)(m:Str→Option AA)(x:Str)(u:AA):Prop:=
 (env.kindOf x=some .local∧m x=some u)∨((env.kindOf x=some .cell∨env.kindOf x=some .free)∧∃ c,env.cells.lookup x=some c∧h.IsCell c (some u))
structure Cx.Ok (X:Cx):Prop where
 mod:Mod X.K X.mg X.base
 kind:X.env.scope.kind=.function
 glob:X.env.globals=Ao
 blt:X.env.builtins=builtinsNs
 above:X.s₀.heap.objs.size≤X.env.locals
 inj:∀ x y c,X.env.cells.lookup x=some c→X.env.cells.lookup y=some c→x=y
 has:∀ x,(X.env.kindOf x=some .cell∨X.env.kindOf x=some .free)→∃ c,X.env.cells.lookup x=some c
 cab:∀ x c,X.fn x=true→X.env.cells.lookup x=some c→X.s₀.heap.objs.size≤c
 hd:X.calm=true→X.A.handled=none
 frames:X.A.frames=some X.stack
 stk:X.stack=X.outer∨(X.stack=X.env::X.outer∧X.env.frame=some X.env.locals)
 exf:∀ b∈X.ex,b≠X.env.locals∧∀ x c,X.env.cells.lookup x=some c→c≠b
 bs:∀ b o,X.base.get? b=some o→X.s₀.heap.get? b=some o∧X.H₀ b=none
 bsz:X.base.objs.size≤X.s₀.heap.objs.size
 noex:∀ b o,X.base.get? b=some o→b∉X.ex
 exfs:∀ b∈X.ex,b∉X.fs
 funs:X.s₀.heap.FunFrames X.base X.outer
 frf:∀ b∈X.fs,X.H₀ b=none
structure Inv (X:Cx)(pins:List (AB×Obj))(σ:List (Option V))(H:Hp)(s:AC):Prop where
 ok:X.Ok
 os:s.os=X.s₀.os
 bare:CY s.gens
 base:Un X.fs X.ex X.H₀ H X.s₀.heap s.heap
 loc:∃ m,s.heap.Ns X.env.locals m∧∀(i:Nat) (x:Str) (v:V),X.N[i]?=some x→σ[i]?=some (some v)→Vis X.env.scope x→∃ u,RelV v u∧Look X.env s.heap m x u
 cell:∀ x c,X.env.cells.lookup x=some c→∃ v,s.heap.IsCell c v
 free:H X.env.locals=none
 freeC:∀ x c,X.env.cells.lookup x=some c→H c=none
 pin:∀ p∈X.pn++pins,s.heap.get? p.1=some p.2∧H p.1=none∧p.1≠X.env.locals∧p.1∉X.fs∧∀ v,p.2.data≠.cell v
 hok:HOk X.prog X.w H s.heap
 len:σ.length=X.N.length
section
variable {X:Cx}{pins:List (AB×Obj)}{σ:List (Option V)}{H H':Hp}{s:AC}{h':AF}
theorem Cx.Ok.nofr (ok:X.Ok){b:AB}{o:Obj}(e:X.base.get? b=some o):b∉X.fs:=fun hb=>by
 have:=(ok.funs.mem hb).1;rw[e] at this; cases this
theorem Inv.bs (I:Inv X pins σ H s):∀ b o,X.base.get? b=some o→s.heap.get? b=some o∧H b=none:=fun b o e=>
 ⟨I.base.keep b o (I.ok.bs b o e).1 (I.ok.bs b o e).2 (I.ok.nofr e) (I.ok.noex b o e),I.base.free b o (I.ok.bs b o e).1 (I.ok.bs b o e).2 (I.ok.noex b o e)⟩
theorem Inv.bk (I:Inv X pins σ H s):∀ b o,X.base.get? b=some o→s.heap.get? b=some o:=fun b o e=>(I.bs b o e).1
theorem Inv.mod (I:Inv X pins σ H s):Mod X.K X.mg X.base:=I.ok.mod
theorem Inv.kIn (I:Inv X pins σ H s):X.K.In s.heap:=I.ok.mod.kin.keeps I.bk
theorem Inv.fr (I:Inv X pins σ H s):∃ m,Fr X.base X.env.locals s.heap m:=
 let ⟨m,hn,_⟩:=I.loc
 ⟨m,hn,I.bk,Aw I.ok.bsz I.ok.above⟩
theorem Inv.lt (I:Inv X pins σ H s):X.env.locals<s.heap.objs.size:=let ⟨_,hn,_⟩:=I.loc; hn.lt
theorem Inv.sz (I:Inv X pins σ H s):X.s₀.heap.objs.size≤s.heap.objs.size:=Aw I.ok.above (Bz I.lt)
theorem Inv.nofs (I:Inv X pins σ H s){a:AB}(h:s.heap.objs.size≤a):a∉X.fs:=fun hb=>by
 obtain⟨_,o,ho,_⟩:=I.ok.funs.mem hb;exact absurd (Al (AT ho) (Aw I.sz h)) (BI _)
theorem Inv.cne (I:Inv X pins σ H s):∀ x c,X.env.cells.lookup x=some c→c≠X.env.locals:=fun x c e z=>by
 obtain⟨v,o,ho,hd⟩:=I.cell x c e;obtain⟨m,⟨o',es,ep,ho',hd',_⟩,_⟩:=I.loc;rw[z,ho'] at ho; cases ho; rw[hd'] at hd; cases hd
theorem Inv.funs (I:Inv X pins σ H s):s.heap.FunFrames X.base X.outer:=by
 have all:∀(l:List Env),(∀ b∈frs l,b∈X.fs)→X.s₀.heap.FunFrames X.base l→s.heap.FunFrames X.base l:=by
  intro l
  induction l with
  | nil=>intro _ _; trivial
  | cons env r ih=>
   intro hs hl;obtain⟨hk,⟨L,o,hf,hn,ho,hd⟩,hr⟩:=hl;have hL:L∈X.fs:=hs L (by unfold frs; rw[CL,hf]; exact mem_cons_self);obtain⟨sl,e⟩:=I.base.slot L o ho (I.ok.frf L hL) hL fun z=>I.ok.exfs L z hL;exact⟨hk,⟨L,_,hf,hn,e,hd⟩,ih (fun b hb=>hs b (by unfold frs; rw[CL,hf]; exact AU _ hb)) hr⟩
 exact all X.outer (fun _ hb=>hb) I.ok.funs
theorem Inv.stack (I:Inv X pins σ H s):s.heap.FunFrames X.base X.stack:=by
 rcases I.ok.stk with e|⟨e,hf⟩
 ·rw[e]; exact I.funs
 ·rw[e];obtain⟨m,hn,_⟩:=I.loc;refine .cons (by rw[I.ok.kind]; decide) hf hn ?_ I.funs;exact AF.get?_none_of_le (Aw I.ok.bsz I.ok.above)
theorem Inv.stkSub (I:Inv X pins σ H s):∀ b∈frs X.stack,b∈X.env.locals::X.fs:=fun b hb=>by
 rcases I.ok.stk with e|⟨e,hf⟩
 ·rw[e] at hb; exact AU _ hb
 ·rw[e] at hb;unfold frs at hb;rw[CL,hf] at hb;exact hb
theorem Inv.stkFree (I:Inv X pins σ H s):∀ b∈frs X.stack,H b=none:=fun b hb=>by
 rcases AK.mp (I.stkSub b hb) with e|hb
 ·rw[e]; exact I.free
 ·obtain⟨_,o,ho,_⟩:=I.ok.funs.mem hb;exact I.base.free b o ho (I.ok.frf b hb) fun z=>I.ok.exfs b z hb
theorem Inv.step {g':Array Dd}{t':Nat}{d':Drawn}{ch:List AB}(I:Inv X pins σ H s)
  (hch:∀ b∈ch,(b∈X.ex∨X.s₀.heap.objs.size≤b)∧b≠X.env.locals∧(∀ x c,X.env.cells.lookup x=some c→c≠b)∧∀ p∈X.pn++pins,p.1≠b)
  (keep:∀ b o,b≠X.env.locals→b∉X.fs→b∉ch→s.heap.get? b=some o→H b=none→h'.get? b=some o)
  (slot:∀ b o,b≠X.env.locals→b∈X.fs→b∉ch→s.heap.get? b=some o→H b=none→∃ sl,h'.get? b=some { o with slots:=sl }) (free:∀ b o,b∉ch→s.heap.get? b=some o→H b=none→H' b=none)
  (there:∀ b o,b∉ch→s.heap.get? b=some o→∃ o',h'.get? b=some o')
  (tups:∀ b xs,H b=some (.tup xs)→H' b=some (.tup xs)) (frzs:∀ b o u,H b=some (.frz o u)→H' b=some (.frz o u)) (tbls:∀ b ps,H b=some (.tbl ps)→∃ more,H' b=some (.tbl (ps++more)))
  (ns:∀ m,s.heap.Ns X.env.locals m→h'.Ns X.env.locals m) (hok:HOk X.prog X.w H' h') (hg:CY g') :
  Inv X pins σ H' { s with heap:=h',gens:=g',drawn:=d',toks:=t' }:=by
 have neL:∀ b o,X.s₀.heap.get? b=some o→b≠X.env.locals:=fun b o e=>Ag (Al (AT e) I.ok.above);have neC:∀ b o,X.s₀.heap.get? b=some o→b∉X.ex→b∉ch:=fun b o e hx hb=>by
  rcases(hch b hb).1 with z|z
  ·exact hx z
  ·exact absurd (Al (AT e) z) (BI _)
 have cellK:∀ x c,X.env.cells.lookup x=some c→∀ v,s.heap.IsCell c v→h'.IsCell c v:=fun x c e v ⟨o,ho,hd⟩=>by
  have nch:c∉ch:=fun z=>(hch c z).2.2.1 x c e rfl
  by_cases hc:c∈X.fs
  ·obtain⟨sl,q⟩:=slot c o (I.cne x c e) hc nch ho (I.freeC x c e);exact⟨_,q,hd⟩
  ·exact⟨o,keep c o (I.cne x c e) hc nch ho (I.freeC x c e),hd⟩
 refine⟨I.ok,I.os,hg,⟨fun b o e n hb hx=>?_,fun b o e n hb hx=>?_,fun b o e n hx=>?_,fun b o e hx=>?_,fun b xs e=>tups b xs (I.base.tups b xs e),fun b o xs e=>frzs b o xs (I.base.frzs b o xs e),fun b ps e=>?_⟩,?_,fun x c e=>?_,?_,fun x c e=>?_,fun p hp=>?_,hok,I.len⟩
 ·exact keep b o (neL b o e) hb (neC b o e hx) (I.base.keep b o e n hb hx) (I.base.free b o e n hx)
 ·obtain⟨sl,e1⟩:=I.base.slot b o e n hb hx;obtain⟨sl',e2⟩:=slot b _ (neL b o e) hb (neC b o e hx) e1 (I.base.free b o e n hx);exact⟨sl',e2⟩
 ·obtain⟨o',e1⟩:=I.base.there b o e hx;exact free b o' (neC b o e hx) e1 (I.base.free b o e n hx)
 ·obtain⟨o',e1⟩:=I.base.there b o e hx;exact there b o' (neC b o e hx) e1
 ·obtain⟨m1,e1⟩:=I.base.tbls b ps e;obtain⟨m2,e2⟩:=tbls b _ e1;exact⟨m1++m2,by rw[e2,Array.append_assoc]⟩
 ·obtain⟨m,hn,hl⟩:=I.loc;refine⟨m,ns m hn,fun i x v e1 e2 e3=>?_⟩;obtain⟨u,r,l⟩:=hl i x v e1 e2 e3;refine⟨u,r,?_⟩;rcases l with l|⟨k,c,e,z⟩
  ·exact .inl l
  ·exact .inr ⟨k,c,e,cellK x c e _ z⟩
 ·obtain⟨v,z⟩:=I.cell x c e;exact⟨v,cellK x c e v z⟩
 ·obtain⟨m,⟨o,_,_,ho,_⟩,_⟩:=I.loc;exact free _ o (fun z=>(hch _ z).2.1 rfl) ho I.free
 ·obtain⟨v,o,ho,hd⟩:=I.cell x c e;exact free c o (fun z=>(hch c z).2.2.1 x c e rfl) ho (I.freeC x c e)
 ·obtain⟨e,n,ne,nf,d⟩:=I.pin p hp;have nch:p.1∉ch:=fun z=>(hch p.1 z).2.2.2 p hp rfl;exact⟨keep p.1 p.2 ne nf nch e n,free p.1 p.2 nch e n,ne,nf,d⟩
theorem Inv.un {t':Nat}(I:Inv X pins σ H s)(u:Un X.fs [] H H' s.heap h')(hok:HOk X.prog X.w H' h'):Inv X pins σ H' { s with heap:=h',toks:=t' }:=by
 obtain⟨m,⟨o,es,ep,ho,r⟩,_⟩:=id I.loc;obtain⟨sl,hL⟩:=u.any ho I.free (by simp);exact I.step (g':=s.gens) (d':=s.drawn) (ch:=[]) (fun _ z=>nomatch z) (fun b o _ hb _ e n=>u.keep b o e n hb (by simp)) (fun b o _ hb _ e n=>u.slot b o e n hb (by simp)) (fun b o _ e n=>u.free b o e n (by simp)) (fun b o _ e=>u.there b o e (by simp)) u.tups u.frzs u.tbls (fun m' hm=>by
  obtain⟨o',es',ep',ho',r'⟩:=hm;rw[ho] at ho'; cases ho';exact⟨_,es',ep',hL,r'⟩) hok I.bare
theorem Inv.call {g':Array Dd}{t':Nat}{d':Drawn}{ch:List AB}(I:Inv X pins σ H s)(u:Un (frs X.stack) ch H H' s.heap h')(hok:HOk X.prog X.w H' h')(hg:CY g')
  (hch:∀ b∈ch,(b∈X.ex∨X.s₀.heap.objs.size≤b)∧b≠X.env.locals∧(∀ x c,X.env.cells.lookup x=some c→c≠b)∧∀ p∈X.pn++pins,p.1≠b) :
  Inv X pins σ H' { s with heap:=h',gens:=g',drawn:=d',toks:=t' }:=by
 obtain⟨m,⟨o,es,ep,ho,r⟩,_⟩:=id I.loc;obtain⟨sl,hL⟩:=u.any ho I.free fun z=>(hch _ z).2.1 rfl;exact I.step (ch:=ch) hch (fun b o hL hb hc e n=>u.keep b o e n (fun z=>(AK.mp (I.stkSub b z)).elim hL hb) hc) (fun b o _ _ hc e n=>u.any e n hc) (fun b o hc e n=>u.free b o e n hc) (fun b o hc e=>u.there b o e hc) u.tups u.frzs u.tbls (fun m' hm=>by
  obtain⟨o',es',ep',ho',r'⟩:=hm;rw[ho] at ho'; cases ho';exact⟨_,es',ep',hL,r'⟩) hok hg
theorem Inv.turned {t':Nat}{it:AB}(I:Inv X pins σ H s)(k:∀ b o,b≠it→s.heap.get? b=some o→h'.get? b=some o)(hn:H it=none)(hL:it≠X.env.locals)
  (h1:it∈X.ex∨X.s₀.heap.objs.size≤it) (h2:∀ x c,X.env.cells.lookup x=some c→c≠it) (h3:∀ p∈X.pn++pins,p.1≠it):Inv X pins σ H { s with heap:=h',toks:=t' }:=by
 have nit:∀ b u,H b=some u→b≠it:=fun b u e z=>by rw[z,hn] at e; cases e
 refine I.step (g':=s.gens) (d':=s.drawn) (ch:=[it]) (fun b hb=>?_) (fun b o _ _ hc e _=>k b o (fun z=>hc (by simp[z])) e) (fun b o _ _ hc e _=>⟨o.slots,k b o (fun z=>hc (by simp[z])) e⟩) (fun _ _ _ _ n=>n)
  (fun b o hc e=>⟨o,k b o (fun z=>hc (by simp[z])) e⟩) (fun _ _ e=>e) (fun _ _ _ e=>e) (fun b ps e=>⟨#[],by rw[e]; simp⟩) (fun m hm=>?_) (fun b u e=>?_) I.bare
 ·have e:b=it:=by simpa using hb
  subst e;exact⟨h1,hL,h2,h3⟩
 ·obtain⟨o,es,ep,ho,r⟩:=hm;exact⟨o,es,ep,k _ o (Ne.symm hL) ho,r⟩
 ·refine(I.hok b u e).stay (fun c v hc q=>k c v ?_ q) (fun _ q=>q) fun _ _ q=>q;rcases hc with z|z
  ·rw[z]; exact nit b u e
  ·exact nit c _ z
theorem Inv.tok (I:Inv X pins σ H s)(t:Nat):Inv X pins σ H { s with toks:=t }:=I.un (h':=s.heap) (t':=t) Un.refl I.hok
theorem Inv.kept {t':Nat}(I:Inv X pins σ H s)(k:∀ b u,s.heap.get? b=some u→h'.get? b=some u):Inv X pins σ H { s with heap:=h',toks:=t' }:=I.un (Un.kept k) (I.hok.kept k)
theorem Inv.laid {a:AB}{o:HO}{t':Nat}(I:Inv X pins σ H s)(k:∀ b u,s.heap.get? b=some u→h'.get? b=some u)(hp:s.heap.objs.size≤a)(new:ObjOk X.prog X.w (upd H a o) h' a o) :
  Inv X pins σ (upd H a o) { s with heap:=h',toks:=t' }:=I.un (Un.laid k hp (I.hok.fresh hp)) (I.hok.laid k hp new)
theorem Inv.write {x e:AB}{o:HO}{t':Nat}(I:Inv X pins σ H s)(mu:Mut (H x))(he:e=x∨H e=some (.own x))(k:∀ b u,b≠e→s.heap.get? b=some u→h'.get? b=some u)(heo:∃ u,h'.get? e=some u)
  (new:ObjOk X.prog X.w (upd H x o) h' x o):Inv X pins σ (upd H x o) { s with heap:=h',toks:=t' }:=I.un (Un.write mu he k heo) (I.hok.write mu he k heo new)
theorem Inv.weak {σ':List (Option V)}(I:Inv X pins σ H s)(hl:σ'.length=σ.length)(w:∀(i:Nat) v,σ'[i]?=some (some v)→σ[i]?=some (some v)):Inv X pins σ' H s:=
 ⟨I.ok,I.os,I.bare,I.base,let ⟨m,hn,hl'⟩:=I.loc; ⟨m,hn,fun i x v e1 e2 e3=>hl' i x v e1 (w i v e2) e3⟩,I.cell,I.free,I.freeC,I.pin,I.hok,hl.trans I.len⟩
theorem Inv.pins_of {pins':List (AB×Obj)}(I:Inv X pins σ H s)(h:∀ p∈pins',s.heap.get? p.1=some p.2∧H p.1=none∧p.1≠X.env.locals∧p.1∉X.fs∧∀ v,p.2.data≠.cell v):Inv X pins' σ H s:=
 ⟨I.ok,I.os,I.bare,I.base,I.loc,I.cell,I.free,I.freeC,fun p hp=>(BO.mp hp).elim (fun z=>I.pin p (Dx _ z)) (h p),I.hok,I.len⟩
theorem wY {N:List Str}(hN:N.Nodup){i j:Nat}{x:Str}(a:N[i]?=some x)(b:N[j]?=some x):i=j:=by
 obtain⟨h1,e1⟩:=List.getElem?_eq_some_iff.mp a;obtain⟨h2,e2⟩:=List.getElem?_eq_some_iff.mp b;exact(EV hN).mp (e1.trans e2.symm)
theorem a6J {M:Model}{A:AV}{E:AA→AC→Prop}{i:Nat}{x:Str}{v:V}{u:AA}{Q:Unit→AC→Prop}(I:Inv X pins σ H s)(hN:X.N.Nodup)(hi:X.N[i]?=some x)(hx:Loc X.env.scope x)(r:RelV v u)
  (h:∀ s',Inv X pins (σ.set i (some v)) H s'→(∃ a,Ar a s.heap s'.heap∧(a=X.env.locals∨X.env.cells.lookup x=some a))→Q () s') (hf:X.fn x=true∨X.env.scope.names.lookup x=some .local:=by first|exact .inl rfl|exact .inr rfl|assumption):AE M A (storeName X.env x u) Q E s:=by
 obtain⟨m,hn,hl⟩:=id I.loc;have hcls:(X.env.scope.kind==.class||(X.env.scope.kind==.module&&X.env.locals != X.env.globals))=false:=by rw[I.ok.kind]; rfl
 have hiσ:i<σ.length:=by rw[I.len]; exact(List.getElem?_eq_some_iff.mp hi).1
 have cne:=I.cne;have tracked:∀{a:AB} {h':AF},(∃ o,s.heap.get? a=some o∧H a=none)→Ar a s.heap h'→HOk X.prog X.w H h':=fun{a h'} ha hs b ob e=>by
  obtain⟨_,_,hfree⟩:=ha;refine(I.hok b ob e).stay (fun c w' hc q=>(hs.2 c ?_).trans q) (fun _ q=>q) fun _ _ q=>q;rintro rfl;rcases hc with rfl|hc
  ·rw[hfree] at e; cases e
  ·rw[hfree] at hc; cases hc
 rcases hx with hk|hk
 ·refine wpAny_storeName_local hk hn (fun h' hn' hs=>?_) hcls;obtain⟨oL,_,_,hoL,_⟩:=id hn;refine h _ ⟨I.ok,I.os,I.bare,⟨fun b o e n hb hx=>?_,fun b o e n hb hx=>?_,I.base.free,fun b o e hx=>?_,I.base.tups,I.base.frzs,I.base.tbls⟩,⟨_,hn',fun j y v' e1 e2 e3=>?_⟩,fun y c e=>?_,I.free,I.freeC,fun p hp=>?_,tracked ⟨oL,hoL,I.free⟩ hs,by simpa using I.len⟩ ⟨_,hs,.inl rfl⟩
  ·exact(hs.2 b (Ag (Al (AT e) I.ok.above))).trans (I.base.keep b o e n hb hx)
  ·obtain⟨sl,e1⟩:=I.base.slot b o e n hb hx;exact⟨sl,(hs.2 b (Ag (Al (AT e) I.ok.above))).trans e1⟩
  ·obtain⟨o',e1⟩:=I.base.there b o e hx;exact⟨o',(hs.2 b (Ag (Al (AT e) I.ok.above))).trans e1⟩
  ·by_cases hj:j=i
   ·subst hj;rw[hi] at e1; cases e1;rw[Bn hiσ] at e2
    cases e2
    exact⟨u,r,.inl ⟨hk,by simp⟩⟩
   ·rw[Bh (Ne.symm hj)] at e2;obtain⟨u',r',q⟩:=hl j y v' e1 e2 e3;refine⟨u',r',?_⟩;rcases q with⟨k,e⟩|⟨k,c,e,z⟩
    ·refine .inl ⟨k,?_⟩;have:y≠x:=fun e=>hj (wY hN e1 (e▸hi));simp[this,e]
    ·exact .inr ⟨k,c,e,z.sameBut hs (cne y c e)⟩
  ·obtain⟨w',z⟩:=I.cell y c e;exact⟨w',z.sameBut hs (cne y c e)⟩
  ·obtain⟨e,n,ne,nf,d⟩:=I.pin p hp;exact⟨(hs.2 p.1 ne).trans e,n,ne,nf,d⟩
 ·have hfn:X.fn x=true:=by
   rcases hf with z|z
   ·exact z
   ·rw[z] at hk; cases hk
  obtain⟨c,hc⟩:=I.ok.has x (.inl hk);obtain⟨w',z⟩:=I.cell x c hc;refine wpAny_storeName_cell I.ok.kind hk hc z (fun h' hc' hs=>?_);obtain⟨oc,hoc,hocd⟩:=id z;refine h { s with heap:=h' } ⟨I.ok,I.os,I.bare,⟨fun b o e n hb hx=>?_,fun b o e n hb hx=>?_,I.base.free,fun b o e hx=>?_,I.base.tups,I.base.frzs,I.base.tbls⟩,⟨m,hn.sameBut hs (Ne.symm (cne x c hc)),fun j y v' e1 e2 e3=>?_⟩,fun y c' e=>?_,I.free,I.freeC,fun p hp=>?_,tracked ⟨oc,hoc,I.freeC x c hc⟩ hs,by simpa using I.len⟩ ⟨c,hs,.inr hc⟩
  ·exact(hs.2 b (Ag (Al (AT e) (I.ok.cab x c hfn hc)))).trans (I.base.keep b o e n hb hx)
  ·obtain⟨sl,e1⟩:=I.base.slot b o e n hb hx;exact⟨sl,(hs.2 b (Ag (Al (AT e) (I.ok.cab x c hfn hc)))).trans e1⟩
  ·obtain⟨o',e1⟩:=I.base.there b o e hx;exact⟨o',(hs.2 b (Ag (Al (AT e) (I.ok.cab x c hfn hc)))).trans e1⟩
  ·by_cases hj:j=i
   ·subst hj;rw[hi] at e1; cases e1;rw[Bn hiσ] at e2
    cases e2
    exact⟨u,r,.inr ⟨.inl hk,c,hc,hc'⟩⟩
   ·rw[Bh (Ne.symm hj)] at e2;obtain⟨u',r',q⟩:=hl j y v' e1 e2 e3;refine⟨u',r',?_⟩;rcases q with q|⟨k,c',e,z'⟩
    ·exact .inl q
    ·refine .inr ⟨k,c',e,z'.sameBut hs ?_⟩;rintro rfl;exact hj (wY hN e1 (I.ok.inj _ _ _ e hc▸hi))
  ·by_cases hcc:c'=c
   ·subst hcc; exact⟨_,hc'⟩
   ·obtain⟨w2,z2⟩:=I.cell y c' e;exact⟨w2,z2.sameBut hs hcc⟩
  ·obtain⟨e,n,ne,nf,d⟩:=I.pin p hp;refine⟨(hs.2 p.1 ?_).trans e,n,ne,nf,d⟩;intro q;rw[q,hoc] at e;have q':oc=p.2:=Az.inj e;exact d w' (by rw[← q']; exact hocd)
theorem tV {M:Model}{A:AV}{E:AA→AC→Prop}{i:Nat}{x:Str}{v:V}{u:AA}{Q:Unit→AC→Prop}(I:Inv X pins σ H s)(hN:X.N.Nodup)(hi:X.N[i]?=some x)(hx:Loc X.env.scope x)(r:RelV v u)
  (h:∀ s',Inv X pins (σ.set i (some v)) H s'→Q () s') (hf:X.fn x=true∨X.env.scope.names.lookup x=some .local:=by first|exact .inl rfl|exact .inr rfl|assumption):AE M A (storeName X.env x u) Q E s:=
 a6J I hN hi hx r (fun s' I' _=>h s' I') hf
theorem Inv.call' {s':AC}{ch:List AB}(I:Inv X pins σ H s)(ho:s'.os=s.os)(u:Un (frs X.stack) ch H H' s.heap s'.heap)(hok:HOk X.prog X.w H' s'.heap)(hg:CY s'.gens)
  (hch:∀ b∈ch,(b∈X.ex∨X.s₀.heap.objs.size≤b)∧b≠X.env.locals∧(∀ x c,X.env.cells.lookup x=some c→c≠b)∧∀ p∈X.pn++pins,p.1≠b):Inv X pins σ H' s':=by
 obtain⟨h',g',d',t',o'⟩:=s';have e:o'=s.os:=ho;subst e;exact I.call (g':=g') (t':=t') (d':=d') u hok hg hch
end
abbrev XK:=AA→Option AB→Hp→Prop
abbrev St:=List (Option V)
abbrev VK:=V→Hp→Prop
abbrev TE:=St→Hp→VK→Prop
abbrev TT:=St→Hp→(Bool→Hp→Prop)→Prop
abbrev TA:=St→Hp→(List V→Hp→Prop)→Prop
structure Ends where
 nx:St→Hp→Prop
 rt:VK
 bk:St→Hp→Prop:=fun _ _=>False
 ct:St→Hp→Prop:=fun _ _=>False
abbrev TS:=Ends→St→Hp→Prop
noncomputable def EP (X:Cx)(pins:List (AB×Obj))(σ:St)(Q:VK)(u:AA)(s':AC):Prop:=∃ v H',Inv X pins σ H' s'∧RelV v u∧Q v H'
noncomputable def TP (X:Cx)(pins:List (AB×Obj))(σ:St)(Q:Bool→Hp→Prop)(b:Bool)(s':AC):Prop:=∃ H',Inv X pins σ H' s'∧Q b H'
noncomputable def AP (X:Cx)(pins:List (AB×Obj))(σ:St)(Q:List V→Hp→Prop)(us:List AA)(s':AC):Prop:=∃ vs H',Inv X pins σ H' s'∧Vals vs us∧Q vs H'
noncomputable def SP (X:Cx)(pins:List (AB×Obj))(D:Ends)(f:Flow)(s':AC):Prop:=
 match f with
 | .next=>∃ σ' H',Inv X pins σ' H' s'∧D.nx σ' H'
 | .brk=>∃ σ' H',Inv X pins σ' H' s'∧D.bk σ' H'
 | .cont=>∃ σ' H',Inv X pins σ' H' s'∧D.ct σ' H'
 | .ret u=>∃ v σ' H',Inv X pins σ' H' s'∧RelV v u∧D.rt v H'
noncomputable def PE (X:Cx)(e:AR)(t:TE):Prop:=
 ∀(pins:List (AB×Obj)) (s:AC) (σ:St) (H:Hp) (Q:VK),Inv X pins σ H s→t σ H Q→AE (AH X.prog X.w) X.A (Ah e X.env) (EP X pins σ Q) X.xe s
noncomputable def PT (X:Cx)(e:AR)(t:TT):Prop:=
 ∀(pins:List (AB×Obj)) (s:AC) (σ:St) (H:Hp) (Q:Bool→Hp→Prop),Inv X pins σ H s→t σ H Q→AE (AH X.prog X.w) X.A (isTrue e X.env (Ah e X.env)) (TP X pins σ Q) X.xe s
noncomputable def PW (X:Cx)(e:AR)(t:TT):Prop:=
 ∀(whole:Sem AA) (pins:List (AB×Obj)) (s:AC) (σ:St) (H:Hp) (Q:Bool→Hp→Prop),Inv X pins σ H s→t σ H Q→AE (AH X.prog X.w) X.A (isTrue e X.env whole) (TP X pins σ Q) X.xe s
theorem PW.pt {X:Cx}{e:AR}{t:TT}(h:PW X e t):PT X e t:=h _
noncomputable def PA (X:Cx)(es:List AR)(t:TA):Prop:=
 ∀(pos:Pos) (pins:List (AB×Obj)) (s:AC) (σ:St) (H:Hp) (Q:List V→Hp→Prop),Inv X pins σ H s→t σ H Q→AE (AH X.prog X.w) X.A (spliced (Bq pos (Am es X.env))) (AP X pins σ Q) X.xe s
noncomputable def PS (X:Cx)(st:AO)(t:TS):Prop:=
 ∀(pins:List (AB×Obj)) (s:AC) (σ:St) (H:Hp) (D:Ends),Inv X pins σ H s→t D σ H→AE (AH X.prog X.w) X.A (exec st X.env) (SP X pins D) X.xe s
noncomputable def PSs (X:Cx)(st:List AO)(t:TS):Prop:=
 ∀(pins:List (AB×Obj)) (s:AC) (σ:St) (H:Hp) (D:Ends),Inv X pins σ H s→t D σ H→AE (AH X.prog X.w) X.A (execs st X.env) (SP X pins D) X.xe s
theorem thn {α:Type}{t:Sem α}{Q Q':α→AC→Prop}{M:Model}{A:AV}{E:AA→AC→Prop}{s:AC}(h:AE M A t Q E s)(hQ:∀ a s,Q a s→Q' a s):AE M A t Q' E s:=BY h hQ fun _ _ x=>x
end L2
namespace L2
open PySem PySem.Spec PyProof.Rows
section
variable {X:Cx}
theorem bin {a b:AR}{ta tb:TE}(ha:PE X a ta)(hb:PE X b tb){pins:List (AB×Obj)}{s:AC}{σ:St}{H:Hp}{R:V→V→Hp→Prop}(I:Inv X pins σ H s)(h:ta σ H fun x H1=>tb σ H1 fun y H2=>R x y H2)
  {α:Type} {Q:α→AC→Prop} {f:AA→AA→Sem α}
  (hf:∀ v u s2 x y H2,Inv X pins σ H2 s2→RelV x v→RelV y u→R x y H2→AE (AH X.prog X.w) X.A (f v u) Q X.xe s2) :
  AE (AH X.prog X.w) X.A (Ah a X.env) (fun v s₁=>AE (AH X.prog X.w) X.A (Ah b X.env) (fun u s₂=>AE (AH X.prog X.w) X.A (f v u) Q X.xe s₂) X.xe s₁) X.xe s:=by
 refine thn (ha pins s σ H _ I h) fun v s1 ⟨x,H1,I1,r1,q1⟩=>?_;refine thn (hb pins s1 σ H1 _ I1 q1) fun u s2 ⟨y,H2,I2,r2,q2⟩=>?_;exact hf v u s2 x y H2 I2 r1 r2 q2
noncomputable def a7M (i:Nat):TE:=fun σ H Q=>∃ v,σ[i]?=some (some v)∧Q v H
noncomputable def tC (v:V):TE:=fun _ H Q=>Q v H
theorem aOI {i:Nat}{x:Str}{pos:Pos}(hN:X.N[i]?=some x)(hv:Vis X.env.scope x)(hd:(x==("__debug__" : Str))=false:=by decide)(hcd:(x==("__classdict__" : Str))=false:=by decide):PE X (.Name x pos) (a7M i):=by
 intro pins s σ H Q I h;obtain⟨v,e,h⟩:=h;obtain⟨m,hn,hl⟩:=I.loc;obtain⟨u,r,l⟩:=hl i x v hN e hv;have fin:EP X pins σ Q u s:=⟨v,H,I,r,h⟩;rcases l with⟨hk,hm⟩|⟨hk,c,hc,hcell⟩
 ·exact wpAny_Name (Fv I.ok.kind hk hn hm fin) hd
 ·rcases hk with hk|hk
  ·exact wpAny_Name (Fw I.ok.kind hk hc hcell fin) hd
  ·exact wpAny_Name (wpAny_loadName_free I.ok.kind hk hc hcell fin hcd) hd
theorem aD {i j pos}:PE X (.Constant (.int i) j pos) (tC (.int i)):=fun _ _ _ H _ I h=>wpAny_Constant_int ⟨.int i,H,I.tok _,⟨_,rfl⟩,h⟩
theorem zW {b j pos}:PE X (.Constant (.bool b) j pos) (tC (.bl b)):=fun _ _ _ H _ I h=>Constant_bool ⟨.bl b,H,I,rfl,h⟩
theorem jW {j pos}:PE X (.Constant .none j pos) (tC .non):=fun _ _ _ H _ I h=>Constant_none ⟨.non,H,I,rfl,h⟩
theorem mQ {x j pos}:PE X (.Constant (.str x) j pos) (tC (.str x)):=fun _ _ _ H _ I h=>Calls.Constant_str ⟨.str x,H,I.tok _,⟨_,rfl⟩,h⟩
noncomputable def Gl (X:Cx)(x:Str):Prop:=X.env.kindOf x=some .globalImplicit
theorem aDU {E:AA→AC→Prop}{pins:List (AB×Obj)}{s:AC}{σ:St}{H:Hp}{x:Str}{u:AA}{pos:Pos}{Q:AA→AC→Prop}(I:Inv X pins σ H s)(hg:Gl X x)(hm:X.mg x=some u)(h:Q u s)
  (hd:(x==("__debug__" : Str))=false:=by decide):AE (AH X.prog X.w) X.A (Ah (.Name x pos) X.env) Q E s:=
 Fx I.ok.kind hg (Calls.loadGlobal_global (by rw[I.ok.glob]; exact I.mod.glob.keeps I.bk) hm h) hd
theorem z6 {E:AA→AC→Prop}{pins:List (AB×Obj)}{s:AC}{σ:St}{H:Hp}{x:Str}{u:AA}{pos:Pos}{Q:AA→AC→Prop}(I:Inv X pins σ H s)(hg:Gl X x)(hm:X.mg x=none)(hv:Dc x=some u)(h:Q u s)
  (hn:x ≠ "__name__" := by decide) (hd:(x==("__debug__" : Str))=false:=by decide):AE (AH X.prog X.w) X.A (Ah (.Name x pos) X.env) Q E s:=by
 obtain⟨mb,h1,h2⟩:=I.mod.blt;exact Fx I.ok.kind hg (Calls.loadGlobal_builtin (by rw[I.ok.glob]; exact I.mod.glob.keeps I.bk) hm (by rw[I.ok.blt]; exact h1.keeps I.bk) ((h2 x hn).trans hv) h) hd
theorem aKB {x:Str}{v:V}{u:AA}{pos:Pos}(hg:Gl X x)(hm:X.mg x=some u)(r:RelV v u)(hd:(x==("__debug__" : Str))=false:=by decide):PE X (.Name x pos) (tC v):=
 fun _ _ _ H _ I h=>aDU I hg hm ⟨v,H,I,r,h⟩ hd
theorem aCQ {x:Str}{v:V}{u:AA}{pos:Pos}(hg:Gl X x)(hm:X.mg x=none)(hv:Dc x=some u)(r:RelV v u)(hn:x ≠ "__name__" := by decide)(hd:(x==("__debug__" : Str))=false:=by decide):PE X (.Name x pos) (tC v):=
 fun _ _ _ H _ I h=>z6 I hg hm hv ⟨v,H,I,r,h⟩ hn hd
variable {a b:AR}{ta tb:TE}{pos:Pos}
noncomputable def PC (X:Cx)(op:CmpOp)(a b:AR)(t:TE):Prop:=
 ∀(pins:List (AB×Obj)) (s:AC) (σ:St) (H:Hp) (Q:VK),Inv X pins σ H s→t σ H Q →
  AE (AH X.prog X.w) X.A (Ah a X.env) (fun v s₁=>AE (AH X.prog X.w) X.A (Ah b X.env) (fun u s₂=>AE (AH X.prog X.w) X.A (BQ op v u) (EP X pins σ Q) X.xe s₂) X.xe s₁) X.xe s
noncomputable def tB (t:TE):TT:=fun σ H Q=>t σ H fun x H1=>∃ c,x=.bl c∧Q c H1
theorem aRV {op:CmpOp}{t:TE}(h:PC X op a b t)(h1:EC op b=false:=by first|exact nobehind _ (by decide) (by decide)|rfl):PT X (.Compare a [op] [b] pos) (tB t):=by
 intro pins s σ H Q I hw;refine Fy (thn (h pins s σ H _ I hw) fun v s1 h1=>thn h1 fun u s2 h2=>thn h2 fun c s3 ⟨x,H1,I1,r1,q1⟩=>?_) h1;obtain⟨d,rfl,q⟩:=q1
 cases r1
 exact C6 ⟨H1,I1,q⟩
theorem fG {e:AR}{t:TE}(h:PE X e t)(he:∀ whole,isTrue e X.env whole=(do let v←whole; standAt e.pos; ED [v] (truthy v)):=by intro _; rfl):PT X e (tB t):=by
 intro pins s σ H Q I hw;refine isTrue_plain (thn (h pins s σ H _ I hw) fun v s1 ⟨x,H1,I1,r1,q1⟩=>?_) (he _);obtain⟨d,rfl,q⟩:=q1
 cases r1
 exact C6 ⟨H1,I1,q⟩
variable {tA tB':TT}{rest:List AR}
noncomputable def aRN (t u:TT):TT:=fun σ H Q=>t σ H fun c H1=>if c=true then u σ H1 Q else Q false H1
noncomputable def tOr (t u:TT):TT:=fun σ H Q=>t σ H fun c H1=>if c=true then Q true H1 else u σ H1 Q
noncomputable def aR8 (t:TT):TT:=fun σ H Q=>t σ H fun c H1=>Q (!c) H1
theorem rQ (ha:PT X a tA):PW X (.BoolOp .And [a] pos) tA:=by
 intro wh pins s σ H Q I h;refine isTrue_and (thn (ha pins s σ H Q I h) fun c s1 e=>?_)
 cases c with
 | true=>exact isTrue_and_nil e
 | false=>exact e
theorem aAB (ha:PT X a tA):PW X (.BoolOp .Or [a] pos) tA:=by
 intro wh pins s σ H Q I h;refine isTrue_or (thn (ha pins s σ H Q I h) fun c s1 e=>?_)
 cases c with
 | false=>exact isTrue_or_nil e
 | true=>exact e
theorem a03 (ha:PT X a tA)(hb:PW X (.BoolOp .And (b::rest) pos) tB'):PW X (.BoolOp .And (a::b::rest) pos) (aRN tA tB'):=by
 intro wh pins s σ H Q I h;refine isTrue_and (thn (ha pins s σ H _ I h) fun c s1 ⟨H1,I1,q1⟩=>?_)
 cases c with
 | true=>exact hb wh pins s1 σ H1 Q I1 q1
 | false=>exact⟨H1,I1,q1⟩
theorem aBW (ha:PT X a tA)(hb:PW X (.BoolOp .Or (b::rest) pos) tB'):PW X (.BoolOp .Or (a::b::rest) pos) (tOr tA tB'):=by
 intro wh pins s σ H Q I h;refine isTrue_or (thn (ha pins s σ H _ I h) fun c s1 ⟨H1,I1,q1⟩=>?_)
 cases c with
 | true=>exact⟨H1,I1,q1⟩
 | false=>exact hb wh pins s1 σ H1 Q I1 q1
theorem sV (ha:PT X a tA):PT X (.UnaryOp .Not a pos) (aR8 tA):=by
 intro pins s σ H Q I h;exact isTrue_not (ha pins s σ H (fun c H1=>Q (!c) H1) I h)
noncomputable def aNN (ta tb:TE):TE:=fun σ H Q=>ta σ H fun x H1=>∃ c,x=.bl c∧if c=true then tb σ H1 Q else Q (.bl false) H1
noncomputable def aMA (ta:TE):TE:=fun σ H Q=>ta σ H fun x H1=>∃ c,x=.bl c∧Q (.bl (!c)) H1
theorem aJP {op}{t:TE}(h:PE X a t):PE X (.BoolOp op [a] pos) t:=fun pins s σ H Q I hw=>BoolOp_one (h pins s σ H Q I hw)
theorem aJ2 (ha:PE X a ta)(hb:PE X (.BoolOp .And (b::rest) pos) tb):PE X (.BoolOp .And (a::b::rest) pos) (aNN ta tb):=by
 intro pins s σ H Q I h;refine BoolOp_and (thn (ha pins s σ H _ I h) fun v s1 ⟨x,H1,I1,r1,q1⟩=>?_);obtain⟨c,rfl,q1⟩:=q1
 cases r1
 refine C6 ?_
 cases c with
 | true=>exact hb pins s1 σ H1 Q I1 q1
 | false=>exact⟨.bl false,H1,I1,rfl,q1⟩
theorem aD8 (ha:PE X a ta):PE X (.UnaryOp .Not a pos) (aMA ta):=by
 intro pins s σ H Q I h;refine UnaryOp_ (thn (ha pins s σ H _ I h) fun v s1 ⟨x,H1,I1,r1,q1⟩=>?_);obtain⟨c,rfl,q1⟩:=q1
 cases r1
 exact not_of (C6 ⟨.bl (!c),H1,I1,rfl,q1⟩)
noncomputable def tIf (t:TT)(ta tb:TE):TE:=fun σ H Q=>t σ H fun c H1=>if c=true then ta σ H1 Q else tb σ H1 Q
theorem aAL {c:AR}(hc:PT X c tA)(ha:PE X a ta)(hb:PE X b tb):PE X (.IfExp c a b pos) (tIf tA ta tb):=by
 intro pins s σ H Q I h;refine wpAny_IfExp (thn (hc pins s σ H _ I h) fun d s1 ⟨H1,I1,q1⟩=>?_)
 cases d with
 | true=>exact ha pins s1 σ H1 Q I1 q1
 | false=>exact hb pins s1 σ H1 Q I1 q1
end
end L2
namespace L2
open PySem PySem.Spec PyProof.Rows
noncomputable def SqL (K:Ad)(H:Hp)(a:AB)(xs:List V):Prop:=
 Rd H a (.lst xs) ∨
  ∃(o:Obj) (its:Array AA) (n:Nat),K.lookup a=some o∧o.cls=.type "list" ∧ o.dict=none∧o.data=.seq its n∧its.size≤sizeLine∧Vals xs its.toList
noncomputable def SqT (K:Ad)(H:Hp)(a:AB)(xs:List V):Prop:=
 Rd H a (.tup xs) ∨
  ∃(o:Obj) (its:Array AA) (n:Nat),K.lookup a=some o∧o.cls=.type "tuple" ∧ o.data=.seq its n∧its.size≤sizeLine∧Vals xs its.toList
noncomputable def aS6:AA→Option V
 | .none=>some .non
 | .bool b=>some (.bl b)
 | .int i _=>some (.int i)
 | .str x _=>some (.str x)
 | .bytes b _=>some (.byt b)
 | .float b _=>some (.flt b)
 | .ref a=>some (.ref a)
 | .type n=>some (.ty n)
 | _=>none
theorem RelV.abs {x:V}{u:AA}(r:RelV x u):aS6 u=some x:=by
 cases x with
 | non=>cases r; rfl
 | bl _=>cases r; rfl
 | int _=>obtain⟨t,rfl⟩:=r; rfl
 | str _=>obtain⟨t,rfl⟩:=r; rfl
 | byt _=>obtain⟨t,rfl⟩:=r; rfl
 | flt _=>obtain⟨t,rfl⟩:=r; rfl
 | ref _=>cases r; rfl
 | ty _=>cases r; rfl
theorem RelV.inj {x y:V}{u:AA}(r:RelV x u)(q:RelV y u):x=y:=Az.inj (r.abs.symm.trans q.abs)
theorem Vals.inj:∀{xs ys:List V} {us:List AA},Vals xs us→Vals ys us→xs=ys:=by
 intro xs ys us h
 induction h generalizing ys with
 | nil=>intro q; cases q; rfl
 | cons r t ih=>intro q; cases q with|cons r' t'=>rw[r.inj r',ih t']
section
variable {X:Cx}{pins:List (AB×Obj)}{σ:St}{H:Hp}{s:AC}{a:AB}{xs ys:List V}
theorem SqL.of {K:Ad}(h:H a=some (.lst xs)):SqL K H a xs:=.inl (.inl h)
theorem SqT.of {K:Ad}(h:H a=some (.tup xs)):SqT K H a xs:=.inl (.inl h)
theorem Inv.list (I:Inv X pins σ H s)(h:SqL X.K H a xs):∃ its:List AA,Vals xs its∧PlainL s.heap a its.toArray∧xs.length≤sizeLine:=by
 rcases h with h|⟨o,its,n,hk,hc,hd,hs,hz,r⟩
 ·obtain⟨z,its,n,r,e⟩:=h.ok I.hok;exact⟨its,r,⟨_,n,e,rfl,rfl,rfl⟩,z⟩
 ·refine⟨its.toList,r,⟨o,n,I.kIn a o hk,hc,hd,by simpa using hs⟩,?_⟩;have e:=r.length;simp only[Af] at e;omega
theorem Inv.tuple (I:Inv X pins σ H s)(h:SqT X.K H a xs):∃ its:List AA,Vals xs its∧IsTup s.heap a its.toArray∧xs.length≤sizeLine:=by
 rcases h with h|⟨o,its,n,hk,hc,hs,hz,r⟩
 ·obtain⟨z,its,r,p⟩:=h.ok I.hok;exact⟨its,r,p,z⟩
 ·refine⟨its.toList,r,⟨o,I.kIn a o hk,hc,n,by simpa using hs⟩,?_⟩;have e:=r.length;simp only[Af] at e;omega
theorem Inv.list_inj (I:Inv X pins σ H s)(h:SqL X.K H a xs)(h':SqL X.K H a ys):xs=ys:=by
 obtain⟨its,r,⟨o,n,e,_,_,d⟩,_⟩:=I.list h;obtain⟨its',r',⟨o',n',e',_,_,d'⟩,_⟩:=I.list h';rw[e] at e'; cases e';rw[d] at d';injection d' with d1 _;have:its=its':=by simpa using congrArg E9 d1
 subst this;exact r.inj r'
theorem Inv.tuple_inj (I:Inv X pins σ H s)(h:SqT X.K H a xs)(h':SqT X.K H a ys):xs=ys:=by
 obtain⟨its,r,⟨o,e,_,n,d⟩,_⟩:=I.tuple h;obtain⟨its',r',⟨o',e',_,n',d'⟩,_⟩:=I.tuple h';rw[e] at e'; cases e';rw[d] at d';injection d' with d1 _;have:its=its':=by simpa using congrArg E9 d1
 subst this;exact r.inj r'
end
abbrev Cx.wish (X:Cx)(E:AA→AC→Prop):Cx:={ X with xe:=E }
abbrev Cx.nox (X:Cx):Cx:=X.wish fun _ _=>False
theorem Cx.Ok.wish {X:Cx}(ok:X.Ok)(E:AA→AC→Prop):(X.wish E).Ok:=
 ⟨ok.mod,ok.kind,ok.glob,ok.blt,ok.above,ok.inj,ok.has,ok.cab,ok.hd,ok.frames,ok.stk,ok.exf,ok.bs,ok.bsz,ok.noex,ok.exfs,ok.funs,ok.frf⟩
theorem Cx.Ok.unwish {X:Cx}{E:AA→AC→Prop}(ok:(X.wish E).Ok):X.Ok:=
 ⟨ok.mod,ok.kind,ok.glob,ok.blt,ok.above,ok.inj,ok.has,ok.cab,ok.hd,ok.frames,ok.stk,ok.exf,ok.bs,ok.bsz,ok.noex,ok.exfs,ok.funs,ok.frf⟩
section
variable {X:Cx}{pins:List (AB×Obj)}{σ:St}{H:Hp}{s:AC}{E:AA→AC→Prop}
theorem Inv.wish (I:Inv X pins σ H s)(E:AA→AC→Prop):Inv (X.wish E) pins σ H s:=⟨I.ok.wish E,I.os,I.bare,I.base,I.loc,I.cell,I.free,I.freeC,I.pin,I.hok,I.len⟩
theorem Inv.unwish (I:Inv (X.wish E) pins σ H s):Inv X pins σ H s:=⟨I.ok.unwish,I.os,I.bare,I.base,I.loc,I.cell,I.free,I.freeC,I.pin,I.hok,I.len⟩
theorem SP.unwish {D:Ends}{f:Flow}{s':AC}(h:SP (X.wish E) pins D f s'):SP X pins D f s':=by
 cases f with
 | next=>obtain⟨σ',H',I,q⟩:=h; exact⟨σ',H',I.unwish,q⟩
 | brk=>obtain⟨σ',H',I,q⟩:=h; exact⟨σ',H',I.unwish,q⟩
 | cont=>obtain⟨σ',H',I,q⟩:=h; exact⟨σ',H',I.unwish,q⟩
 | ret u=>obtain⟨v,σ',H',I,r,q⟩:=h; exact⟨v,σ',H',I.unwish,r,q⟩
theorem PSs.nox {st:List AO}{t:TS}(h:PSs X.nox st t):PSs X st t:=fun pins s σ H D I hw=>
 BY (h pins s σ H D (I.wish _) hw) (fun _ _ q=>q.unwish) fun _ _ z=>CC z
end
section
variable {X:Cx}{st:AO}{rest:List AO}{t u:TS}{e:AR}{te:TE}{pos:Pos}
noncomputable def aOC:TS:=fun D σ H=>D.nx σ H
noncomputable def aR9 (t u:TS):TS:=fun D σ H=>t { D with nx:=u D } σ H
theorem bU:PSs X [] aOC:=fun _ _ σ H _ I h=>Ei ⟨σ,H,I,h⟩
theorem aJ (h1:PS X st t)(h2:PSs X rest u):PSs X (st::rest) (aR9 t u):=by
 intro pins s σ H D I h;refine wpAny_execs_cons (thn (h1 pins s σ H { D with nx:=u D } I h) fun f s1 q=>?_)
 cases f with
 | next=>
  obtain⟨σ',H',I',q⟩:=q;exact h2 pins s1 σ' H' D I' q
 | ret v=>exact q
 | brk=>exact q
 | cont=>exact q
theorem aM (h1:PS X st t):PSs X [st] t:=by
 intro pins s σ H D I h;refine wpAny_execs_cons (thn (h1 pins s σ H D I h) fun f s1 q=>?_)
 cases f with
 | next=>exact Ei q
 | ret v=>exact q
 | brk=>exact q
 | cont=>exact q
theorem Inv.quiet {pins:List (AB×Obj)}{σ:St}{H:Hp}{s:AC}(I:Inv X pins σ H s):interactive X.env=false:=by simp[interactive,I.ok.kind]
noncomputable def aGR (te:TE):TS:=fun D σ H=>te σ H fun _ H1=>D.nx σ H1
theorem oW (he:PE X e te)(hs:swapsWith e none pos.line X.env=pure false:=by rfl):PS X (.Expr e pos) (aGR te):=by
 intro pins s σ H D I h;exact wpAny_Expr_any (thn (he pins s σ H _ I h) fun v s1 ⟨x,H1,I1,r1,q1⟩=>⟨σ,H1,I1,q1⟩) I.quiet hs
noncomputable def aRO (te:TE):TS:=fun D σ H=>te σ H D.rt
theorem bC (he:PE X e te):PS X (.Return (some e) pos) (aRO te):=by
 intro pins s σ H D I h;exact wpAny_Return_some (thn (he pins s σ H _ I h) fun v s1 ⟨x,H1,I1,r1,q1⟩=>⟨x,σ,H1,I1,r1,q1⟩)
noncomputable def aRL (c:TT)(t u:TS):TS:=fun D σ H=>c σ H fun b H1=>if b=true then t D σ H1 else u D σ H1
theorem cV {c:AR}{a b:List AO}{tc:TT}(hc:PT X c tc)(ha:PSs X a t)(hb:PSs X b u):PS X (.If c a b pos) (aRL tc t u):=by
 intro pins s σ H D I h;refine wpAny_If (thn (hc pins s σ H _ I h) fun d s1 ⟨H1,I1,q1⟩=>?_)
 cases d with
 | true=>exact ha pins s1 σ H1 D I1 q1
 | false=>exact hb pins s1 σ H1 D I1 q1
noncomputable def aJ9:TS:=fun _ _ _=>False
theorem aIP:PS X st aJ9:=fun _ _ _ _ _ _ h=>h.elim
end
abbrev TG:=V→St→Hp→(St→Hp→Prop)→Prop
abbrev TGs:=List V→St→Hp→(St→Hp→Prop)→Prop
noncomputable def PG (X:Cx)(target:AR)(t:TG):Prop:=
 ∀(pins:List (AB×Obj)) (s:AC) (σ:St) (H:Hp) (v:V) (u:AA) (Q:St→Hp→Prop),Inv X pins σ H s→RelV v u→t v σ H Q →
  AE (AH X.prog X.w) X.A (CZ target X.env u) (fun _ s'=>∃ σ' H',Inv X pins σ' H' s'∧Q σ' H') X.xe s
noncomputable def PGs (X:Cx)(ts:List AR)(t:TGs):Prop:=
 ∀(pins:List (AB×Obj)) (s:AC) (σ:St) (H:Hp) (vs:List V) (us:List AA) (Q:St→Hp→Prop),Inv X pins σ H s→Vals vs us→t vs σ H Q →
  AE (AH X.prog X.w) X.A (FA ((De ts X.env).map (·.2)) us) (fun _ s'=>∃ σ' H',Inv X pins σ' H' s'∧Q σ' H') X.xe s
abbrev aQC:=V→V→V→Hp→(Hp→Prop)→Prop
noncomputable def aRJ (X:Cx)(t:aQC):Prop:=
 ∀(pins:List (AB×Obj)) (s:AC) (σ:St) (H:Hp) (o i v:V) (ov iv u:AA) (Q:Hp→Prop),Inv X pins σ H s→RelV o ov→RelV i iv→RelV v u→t o i v H Q →
  AE (AH X.prog X.w) X.A (setItem ov iv u) (fun _ s'=>∃ H',Inv X pins σ H' s'∧Q H') X.xe s
abbrev TIp:=V→V→Hp→VK→Prop
noncomputable def PIp (X:Cx)(op:Operator)(t:TIp):Prop:=
 ∀(pins:List (AB×Obj)) (s:AC) (σ:St) (H:Hp) (x y:V) (v u:AA) (Q:VK),Inv X pins σ H s→RelV x v→RelV y u→t x y H Q →
  AE (AH X.prog X.w) X.A (inplaceOp op v u) (EP X pins σ Q) X.xe s
section
variable {X:Cx}{pos:Pos}
noncomputable def a68 (i:Nat):TG:=fun v σ H Q=>Q (σ.set i (some v)) H
theorem cA {i:Nat}{x:Str}(hN:X.N.Nodup)(hi:X.N[i]?=some x)(hx:Loc X.env.scope x)(hf:X.fn x=true∨X.env.scope.names.lookup x=some .local:=by first|exact .inl rfl|exact .inr rfl|assumption):PG X (.Name x pos) (a68 i):=by
 intro pins s σ H v u Q I r h;exact wpAny_assign_Name (tV I hN hi hx r (fun s' I'=>⟨_,H,I',h⟩) hf)
noncomputable def aRF:TGs:=fun vs σ H Q=>vs=[]∧Q σ H
noncomputable def aNB (t:TG)(u:TGs):TGs:=fun vs σ H Q=>∃ v r,vs=v::r∧t v σ H fun σ' H'=>u r σ' H' Q
theorem yN:PGs X [] aRF:=by
 intro pins s σ H vs us Q I r h;obtain⟨e,h⟩:=h;subst e
 cases r
 exact assignInOrder_nil ⟨σ,H,I,h⟩
theorem gR {e:AR}{es:List AR}{t:TG}{u:TGs}(h1:PG X e t)(h2:PGs X es u)
  (hs:(De (e::es) X.env).map (·.2)=CZ e X.env::(De es X.env).map (·.2):=by rfl):PGs X (e::es) (aNB t u):=by
 intro pins s σ H vs us Q I r h;obtain⟨v,vr,e1,h⟩:=h;subst e1
 cases r with
 | cons r rr=>
  rw[hs];refine FB (thn (h1 pins s σ H _ _ _ I r h) fun _ s1 ⟨σ1,H1,I1,q1⟩=>?_);exact h2 pins s1 σ1 H1 _ _ Q I1 rr q1
noncomputable def aRI (K:Ad)(n:Nat)(t:TGs):TG:=fun v σ H Q=>∃ a xs,v=.ref a∧SqT K H a xs∧xs.length=n∧t xs σ H Q
theorem a6E {es:List AR}{k:Nat}{t:TGs}{n:Nat}(hc:X.calm=true)(h:PGs X es t)
  (hn:(De es X.env).length=n:=by rfl) (hst:(De es X.env).findIdx? (·.1)=none:=by rfl):PG X (.Tuple es k pos) (aRI X.K n t):=by
 intro pins s σ H v u Q I r hw;obtain⟨a,xs,e1,hq,hl,hw⟩:=hw;subst e1
 cases r
 obtain⟨its,rv,ht,hz⟩:=I.tuple hq;refine assign_Tuple_tuple (I.ok.hd hc) ht (by simp[hn,←hl,rv.length]) hst fun h' hx=>?_;have I1:Inv X pins σ H { s with heap:=h' }:=I.kept (t':=s.toks) fun b o e=>hx b o (Ag (AT e)) e;exact h pins _ σ H xs _ Q I1 (by simpa using rv) hw
noncomputable def aSI (to ti:TE)(t:aQC):TG:=fun v σ H Q=>to σ H fun o H1=>ti σ H1 fun i H2=>t o i v H2 fun H3=>Q σ H3
theorem aF5 {o i:AR}{to ti:TE}{t:aQC}(ho:PE X o to)(hi:PE X i ti)(hs:aRJ X t)
  (ha:∀ v,CZ (.Subscript o i pos) X.env v=(do
   let ov←ED [v] (Ah o X.env)
   let iv←ED [v,ov] (Ah i X.env)
   standAt pos
   ED [v,ov,iv] (setItem ov iv v)
   release [v,ov,iv] []):=by intro _; rfl):PG X (.Subscript o i pos) (aSI to ti t):=by
 intro pins s σ H v u Q I r h;rw[ha];refine AD (BB (thn (ho pins s σ H _ I h) fun ov s1 ⟨x,H1,I1,r1,q1⟩=>?_));refine AD (BB (thn (hi pins s1 σ H1 _ I1 q1) fun iv s2 ⟨y,H2,I2,r2,q2⟩=>?_));refine AD (Ej (AD (BB (thn (hs pins s2 σ H2 x y v ov iv u _ I2 r1 r2 r q2) fun _ s3 ⟨H3,I3,q3⟩=>?_))));exact wpAny_release ⟨σ,H3,I3,q3⟩
noncomputable def aKA (te:TE)(g:TG):TS:=fun D σ H=>te σ H fun x H1=>g x σ H1 D.nx
theorem aB2 {tg e:AR}{te:TE}{g:TG}(he:PE X e te)(hg:PG X tg g)(hs:swapsWithSole [tg] e pos.line X.env=pure false:=by rfl)(hw:swappedStores [tg] e X.env=pure none:=by rfl)
  (h1:(De [tg] X.env).map (·.2)=[CZ tg X.env]:=by rfl):PS X (.Assign [tg] e pos) (aKA te g):=by
 intro pins s σ H D I h;refine wpAny_Assign_stores (thn (he pins s σ H _ I h) fun v s1 ⟨x,H1,I1,r1,q1⟩=>?_) hs hw;rw[h1];exact thn (hg pins s1 σ H1 x v _ I1 r1 q1) fun _ s2 q=>q
theorem bJ {i:Nat}{x:Str}{e:AR}{te:TE}{pos':Pos}(hN:X.N.Nodup)(hi:X.N[i]?=some x)(hx:Loc X.env.scope x)(he:PE X e te)(hs:swapsWith e (some (.Name x pos')) pos.line X.env=pure false:=by rfl)(hf:X.fn x=true∨X.env.scope.names.lookup x=some .local:=by first|exact .inl rfl|exact .inr rfl|assumption) :
  PS X (.Assign [.Name x pos'] e pos) (aKA te (a68 i)):=by
 intro pins s σ H D I h;refine wpAny_Assign_Name (thn (he pins s σ H _ I h) fun v s1 ⟨y,H1,I1,r1,q1⟩=>?_) hs;exact tV I1 hN hi hx r1 (fun s2 I2=>⟨_,H1,I2,q1⟩) hf
noncomputable def aRK (i j:Nat)(ta:TA):TS:=fun D σ H=>ta σ H fun vs H1=>∃ v w,vs=[v,w]∧D.nx ((σ.set i (some v)).set j (some w)) H1
theorem a9J {i j:Nat}{x y:Str}{a b:AR}{ta:TA}{px py pt:Pos}{kt k2 pt2}(hc:X.calm=true)(hN:X.N.Nodup)(hi:X.N[i]?=some x)(hj:X.N[j]?=some y)(hij:i≠j)
  (hx:X.env.scope.names.lookup x=some .local) (hy:X.env.scope.names.lookup y=some .local) (ha:PA X [a,b] ta)
  (hw:swappedStores [.Tuple [.Name x px,.Name y py] kt pt] (.Tuple [a,b] k2 pt2) X.env=pure (some [x,y]))
  (hs:swapsWithSole [.Tuple [.Name x px,.Name y py] kt pt] (.Tuple [a,b] k2 pt2) pos.line X.env=pure false:=by rfl) :
  PS X (.Assign [.Tuple [.Name x px,.Name y py] kt pt] (.Tuple [a,b] k2 pt2) pos) (aRK i j ta):=by
 intro pins s σ H D I h;rw[exec_Assign_arm];refine AD (Ej ?_);rw[hs];refine AD (AG ?_);rw[if_neg (by decide)];refine AD (Tuple_ (thn (ha _ pins s σ H _ I h) fun us s1 ⟨vs,H1,I1,r1,q1⟩=>?_));obtain⟨v,w,e1,q1⟩:=q1;subst e1;obtain⟨u1,u2,rfl,rv,rw'⟩:∃ u1 u2,us=[u1,u2]∧RelV v u1∧RelV w u2:=by
  cases r1 with
  | cons p q=>
   cases q with
   | cons p' q'=>
    cases q'
    exact⟨_,_,rfl,p,p'⟩
 refine Ca ?_ (by show 2≤sizeLine; decide);have I2:Inv X pins σ H1 { s1 with heap:=s1.heap.push { cls:=.type "tuple", data:=.seq [u1,u2].toArray } }:=I1.kept (t':=s1.toks) fun b o e=>AZ _ e;rw[hw];refine AD (AG ?_);show AE (AH X.prog X.w) X.A (do rule "assign.swapped-stores"; let items←unpackItems (.ref s1.heap.objs.size) 2 none; FA [fun v=>bindName X.env y v,fun v=>bindName X.env x v] items.reverse; pure Flow.next) _ _ _;refine AD (Cm (AD (unpackItems_tuple (items:=#[u1,u2]) (I.ok.hd hc) (IsTup.new s1.heap _) fun h' hx'=>?_)));have I3:=I2.kept (h':=h') (t':=s1.toks) fun b o e=>hx' b o (Ag (AT e)) e;show AE _ _ (FA [fun v=>bindName X.env y v,fun v=>bindName X.env x v] [u2,u1] >>= fun _=>pure Flow.next) _ _ _;refine AD (FB (wpAny_bindName (tV I3 hN hj (.inl hy) rw' (fun s2 I4=>?_) (.inr hy))));refine FB (wpAny_bindName (tV I4 hN hi (.inl hx) rv (fun s3 I5=>assignInOrder_nil (AG ?_)) (.inr hx)));rw[List.set_comm _ _ (Ne.symm hij)] at I5;exact⟨_,H1,I5,q1⟩
noncomputable def aRD (i:Nat)(te:TE)(ti:TIp):TS:=fun D σ H=>∃ x,σ[i]?=some (some x)∧te σ H fun y H1=>ti x y H1 fun z H2=>D.nx (σ.set i (some z)) H2
theorem aIW {i:Nat}{x:Str}{e:AR}{te:TE}{op:Operator}{ti:TIp}{pos':Pos}(hN:X.N.Nodup)(hi:X.N[i]?=some x)(hx:Loc X.env.scope x)(he:PE X e te)(ho:PIp X op ti)(hf:X.fn x=true∨X.env.scope.names.lookup x=some .local:=by first|exact .inl rfl|exact .inr rfl|assumption) :
  PS X (.AugAssign (.Name x pos') op e pos) (aRD i te ti):=by
 intro pins s σ H D I h;obtain⟨v,e1,h⟩:=h;obtain⟨m,hn,hl⟩:=I.loc;have vis:Vis X.env.scope x:=by rcases hx with k|k; exact .inl k; exact .inr (.inl k)
 obtain⟨u,r,l⟩:=hl i x v hi e1 vis;refine wpAny_AugAssign_Name ?_;have go:AE (AH X.prog X.w) X.A (Ah e X.env) (fun w s₂=>AE (AH X.prog X.w) X.A (inplaceOp op u w) (fun r s₃=>AE (AH X.prog X.w) X.A (storeName X.env x r) (fun _=>SP X pins D .next) X.xe s₃) X.xe s₂) X.xe s:=by
  refine thn (he pins s σ H _ I h) fun w s1 ⟨y,H1,I1,r1,q1⟩=>?_;refine thn (ho pins s1 σ H1 v y u w _ I1 r r1 q1) fun z s2 ⟨zv,H2,I2,r2,q2⟩=>?_;exact tV I2 hN hi hx r2 (fun s3 I3=>⟨_,H2,I3,q2⟩) hf
 rcases l with⟨hk,hm⟩|⟨hk,c,hc,hcell⟩
 ·exact Fv I.ok.kind hk hn hm go
 ·rcases hk with hk|hk
  ·exact Fw I.ok.kind hk hc hcell go
  ·rcases hx with k|k
   ·have:X.env.scope.names.lookup x=some .free:=hk;rw[k] at this; cases this
   ·have:X.env.scope.names.lookup x=some .free:=hk;rw[k] at this; cases this
noncomputable def ipI (f:Int→Int→Int):TIp:=fun x y H Q=>∃ i j,x=.int i∧y=.int j∧Q (.int (f i j)) H
theorem aOP:PIp X .Add (ipI fun i j=>i+j):=by
 intro pins s σ H x y v u Q I r1 r2 h;obtain⟨i,j,e1,e2,q⟩:=h;subst e1; subst e2;obtain⟨t,rfl⟩:=r1;obtain⟨t',rfl⟩:=r2;exact iadd_int ⟨.int _,H,I.tok _,⟨_,rfl⟩,q⟩
theorem aN2:PIp X .Sub (ipI fun i j=>i-j):=by
 intro pins s σ H x y v u Q I r1 r2 h;obtain⟨i,j,e1,e2,q⟩:=h;subst e1; subst e2;obtain⟨t,rfl⟩:=r1;obtain⟨t',rfl⟩:=r2;exact isub_int ⟨.int _,H,I.tok _,⟨_,rfl⟩,q⟩
end
section
variable {X:Cx}{pos:Pos}
noncomputable def aIT (c:TT)(tb:TS):TS:=fun D σ H=>∃ W:Nat→St→Hp→Prop,(∃ m,W m σ H)∧∀ m σ H,W m σ H →
 c σ H fun b H1=>if b=true then ∃ N:St→Hp→Prop,(∀ σ' H',N σ' H'→∃ m',m'<m∧W m' σ' H')∧tb { D with nx:=N,ct:=N,bk:=D.nx } σ H1 else D.nx σ H1
theorem uB {c:AR}{body:List AO}{tc:TT}{tb:TS}(hp:A6 (AH X.prog X.w) X.A X.env X.xe)(hc:PT X c tc)(hb:PSs X body tb):PS X (.While c body [] pos) (aIT tc tb):=by
 intro pins s σ H D I h;obtain⟨W,⟨m0,w0⟩,turn⟩:=h;refine wpAny_While (codeAny_whileLoop (fun n s'=>∃ σ' H',Inv X pins σ' H' s'∧W n σ' H') ?_ m0 ⟨σ,H,I,w0⟩);rintro n s1 ⟨σ1,H1,I1,w1⟩;refine C7 hp (thn (hc pins s1 σ1 H1 _ I1 (turn n σ1 H1 w1)) fun b s2 ⟨H2,I2,q2⟩=>?_)
 cases b with
 | true=>
  obtain⟨N,hN,q2⟩:=q2;rw[if_pos rfl];refine C7 hp (thn (hb pins s2 σ1 H2 _ I2 q2) fun f s3 q3=>?_)
  cases f with
  | next=>
   obtain⟨σ3,H3,I3,n3⟩:=q3;obtain⟨m',hm,w3⟩:=hN σ3 H3 n3;exact⟨m',hm,σ3,H3,I3,w3⟩
  | cont=>
   obtain⟨σ3,H3,I3,n3⟩:=q3;obtain⟨m',hm,w3⟩:=hN σ3 H3 n3;exact⟨m',hm,σ3,H3,I3,w3⟩
  | brk=>exact q3
  | ret v=>exact q3
 | false=>
  rw[if_neg BZ];exact Ei ⟨σ1,H2,I2,q2⟩
end
structure It where
 go:Nat→Hp→Prop
 yld:Nat→Hp→V→Hp→Prop
 stop:Nat→Hp→Prop
noncomputable def aGH (X:Cx)(pins:List (AB×Obj))(H:Hp)(b:AB):Prop:=
 H b=none∧b≠X.env.locals∧b∉X.fs∧(b∈X.ex∨X.s₀.heap.objs.size≤b)∧(∀ x c,X.env.cells.lookup x=some c→c≠b)∧∀ p∈X.pn++pins,p.1≠b
theorem Inv.fpOk {X:Cx}{pins:List (AB×Obj)}{σ:St}{H H':Hp}{s:AC}{b:AB}(I:Inv X pins σ H s)(hb:s.heap.objs.size≤b)(hn:H' b=none):aGH X pins H' b:=by
 refine⟨hn,A5 (Al I.lt hb),I.nofs hb,.inr (Aw I.sz hb),fun x c e z=>?_,fun p hp z=>?_⟩
 ·obtain⟨v,q⟩:=I.cell x c e;exact absurd (Al q.lt (by rw[z]; exact hb)) (BI _)
 ·exact absurd (Al (AT (I.pin p hp).1) (by rw[z]; exact hb)) (BI _)
structure Turn (P:AL)(w:AI)(K:Ad)(tg:AR)(J:It)(fp:List AB)(it:AB)(tn:Nat→AF→Prop):Prop where
 mem:it∈fp
 obj:∀ i h,tn i h→∀ b∈fp,∃ o,h.get? b=some o∧∀ v,o.data≠.cell v
 keep:∀ i h h',tn i h→(∀ b∈fp,∀ o,h.get? b=some o→h'.get? b=some o)→tn i h'
 item:∀(X:Cx),X.prog=P→X.w=w→X.K=K→X.calm=true→∀(i:Nat) (pins:List (AB×Obj)) (s:AC) (σ:St) (H:Hp) (E:AA→AC→Prop),Inv X pins σ H s→(∀ b∈fp,aGH X pins H b)→tn i s.heap→J.go i H →
  AE (AH P w) X.A (BJ (.ref it)) (fun r s1=>∃ u,r=some u ∧
   AE (AH P w) X.A (Ek tg (.ref it) u) (fun _ s2=>∃ x H',Inv X pins σ H' s2∧RelV x u∧J.yld i H x H'∧tn (i+1) s2.heap∧∀ b∈fp,H' b=none) E s1) E s
 done:∀(X:Cx),X.prog=P→X.w=w→X.K=K→X.calm=true→∀(i:Nat) (pins:List (AB×Obj)) (s:AC) (σ:St) (H:Hp) (E:AA→AC→Prop),Inv X pins σ H s→(∀ b∈fp,aGH X pins H b)→tn i s.heap→J.stop i H →
  AE (AH P w) X.A (BJ (.ref it)) (fun r s1=>r=none∧Inv X pins σ H s1) E s
 self:∀(A:AV) (i:Nat) (s:AC) (Q:AA→AC→Prop) (E:AA→AC→Prop),tn i s.heap→Q (.ref it) s→AE (AH P w) A (pyIter (.ref it)) Q E s
abbrev TI:=St→Hp→(It→Hp→Prop)→Prop
noncomputable def PIE (X:Cx)(pins:List (AB×Obj))(σ:St)(tg:AR)(R:It→Hp→Prop)(itv:AA)(s2:AC):Prop:=
 ∃(it:AB) (fp:List AB) (tn:Nat→AF→Prop) (J:It) (H':Hp),itv=.ref it∧Inv X pins σ H' s2∧Turn X.prog X.w X.K tg J fp it tn∧tn 0 s2.heap∧(∀ b∈fp,aGH X pins H' b)∧R J H'
noncomputable def PI (X:Cx)(tg iter:AR)(wi:TI):Prop:=
 ∀(pins:List (AB×Obj)) (s:AC) (σ:St) (H:Hp) (R:It→Hp→Prop),Inv X pins σ H s→wi σ H R →
  AE (AH X.prog X.w) X.A (Ah iter X.env) (fun v s1=>AE (AH X.prog X.w) X.A (pyIter v) (PIE X pins σ tg R) X.xe s1) X.xe s
theorem aIG {M:Model}{A:AV}{E:AA→AC→Prop}{s:AC}{tg:AR}{it:AB}{u:AA}{o:Obj}{n:String}{vs:Array AA}{Q:Unit→AC→Prop}(ho:s.heap.get? it=some o)(hc:o.cls=.type n)(hd:o.data=.fields vs)
    (hn:["enumerate", "zip", "dict_itemiterator", "dict_reverseitemiterator", "odict_iterator", "itertools.zip_longest", "itertools.pairwise"].contains n=false) (hQ:Q () s):AE M A (Ek tg (.ref it) u) Q E s:=by
  unfold Ek
  cases tg<;>first
    | exact AG hQ
    | (cases u<;>first
        | exact AG hQ
        | (refine AD (wpAny_load ho ?_)
           rw[hc,hd];show AE M A (if (["enumerate", "zip", "dict_itemiterator", "dict_reverseitemiterator", "odict_iterator", "itertools.zip_longest", "itertools.pairwise"].contains n&&vs[0]?==some (Au _))=true then _ else _) Q E s;rw[if_neg (by intro h; rw[hn,FC] at h; cases h)];exact AG hQ))
noncomputable def Itl (K:Ad)(a:AB):It:=
 ⟨fun i H=>∃ xs x,SqL K H a xs∧xs[i]?=some x,fun i H x H'=>H'=H∧∀ xs,SqL K H a xs→xs[i]?=some x,fun i H=>∃ xs,SqL K H a xs∧xs.length≤i⟩
noncomputable def Itt (K:Ad)(a:AB):It:=
 ⟨fun i H=>∃ xs x,SqT K H a xs∧xs[i]?=some x,fun i H x H'=>H'=H∧∀ xs,SqT K H a xs→xs[i]?=some x,fun i H=>∃ xs,SqT K H a xs∧xs.length≤i⟩
noncomputable def Itr (lo:Int)(n:Nat):It:=⟨fun i _=>i<n,fun i H x H'=>H'=H∧x=.int (lo+i),fun i _=>n≤i⟩
theorem aEG {P:AL}{w:AI}{K:Ad}{tg:AR}(a it:AB):Turn P w K tg (Itl K a) [it] it (fun i h=>h.IsListIter it a i) where
 mem:=by simp
 obj:=fun i h st b hb=>by
  have e:b=it:=by simpa using hb
  subst e;obtain⟨o,e,c,d⟩:=st;exact⟨o,e,fun v z=>by rw[d] at z; cases z⟩
 keep:=fun i h h' st k=>st.at fun o e=>k it (by simp) o e
 item:=by
  intro X hP hw hK hc i pins s σ H E I hf st hg;subst hP hw hK;obtain⟨xs,x,hq,hx⟩:=hg;obtain⟨its,rv,p,hz⟩:=I.list hq;obtain⟨u,hu,ru⟩:=rv.get hx;obtain⟨f0,f1,f2,f3,f4,f5⟩:=hf it (by simp);refine wpAny_pyNext_list_item st p.isList (x:=u) (by simpa using hu) fun h' st' sb=>?_;have I1:Inv X pins σ H { s with heap:=h' }:=I.turned (t':=s.toks) (fun b o hb e=>(sb.2 b hb).trans e) f0 f1 f3 f4 f5;obtain⟨o,e,c,d⟩:=id st';exact⟨u,rfl,aIG (s:={ s with heap:=h' }) e c d (by decide) ⟨x,H,I1,ru,⟨rfl,fun ys hy=>by rw[I.list_inj hy hq]; exact hx⟩,st',fun b hb=>(hf b hb).1⟩⟩
 done:=by
  intro X hP hw hK hc i pins s σ H E I hf st hg;subst hP hw hK;obtain⟨xs,hq,hx⟩:=hg;obtain⟨its,rv,p,hz⟩:=I.list hq;obtain⟨f0,f1,f2,f3,f4,f5⟩:=hf it (by simp);have hl:=rv.length;exact wpAny_pyNext_list_end (I.ok.hd hc) st p.isList (by simp; omega) fun h' eb=>⟨rfl,I.turned (t':=s.toks) (fun b o hb e=>eb b o hb e) f0 f1 f3 f4 f5⟩
 self:=fun _ _ _ _ _ st h=>wpAny_pyIter_listiter st h
theorem aC7 {P:AL}{w:AI}{K:Ad}{tg:AR}(a it:AB):Turn P w K tg (Itt K a) [it] it (fun i h=>h.IsTupleIter it a i) where
 mem:=by simp
 obj:=fun i h st b hb=>by
  have e:b=it:=by simpa using hb
  subst e;obtain⟨o,e,c,d⟩:=st;exact⟨o,e,fun v z=>by rw[d] at z; cases z⟩
 keep:=fun i h h' st k=>st.at fun o e=>k it (by simp) o e
 item:=by
  intro X hP hw hK hc i pins s σ H E I hf st hg;subst hP hw hK;obtain⟨xs,x,hq,hx⟩:=hg;obtain⟨its,rv,p,hz⟩:=I.tuple hq;obtain⟨u,hu,ru⟩:=rv.get hx;obtain⟨f0,f1,f2,f3,f4,f5⟩:=hf it (by simp);refine wpAny_pyNext_tuple_item st (show s.heap.IsTuple a its.toArray from p) (x:=u) (by simpa using hu) fun h' st' sb=>?_;have I1:Inv X pins σ H { s with heap:=h' }:=I.turned (t':=s.toks) (fun b o hb e=>(sb.2 b hb).trans e) f0 f1 f3 f4 f5;obtain⟨o,e,c,d⟩:=id st';exact⟨u,rfl,aIG (s:={ s with heap:=h' }) e c d (by decide) ⟨x,H,I1,ru,⟨rfl,fun ys hy=>by rw[I.tuple_inj hy hq]; exact hx⟩,st',fun b hb=>(hf b hb).1⟩⟩
 done:=by
  intro X hP hw hK hc i pins s σ H E I hf st hg;subst hP hw hK;obtain⟨xs,hq,hx⟩:=hg;obtain⟨its,rv,p,hz⟩:=I.tuple hq;obtain⟨f0,f1,f2,f3,f4,f5⟩:=hf it (by simp);have hl:=rv.length;exact wpAny_pyNext_tuple_end (I.ok.hd hc) st (show s.heap.IsTuple a its.toArray from p) (by simp; omega) fun h' eb=>⟨rfl,I.turned (t':=s.toks) (fun b o hb e=>eb b o hb e) f0 f1 f3 f4 f5⟩
 self:=fun _ _ _ _ _ st h=>wpAny_pyIter_tupleiter st h
theorem aBQ {P:AL}{w:AI}{K:Ad}{tg:AR}(it:AB)(lo:Int)(n:Nat):Turn P w K tg (Itr lo n) [it] it (fun i h=>IsRangeIter h it (lo+(i:Nat)*1) ((n:Int)-(i:Nat)) 1) where
 mem:=by simp
 obj:=fun i h st b hb=>by
  have e:b=it:=by simpa using hb
  subst e;exact⟨_,st,fun v z=>by
   have z':Data.fields _=Data.cell v:=z
   cases z'⟩
 keep:=fun i h h' st k=>k it (by simp) _ st
 item:=by
  intro X hP hw hK hc i pins s σ H E I hf st hg;subst hP hw hK;obtain⟨f0,f1,f2,f3,f4,f5⟩:=hf it (by simp);have W:=Walks.range (prog:=X.prog) (w:=X.w) (I.ok.hd hc) it lo 1 n;refine W.item i s _ _ hg st fun v h' tk hv st' kk=>?_;obtain⟨t,rfl⟩:=hv;have I1:Inv X pins σ H { s with heap:=h',toks:=tk }:=I.turned (fun b o hb e=>kk b o (by simpa using hb) e) f0 f1 f3 f4 f5;refine⟨_,rfl,aIG (s:={ s with heap:=h',toks:=tk }) (n := "range_iterator") st' rfl rfl (by decide) ⟨.int (lo+i),H,I1,⟨t,?_⟩,⟨rfl,rfl⟩,st',fun b hb=>(hf b hb).1⟩⟩;rw[Da]
 done:=by
  intro X hP hw hK hc i pins s σ H E I hf st hg;subst hP hw hK;obtain⟨f0,f1,f2,f3,f4,f5⟩:=hf it (by simp);exact wpAny_pyNext_range_end (I.ok.hd hc) st (by have:n≤i:=hg; omega) fun h' eb=>⟨rfl,I.turned (t':=s.toks) (fun b o hb e=>eb b o hb e) f0 f1 f3 f4 f5⟩
 self:=fun _ _ _ _ _ st h=>wpAny_pyIter_rangeiter st h
end L2
namespace L2
open PySem PySem.Spec PyProof.Rows
section
variable {X:Cx}{tg:AR}
noncomputable def aNC (K:Ad)(tl:TE):TI:=fun σ H R=>tl σ H fun x H1=>∃ a,x=.ref a∧(∃ xs,SqL K H1 a xs)∧R (Itl K a) H1
noncomputable def aRC (K:Ad)(tl:TE):TI:=fun σ H R=>tl σ H fun x H1=>∃ a,x=.ref a∧(∃ xs,SqT K H1 a xs)∧R (Itt K a) H1
theorem gO {l:AR}{tl:TE}(hl:PE X l tl):PI X tg l (aNC X.K tl):=by
 intro pins s σ H R I h;refine thn (hl pins s σ H _ I h) fun v s1 ⟨x,H1,I1,r1,q1⟩=>?_;obtain⟨a,e,⟨xs,hq⟩,q⟩:=q1;subst e
 cases r1
 obtain⟨its,rv,p,hz⟩:=I1.list hq;refine wpAny_pyIter_list p.isList ?_;refine⟨s1.heap.objs.size,[s1.heap.objs.size],_,_,H1,rfl,I1.kept (t':=s1.toks) fun b o e=>AZ _ e,aEG a _,⟨_,Aq _ rfl,rfl,rfl⟩,fun b hb=>?_,q⟩;have e:b=s1.heap.objs.size:=by simpa using hb
 subst e;exact I1.fpOk (AN _) (I1.hok.fresh (AN _))
theorem aMK {l:AR}{tl:TE}(hl:PE X l tl):PI X tg l (aRC X.K tl):=by
 intro pins s σ H R I h;refine thn (hl pins s σ H _ I h) fun v s1 ⟨x,H1,I1,r1,q1⟩=>?_;obtain⟨a,e,⟨xs,hq⟩,q⟩:=q1;subst e
 cases r1
 obtain⟨its,rv,p,hz⟩:=I1.tuple hq;refine wpAny_pyIter_tuple (show s1.heap.IsTuple a its.toArray from p) ?_;refine⟨s1.heap.objs.size,[s1.heap.objs.size],_,_,H1,rfl,I1.kept (t':=s1.toks) fun b o e=>AZ _ e,aC7 a _,⟨_,Aq _ rfl,rfl,rfl⟩,fun b hb=>?_,q⟩;have e:b=s1.heap.objs.size:=by simpa using hb
 subst e;exact I1.fpOk (AN _) (I1.hok.fresh (AN _))
theorem a93 {pins:List (AB×Obj)}{σ:St}{H:Hp}{s:AC}{R:It→Hp→Prop}{E:AA→AC→Prop}{lo hi:Int}{t u v:Tok}{tk:Nat}(I:Inv X pins σ H s)(h1 : -(2^62)≤lo)(h2:lo<2^62)(h3 : -(2^62)≤hi)(h4:hi<2^62)
  (q:R (Itr lo (hi-lo).toNat) H):AE (AH X.prog X.w) X.A (pyIter (.ref s.heap.objs.size)) (PIE X pins σ tg R) E { s with heap:=s.heap.push { cls:=.type "range", data:=.fields #[.int lo t,.int hi u,.int 1 v] },toks:=tk }:=by
 refine wpAny_pyIter_range (IsRange.new ..) (small_one h1 h2 h3 h4) ?_;have I1:Inv X pins σ H { s with heap:=s.heap.push { cls:=.type "range", data:=.fields #[.int lo t,.int hi u,.int 1 v] },toks:=tk }:=I.kept fun b o e=>AZ _ e;refine⟨(s.heap.push { cls:=.type "range", data:=.fields #[.int lo t,.int hi u,.int 1 v] }).objs.size,[(s.heap.push { cls:=.type "range", data:=.fields #[.int lo t,.int hi u,.int 1 v] }).objs.size],_,_,H,rfl,
  I1.kept (t':=tk) fun b o e=>AZ _ e,aBQ _ lo (hi-lo).toNat,?_,fun b hb=>?_,q⟩
 ·have e1:lo+((0:Nat):Int)*1=lo:=by simp
  have e2:(((hi-lo).toNat:Nat):Int)-((0:Nat):Int)=Fz lo hi 1:=by rw[rangeSize_one]; split<;>omega
  show IsRangeIter _ _ (lo+((0:Nat):Int)*1) ((((hi-lo).toNat:Nat):Int)-((0:Nat):Int)) 1;rw[e1,e2];exact Aq _ rfl
 ·have e:b=(s.heap.push { cls:=.type "range", data:=.fields #[.int lo t,.int hi u,.int 1 v] }).objs.size:=by simpa using hb
  subst e;exact I1.fpOk (AN _) (I1.hok.fresh (AN _))
noncomputable def aOW (ta:TA):TI:=fun σ H R=>ta σ H fun vs H1=>∃ j:Int,vs=[.int j] ∧ -(2^62)≤j∧j<2^62∧R (Itr 0 j.toNat) H1
noncomputable def aNT (ta:TA):TI:=fun σ H R=>ta σ H fun vs H1=>∃ i j:Int,vs=[.int i,.int j]∧(-(2^62)≤i∧i<2^62 ∧ -(2^62)≤j∧j<2^62)∧R (Itr i (j-i).toNat) H1
theorem gG {a:AR}{ta:TA}{p pos:Pos}(hg:Gl X "range")(hm:X.mg "range" = none)(ha:PA X [a] ta)(hs:Am [a] X.env=[(false,Ah a X.env)]:=by rfl):PI X tg (.Call (.Name "range" p) [a] [] pos) (aOW ta):=by
 intro pins s σ H R I h;refine Call_ (z6 I hg hm boot_range (EE (thn (ha pos pins s σ H _ I h) fun us s1 ⟨vs,H1,I1,r1,q1⟩=>?_) hs rfl));obtain⟨j,e,q1,q2,q⟩:=q1;subst e
 cases r1 with
 | cons r rr=>
  cases rr
  obtain⟨t,rfl⟩:=r;exact call_range_1 (a93 I1 (by omega) (by omega) q1 q2 (by simpa using q))
theorem a5G {a b:AR}{ta:TA}{p pos:Pos}(hg:Gl X "range")(hm:X.mg "range" = none)(ha:PA X [a,b] ta)(hs:Am [a,b] X.env=[(false,Ah a X.env),(false,Ah b X.env)]:=by rfl)(hs2:Am [b] X.env=[(false,Ah b X.env)]:=by rfl) :
  PI X tg (.Call (.Name "range" p) [a,b] [] pos) (aNT ta):=by
 intro pins s σ H R I h;refine Call_ (z6 I hg hm boot_range (EE (thn (ha pos pins s σ H _ I h) fun us s1 ⟨vs,H1,I1,r1,q1⟩=>?_) (by rw[hs,hs2]) (by rw[hs2]; rfl)));obtain⟨i,j,e,⟨q1,q2,q3,q4⟩,q⟩:=q1;subst e
 cases r1 with
 | cons r rr=>
  cases rr with
  | cons r' rr=>
   cases rr
   obtain⟨t,rfl⟩:=r;obtain⟨t',rfl⟩:=r';exact call_range_2 (a93 I1 q1 q2 q3 q4 q)
noncomputable def aRH (wi:TI)(g:TG)(tb:TS):TS:=fun D σ H=>wi σ H fun J H1=>∃ W:Nat→Nat→St→Hp→Prop,(∃ m,W 0 m σ H1)∧∀ i m σ H,W i m σ H →
 (J.stop i H∧D.nx σ H)∨(J.go i H∧∃ N:St→Hp→Prop,(∀ σ' H',N σ' H'→∃ m',m'<m∧W (i+1) m' σ' H')∧∀ x H',J.yld i H x H'→g x σ H' fun σ2 H2=>tb { D with nx:=N,ct:=N,bk:=D.nx } σ2 H2)
noncomputable def a5D (fp:List AB)(h:AF):List (AB×Obj):=fp.filterMap fun b=>(h.get? b).map fun o=>(b,o)
theorem qM {fp:List AB}{h:AF}{b:AB}{o:Obj}(hb:b∈fp)(e:h.get? b=some o):(b,o)∈a5D fp h:=C0.mpr ⟨b,hb,by rw[e]; rfl⟩
theorem aEL {fp:List AB}{h:AF}{p:AB×Obj}(hp:p∈a5D fp h):p.1∈fp∧h.get? p.1=some p.2:=by
 obtain⟨b,hb,e⟩:=C0.mp hp
 cases q:h.get? b with
 | none=>rw[q] at e; cases e
 | some o=>
  rw[q] at e;have e':(b,o)=p:=Az.inj e;subst e';exact⟨hb,q⟩
theorem Inv.pinned {pins:List (AB×Obj)}{σ:St}{H:Hp}{s:AC}{fp:List AB}(I:Inv X pins σ H s)(hf:∀ b∈fp,aGH X pins H b)(ho:∀ b∈fp,∃ o,s.heap.get? b=some o∧∀ v,o.data≠.cell v):Inv X (pins++a5D fp s.heap) σ H s:=
 I.pins_of fun p hp=>(BO.mp hp).elim (fun z=>I.pin p (Bo _ z)) fun z=>by
  obtain⟨hb,e⟩:=aEL z;obtain⟨f0,f1,f2,_⟩:=hf p.1 hb;obtain⟨o,e',d⟩:=ho p.1 hb;rw[e] at e'; cases e';exact⟨e,f0,f1,f2,d⟩
theorem Inv.unpinned {pins pl:List (AB×Obj)}{σ:St}{H:Hp}{s:AC}(I:Inv X (pins++pl) σ H s):Inv X pins σ H s:=I.pins_of fun p hp=>I.pin p (Bo _ (Dx _ hp))
theorem iZ {iter:AR}{body:List AO}{wi:TI}{g:TG}{tb:TS}{pos:Pos}(hp:A6 (AH X.prog X.w) X.A X.env X.xe)(hc:X.calm=true)(hi:PI X tg iter wi)(hg:PG X tg g)(hb:PSs X body tb)
  (hs:∀ x,FD iter X.env x=pure x:=by intro _; rfl):PS X (.For tg iter body [] pos) (aRH wi g tb):=by
 intro pins s σ H D I h;refine wpAny_For (thn (hi pins s σ H _ I h) fun v s1 h1=>thn h1 fun itv s2 h2=>?_) hs;obtain⟨it,fp,tn,J,H2,e,I2,T,st2,f2,W,⟨m0,w0⟩,turn⟩:=h2;subst e;have stat:∀{H':Hp},(∀ b∈fp,H' b=none)→∀ b∈fp,aGH X pins H' b:=fun hn b hb=>⟨hn b hb,(f2 b hb).2⟩;refine codeAny_forLoop_any (fun n s'=>∃ i σ' H',Inv X pins σ' H' s'∧tn i s'.heap∧(∀ b∈fp,H' b=none)∧W i n σ' H') ?_ m0 ⟨0,σ,H2,I2,st2,fun b hb=>(f2 b hb).1,w0⟩;rintro n s3 ⟨i,σ3,H3,I3,st3,fr3,w3⟩;rcases turn i n σ3 H3 w3 with⟨stop,qn⟩|⟨go,N,hN,step⟩
 ·refine C7 hp (thn (T.done X rfl rfl rfl hc i pins s3 σ3 H3 X.xe I3 (stat fr3) st3 stop) fun r s4 ⟨hr,I4⟩=>?_);subst hr;exact Ei ⟨σ3,H3,I4,qn⟩
 ·refine C7 hp (thn (T.item X rfl rfl rfl hc i pins s3 σ3 H3 X.xe I3 (stat fr3) st3 go) fun r s4 ⟨u,hr,h4⟩=>?_);subst hr;refine C7 hp (thn h4 fun _ s5 ⟨x,H5,I5,r5,y5,st5,fr5⟩=>?_);have I5':=I5.pinned (stat fr5) (T.obj _ _ st5);refine C7 hp (thn (hg _ s5 σ3 H5 x u _ I5' r5 (step x H5 y5)) fun _ s6 ⟨σ6,H6,I6,q6⟩=>?_);refine C7 hp (thn (hb _ s6 σ6 H6 _ I6 q6) fun f s7 q7=>?_);have again:∀{σ7:St} {H7:Hp},Inv X (pins++a5D fp s5.heap) σ7 H7 s7→N σ7 H7→∃ m,m<n∧∃ i σ' H',Inv X pins σ' H' s7∧tn i s7.heap∧(∀ b∈fp,H' b=none)∧W i m σ' H':=fun{σ7 H7} I7 n7=>by
   obtain⟨m',hm,w7⟩:=hN σ7 H7 n7;refine⟨m',hm,i+1,σ7,H7,I7.unpinned,T.keep _ _ _ st5 fun b hb o e=>(I7.pin (b,o) (Bo _ (Bo _ (qM hb e)))).1,fun b hb=>?_,w7⟩;obtain⟨o,e,d⟩:=T.obj _ _ st5 b hb;exact(I7.pin (b,o) (Bo _ (Bo _ (qM hb e)))).2.1
  cases f with
  | next=>obtain⟨σ7,H7,I7,n7⟩:=q7; exact again I7 n7
  | cont=>obtain⟨σ7,H7,I7,n7⟩:=q7; exact again I7 n7
  | brk=>obtain⟨σ7,H7,I7,q7⟩:=q7; exact⟨σ7,H7,I7.unpinned,q7⟩
  | ret v=>obtain⟨x7,σ7,H7,I7,r7,q7⟩:=q7; exact⟨x7,σ7,H7,I7.unpinned,r7,q7⟩
end
end L2
namespace L2
open PySem PySem.Spec PyProof.Rows
abbrev R2:=V→V→Hp→VK→Prop
noncomputable def OpR (X:Cx)(f:AA→AA→Sem AA)(r:R2):Prop:=
 ∀(pins:List (AB×Obj)) (s:AC) (σ:St) (H:Hp) (x y:V) (v u:AA) (Q:VK),Inv X pins σ H s→RelV x v→RelV y u→r x y H Q →
  AE (AH X.prog X.w) X.A (f v u) (EP X pins σ Q) X.xe s
noncomputable def UnR (X:Cx)(f:AA→Sem AA)(r:V→Hp→VK→Prop):Prop:=
 ∀(pins:List (AB×Obj)) (s:AC) (σ:St) (H:Hp) (x:V) (v:AA) (Q:VK),Inv X pins σ H s→RelV x v→r x H Q →
  AE (AH X.prog X.w) X.A (f v) (EP X pins σ Q) X.xe s
noncomputable def CallR (X:Cx)(f:AA)(r:List V→Hp→VK→Prop):Prop:=
 ∀(pins:List (AB×Obj)) (s:AC) (σ:St) (H:Hp) (xs:List V) (us:List AA) (Q:VK),Inv X pins σ H s→Vals xs us→r xs H Q →
  AE (AH X.prog X.w) X.A (call f us) (EP X pins σ Q) X.xe s
noncomputable def tOp (r:R2)(ta tb:TE):TE:=fun σ H Q=>ta σ H fun x H1=>tb σ H1 fun y H2=>r x y H2 Q
noncomputable def tUn (r:V→Hp→VK→Prop)(ta:TE):TE:=fun σ H Q=>ta σ H fun x H1=>r x H1 Q
noncomputable def rI (C:Int→Int→Prop)(g:Int→Int→V):R2:=fun x y H Q=>∃ i j,x=.int i∧y=.int j∧C i j∧Q (g i j) H
noncomputable def rI0 (g:Int→Int→V):R2:=fun x y H Q=>∃ i j,x=.int i∧y=.int j∧Q (g i j) H
noncomputable def rU (g:Int→V):V→Hp→VK→Prop:=fun x H Q=>∃ i,x=.int i∧Q (g i) H
section
variable {X:Cx}{a b c:AR}{ta tb tc:TE}{pos:Pos}
theorem aQN (ha:PE X a ta)(hb:PE X b tb){pins:List (AB×Obj)}{s:AC}{σ:St}{H:Hp}{R:V→V→Hp→Prop}(I:Inv X pins σ H s)
  (h:ta σ H fun x H1=>tb σ H1 fun y H2=>R x y H2) {Q:AA→AC→Prop} {f:AA→AA→Sem AA}
  (hf:∀ v u s2 x y H2,Inv X pins σ H2 s2→RelV x v→RelV y u→R x y H2→AE (AH X.prog X.w) X.A (f v u) Q X.xe s2) :
  AE (AH X.prog X.w) X.A (Ah a X.env) (fun v s₁=>AE (AH X.prog X.w) X.A (Ah b X.env) (fun u s₂=>AE (AH X.prog X.w) X.A (f v u) Q X.xe s₂) X.xe s₁) X.xe s:=by
 refine thn (ha pins s σ H _ I h) fun v s1 ⟨x,H1,I1,r1,q1⟩=>?_;refine thn (hb pins s1 σ H1 _ I1 q1) fun u s2 ⟨y,H2,I2,r2,q2⟩=>?_;exact hf v u s2 x y H2 I2 r1 r2 q2
theorem bT {op:Operator}{r:R2}(ho:OpR X (CD op) r)(ha:PE X a ta)(hb:PE X b tb):PE X (.BinOp a op b pos) (tOp r ta tb):=by
 intro pins s σ H Q I h;exact wpAny_BinOp (aQN ha hb I h fun v u s2 x y H2 I2 rx ry q=>ho pins s2 σ H2 x y v u Q I2 rx ry q)
theorem aF8 {op:UnaryOp}{r:V→Hp→VK→Prop}(ho:UnR X (unaryOp op) r)(ha:PE X a ta):PE X (.UnaryOp op a pos) (tUn r ta):=by
 intro pins s σ H Q I h;exact UnaryOp_ (thn (ha pins s σ H _ I h) fun v s1 ⟨x,H1,I1,r1,q1⟩=>ho pins s1 σ H1 x v Q I1 r1 q1)
theorem opI {f:AA→AA→Sem AA}{C:Int→Int→Prop}{g:Int→Int→Int}
  (rule:∀(i j:Int) (t u:Tok) (s:AC) (Q:AA→AC→Prop) (E:AA→AC→Prop),C i j→Q (.int (g i j) s.toks) { s with toks:=s.toks+1 }→AE (AH X.prog X.w) X.A (f (.int i t) (.int j u)) Q E s) :
  OpR X f (rI C fun i j=>.int (g i j)):=by
 intro pins s σ H x y v u Q I rx ry h;obtain⟨i,j,rfl,rfl,hc,q⟩:=h;obtain⟨t,rfl⟩:=rx;obtain⟨t',rfl⟩:=ry;exact rule i j t t' s _ _ hc ⟨.int (g i j),H,I.tok _,⟨_,rfl⟩,q⟩
theorem aRX {f:AA→AA→Sem AA}{g:Int→Int→Int}
  (rule:∀(i j:Int) (t u:Tok) (s:AC) (Q:AA→AC→Prop) (E:AA→AC→Prop),Q (.int (g i j) s.toks) { s with toks:=s.toks+1 }→AE (AH X.prog X.w) X.A (f (.int i t) (.int j u)) Q E s) :
  OpR X f (rI0 fun i j=>.int (g i j)):=by
 intro pins s σ H x y v u Q I rx ry h;obtain⟨i,j,rfl,rfl,q⟩:=h;obtain⟨t,rfl⟩:=rx;obtain⟨t',rfl⟩:=ry;exact rule i j t t' s _ _ ⟨.int (g i j),H,I.tok _,⟨_,rfl⟩,q⟩
theorem aP0 {f:AA→AA→Sem AA}{g:Int→Int→Bool}
  (rule:∀(i j:Int) (t u:Tok) (s:AC) (Q:AA→AC→Prop) (E:AA→AC→Prop),Q (.bool (g i j)) s→AE (AH X.prog X.w) X.A (f (.int i t) (.int j u)) Q E s) :
  OpR X f (rI0 fun i j=>.bl (g i j)):=by
 intro pins s σ H x y v u Q I rx ry h;obtain⟨i,j,rfl,rfl,q⟩:=h;obtain⟨t,rfl⟩:=rx;obtain⟨t',rfl⟩:=ry;exact rule i j t t' s _ _ ⟨.bl (g i j),H,I,rfl,q⟩
noncomputable def aQF (i j:Int):Prop:=0<j∧j<1073741824
noncomputable def aS0 (i j:Int):Prop:=0≤j∧j≤1000000∧i.natAbs<2^64
noncomputable def CMul (i j:Int):Prop:=(-(2^64)<i∧i<2^64)∨(-(2^64)<j∧j<2^64)
theorem CMul.ok {i j:Int}(h:CMul i j):Df i j:=by
 rcases h with⟨h1,h2⟩|⟨h1,h2⟩
 ·exact .of_left (intBits_le_64 h1 h2)
 ·exact .of_right (intBits_le_64 h1 h2)
theorem jT:OpR X (CD .Add) (rI0 fun i j=>.int (i+j)):=aRX fun _ _ _ _ _ _ _ q=>add_int q
theorem iB:OpR X (CD .Sub) (rI0 fun i j=>.int (i-j)):=aRX fun _ _ _ _ _ _ _ q=>sub_int q
theorem aDY:OpR X (CD .Mult) (rI CMul fun i j=>.int (i*j)):=opI fun _ _ _ _ _ _ _ hc q=>mul_int q hc.ok
theorem aDE:OpR X (CD .FloorDiv) (rI aQF fun i j=>.int (i/j)):=opI fun i j _ _ _ _ _ hc q=>by
 have h1:(0:Int)<j:=hc.1;have h2:j<1073741824:=hc.2;exact floordiv_int (by omega) (by rw[F0 i (by omega)]; exact q) (.inl (PyProof.noPylong_small (by omega)))
theorem t6:OpR X (CD .Mod) (rI (fun _ j=>0<j) fun i j=>.int (i%j)):=opI fun i j _ _ _ _ _ hc q=>by
 have h1:(0:Int)<j:=hc;exact mod_int' (by omega) (by rw[Int.fmod_eq_emod_of_nonneg i (by omega)]; exact q)
theorem aOX:OpR X (CD .Pow) (rI aS0 fun i j=>.int (i^j.toNat)):=opI fun _ _ _ _ _ _ _ hc q=>pow_int_small hc.1 hc.2.1 hc.2.2 q
theorem unI {f:AA→Sem AA}{g:Int→Int}
  (rule:∀(i:Int) (t:Tok) (s:AC) (Q:AA→AC→Prop) (E:AA→AC→Prop),Q (.int (g i) s.toks) { s with toks:=s.toks+1 }→AE (AH X.prog X.w) X.A (f (.int i t)) Q E s) :
  UnR X f (rU fun i=>.int (g i)):=by
 intro pins s σ H x v Q I rx h;obtain⟨i,rfl,q⟩:=h;obtain⟨t,rfl⟩:=rx;exact rule i t s _ _ ⟨.int (g i),H,I.tok _,⟨_,rfl⟩,q⟩
theorem a6I:UnR X (unaryOp .USub) (rU fun i=>.int (-i)):=unI fun _ _ _ _ _ q=>neg_int q
end
noncomputable def aSC:V→V→Bool
 | .non,.non=>true|.non,.int _=>true|.int _,.non=>true|.non,.bl _=>true|.bl _,.non=>true|.non,.str _=>true|.str _,.non=>true
 | .int _,.int _=>true|.bl _,.bl _=>true|.str _,.str _=>true|.byt _,.byt _=>true
 | .int _,.str _=>true|.str _,.int _=>true|.bl _,.str _=>true|.str _,.bl _=>true
 | _,_=>false
noncomputable def rEq:R2:=fun x y H Q=>aSC x y=true∧Q (.bl (decide (x=y))) H
theorem aL0 {i j:Int}:decide (V.int i=V.int j)=(i==j):=by
 rw[El];simp
theorem aNY {i j:Bool}:decide (V.bl i=V.bl j)=(i==j):=by
 rw[El];simp
theorem aKU {i j:Str}:decide (V.str i=V.str j)=(i==j):=by
 rw[El];simp
theorem aLP {i j:Array UInt8}:decide (V.byt i=V.byt j)=(i.toList==j.toList):=by
 rw[El]
 cases i
 cases j
 simp
section
variable {X:Cx}{a b c:AR}{ta tb tc:TE}{pos:Pos}
theorem iD {pins:List (AB×Obj)}{σ:St}{H:Hp}{s:AC}{Q:VK}{k k':Bool}(I:Inv X pins σ H s)(q:Q (.bl k) H)(e:k=k'):EP X pins σ Q (.bool k') s:=by
 subst e;exact⟨.bl k,H,I,rfl,q⟩
theorem aQK:OpR X (BQ .Eq) rEq:=by
 intro pins s σ H x y v u Q I rx ry h;obtain⟨hs,q⟩:=h
 cases x with
 | non=>
  cases rx
  cases y with
  | non=>cases ry; exact PySem.EqNone.eq_none_none (iD I q (by simp))
  | bl j=>cases ry; exact PySem.EqNone.eq_none_bool (iD I q (by simp))
  | int j=>obtain⟨t',rfl⟩:=ry; exact PySem.EqNone.eq_none_int (iD I q (by simp))
  | str j=>obtain⟨t',rfl⟩:=ry; exact PySem.EqNone.eq_none_str (iD I q (by simp))
  | _=>exact absurd (show false=true from hs) BZ
 | bl i=>
  cases rx
  cases y with
  | non=>cases ry; exact PySem.EqNone.eq_bool_none (iD I q (by simp))
  | bl j=>cases ry; exact eq_bool (iD I q aNY)
  | str j=>obtain⟨t',rfl⟩:=ry; exact PySem.EqMixed.eq_bool_str (iD I q (by simp))
  | _=>exact absurd (show false=true from hs) BZ
 | int i=>
  obtain⟨t,rfl⟩:=rx
  cases y with
  | non=>cases ry; exact PySem.EqNone.eq_int_none (iD I q (by simp))
  | int j=>obtain⟨t',rfl⟩:=ry; exact eq_int (iD I q aL0)
  | str j=>obtain⟨t',rfl⟩:=ry; exact PySem.EqMixed.eq_int_str (iD I q (by simp))
  | _=>exact absurd (show false=true from hs) BZ
 | str i=>
  obtain⟨t,rfl⟩:=rx
  cases y with
  | non=>cases ry; exact PySem.EqNone.eq_str_none (iD I q (by simp))
  | bl j=>cases ry; exact PySem.EqMixed.eq_str_bool (iD I q (by simp))
  | int j=>obtain⟨t',rfl⟩:=ry; exact PySem.EqMixed.eq_str_int (iD I q (by simp))
  | str j=>obtain⟨t',rfl⟩:=ry; exact eq_str (iD I q aKU)
  | _=>exact absurd (show false=true from hs) BZ
 | byt i=>
  obtain⟨t,rfl⟩:=rx
  cases y with
  | byt j=>obtain⟨t',rfl⟩:=ry; exact PySem.W.eq_bytes (iD I q aLP)
  | _=>exact absurd (show false=true from hs) BZ
 | _=>cases y<;>exact absurd (show false=true from hs) BZ
theorem uU:OpR X (BQ .Lt) (rI0 fun i j=>.bl (decide (i<j))):=aP0 fun _ _ _ _ _ _ _ q=>lt_int q
theorem aQP:OpR X (BQ .LtE) (rI0 fun i j=>.bl (decide (i≤j))):=aP0 fun _ _ _ _ _ _ _ q=>le_int q
theorem aCE:OpR X (BQ .Gt) (rI0 fun i j=>.bl (decide (j<i))):=aP0 fun _ _ _ _ _ _ _ q=>gt_int q
theorem aMV:OpR X (BQ .GtE) (rI0 fun i j=>.bl (decide (j≤i))):=aP0 fun _ _ _ _ _ _ _ q=>ge_int q
theorem a98:OpR X (BQ .Is) (fun x y H Q=>y=.non∧Q (.bl (decide (x=.non))) H):=by
 intro pins s σ H x y v u Q I rx ry h;obtain⟨rfl,q⟩:=h
 cases ry
 refine is_none_gen (iD I q ?_)
 cases x<;>first
  | (cases rx; rfl)
  | (obtain⟨t,rfl⟩:=rx; rfl)
theorem a7U:OpR X (BQ .IsNot) (fun x y H Q=>y=.non∧Q (.bl (!decide (x=.non))) H):=by
 intro pins s σ H x y v u Q I rx ry h;obtain⟨rfl,q⟩:=h
 cases ry
 refine isnot_none_gen (iD I q ?_)
 cases x<;>first
  | (cases rx; rfl)
  | (obtain⟨t,rfl⟩:=rx; rfl)
theorem bV (b:AR){op:CmpOp}(h:op≠.In:=by decide)(h2:op≠.NotIn:=by decide):EC op b=false:=by
 have e1:(op==CmpOp.In)=false:=by cases op<;>first|rfl|exact absurd rfl h
 have e2:(op==CmpOp.NotIn)=false:=by cases op<;>first|rfl|exact absurd rfl h2
 cases b<;>simp[EC,e1,e2]
theorem pJ {op:CmpOp}{r:R2}(ho:OpR X (BQ op) r)(ha:PE X a ta)(hb:PE X b tb)(hm:EC op b=false):PE X (.Compare a [op] [b] pos) (tOp r ta tb):=by
 intro pins s σ H Q I h;exact wpAny_Compare1 (aQN ha hb I h fun v u s2 x y H2 I2 rx ry q=>ho pins s2 σ H2 x y v u Q I2 rx ry q) hm
noncomputable def aO9 (t:TE):TT:=fun σ H Q=>t σ H fun x H'=>∃ k,x=.bl k∧Q k H'
theorem bL {op:CmpOp}{r:R2}(ho:OpR X (BQ op) r)(ha:PE X a ta)(hb:PE X b tb)(hm:EC op b=false):PT X (.Compare a [op] [b] pos) (aO9 (tOp r ta tb)):=by
 intro pins s σ H Q I h;refine Fy (thn (ha pins s σ H _ I h) fun v s1 ⟨x,H1,I1,r1,q1⟩=>thn (hb pins s1 σ H1 _ I1 q1) fun u s2 ⟨y,H2,I2,r2,q2⟩=>
  thn (ho pins s2 σ H2 x y v u _ I2 r1 r2 q2) fun c s3 ⟨z,H3,I3,r3,k,e,q3⟩=>?_) hm
 subst e
 cases r3
 exact C6 ⟨H3,I3,q3⟩
noncomputable def aJG (r r':R2)(ta tb tc:TE):TE:=fun σ H Q=>ta σ H fun x H1=>tb σ H1 fun y H2=>r x y H2 fun z H3=>∃ k,z=.bl k ∧
 (if k=true then tc σ H3 fun w' H4=>r' y w' H4 Q else Q (.bl false) H3)
theorem aHI {op op':CmpOp}{r r':R2}(ho:OpR X (BQ op) r)(ho':OpR X (BQ op') r')(ha:PE X a ta)(hb:PE X b tb)(hc:PE X c tc)
  (hm:lastMarks [op,op'] [b,c]=false:=by with_unfolding_all rfl):PE X (.Compare a [op,op'] [b,c] pos) (aJG r r' ta tb tc):=by
 intro pins s σ H Q I h;refine Compare_chain (thn (ha pins s σ H _ I h) fun v s1 ⟨x,H1,I1,r1,q1⟩=>chain_link (thn (hb pins s1 σ H1 _ I1 q1) fun u s2 ⟨y,H2,I2,r2,q2⟩=>
  thn (ho pins s2 σ H2 x y v u _ I2 r1 r2 q2) fun d s3 ⟨z,H3,I3,r3,k,e,q3⟩=>?_)) hm
 subst e
 cases r3
 refine C6 ?_
 cases k with
 | false=>exact ite_ff ⟨.bl false,H3,I3,rfl,q3⟩
 | true=>exact ite_tt (chain_last (thn (hc pins s3 σ H3 _ I3 q3) fun w' s4 ⟨z',H4,I4,r4,q4⟩=>ho' pins s4 σ H4 y z' u w' Q I4 r2 r4 q4))
theorem a5E:(sizeLine:Nat)<2^63:=by rw[Br]; decide
theorem vals1 {x:V}{us:List AA}(r:Vals [x] us):∃ u,us=[u]∧RelV x u:=by
 cases r with
 | cons r1 r2=>cases r2; exact⟨_,rfl,r1⟩
theorem vals2 {x y:V}{us:List AA}(r:Vals [x,y] us):∃ u w',us=[u,w']∧RelV x u∧RelV y w':=by
 cases r with
 | cons r1 r2=>
  cases r2 with
  | cons r3 r4=>cases r4; exact⟨_,_,rfl,r1,r3⟩
theorem sW:CallR X (.builtin "abs") (fun xs H Q=>∃ i,xs=[.int i]∧Q (.int (if i<0 then -i else i)) H):=by
 intro pins s σ H xs us Q I r h;obtain⟨i,rfl,q⟩:=h;obtain⟨u,rfl,t,rfl⟩:=vals1 r;exact call_abs_int fun u tk=>⟨.int (if i<0 then -i else i),H,I.tok _,⟨_,rfl⟩,q⟩
theorem aFX:CallR X (.type "int") (fun xs H Q=>(∃ i,xs=[.int i]∧Q (.int i) H)∨∃ k,xs=[.bl k]∧Q (.int (if k then 1 else 0)) H):=by
 intro pins s σ H xs us Q I r h;rcases h with⟨i,rfl,q⟩|⟨k,rfl,q⟩
 ·obtain⟨u,rfl,t,rfl⟩:=vals1 r;exact call_int_int ⟨.int i,H,I,⟨_,rfl⟩,q⟩
 ·obtain⟨u,rfl,r1⟩:=vals1 r
  cases r1
  exact call_int_bool ⟨.int (if k then 1 else 0),H,I.tok _,⟨_,rfl⟩,q⟩
end
end L2
namespace L2
open PySem PySem.Spec PyProof.Rows
structure ObjM (h:AF)(x dx C:AB)(mA:Str→Option AA):Prop where
 obj:h.get? x=some (instObj C dx)
 ns:h.Ns1 dx mA
 ne:dx≠x
theorem aF4 {h:AF}{dx:AB}{mA:Str→Option AA}(n:h.Ns1 dx mA):∃ od,h.get? dx=some od∧∀ name,lookIn name od=some (mA name):=by
 obtain⟨o,es,ep,ho,hd,hk,_,hm⟩:=n;refine⟨o,ho,fun name=>?_⟩;have e:=hm name;unfold nsFind findBy at e;rw[← Array.find?_toList] at e;unfold lookIn;rw[hd];dsimp only
 split
 ·rename_i y q
  rw[q] at e;exact congrArg some e
 ·rename_i q
  rw[q] at e;have a:es.toList.any (·.refKey)=false:=by
   rw[ES];intro y hy;obtain⟨z,t,hkey⟩:=hk y (CV.mp hy);simp[B8.refKey,hkey]
  have a':¬es.toList.any (·.refKey)=true:=by rw[a]; exact BZ
  rw[if_neg a'];exact congrArg some e
theorem ObjM.look {h:AF}{x dx C:AB}{mA:Str→Option AA}(I:ObjM h x dx C mA):∃ od,PySem.W.InstAt h x (instObj C dx) C (some od)∧∀ name,lookIn name od=some (mA name):=
 let ⟨od,ho,hl⟩:=aF4 I.ns
 ⟨od,⟨I.obj,rfl,rfl,ho⟩,hl⟩
section
variable {prog:AL}{w:AI}{A:AV}{E:AA→AC→Prop}{s:AC}{K:Ad}{x dx C f:AB}{mA:Str→Option AA}{name:Str}{v:AA}
end
section
variable {P:AL}{w:AI}{H H':Hp}{h h':AF}{a C dx:AB}{fs fs':List (Str×V)}
theorem aK7 (hok:HOk P w H h)(e:H a=some (.ins C dx fs)):∃ mA,ObjM h a dx C mA∧(∀ f,aPR (fs.lookup f) (mA f))∧PySem.Within mA (fs.map (·.1))∧fs.length≤1000∧H dx=some (.own a):=by
 obtain⟨d,z,ne,ob,mA,n,r,q⟩:=(show ObjOk P w H h a (.ins C dx fs) from hok a _ e);exact⟨mA,⟨ob,n,ne⟩,r,q,z,d⟩
end
structure Cls (K:Ad)(C:AB):Prop where
 pg:plainGet K C Str.empty=true
 hd:PySem.W.hasDictIn K C=true
 po:PySem.W.plainOver K C=true
 sa:findIn K (.ref C) "__setattr__" = some (some (.builtin "object.__setattr__"))
theorem Cls.get {K:Ad}{C:AB}(c:Cls K C)(f:Str):plainGet K C f=true:=c.pg
section
variable {X:Cx}{pins:List (AB×Obj)}{σ:St}{H:Hp}{s:AC}{a C dx:AB}{fs:List (Str×V)}{f:Str}{v:V}{A:AV}{E:AA→AC→Prop}
end
section
variable {X:Cx}{o e value:AR}{f:Str}{pos pos' tpos:Pos}{ta tv:TE}
end
section
variable {X:Cx}{pins:List (AB×Obj)}{σ:St}{H:Hp}{s:AC}{A:AV}{E:AA→AC→Prop}{Q:AA→AC→Prop}{c:AA}{b:Bool}
inductive TyOf (K:Ad) (H:Hp):V→AA→Prop where
 | non:TyOf K H .non (.type "NoneType")
 | bl (x:Bool):TyOf K H (.bl x) (.type "bool")
 | int (i:Int):TyOf K H (.int i) (.type "int")
 | str (x:Str):TyOf K H (.str x) (.type "str")
 | flt (x:UInt64):TyOf K H (.flt x) (.type "float")
 | lst {a:AB} {xs:List V} (e:H a=some (.lst xs)):TyOf K H (.ref a) (.type "list")
 | frz {a:AB} {o:Obj} {xs:List V} (e:H a=some (.frz o (.lst xs))):TyOf K H (.ref a) (.type "list")
 | tup {a:AB} {xs:List V} (e:H a=some (.tup xs)):TyOf K H (.ref a) (.type "tuple")
 | dK {a:AB} {kvs:List (Key×V)} (e:H a=some (.dK kvs)):TyOf K H (.ref a) (.type "dict")
 | fdK {a:AB} {o:Obj} {kvs:List (Key×V)} (e:H a=some (.frz o (.dK kvs))):TyOf K H (.ref a) (.type "dict")
 | dT {a:AB} {kvs:List (List Key×V)} (e:H a=some (.dT kvs)):TyOf K H (.ref a) (.type "dict")
 | ins {a C dx:AB} {fs:List (Str×V)} (e:H a=some (.ins C dx fs)) (cl:Cls K C) (ha:findIn K (.ref C) "__class__" = some (some (.builtin "object.__class__")))
   (hn:PySem.W.specialIn K (.builtin "object.__class__") "__get__" = some (some (.builtin "getset_descriptor.__get__"))) (htk:PySem.W.takesIn K (.builtin "object.__class__")=some true)
   (hm:mroIn K C (.type "object")=some true):TyOf K H (.ref a) (.ref C)
theorem aG0 {x:V}{u t:AA}(I:Inv X pins σ H s)(rx:RelV x u)(ty:TyOf X.K H x t)(e:AY X.K t c=some b)(h:∀ tk,Q (.bool b) { s with toks:=tk }) :
  AE (AH X.prog X.w) A (call (.builtin "isinstance") [u,c]) Q E s:=by
 cases ty with
 | non=>cases(show u=BF from rx); exact Bp PySem.W.kitx_none I.kIn Dg e (fun z=>nomatch z) h
 | bl y=>cases(show u=Eg y from rx); exact Bp PySem.W.kitx_bool I.kIn Dg e (fun z=>nomatch z) h
 | int i=>obtain⟨t,q⟩:=(show ∃ t,u=Db i t from rx); cases q; exact Bp PySem.W.kitx_int I.kIn Dg e (fun z=>nomatch z) h
 | str y=>obtain⟨t,q⟩:=(show ∃ t,u=AA.str y t from rx); cases q; exact Bp PySem.W.kitx_str I.kIn Dg e (fun z=>nomatch z) h
 | flt y=>obtain⟨t,q⟩:=(show ∃ t,u=AA.float y t from rx); cases q; exact Bp PySem.W.kitx_float I.kIn Dg e (fun z=>nomatch z) h
 | @lst a xs ea=>
  cases(show u=Ac a from rx)
  obtain⟨_,_,n,_,h1⟩:=(show ObjOk X.prog X.w H s.heap a (.lst xs) from I.hok a _ ea);exact Bp kitx_list I.kIn ⟨_,h1,rfl⟩ e (fun z=>nomatch z) h
 | @frz a ob xs ea=>
  cases(show u=Ac a from rx)
  obtain⟨_,_,_,n,_,h1⟩:=(show ObjOk X.prog X.w H s.heap a (.frz ob (.lst xs)) from I.hok a _ ea);exact Bp kitx_list I.kIn ⟨_,h1,rfl⟩ e (fun z=>nomatch z) h
 | @tup a xs ea=>
  cases(show u=Ac a from rx)
  obtain⟨_,_,_,p⟩:=(show ObjOk X.prog X.w H s.heap a (.tup xs) from I.hok a _ ea);obtain⟨o,h1,h2,_⟩:=p;exact Bp PySem.W.kitx_tuple I.kIn ⟨o,h1,h2⟩ e (fun z=>nomatch z) h
 | @dK a kvs ea=>
  cases(show u=Ac a from rx)
  obtain⟨_,_,vs,_,p⟩:=(show ObjOk X.prog X.w H s.heap a (.dK kvs) from I.hok a _ ea);obtain⟨o,es,ep,h1,h2,_⟩:=p;exact Bp Ea I.kIn ⟨o,h1,h2.1⟩ e (fun z=>nomatch z) h
 | @fdK a ob kvs ea=>
  cases(show u=Ac a from rx)
  obtain⟨_,_,_,vs,_,p⟩:=(show ObjOk X.prog X.w H s.heap a (.frz ob (.dK kvs)) from I.hok a _ ea);obtain⟨o,es,ep,h1,h2,_⟩:=p;exact Bp Ea I.kIn ⟨o,h1,h2.1⟩ e (fun z=>nomatch z) h
 | @dT a kvs ea=>
  cases(show u=Ac a from rx)
  obtain⟨_,_,xs,_,o,es,ep,h1,h2,_⟩:=(show ObjOk X.prog X.w H s.heap a (.dT kvs) from I.hok a _ ea);exact Bp Ea I.kIn ⟨o,h1,h2.1⟩ e (fun z=>nomatch z) h
 | @ins a C dx fs ea cl ha hn htk hm=>
  cases(show u=Ac a from rx)
  obtain⟨mA,O,_⟩:=aK7 I.hok ea;obtain⟨od,J,_⟩:=O.look;exact Bp (PySem.W.kitx_own (cl.get _) cl.hd ha hn htk hm) I.kIn J e (fun z=>nomatch z) h
end
end L2
namespace L2
open PySem PySem.Spec PyProof.Rows
structure Room (k:Nat)(A:AV):Prop where
 hd:A.handled=none
 dp:A.depth+3*k+5<recursionLimit
 un:A.units+16*k+200<Ai
 gd:A.guards=some []
theorem Room.mono {j k:Nat}{A:AV}(r:Room k A)(h:j≤k):Room j A:=⟨r.hd,by have:=r.dp; omega,by have:=r.un; omega,r.gd⟩
theorem Room.deeper {k:Nat}{A:AV}(r:Room (k+1) A)(env:Env):Room k (A.deeper env):=
 ⟨r.hd,by have:=r.dp; show A.depth+1+3*k+5<_; omega,by have:=r.un; show A.units+3+16*k+200<_; omega,r.gd⟩
theorem Room.depth {k:Nat}{A:AV}(r:Room k A):A.depth<recursionLimit:=by have:=r.dp; omega
theorem Room.units {k:Nat}{A:AV}(r:Room k A):A.units+64<Ai:=by have:=r.un; omega
noncomputable def xM:TA:=fun _ H Q=>Q [] H
noncomputable def fB (ta:TE)(tr:TA):TA:=fun σ H Q=>ta σ H fun x H1=>tr σ H1 fun xs H2=>Q (x::xs) H2
section
variable {X:Cx}{e:AR}{es:List AR}{te:TE}{t:TA}{pos:Pos}
theorem aC:PA X [] xM:=fun _ _ _ _ H Q I h=>Calls.spliced_nil ⟨[],H,I,.nil,h⟩
theorem aA (ha:PE X e te)(hr:PA X es t)(hs:Am (e::es) X.env=(false,Ah e X.env)::Am es X.env:=by rfl):PA X (e::es) (fB te t):=by
 intro pos pins s σ H Q I h;rw[hs];show AE _ _ (spliced ((false,Ah e X.env)::Bq pos (Am es X.env))) _ _ s;refine Calls.spliced_cons (thn (ha pins s σ H _ I h) fun u s1 ⟨x,H1,I1,r1,q1⟩=>?_);exact thn (hr pos pins s1 σ H1 _ I1 q1) fun us s2 ⟨xs,H2,I2,r2,q2⟩=>⟨x::xs,H2,I2,.cons r1 r2,q2⟩
noncomputable def aPP (t:TA):TE:=fun σ H Q=>t σ H fun xs H1=>xs.length≤sizeLine∧∀ p,H1 p=none→Q (.ref p) (upd H1 p (.tup xs))
noncomputable def aP4 (t:TA):TE:=fun σ H Q=>t σ H fun xs H1=>xs.length≤sizeLine∧∀ p,H1 p=none→Q (.ref p) (upd H1 p (.lst xs))
theorem cD {x1}(h:PA X es t):PE X (.Tuple es x1 pos) (aPP t):=by
 intro pins s σ H Q I hq;refine wpAny_Tuple_spliced (thn (h pos pins s σ H _ I hq) fun us s1 ⟨xs,H1,I1,r,z,q⟩=>⟨by rw[← r.length]; exact z,?_⟩);have hf:H1 s1.heap.objs.size=none:=I1.hok.fresh (AN _);refine⟨.ref s1.heap.objs.size,upd H1 s1.heap.objs.size (.tup xs),I1.laid (t':=s1.toks) (fun b u e=>AZ _ e) (AN _) ?_,rfl,q _ hf⟩;exact⟨z,us,r,⟨_,Aq _ rfl,rfl,_,rfl⟩⟩
theorem gH (h:PA X es t):PE X (.List es pos) (aP4 t):=by
 intro pins s σ H Q I hq;refine wpAny_List_spliced (thn (h pos pins s σ H _ I hq) fun us s1 ⟨xs,H1,I1,r,z,q⟩=>⟨by rw[← r.length]; exact z,?_⟩);have hf:H1 s1.heap.objs.size=none:=I1.hok.fresh (AN _);refine⟨.ref s1.heap.objs.size,upd H1 s1.heap.objs.size (.lst xs),I1.laid (t':=s1.toks) (fun b u e=>AZ _ e) (AN _) ?_,rfl,q _ hf⟩;exact⟨z,us,0,r,Aq _ rfl⟩
end
abbrev Sp:=List V→Hp→VK→XK→Prop
abbrev CXT:=List Env→Hp→AC→XK→AA→AC→Prop
structure Env0 (P:AL)(w:AI)(K:Ad)(mg:Str→Option AA)(base:AF)(A:AV)(outer:List Env)(s:AC)(H:Hp):Prop where
 frames:A.frames=some outer
 mod:Mod K mg base
 bs:∀ b o,base.get? b=some o→s.heap.get? b=some o∧H b=none
 bsz:base.objs.size≤s.heap.objs.size
 funs:s.heap.FunFrames base outer
 frf:∀ b∈frs outer,H b=none
 hok:HOk P w H s.heap
 bare:CY s.gens
noncomputable def CE (outer:List Env)(P:AL)(w:AI)(H:Hp)(s:AC)(Q:VK)(u:AA)(s':AC):Prop:=
 ∃ v H',s'.os=s.os∧CY s'.gens∧Un (frs outer) [] H H' s.heap s'.heap∧HOk P w H' s'.heap∧RelV v u∧Q v H'
noncomputable def CR (CX:CXT)(outer:List Env)(P:AL)(w:AI)(H:Hp)(s:AC)(Q:VK)(E:XK)(r:Cn)(s':AC):Prop:=
 match r with
 | .ok (.ret u)=>CE outer P w H s Q u s'
 | .ok _=>False
 | .error e=>CX outer H s E e s'
structure FnOk (P:AL)(w:AI)(K:Ad)(mg:Str→Option AA)(base:AF)(CX:CXT)(k:Nat)(f:AB)(fd:BR)(ps:List Str)(sp:Sp):Prop where
 len:∀ vs H Q E,sp vs H Q E→vs.length=ps.length
 run:∀(A:AV) (outer:List Env) (s:AC) (H:Hp) (args:Args) (us:List AA) (vs:List V) (Q:VK) (E:XK),Room k A→Env0 P w K mg base A outer s H→Dh s fd args (ps.zip us)→Vals vs us→sp vs H Q E →
  Bk (AH P w) A (.call (.ref f) args) (CR CX outer P w H s Q E) s
theorem FnOk.imp {P:AL}{w:AI}{K:Ad}{mg:Str→Option AA}{base:AF}{CX:CXT}{k:Nat}{f:AB}{fd:BR}{ps:List Str}{sp sp':Sp}(F:FnOk P w K mg base CX k f fd ps sp)
  (h:∀ vs H Q E,sp' vs H Q E→sp vs H Q E):FnOk P w K mg base CX k f fd ps sp':=
 ⟨fun vs H Q E q=>F.len vs H Q E (h _ _ _ _ q),fun A outer s H args us vs Q E hr he hb hv hs=>F.run A outer s H args us vs Q E hr he hb hv (h _ _ _ _ hs)⟩
section
variable {X:Cx}{pins:List (AB×Obj)}{σ:St}{H:Hp}{s s':AC}
theorem Inv.env0 (I:Inv X pins σ H s):Env0 X.prog X.w X.K X.mg X.base X.A X.stack s H:=
 ⟨I.ok.frames,I.ok.mod,I.bs,Aw I.ok.bsz I.sz,I.stack,I.stkFree,I.hok,I.bare⟩
theorem Inv.after {Q:VK}{u:AA}(I:Inv X pins σ H s)(h:CE X.stack X.prog X.w H s Q u s'):EP X pins σ Q u s':=by
 obtain⟨v,H',os,bare,un,hok,r,q⟩:=h;obtain⟨hh,g,d,t,os'⟩:=s';obtain rfl:os'=s.os:=os;exact⟨v,H',I.call (h':=hh) (g':=g) (d':=d) (t':=t) (ch:=[]) un hok bare (fun b z=>absurd z (by simp)),r,q⟩
end
noncomputable def aLS (sp:Sp)(dvs:List V)(E:XK)(t:TA):TE:=fun σ H Q=>t σ H fun vs H1=>sp (vs++dvs) H1 Q E
noncomputable def Binds (K:Ad)(fd:BR)(ps:List Str)(ds:List AA):Prop:=
 ∀(s:AC) (us:List AA),K.In s.heap→(us++ds).length=ps.length→Dh s fd ⟨us,[]⟩ (ps.zip (us++ds))
theorem Binds.all {K:Ad}{fd:BR}{ps:List Str}(h:∀ us:List AA,us.length=ps.length→bindArgs fd ⟨us,[]⟩=pure (ps.zip us)):Binds K fd ps []:=fun s us _ hl=>by
 rw[CK] at hl ⊢;exact .of_eq (h us hl)
noncomputable def aF9 (CX:CXT)(X:Cx)(E:XK):Prop:=∀(pins:List (AB×Obj)) (σ:St) (H:Hp) (s:AC) (e:AA) (s':AC),Inv X pins σ H s→CX X.stack H s E e s'→X.xe e s'
section
variable {X:Cx}{CX:CXT}{k:Nat}{f C:AB}{fd:BR}{ps:List Str}{sp:Sp}{dvs:List V}{ds:List AA}{E:XK}{x m:Str}{p pos apos:Pos}{e o:AR}{es:List AR}{ta:TE}{t:TA}
theorem aNP {pins:List (AB×Obj)}{σ:St}{H:Hp}{s:AC}{Q:VK}{us:List AA}{vs:List V}(F:FnOk X.prog X.w X.K X.mg X.base CX k f fd ps sp)(hr:Room k X.A)(hb:Binds X.K fd ps ds)(hd:Vals dvs ds)(hx:aF9 CX X E)
  (I:Inv X pins σ H s) (r:Vals vs us) (h:sp (vs++dvs) H Q E):AE (AH X.prog X.w) X.A (call (.ref f) us) (EP X pins σ Q) X.xe s:=by
 have r2:Vals (vs++dvs) (us++ds):=r.append hd;have hl:(us++ds).length=ps.length:=by rw[← r2.length]; exact F.len _ _ _ _ h
 refine wpAny_call (EF (F.run X.A X.stack s H ⟨us,[]⟩ (us++ds) (vs++dvs) Q E hr I.env0 (hb s us I.kIn hl) r2 h) fun r s' hq=>?_)
 cases r with
 | error e=>exact hx pins σ H s e s' I hq
 | ok fl=>
  cases fl with
  | ret u=>exact I.after hq
  | next=>exact CC hq
  | brk=>exact CC hq
  | cont=>exact CC hq
theorem aKE (F:FnOk X.prog X.w X.K X.mg X.base CX k f fd ps sp)(hr:Room k X.A)(hg:Gl X x)(hm:X.mg x=some (.ref f))(hk:keepIn X.K (.ref f)=true)(hb:Binds X.K fd ps ds)(hd:Vals dvs ds)(hx:aF9 CX X E)
  (ha:PA X (e::es) t) (hdb:(x==("__debug__" : Str))=false:=by decide) (he:Am (e::es) X.env=(false,Ah e X.env)::Am es X.env:=by rfl) (hpl:(Bq pos (Am es X.env)).any (·.1)=false:=by rfl) :
  PE X (.Call (.Name x p) (e::es) [] pos) (aLS sp dvs E t):=by
 intro pins s σ H Q I h;refine EG (aDU I hg hm ?_ hdb);refine PySem.W.callWith_K (h₀:=X.base) I.ok.mod.kin hk (thn (ha pos pins s σ H _ I h) fun us s1 ⟨vs,H1,I1,r,q⟩=>⟨I1.kIn,?_⟩) he hpl;exact aNP F hr hb hd hx I1 r q
end
section
variable {X:Cx}{CX:CXT}{k:Nat}{f C:AB}{fd:BR}{ps ks:List Str}{sp:Sp}{E:XK}{x m:Str}{p pos apos kpos:Pos}{e o:AR}{es:List AR}{kws:List EH}{te ta:TE}{t tk:TA}{nm:Option Str}
variable {g:List AA→List AA→List AA}{gV:List V→List V→List V}
end
structure FnScope (N P:List Str)(sc:BH):Prop where
 kind:sc.kind=.function
 co:sc.isCoroutine=false
 gen:sc.isGenerator=false
 nd:N.Nodup
 pre:N.take P.length=P
 par:∀ x∈P,sc.names.lookup x=some .local∨sc.names.lookup x=some .cell
 nofree:∀ y∈sc.names,y.2≠.free
theorem a7F {kindOf:Str→Option A3}{x:Str}:∀{binds:List (Str×AA)} {m:Str→Option AA},(∀ v,(x,v)∉binds)→bindL kindOf binds m x=m x
 | [],_,_=>rfl
 | (n,v)::r,m,h=>by
  unfold bindL;rw[a7F fun w hw=>h w (AU _ hw)]
  split
  ·have:x≠n:=by rintro rfl; exact h v mem_cons_self
   simp[this]
  ·rfl
theorem a6B {kindOf:Str→Option A3}{x:Str}:∀{binds:List (Str×AA)} {m:Str→Option AA},(∀ v,(x,v)∉binds)→bindC kindOf binds m x=m x
 | [],_,_=>rfl
 | (n,v)::r,m,h=>by
  unfold bindC;rw[a6B fun w hw=>h w (AU _ hw)]
  split
  ·rfl
  ·have:x≠n:=by rintro rfl; exact h v mem_cons_self
   simp[this]
theorem a5J {kindOf:Str→Option A3}{x:Str}{v:AA}:∀{P:List Str} {vs:List AA} {i:Nat} {m:Str→Option AA},P.Nodup→P[i]?=some x→vs[i]?=some v→kindOf x=some .local →
  bindL kindOf (P.zip vs) m x=some v
 | [],_,_,_,_,h,_,_=>by simp at h
 | _::_,[],_,_,_,_,h,_=>by simp at h
 | p::P,w::vs,0,m,nd,h1,h2,hk=>by
  simp at h1 h2; subst h1; subst h2;show bindL kindOf ((p,w)::P.zip vs) m p=_;unfold bindL;rw[a7F fun v hv=>(BS.mp nd).1 (EX hv).1,if_pos hk];simp
 | p::P,w::vs,i+1,m,nd,h1,h2,hk=>by
  show bindL kindOf ((p,w)::P.zip vs) m x=_;unfold bindL;exact a5J (i:=i) (BS.mp nd).2 (by simpa using h1) (by simpa using h2) hk
theorem a70 {kindOf:Str→Option A3}{x:Str}{v:AA}:∀{P:List Str} {vs:List AA} {i:Nat} {m:Str→Option AA},P.Nodup→P[i]?=some x→vs[i]?=some v→kindOf x≠some .local →
  bindC kindOf (P.zip vs) m x=some v
 | [],_,_,_,_,h,_,_=>by simp at h
 | _::_,[],_,_,_,_,h,_=>by simp at h
 | p::P,w::vs,0,m,nd,h1,h2,hk=>by
  simp at h1 h2; subst h1; subst h2;show bindC kindOf ((p,w)::P.zip vs) m p=_;unfold bindC;rw[a6B fun v hv=>(BS.mp nd).1 (EX hv).1,if_neg hk];simp
 | p::P,w::vs,i+1,m,nd,h1,h2,hk=>by
  show bindC kindOf ((p,w)::P.zip vs) m x=_;unfold bindC;exact a70 (i:=i) (BS.mp nd).2 (by simpa using h1) (by simpa using h2) hk
noncomputable def start (N:List Str)(vs:List V):St:=vs.map some++List.replicate (N.length-vs.length) none
noncomputable def aKX (CX:CXT)(P:AL)(w:AI)(K:Ad)(mg:Str→Option AA)(base:AF)(N:List Str)(qual:Str)(scope:BH)(f:AB)(cd:AA)(A:AV)(outer:List Env)(s:AC)(H:Hp)(E:XK):Cx where
 prog:=P
 w:=w
 K:=K
 mg:=mg
 base:=base
 A:=A.deeper (CF qual scope s.heap.objs.size f cd)
 N:=N
 s₀:=s
 H₀:=H
 env:=CF qual scope s.heap.objs.size f cd
 outer:=outer
 stack:=CF qual scope s.heap.objs.size f cd::outer
 ex:=[]
 calm:=true
 fn:=fun _=>true
 pn:=[]
 xe:=fun e s'=>AE (AH P w) (A.deeper (CF qual scope s.heap.objs.size f cd)) (leaving (CF qual scope s.heap.objs.size f cd) e) (fun _ s''=>CX outer H s E e s'') (fun e' s''=>CX outer H s E e' s'') s'
theorem a92 {sc:BH}{n:Nat}{x:Str}(h:sc.names.lookup x=some .cell):∃ c,(cellsFrom n sc.names []).lookup x=some c:=by
 have q:=E6 sc.names n [] (.inl h);exact D4.mp q
theorem aDQ {CX:CXT}{P:AL}{w:AI}{K:Ad}{mg:Str→Option AA}{base:AF}{N ps:List Str}{qual:Str}{scope:BH}{f:AB}{cd:AA}{A:AV}{outer:List Env}{s s1:AC}{H:Hp}{E:XK}{us:List AA}{vs:List V}
  (S:FnScope N ps scope) (hd:A.handled=none) (e0:Env0 P w K mg base A outer s H) (hl:vs.length=ps.length) (r:Vals vs us)
  (x:InCallC s s.heap.objs.size (bindL (CF qual scope s.heap.objs.size f cd).kindOf (ps.zip us) fun _=>none) (cellsFrom (s.heap.objs.size+1) scope.names []) (bindC (CF qual scope s.heap.objs.size f cd).kindOf (ps.zip us) fun _=>none) s1) :
  Inv (aKX CX P w K mg base N qual scope f cd A outer s H E) [] (start N vs) H s1:=by
 have hpl:ps.length≤N.length:=by have:=congrArg List.length S.pre; rw[Bw] at this; omega
 obtain⟨h1,tk,rfl,hk⟩:=x.done;have noA:∀ b:AB,b∉(aKX CX P w K mg base N qual scope f cd A outer s H E).ex:=fun b z=>absurd (show b∈([]:List AB) from z) (by simp);refine⟨⟨e0.mod,S.kind,rfl,rfl,AN _,fun y z c h1 h2=>?_,fun y hy=>?_,fun y c _ h=>?_,fun _=>hd,AV.frames_deeper e0.frames,.inr ⟨rfl,rfl⟩,fun b z=>absurd z (noA b),e0.bs,e0.bsz,fun b _ _=>noA b,fun b z=>absurd z (noA b),e0.funs,e0.frf⟩,
  rfl,e0.bare,Un.kept hk,⟨_,x.toInCall.ns,fun i y v h1 h2 h3=>?_⟩,fun y c h=>⟨_,x.cell y c h⟩,e0.hok.fresh (AN _),fun y c h=>?_,fun p hp=>absurd (show p∈([]:List (AB×Obj)) from hp) (by simp),e0.hok.kept hk,?_⟩
 ·exact name_of_addr x.apart (EI h1) (EI h2)
 ·have hy:scope.names.lookup y=some .cell∨scope.names.lookup y=some .free:=hy;rcases hy with hy|hy
  ·exact a92 hy
  ·exact absurd rfl (S.nofree _ (EI hy))
 ·exact Bz (x.above y c (EI h))
 ·have hi:i<vs.length:=by
   unfold start at h2
   by_cases hi:i<vs.length
   ·exact hi
   ·rw[B3 (by simpa using hi)] at h2;rw[CN] at h2
    split at h2<;>cases h2
  have ha:vs[i]?=some v:=by
   unfold start at h2;rw[Bu (by simpa using hi),Aa] at h2
   cases e:vs[i]? with
   | none=>rw[e] at h2; cases h2
   | some a=>rw[e] at h2; cases h2; rfl
  obtain⟨u,hu,rv⟩:=r.get ha;have hp:ps[i]?=some y:=by
   rw[← S.pre,List.getElem?_take_of_lt (by omega)]; exact h1
  have ndP:ps.Nodup:=by rw[← S.pre]; exact S.nd.sublist (D0 _ _)
  refine⟨u,rv,?_⟩;rcases S.par y (BL hp) with k|k
  ·exact .inl ⟨k,a5J ndP hp hu k⟩
  ·obtain⟨c,e⟩:=a92 (n:=s.heap.objs.size+1) k;refine .inr ⟨.inl k,c,e,?_⟩;have q:=x.cell y c e;rw[a70 ndP hp hu (by show scope.names.lookup y≠_; rw[k]; decide)] at q;exact q
 ·exact e0.hok.fresh (Bz (x.above y c (EI h)))
 ·unfold start;show _=N.length;rw[BN,AS,Cy];omega
theorem aPO {CX:CXT}{P:AL}{w:AI}{K:Ad}{mg:Str→Option AA}{base:AF}{k:Nat}{f:AB}{name qual:Str}{params:Arguments}{body:List AO}{scope:BH}{dV kV doc pm cdv ct oc:AA}{an od:Option AB}
  {osl:Array (Option AA)} {N ps:List Str} {sp:Sp} (lk:K.lookup f=some ⟨oc,od,.func (fnOf name qual params body scope dV kV doc pm an cdv ct),osl⟩) (hcd:codeIn K cdv qual=true) (S:FnScope N ps scope)
  (len:∀ vs H Q E,sp vs H Q E→vs.length=ps.length)
  (hbody:∀(A:AV) (outer:List Env) (s:AC) (H:Hp) (vs:List V) (Q:VK) (E:XK),Room k (A.deeper (CF qual scope s.heap.objs.size f cdv))→sp vs H Q E →
   ∃ t,PSs (aKX CX P w K mg base N qual scope f cdv A outer s H E) body t∧t { nx:=fun _ H'=>Q .non H',rt:=Q } (start N vs) H) :
  FnOk P w K mg base CX (k+1) f (fnOf name qual params body scope dV kV doc pm an cdv ct) ps sp:=by
 refine⟨len,fun A outer s H args us vs Q E hr e0 hb r hsp=>?_⟩;have hl:=len _ _ _ _ hsp;have KX:K.In s.heap:=e0.mod.kin.keeps fun b o e=>(e0.bs b o e).1;have lim:s.heap.NoLimit:=e0.mod.nolimit.keeps fun b o e=>(e0.bs b o e).1;have hkind:∀ y∈ps.zip us,scope.names.lookup y.1=some .local∨(scope.names.lookup y.1=some .cell∧((cellsFrom (s.heap.objs.size+1) scope.names []).lookup y.1).isSome=true):=fun⟨n,v⟩ hy=>by
  rcases S.par n (EX hy).1 with q|q
  ·exact .inl q
  ·exact .inr ⟨q,E6 _ _ _ (.inl q)⟩
 refine codeAny_call_function hr.depth (KX _ _ lk) rfl S.co S.gen rfl (PySem.W.codeRec_of KX hcd) (hb _ _ _ _ ?_);refine wpAny_newFunctionEnv_cells S.kind hkind fun env he s1 x=>?_;subst he;refine⟨lim.keeps x.toInCall.keep,codeAny_func ?_⟩;obtain⟨t,ht,hq⟩:=hbody A outer s H vs Q E (hr.deeper _) hsp;have I:Inv (aKX CX P w K mg base N qual scope f cdv A outer s H E) [] (start N vs) H s1:=aDQ S hr.hd e0 hl r x;refine BY (ht [] s1 (start N vs) H _ I hq) (fun fl s' hs=>?_) fun e s' hs=>hs;have fin:∀{σ':St} {H':Hp} {v:V} {u:AA},Inv (aKX CX P w K mg base N qual scope f cdv A outer s H E) [] σ' H' s'→RelV v u→Q v H'→CE outer P w H s Q u s':=
  fun{σ' H' v u} J rv q=>⟨v,H',J.os,J.bare,J.base,J.hok,rv,q⟩
 cases fl with
 | ret u=>
  obtain⟨v,σ',H',J,rv,q⟩:=hs;exact fin J rv q
 | next=>
  obtain⟨σ',H',J,q⟩:=hs;exact fin (v:=V.non) (u:=BF) J rfl q
 | brk=>
  obtain⟨_,_,_,q⟩:=hs;exact CC q
 | cont=>
  obtain⟨_,_,_,q⟩:=hs;exact CC q
end L2
namespace L2
open PySem PySem.Spec PyProof.Rows
section
variable {X:Cx}{x:Str}{p pos:Pos}{e:AR}{es:List AR}{t:TA}{id T:String}{r:List V→Hp→VK→Prop}
noncomputable def tCB (r:List V→Hp→VK→Prop)(t:TA):TE:=fun σ H Q=>t σ H fun vs H1=>r vs H1 Q
theorem bR (hc:CallR X (.builtin id) r)(hg:Gl X x)(hm:X.mg x=none)(hv:Dc x=some (.builtin id))(ha:PA X (e::es) t)(hn:x ≠ "__name__" := by decide)(hdb:(x==("__debug__" : Str))=false:=by decide)
  (he:Am (e::es) X.env=(false,Ah e X.env)::Am es X.env:=by rfl) (hpl:(Bq pos (Am es X.env)).any (·.1)=false:=by rfl):PE X (.Call (.Name x p) (e::es) [] pos) (tCB r t):=by
 intro pins s σ H Q I h;refine EG (z6 I hg hm hv ?_ hn hdb);exact PyProof.Rows.callWith_builtin1 (thn (ha pos pins s σ H _ I h) fun us s1 ⟨vs,H1,I1,r1,q1⟩=>hc pins s1 σ H1 vs us Q I1 r1 q1) he hpl
theorem m7 (hc:CallR X (.type T) r)(hg:Gl X x)(hm:X.mg x=none)(hv:Dc x=some (.type T))(ha:PA X (e::es) t)(hn:x ≠ "__name__" := by decide)(hdb:(x==("__debug__" : Str))=false:=by decide)
  (he:Am (e::es) X.env=(false,Ah e X.env)::Am es X.env:=by rfl) (hpl:(Bq pos (Am es X.env)).any (·.1)=false:=by rfl):PE X (.Call (.Name x p) (e::es) [] pos) (tCB r t):=by
 intro pins s σ H Q I h;refine EG (z6 I hg hm hv ?_ hn hdb);exact EE (thn (ha pos pins s σ H _ I h) fun us s1 ⟨vs,H1,I1,r1,q1⟩=>hc pins s1 σ H1 vs us Q I1 r1 q1) he hpl
end
end L2
namespace HT
open PySem PyProof.Rows
noncomputable def lexLt:List Int→List Int→Bool
 | [],[]=>false
 | [],_::_=>true
 | _::_,[]=>false
 | x::xs,y::ys=>if x=y then lexLt xs ys else decide (x<y)
theorem lexLt_cons (x y:Int)(xs ys:List Int):lexLt (x::xs) (y::ys)=if x=y then lexLt xs ys else decide (x<y):=rfl
theorem lexLt_nil_nil:lexLt [] []=false:=rfl
theorem a1D (y:Int)(ys:List Int):lexLt [] (y::ys)=true:=rfl
theorem a0X (x:Int)(xs:List Int):lexLt (x::xs) []=false:=rfl
theorem aH0 (A:AV)(s:AC)(a:Int)(t:Tok)(c:Int)(u:Tok):∃ e,Ef A s (.int a t) (.int c u) e∧(e=true↔a=c):=
 ⟨(a==c),Ef.int_int a t c u,by simp⟩
theorem aHZ (A:AV)(s:AC)(a:Int)(t:Tok)(c:Int)(u:Tok)(prog:AL)(w:AI)(E:AA→AC→Prop)(Q:AA→AC→Prop)(h:Q (.bool (decide (a<c))) s) :
  AE (AH prog w) A (richCompare .Lt (.int a t) (.int c u)) Q E s:=
 (F1 h:AE (AH prog w) A (BQ .Lt (.int a t) (.int c u)) Q E s)
section
open PySem.SeqAt
open PySem.AutoSeq1 (wpAny_loadPart')
open PySem.MeetsSeq PySem.MeetsSeq2 PySem.MeetsSeq3
theorem a3D (l b:AB)(items items2:Array AA)(n n2:Nat)(dd dd2:Option AB)(sl sl2:Array (Option AA))(ns ms:List Int)(hi:B1 items.toList ns)(hj:B1 items2.toList ms) :
  Meets (AM.«tuple.__lt__» ⟨[.ref l,.ref b],[]⟩)
   (fun _ R s=>s.heap.get? l=some { cls:=.type "tuple", dict:=dd,data:=.seq items n,slots:=sl }∧s.heap.get? b=some { cls:=.type "tuple", dict:=dd2,data:=.seq items2 n2,slots:=sl2 } ∧
    R (.ok (.ret (.bool (lexLt ns ms)))) s):=
 .of_wp fun prog w A R s h=>by
  obtain⟨hp,g,d,tk,os⟩:=s; obtain⟨hl,hb,h⟩:=h;have f2:=AutoSeq1.sub_tuple_tuple;have z1:items.size=ns.length:=by rw[← hi.length]; simp
  have z2:items2.size=ms.length:=by rw[← hj.length]; simp
  wp_walk using wpAny_loadPart' hl,wpAny_loadPart' hb,C8 _ (fun rest b s'=>b.1=none∧s'=⟨hp,g,d,tk,os⟩∧∃(vs ws:List AA) (ns' ms':List Int),rest=vs.zip ws ∧
   B1 vs ns'∧B1 ws ms'∧ns'.length+items2.size=ms'.length+items.size∧R (.ok (.ret (.bool (lexLt ns' ms')))) ⟨hp,g,d,tk,os⟩) _
  case turn=>
   rintro⟨y,x⟩ rest b s' ⟨hb',rfl,vs,ws,ns',ms',hz,hvi,hwi,hlen,hR⟩
   cases hvi with
   | nil=>rw[List.zip_nil_left] at hz; cases hz
   | cons a t hvi'=>
    cases hwi with
    | nil=>rw[List.zip_nil_right] at hz; cases hz
    | cons c u hwi'=>
     rw[EZ] at hz;injection hz with hyx hrest;injection hyx with hy hx;subst hy hx;rw[lexLt_cons] at hR;simp only[An] at hlen;obtain⟨e,he,hiff⟩:=aH0 A.in1 ⟨hp,g,d,tk,os⟩ a t c u;refine AD (he prog w _ _ ?_)
     cases e with
     | true=>
      rw[if_pos (hiff.mp rfl)] at hR
      wp_walk
      exact⟨rfl,rfl,_,_,_,_,hrest,hvi',hwi',by omega,hR⟩
     | false=>
      rw[if_neg (fun q=>absurd (hiff.mpr q) BZ)] at hR;have hri:=aHZ A.in1 ⟨hp,g,d,tk,os⟩ a t c u prog w
      wp_walk using hri
      exact⟨_,rfl,by simpa using hR⟩
  case fin=>
   rintro⟨b1,b2⟩ s' ⟨hb',rfl,vs,ws,ns',ms',hz,hvi,hwi,hlen,hR⟩
   simp only at hb';subst hb';have hv:lexLt ns' ms'=decide (items.size<items2.size):=by
    cases hvi with
    | nil=>
     cases hwi with
     | nil=>
      simp only[Ch] at hlen;rw[lexLt_nil_nil];exact(decide_eq_false (by omega)).symm
     | cons c u hw=>
      simp only[Ch,An] at hlen;rw[a1D];exact(decide_eq_true (by omega)).symm
    | cons a t hv=>
     cases hwi with
     | nil=>
      simp only[Ch,An] at hlen;rw[a0X];exact(decide_eq_false (by omega)).symm
     | cons c u hw=>
      rw[EZ] at hz
      cases hz
   rw[hv] at hR
   wp_walk
   exact⟨_,rfl,by simpa [AM.Tuple.tupleCompareSizes] using hR⟩
  case h=>
   exact⟨rfl,rfl,items.toList,items2.toList,ns,ms,rfl,hi,hj,by omega,h⟩
end
section
variable {prog:AL}{w:AI}{A:AV}{E:AA→AC→Prop}{s:AC}
theorem lt_tupInts {l b:AB}{items items2:Array AA}{ns ms:List Int}{Q:AA→AC→Prop}(hl:IsTup s.heap l items)(hb:IsTup s.heap b items2)(hi:B1 items.toList ns)(hj:B1 items2.toList ms)
  (hu:A.units<Ai) (h:Q (.bool (lexLt ns ms)) s):AE (AH prog w) A (BQ .Lt (.ref l) (.ref b)) Q E s:=by
 obtain⟨⟨cls,dd,data,sl⟩,ho,hc,n,hd⟩:=id hl;obtain⟨⟨cls2,dd2,data2,sl2⟩,ho2,hc2,n2,hd2⟩:=id hb;simp only at hc hd hc2 hd2;subst hc hd hc2 hd2;exact richCompare_meets_room (op:=.Lt) ⟨_,ho,rfl⟩ ⟨_,ho2,rfl⟩ PySem.F.slot_tuple_lt PySem.F.entry_tuple_lt (PySem.F.args_tuple_lt_2 _ _) (a3D l b items items2 n n2 dd dd2 sl sl2 ns ms hi hj)
  ⟨ho,ho2,show Eg (lexLt ns ms)≠AA.notImplemented∧Q (.bool (lexLt ns ms)) s from⟨(fun x=>nomatch x),h⟩⟩ hu
noncomputable def sIx (n d:Nat):Option Int→Nat
 | none=>d
 | some v=>if v<0 then(v+(n:Int)).toNat else min v.toNat n
end
end HT
namespace L2
open PySem PySem.Spec PyProof.Rows
abbrev TO:=St→Hp→(Option Int→Hp→Prop)→Prop
noncomputable def PO (X:Cx)(e:Option AR)(t:TO):Prop:=
 ∀(pins:List (AB×Obj)) (s:AC) (σ:St) (H:Hp) (Q:Option Int→Hp→Prop),Inv X pins σ H s→t σ H Q →
  AE (AH X.prog X.w) X.A (evalPart e X.env) (fun u s'=>∃ o H',Inv X pins σ H' s'∧IsPart u o∧Q o H') X.xe s
noncomputable def aD0:TO:=fun _ H Q=>Q none H
noncomputable def aOV (t:TE):TO:=fun σ H Q=>t σ H fun x H1=>∃ i,x=.int i∧Q (some i) H1
theorem intsAre_of {ns:List Int}:∀{us:List AA},Vals (ns.map V.int) us→B1 us ns:=by
 induction ns with
 | nil=>intro us r; rw[map_nil] at r; cases r; exact .nil
 | cons n ns ih=>
  intro us r;rw[BD] at r
  cases r with
  | cons r1 r2=>
   obtain⟨t,e⟩:=r1;subst e;exact .cons n t (ih r2)
section
variable {X:Cx}{e:AR}{te:TE}{lo hi:Option AR}{tl th:TO}{pos p2:Pos}
theorem aE2:PO X none aD0:=by
 intro pins s σ H Q I h;rw[FE];exact AG ⟨none,H,I,.none,h⟩
theorem aD4 (h:PE X e te):PO X (some e) (aOV te):=by
 intro pins s σ H Q I hw;rw[evalPart_some];refine thn (h pins s σ H _ I hw) fun u s1 ⟨x,H1,I1,r1,q1⟩=>?_;obtain⟨i,rfl,q⟩:=q1;obtain⟨t,rfl⟩:=r1;exact⟨some i,H1,I1,.int i t,q⟩
noncomputable def SlR (X:Cx)(r:V→Option Int→Option Int→Hp→VK→Prop):Prop:=
 ∀(pins:List (AB×Obj)) (s:AC) (σ:St) (H:Hp) (x:V) (v vl vu:AA) (lo hi:Option Int) (sl:AB) (Q:VK),Inv X pins σ H s→RelV x v→s.heap.IsSliceOf sl vl vu .none→IsPart vl lo→IsPart vu hi→r x lo hi H Q →
  ∃ T id,typeLookup (.type T) "__getitem__" = pure (some (.builtin id))∧s.TypeIs v T∧AE (AH X.prog X.w) X.A (getItem v (.ref sl)) (EP X pins σ Q) X.xe s
noncomputable def tSl (r:V→Option Int→Option Int→Hp→VK→Prop)(te:TE)(tl th:TO):TE:=fun σ H Q=>te σ H fun x H1=>tl σ H1 fun l H2=>th σ H2 fun u H3=>r x l u H3 Q
theorem a9Y {r:V→Option Int→Option Int→Hp→VK→Prop}(hr:SlR X r)(he:PE X e te)(hl:PO X lo tl)(hu:PO X hi th):PE X (.Subscript e (.Slice lo hi none p2) pos) (tSl r te tl th):=by
 intro pins s σ H Q I h;refine Subscript_ (thn (he pins s σ H _ I h) fun v s1 ⟨x,H1,I1,r1,q1⟩=>?_);refine wpAny_Slice (thn (hl pins s1 σ H1 _ I1 q1) fun vl s2 ⟨l,H2,I2,pl,q2⟩=>thn (hu pins s2 σ H2 _ I2 q2) fun vu s3 ⟨u,H3,I3,pu,q3⟩=>?_);rw[FE];refine AG ?_;have I4:Inv X pins σ H3 { s3 with heap:=s3.heap.push { cls:=.type "slice", data:=.fields #[vl,vu,.none] } }:=I3.kept (t':=s3.toks) fun b ob q=>AZ _ q;obtain⟨T,id,hT,ht,hg⟩:=hr pins { s3 with heap:=s3.heap.push { cls:=.type "slice", data:=.fields #[vl,vu,.none] } } σ H3 x v vl vu l u s3.heap.objs.size Q I4 r1 (AF.IsSliceOf.new ..) pl pu q3;show AE (AH X.prog X.w) X.A (FF e (.Slice lo hi none p2) v (.ref s3.heap.objs.size)) (EP X pins σ Q) X.xe { s3 with heap:=s3.heap.push { cls:=.type "slice", data:=.fields #[vl,vu,.none] } };exact tail_any (ops:=[.ref s3.heap.objs.size,v]) ht hT hg (by with_unfolding_all rfl)
noncomputable def aLY (xs:List V)(lo hi:Option Int):List V:=(xs.drop (HT.sIx xs.length 0 lo)).take (HT.sIx xs.length xs.length hi-HT.sIx xs.length 0 lo)
theorem a8J (xs:List V)(lo hi:Option Int):(aLY xs lo hi).length≤xs.length:=by
 unfold aLY;rw[Bw,DQ];omega
end
end L2
namespace L2
open PySem PySem.Spec PyProof.Rows
noncomputable def ixN (n:Nat)(i:Int):Option Nat:=if 0≤i then(if i<n then some i.toNat else none) else if -(n:Int)≤i then some (i+n).toNat else none
noncomputable def atI {α:Type}(xs:List α)(i:Int):Option α:=(ixN xs.length i).bind fun j=>xs[j]?
theorem aFC {n:Nat}{i:Int}{j:Nat}(h:ixN n i=some j):seqIndex? i n=some j∧j<n ∧ -(n:Int)≤i∧i<n:=by
 unfold ixN at h
 by_cases h0:0≤i
 ·rw[if_pos h0] at h
  by_cases h1:i<n
  ·rw[if_pos h1] at h;have e:i.toNat=j:=Az.inj h;exact⟨by rw[FG h0 h1,e],by omega,by omega,h1⟩
  ·rw[if_neg h1] at h; cases h
 ·rw[if_neg h0] at h
  by_cases h1 : -(n:Int)≤i
  ·rw[if_pos h1] at h;have e:(i+n).toNat=j:=Az.inj h;exact⟨by rw[seqIndex_neg (by omega) h1,e],by omega,h1,by omega⟩
  ·rw[if_neg h1] at h; cases h
theorem a8L {α:Type}{xs:List α}{i:Int}{v:α}(h:atI xs i=some v):∃ j,seqIndex? i xs.length=some j∧xs[j]?=some v∧j<xs.length ∧ -(xs.length:Int)≤i∧i<xs.length:=by
 unfold atI at h
 cases e:ixN xs.length i with
 | none=>rw[e] at h; cases h
 | some j=>
  rw[e] at h;obtain⟨h1,h2,h3,h4⟩:=aFC e;exact⟨j,h1,h,h2,h3,h4⟩
theorem aEJ {α:Type}{xs:List α}{j:Nat}{v:α}(h:xs[j]?=some v):atI xs (j:Int)=some v:=by
 have hj:j<xs.length:=(List.getElem?_eq_some_iff.mp h).1;have e:ixN xs.length (j:Int)=some j:=by
  unfold ixN;rw[if_pos (by omega),if_pos (by omega)]; simp
 unfold atI; rw[e]; exact h
noncomputable def aKF (b:AR):Prop:=∀ o i,subscripted b false o i=operate [o,i] (getItem o i)
noncomputable def IxR (X:Cx)(r:R2):Prop:=
 ∀(value slice:AR) (pins:List (AB×Obj)) (s:AC) (σ:St) (H:Hp) (x y:V) (v u:AA) (Q:VK),Inv X pins σ H s→RelV x v→RelV y u→r x y H Q →
  subscripted slice false v u=operate [v,u] (getItem v u)→AE (AH X.prog X.w) X.A (FF value slice v u) (EP X pins σ Q) X.xe s
noncomputable def MtR (X:Cx)(id:String)(r:V→List V→Hp→VK→Prop):Prop:=
 ∀(pins:List (AB×Obj)) (s:AC) (σ:St) (H:Hp) (x:V) (xs:List V) (v:AA) (us:List AA) (Q:VK),Inv X pins σ H s→RelV x v→Vals xs us→r x xs H Q →
  AE (AH X.prog X.w) X.A (call (.builtin id) (v::us)) (EP X pins σ Q) X.xe s
section
variable {X:Cx}{a b:AR}{ta tb:TE}{pos:Pos}
theorem IxR.or {r r':R2}(h:IxR X r)(h':IxR X r'):IxR X (fun x y H Q=>r x y H Q∨r' x y H Q):=by
 intro value slice pins s σ H x y v u Q I rx ry q hs;rcases q with q|q
 ·exact h value slice pins s σ H x y v u Q I rx ry q hs
 ·exact h' value slice pins s σ H x y v u Q I rx ry q hs
theorem aR {r:R2}(hr:IxR X r)(ha:PE X a ta)(hb:PE X b tb)(hs:aKF b):PE X (.Subscript a b pos) (tOp r ta tb):=by
 intro pins s σ H Q I h;exact Subscript_ (aQN ha hb I h fun v u s2 x y H2 I2 rx ry q=>hr a b pins s2 σ H2 x y v u Q I2 rx ry q (hs _ _))
noncomputable def aS1 (K:Ad):R2:=fun x y H Q=>∃ p xs i v,x=.ref p∧y=.int i∧SqL K H p xs∧atI xs i=some v∧Q v H
noncomputable def aRG (K:Ad):R2:=fun x y H Q=>∃ p xs i v,x=.ref p∧y=.int i∧SqT K H p xs∧atI xs i=some v∧Q v H
noncomputable def aS2:R2:=fun x y H Q=>∃ z i c,x=.str z∧y=.int i∧z.length≤sizeLine∧atI z.cps.toList i=some c∧Q (.str ⟨#[c]⟩) H
theorem ix_list:IxR X (aS1 X.K):=by
 intro value slice pins s σ H x y v u Q I rx ry h hs;obtain⟨p,xs,i,z,rfl,rfl,hq,he,q⟩:=h
 cases rx
 obtain⟨t,rfl⟩:=ry;obtain⟨its,r,pl,hz⟩:=I.list hq;obtain⟨j,h1,h2,h3,h4,h5⟩:=a8L he;obtain⟨w,ew,rw'⟩:=r.get h2;have hl:=r.length;have hn:=a5E;have fin:EP X pins σ Q w s:=⟨z,H,I,rw',q⟩
 by_cases h0:0≤i
 ·have hj:i.toNat=j:=by
   rw[FG h0 h5] at h1;exact Az.inj h1
  exact item_listR pl.isList h0 (by omega) (by rw[hj]; simpa using ew) fin hs
 ·have hj:(i+(its.toArray.size:Int)).toNat=j:=by
   rw[seqIndex_neg (by omega) h4] at h1;rw[Ak,←hl];exact Az.inj h1
  exact FH (x:=w) pl.isList.typeIs slot_list_getitem.lookup
   (wpAny_getItem_list_neg (Q:=fun r s'=>r=w∧EP X pins σ Q r s') pl.isList (by omega) (by rw[Ak]<;>omega) (by omega) (by rw[hj]; simpa using ew) ⟨rfl,fin⟩) hs
theorem ix_tup:IxR X (aRG X.K):=by
 intro value slice pins s σ H x y v u Q I rx ry h hs;obtain⟨p,xs,i,z,rfl,rfl,hq,he,q⟩:=h
 cases rx
 obtain⟨t,rfl⟩:=ry;obtain⟨its,r,pl,hz⟩:=I.tuple hq;obtain⟨j,h1,h2,h3,h4,h5⟩:=a8L he;obtain⟨w,ew,rw'⟩:=r.get h2;have hl:=r.length;have hn:=a5E;have fin:EP X pins σ Q w s:=⟨z,H,I,rw',q⟩;exact FH (x:=w) pl.typeIs slot_tuple_getitem.lookup
  (getItem_tuple (j:=j) (Q:=fun r s'=>r=w∧EP X pins σ Q r s') pl (by omega) (by omega) (by rw[Ak,←hl]; exact h1) (by simpa using ew) ⟨rfl,fin⟩) hs
theorem aNI:IxR X aS2:=by
 intro value slice pins s σ H x y v u Q I rx ry h hs;obtain⟨z,i,c,rfl,rfl,hz,he,q⟩:=h;obtain⟨t,rfl⟩:=rx;obtain⟨t',rfl⟩:=ry;obtain⟨j,h1,h2,h3,h4,h5⟩:=a8L he;have hl:z.cps.toList.length=z.length:=by simp[Str.length]
 rw[hl] at h1 h4 h5;have hn:=a5E;exact tail_any (typeIs_str s z t) slot_str_getitem.lookup (getItem_str (c:=c) (by
  have e1:decide (i < -(2^63:Int))=false:=decide_eq_false (by omega);have e2:decide (i≥2^63)=false:=decide_eq_false (by omega);rw[e1,e2,EJ]) (by rw[h1]; simpa using h2) ⟨.str ⟨#[c]⟩,H,I.tok _,⟨_,rfl⟩,q⟩) hs
noncomputable def rIx (K:Ad):R2:=fun x y H Q=>aS1 K x y H Q∨aRG K x y H Q∨aS2 x y H Q
theorem aK:IxR X (rIx X.K):=ix_list.or (ix_tup.or aNI)
theorem aBL (its:List AA)(n j:Nat)(u:AA):Aj (·.setIfInBounds j u) { cls:=.type "list", data:=.seq its.toArray n }={ cls:=.type "list", data:=.seq (its.set j u).toArray n }:=by
 simp[Aj]
theorem Inv.lst {pins:List (AB×Obj)}{σ:St}{H:Hp}{s:AC}{p:AB}{xs:List V}(I:Inv X pins σ H s)(h:H p=some (.lst xs)) :
  ∃(its:List AA) (n:Nat),Vals xs its∧s.heap.get? p=some { cls:=.type "list", data:=.seq its.toArray n }∧xs.length≤sizeLine:=by
 obtain⟨z,its,n,r,e⟩:=I.hok p _ h;exact⟨its,n,r,e,z⟩
theorem Inv.lstUpd {pins:List (AB×Obj)}{σ:St}{H:Hp}{s:AC}{p:AB}{xs ys:List V}{its its':List AA}{n n':Nat}{f:Obj→Obj}(I:Inv X pins σ H s)(h:H p=some (.lst xs))
  (ho:s.heap.get? p=some { cls:=.type "list", data:=.seq its.toArray n }) (hf:f { cls:=.type "list", data:=.seq its.toArray n }={ cls:=.type "list", data:=.seq its'.toArray n' }) (r:Vals ys its') (hz:ys.length≤sizeLine) (t:Nat) :
  Inv X pins σ (upd H p (.lst ys)) { s with heap:=s.heap.update p f,toks:=t }:=by
 have e:(s.heap.update p f).get? p=some { cls:=.type "list", data:=.seq its'.toArray n' }:=by
  rw[BV f ho (by rw[hf]<;>rfl),hf]
 refine I.write (x:=p) (e:=p) (by rw[h]; trivial) (.inl rfl) (fun b u hb q=>(Bj _ _ (Ne.symm hb)).trans q) ⟨_,e⟩ ?_;exact⟨hz,its',n',r,e⟩
noncomputable def aPK:V→V→V→Hp→(Hp→Prop)→Prop:=fun o i v H Q=>∃ p xs k j,o=.ref p∧i=.int k∧H p=some (.lst xs)∧ixN xs.length k=some j∧Q (upd H p (.lst (xs.set j v)))
theorem set_list:aRJ X aPK:=by
 intro pins s σ H o i v ov iv u Q I ro ri rv h;obtain⟨p,xs,k,j,rfl,rfl,hp,hj,q⟩:=h
 cases ro
 obtain⟨t,rfl⟩:=ri;obtain⟨its,n,r,ho,hz⟩:=I.lst hp;obtain⟨h1,h2,h3,h4⟩:=aFC hj;have hl:=r.length;have hn:=a5E;have I':Inv X pins σ (upd H p (.lst (xs.set j v))) { s with heap:=s.heap.update p (Aj (·.setIfInBounds j u)) }:=
  I.lstUpd hp ho (aBL its n j u) (r.set rv j) (by rw[CO]; exact hz) s.toks
 by_cases h0:0≤k
 ·have hk:k.toNat=j:=by
   rw[FG h0 h4] at h1;exact Az.inj h1
  exact PySem.W.ki_setAt ho h0 (by omega) (by rw[Ak,←hl]; exact h4) (by rw[hk]; exact⟨_,I',q⟩)
 ·have hk:(k+(its.toArray.size:Int)).toNat=j:=by
   rw[seqIndex_neg (by omega) h3] at h1;rw[Ak,←hl];exact Az.inj h1
  exact PySem.W.ki_setBack ho (by omega) (by rw[Ak,←hl]; exact h3) (by omega) (by rw[hk]; exact⟨_,I',q⟩)
theorem a67 (lo hi:Option Int)(n:Nat):(Co lo hi none n).1=((HT.sIx n 0 lo:Nat):Int)∧(Co lo hi none n).2.1=((HT.sIx n n hi:Nat):Int)∧(Co lo hi none n).2.2=1:=by
 refine⟨?_,?_,rfl⟩
 ·cases lo with
  | none=>simp[Co,HT.sIx]
  | some i=>
   simp only[Co,HT.sIx,Option.getD_none,show(1:Int)>0 by decide,if_true]
   by_cases h:i<0
   ·simp only[h,if_true]<;>omega
   ·simp only[h,if_false]<;>omega
 ·cases hi with
  | none=>simp[Co,HT.sIx]
  | some i=>
   simp only[Co,HT.sIx,Option.getD_none,show(1:Int)>0 by decide,if_true]
   by_cases h:i<0
   ·simp only[h,if_true]<;>omega
   ·simp only[h,if_false]<;>omega
theorem a2H (its:List AA)(lo hi:Option Int):Em its.toArray lo hi none=((its.drop (HT.sIx its.length 0 lo)).take (HT.sIx its.length its.length hi-HT.sIx its.length 0 lo)).toArray:=by
 obtain⟨h1,h2,h3⟩:=a67 lo hi its.toArray.size;unfold Em;rw[h1,h2,h3];simp only[sliceRange_one,pick_run,Ak]<;>rfl
noncomputable def aS3 (K:Ad):V→Option Int→Option Int→Hp→VK→Prop:=fun x lo hi H Q=>∃ a xs,x=.ref a∧SqL K H a xs∧∀ p,H p=none→Q (.ref p) (upd H p (.lst (aLY xs lo hi)))
theorem aFS:SlR X (aS3 X.K):=by
 intro pins s σ H x v vl vu lo hi sl Q I rx hs pl pu h;obtain⟨a,xs,rfl,hx,q⟩:=h
 cases rx
 obtain⟨its,r,ht,hz⟩:=I.list hx;have hlen:=r.length;refine⟨"list", _,slot_list_getitem.lookup,ht.isList.typeIs,?_⟩;refine F3 ht.isList hs pl pu .none (by simp) ?_ (by rw[Ak]<;>omega);rw[a2H,←hlen];refine⟨.ref s.heap.objs.size,_,I.laid (t':=s.toks) (o:=.lst (aLY xs lo hi)) (fun b ob q=>AZ _ q) (AN _) ?_,rfl,q _ (I.hok.fresh (AN _))⟩;exact⟨Aw (a8J xs lo hi) hz,_,0,(r.drop (HT.sIx xs.length 0 lo)).take (HT.sIx xs.length xs.length hi-HT.sIx xs.length 0 lo),Aq _ rfl⟩
theorem bF:CallR X (.builtin "len") (fun xs H Q=>∃ p ys,xs=[.ref p]∧(SqL X.K H p ys∨SqT X.K H p ys)∧Q (.int ys.length) H):=by
 intro pins s σ H xs us Q I r h;obtain⟨p,ys,rfl,hq,q⟩:=h;obtain⟨u,rfl,rx⟩:=vals1 r
 cases rx
 have hn:=a5E;rcases hq with hq|hq
 ·obtain⟨its,r',pl,hz⟩:=I.list hq;have hlen:=r'.length;exact Calls.call_len_list pl.isList (by simp only[Ak]<;>omega) ⟨.int ys.length,H,I.tok _,⟨s.toks+1,by rw[Ak,hlen]⟩,q⟩
 ·obtain⟨its,r',pl,hz⟩:=I.tuple hq;have hlen:=r'.length;exact len_tuple pl (by simp only[Ak]<;>omega) ⟨.int ys.length,H,I.tok _,⟨s.toks+1,by rw[Ak,hlen]⟩,q⟩
theorem CallR.or {f:AA}{r r':List V→Hp→VK→Prop}(h:CallR X f r)(h':CallR X f r'):CallR X f (fun xs H Q=>r xs H Q∨r' xs H Q):=by
 intro pins s σ H xs us Q I rs q;rcases q with q|q
 ·exact h pins s σ H xs us Q I rs q
 ·exact h' pins s σ H xs us Q I rs q
noncomputable def tyV (K:Ad)(T:String)(x:V)(H:Hp):Prop:=match x with
 | .str _=>T = "str"
 | .int _=>T = "int"
 | .ref p=>(T = "list" ∧ ∃ xs,SqL K H p xs)∨(T = "tuple" ∧ ∃ o,K.lookup p=some o∧o.cls=.type "tuple" ∧ o.dict=none) ∨
   (T = "dict" ∧ ((∃ kvs,H p=some (.dK kvs))∨∃ kvs,H p=some (.dT kvs)))∨(T = "set" ∧ ∃ S n,H p=some (.set S n))
 | _=>False
theorem aOH {pins:List (AB×Obj)}{σ:St}{H:Hp}{s:AC}{T:String}{x:V}{v:AA}(I:Inv X pins σ H s)(r:RelV x v)(ty:tyV X.K T x H) :
  s.TypeIs v T∧∀ a,v=.ref a→∃ ob,s.heap.get? a=some ob∧ob.dict=none:=by
 cases x with
 | str z=>
  obtain⟨t,rfl⟩:=r
  cases(show T = "str" from ty)
  exact⟨typeIs_str s z t,fun _ e=>nomatch e⟩
 | int i=>
  obtain⟨t,rfl⟩:=r
  cases(show T = "int" from ty)
  exact⟨typeIs_int s i t,fun _ e=>nomatch e⟩
 | ref p=>
  cases r
  rcases ty with⟨rfl,xs,hq⟩|⟨rfl,o,hk,hc,hd⟩|⟨rfl,hk⟩|⟨rfl,S,n,hk⟩
  ·obtain⟨its,_,pl,_⟩:=I.list hq;refine⟨pl.isList.typeIs,fun a e=>?_⟩
   cases e
   obtain⟨o,n,e,c,hd,_⟩:=pl;exact⟨o,e,hd⟩
  ·refine⟨⟨o,I.kIn p o hk,hc⟩,fun a e=>?_⟩
   cases e
   exact⟨o,I.kIn _ o hk,hd⟩
  ·have z:∃ o,s.heap.get? p=some o∧o.ExactDict:=by
    rcases hk with⟨kvs,hk⟩|⟨kvs,hk⟩
    ·obtain⟨_,_,_,_,o,_,_,e,ex,_⟩:=I.hok p _ hk;exact⟨o,e,ex⟩
    ·obtain⟨_,_,_,_,o,_,_,e,ex,_⟩:=I.hok p _ hk;exact⟨o,e,ex⟩
   obtain⟨o,e,ex⟩:=z;refine⟨⟨o,e,ex.1⟩,fun a e2=>?_⟩
   cases e2
   exact⟨o,e,ex.2.1⟩
  ·obtain⟨o,_,_,_,e,ex,_⟩:=I.hok p _ hk;refine⟨⟨o,e,ex.1⟩,fun a e2=>?_⟩
   cases e2
   exact⟨o,e,ex.2.1⟩
 | _=>exact CC ty
noncomputable def tBM (K:Ad)(T:String)(r:V→List V→Hp→VK→Prop)(to:TE)(t:TA):TE:=fun σ H Q=>to σ H fun x H1=>tyV K T x H1∧t σ H1 fun xs H2=>r x xs H2 Q
variable {o e:AR}{es:List AR}{to:TE}{t:TA}{name:Str}{apos cpos:Pos}{T id:String}{r:V→List V→Hp→VK→Prop}
theorem a4W (pa:PlainAttrs T)(slot:Slot T name id)(hty:typeOf (.builtin id)=pure (.type "method_descriptor"))(hm:MtR X id r)(ho:PE X o to)(ha:PA X (e::es) t)
  (hbase:attributeBase o name X.env (Ah o X.env)=Ah o X.env:=by rfl)
  (hfew:((Bq cpos (Am (e::es) X.env)).all (fun x => !x.1)&&(backToKw cpos (keywordEach [] X.env)).all (fun x=>x.1.isSome)
   && decide ((e::es).length+([]:List EH).length+(if ([]:List EH).isEmpty then 0 else 1)<30))=true:=by rfl)
  (hline:(apos.endLine==cpos.line)=true:=by rfl) (hs:Am (e::es) X.env=(false,Ah e X.env)::Am es X.env:=by rfl) (hplain:(Bq cpos (Am es X.env)).any (·.1)=false:=by rfl) :
  PE X (.Call (.Attribute o name apos) (e::es) [] cpos) (tBM X.K T r to t):=by
 intro pins s σ H Q I h;refine F4 hbase hfew hline rfl (thn (ho pins s σ H _ I h) fun v s1 ⟨x,H1,I1,r1,ty,q1⟩=>?_);obtain⟨h1,h2⟩:=aOH I1 r1 ty;refine⟨T,id,pa,slot,hty,h1,h2,?_⟩;have hA:=ha cpos pins s1 σ H1 _ I1 q1;rw[hs] at hA ⊢;refine F5 (by show(false||(Bq cpos (Am es X.env)).any (·.1))=false; rw[hplain]<;>rfl) (F6 ?_);exact thn hA fun us s2 ⟨vs,H2,I2,r2,q2⟩=>hm pins s2 σ H2 x vs v us Q I2 r1 r2 q2
end
end L2
namespace L2
open PySem PySem.Spec PyProof.Rows
noncomputable def MtM (X:Cx)(id:String)(r:V→List V→Hp→VK→Prop):Prop:=
 ∀(pins:List (AB×Obj)) (s:AC) (σ:St) (H:Hp) (x:V) (xs:List V) (v:AA) (us:List AA) (Q:VK),Inv X pins σ H s→RelV x v→Vals xs us→r x xs H Q →
  AE (AH X.prog X.w) X.A (call (.builtin id) (v::us)) (EP X pins σ Q) X.xe s
theorem Vals.one:∀{x:V} {us:List AA},Vals [x] us→∃ u,us=[u]∧RelV x u:=by
 intro x us h
 cases h with
 | cons r t=>cases t; exact⟨_,rfl,r⟩
theorem Vals.two:∀{x y:V} {us:List AA},Vals [x,y] us→∃ u v,us=[u,v]∧RelV x u∧RelV y v:=by
 intro x y us h
 cases h with
 | cons r t=>
  obtain⟨v,rfl,q⟩:=Vals.one t;exact⟨_,_,rfl,r,q⟩
section
variable {X:Cx}{pins:List (AB×Obj)}{σ:St}{H:Hp}{s:AC}{l b:AB}{xs ys zs:List V}
theorem Inv.lset {its its':List AA}{n:Nat}{f:Array AA→Array AA}{t':Nat}(I:Inv X pins σ H s)(hH:H l=some (.lst xs))
  (e:s.heap.get? l=some { cls:=.type "list", data:=.seq its.toArray n }) (hf:f its.toArray=its'.toArray) (hv:Vals ys its') (hz:ys.length≤sizeLine) :
  Inv X pins σ (upd H l (.lst ys)) { s with heap:=s.heap.update l (Aj f),toks:=t' }:=by
 have q:=PySem.IsL.update e f;rw[hf] at q;refine I.write (x:=l) (e:=l) (by rw[hH]; exact trivial) (.inl rfl) (fun b' u hb hu=>(Bj s.heap (Aj f) (Ne.symm hb)).trans hu) ⟨_,q⟩ ?_;exact⟨hz,its',_,hv,q⟩
theorem Inv.lnew {its:List AA}{t':Nat}(I:Inv X pins σ H s)(hv:Vals ys its)(hz:ys.length≤sizeLine) :
  Inv X pins σ (upd H s.heap.objs.size (.lst ys)) { s with heap:=s.heap.push { cls:=.type "list", data:=.seq its.toArray },toks:=t' }:=
 I.laid (fun _ _ q=>AZ _ q) (AN _) ⟨hz,its,0,hv,Aq _ rfl⟩
theorem Inv.fresh (I:Inv X pins σ H s):H s.heap.objs.size=none:=I.hok.fresh (AN _)
theorem Inv.lstM (I:Inv X pins σ H s)(hH:H l=some (.lst xs)):xs.length≤sizeLine∧∃(its:List AA) (n:Nat),Vals xs its∧xs.length=its.length∧s.heap.get? l=some { cls:=.type "list", data:=.seq its.toArray n }:=by
 obtain⟨z,its,n,r,e⟩:=I.hok l _ hH;exact⟨z,its,n,r,r.length,e⟩
end
section
variable {X:Cx}
noncomputable def a87:V→List V→Hp→VK→Prop:=fun x vs H Q=>∃ l xs y,x=.ref l∧vs=[y]∧H l=some (.lst xs)∧xs.length<sizeLine∧Q .non (upd H l (.lst (xs++[y])))
theorem mK:MtM X "list.append" a87:=by
 intro pins s σ H x vs v us Q I rx rv h;obtain⟨l,xs,y,rfl,rfl,hH,hz,q⟩:=h
 cases rx
 obtain⟨u,rfl,ru⟩:=rv.one;obtain⟨z,its,n,r,hl,e⟩:=I.lstM hH;refine call_meets F.slot_list_append ⟨_,e,rfl⟩ F.entry_list_append (F.args_list_append_2 _ _) (PySem.list_append l its.toArray n u (by rw[Ak]; omega)) ⟨e,?_⟩;refine⟨.non,_,I.lset (its':=its++[u]) hH e (by simp) (r.append (.cons ru .nil)) ?_,rfl,q⟩;rw[BN,Cz];omega
noncomputable def aRU:R2:=fun x y H Q=>∃ l b xs zs,x=.ref l∧y=.ref b∧H l=some (.lst xs)∧H b=some (.lst zs)∧xs.length+zs.length≤sizeLine∧∀ p,H p=none→Q (.ref p) (upd H p (.lst (xs++zs)))
theorem aO4:OpR X (CD .Add) aRU:=by
 intro pins s σ H x y v u Q I rx ry h;obtain⟨l,b,xs,zs,rfl,rfl,hH,hB,hz,q⟩:=h
 cases rx
 cases ry
 obtain⟨z,its,n,r,hl,e⟩:=I.lstM hH;obtain⟨z2,its2,n2,r2,hl2,e2⟩:=I.lstM hB;refine PySem.P.add_list e e2 ?_ (by rw[Ak,Ak]; omega);have ea:its.toArray++its2.toArray=(its++its2).toArray:=by simp
 rw[ea];exact⟨.ref _,_,I.lnew (t':=s.toks) (r.append r2) (by rw[BN]; omega),rfl,q _ I.fresh⟩
end
section
variable {prog:AL}{w:AI}{A:AV}{E:AA→AC→Prop}{s:AC}
end
section
variable {X:Cx}
end
end L2
namespace Att
open PySem PySem.W PySem.Calls PyProof.Rows
theorem xT {P:Params}{h:AF}:∀(ns:List Int) (vs:List AA),WellAll P h vs (ns.map WData.int)→B1 vs ns:=by
 intro ns
 induction ns with
 | nil=>
  intro vs w;rw[map_nil] at w
  cases w
  exact .nil
 | cons n ns ih=>
  intro vs w;rw[BD] at w
  cases w with
  | cons a b=>
   cases a
   exact .cons _ _ (ih _ b)
theorem aET {l:OpenLaw}{n:Nat}(hn:l.most=some n){P:Params}{h:AF}{args:List WData}{vals:List AA}
  (hpre:l.row.toRowW.claim.pre args=true) (hwl:WellAll P h vals args) :
  ∃ a vs ns,vals=[Ac a]∧args=[WData.list (ns.map WData.int)]∧h.get? a=some { cls:=.type "list", data:=.seq vs.toArray }∧B1 vs ns∧ns.length≤n:=by
 have hsh:WShape.hasAll [] args [.list .int]=true:=(pre_splitW hpre).1;have hc:l.pre.holds [] { args:=args }=true:=(pre_splitW hpre).2;obtain⟨d,r,rfl,h1,h2⟩:=hasAllW_cons hsh;obtain rfl:=hasAllW_nil h2;obtain⟨xs,rfl,h3⟩:=hasW_list h1;obtain⟨ns,rfl⟩:=items_int h3;have hlen:ns.length≤n:=by
  unfold OpenLaw.pre at hc;have h4:(WTm.not (.lt (.lit (.int (n:Int))) (.len (.arg 0)))).holds [] { args:=[.list (ns.map .int)] }=true:=by
   have h4:=(holds_andW hc).1;rw[hn] at h4;exact h4
  have h5:=condW_of h4 (w_not (w_lt w_lit (w_len_list (w_arg rfl))));rw[AS] at h5;refine FI fun q=>?_;have q':(n:Int)<((ns.length:Nat):Int):=by omega
  first
   | (rw[decide_eq_true q'] at h5; exact absurd h5 (by decide))
   | (simp at h5; omega)
 cases hwl with
 | cons w1 w2=>
  cases w2
  cases w1 with
  | list ho hall=>exact⟨_,_,ns,rfl,rfl,ho,xT ns _ hall,hlen⟩
theorem aFK (l:OpenLaw)(args:List WData):l.row.toRowW.claim.post args (.bool true) args=true:=
 postW_of (r:=l.row.toRowW) (X:=(true==true))
  (show WShape.has [] (.bool true) .bool=true by first|rfl|decide|simp[WShape.has,WShape.arms,WShape.armsAll])
  (show(WTm.eq .res (.lit (.bool true))).value [] { args:=args,res:=some (.bool true),after:=args }=some (.bool (true==true)) from w_eq_bool (w_res rfl) w_lit) rfl
theorem attach_call {l:OpenLaw}{n:Nat}{q:AL}{loose:List Str}{XP:(Str→Option AA)→AF→Prop}{YP:AI→AF→Prop}{d:DefRec}
  (hn:l.most=some n) (hdf:d.params.defaults=[])
  (call:∀(w:AI) (s₀ s₁:AC) (mg mb:Str→Option AA) (fa:AB) (o:Obj) (pm cd doc:AA) (a:AB) (vs:List AA) (ns:List Int),
   Ground q loose [] XP w s₀ mg mb s₁.heap→YP w s₁.heap →
   s₁.heap.get? fa=some o→o.data=.func (docDef d.name d.params d.body d.scope pm cd doc)→s₁.heap.CodeRec cd d.name→mg d.name=some (.ref fa) →
   s₁.heap.get? a=some { cls:=.type "list", data:=.seq vs.toArray }→B1 vs ns→ns.length≤n→s₁.gens=#[] →
   Bk (AH l.prog w) C9 (.call (.ref fa) ⟨[.ref a],[]⟩) (fun r s'=>r=.ok (.ret (.bool true))∧OldK s₁.heap s'.heap∧s'.os=s₁.os∧CY s'.gens) s₁) :
  WalkO q loose XP YP l.row.toRowW d [] (fun f vs=>PySem.call f vs):=by
 intro w s₀ s₁ mg mb G Y fa o pm cd doc dV kV ho hd hcd hD hmg hg args vals as hpre hlay hrd hwl hlo;obtain rfl:dV=.none:=Dflts.none hD hdf;obtain rfl:kV=.none:=Dflts.noKw hD;obtain⟨a,vs,ns,rfl,rfl,hobj,hints,hlen⟩:=aET hn hpre hwl;refine enter_call (EF (call w s₀ s₁ mg mb fa o pm cd doc a vs ns G Y ho (fd_plain hd) hcd hmg hobj hints hlen hg) fun r s' hq=>?_);obtain⟨rfl,h2,h3,h4⟩:=hq;exact⟨.inl ⟨.bool true,.bool true,[],rfl,fun _=>rfl,.bool true,aFK l _,fun _=>⟨List.Pairwise.nil,fun _ hm=>(nomatch hm)⟩⟩,h2,h3,h4⟩
section
variable {prog:AL}{w:AI}{A:AV}{E:AA→AC→Prop}{s:AC}{K:Frag}
end
end Att
namespace L2
open PySem PySem.Spec PyProof.Rows
theorem aDG:∀{vs:List AA} {ns:List Int},B1 vs ns→Vals (ns.map V.int) vs:=by
 intro vs ns h
 induction h with
 | nil=>exact .nil
 | cons n t h ih=>exact .cons ⟨t,rfl⟩ ih
noncomputable def Only (H:Hp):Prop:=∀ b,H b=none∨∃ o xs,H b=some (.frz o (.lst xs))
theorem law_call {P:AL}{w:AI}{K:Ad}{mg mb:Str→Option AA}{CX:CXT}{k:Nat}{fa a:AB}{fd:BR}{x:Str}{sp:Sp}{s₁:AC}{vs:List AA}{ns:List Int}
  (KX:K.In s₁.heap) (hns:s₁.heap.Ns Ao mg) (hb:s₁.heap.Ns builtinsNs mb) (hbb:∀ x:Str,x ≠ "__name__" → mb x=Dc x) (hlim:s₁.heap.NoLimit) (hsy:∃ mm,s₁.heap.Ns BP mm) (hg:s₁.gens=#[])
  (ha:s₁.heap.get? a=some { cls:=.type "list", data:=.seq vs.toArray }) (hi:B1 vs ns) (hl:ns.length≤sizeLine) (hr:Room k C9)
  (F:∀ base:AF,K.In base→base.Ns Ao mg→FnOk P w K mg base CX k fa fd [x] sp) (hbind:∀(s:AC) (u:AA),Dh s fd ⟨[u],[]⟩ [(x,u)])
  (hsp:∀ H:Hp,Only H→SqL K H a (ns.map V.int)→sp [.ref a] H (fun v _=>v=.bl true) fun _ _ _=>False)
  (hCX:∀ H e s',CX [] H s₁ (fun _ _ _=>False) e s'→False) :
  Bk (AH P w) C9 (.call (.ref fa) ⟨[.ref a],[]⟩) (fun r s'=>r=.ok (.ret (.bool true))∧OldK s₁.heap s'.heap∧s'.os=s₁.os∧CY s'.gens) s₁:=by
 have rv:=aDG hi;have lenV:=hi.length;have core:∀ H:Hp,Only H→SqL K H a (ns.map V.int)→HOk P w H s₁.heap→(∀ b,H b≠none→b=a)→(H a≠none→K.lookup a=none) →
   Bk (AH P w) C9 (.call (.ref fa) ⟨[.ref a],[]⟩) (fun r s'=>r=.ok (.ret (.bool true))∧OldK s₁.heap s'.heap∧s'.os=s₁.os∧CY s'.gens) s₁:=by
  intro H hO hS hok hA hK;have base_of:∀{b:AB} {o:Obj},s₁.heap.get? b=some o→H b=none→(aHK s₁.heap H).get? b=some o:=fun e n=>aI9 e n;have noA:∀{b:AB} {o:Obj} {es:Array B8} {ep:Nat},s₁.heap.get? b=some o→o.data=.dict es ep→H b=none:=fun{b o es ep} e d=>by
   cases q:H b with
   | none=>rfl
   | some u=>
    have e':b=a:=hA b (by rw[q]; simp);subst e';rw[ha] at e; cases e;have d':Data.seq vs.toArray _=Data.dict es ep:=d
    cases d'
  have nsK:∀{b:AB} {m:Str→Option AA},s₁.heap.Ns b m→(aHK s₁.heap H).Ns b m:=fun{b m} ⟨o,es,ep,e,d,r⟩=>⟨o,es,ep,base_of e (noA e d),d,r⟩;have hKb:K.In (aHK s₁.heap H):=fun b o e=>base_of (KX b o e) (by
   cases q:H b with
   | none=>rfl
   | some u=>
    have e':b=a:=hA b (by rw[q]; simp);subst e';rw[hK (by rw[q]; simp)] at e; cases e)
  have hM:Mod K mg (aHK s₁.heap H):=⟨hKb,nsK hns,⟨mb,nsK hb,hbb⟩,let ⟨mc,h1,h2⟩:=hlim; ⟨mc,nsK h1,h2⟩,let ⟨mm,h1⟩:=hsy; ⟨mm,nsK h1⟩⟩;have e0:Env0 P w K mg (aHK s₁.heap H) C9 [] s₁ H:=⟨rfl,hM,fun b o e=>aK5 e,Nat.le_of_eq (aD7 _ _),trivial,fun b hb=>absurd (show b∈([]:List AB) from hb) (by simp),hok,.of_eq hg⟩;refine EF ((F _ hKb (nsK hns)).run C9 [] s₁ H ⟨[.ref a],[]⟩ [.ref a] [.ref a] _ _ hr e0 (hbind s₁ (.ref a)) (.cons rfl .nil) (hsp H hO hS)) fun r s' h=>?_
  cases r with
  | error e=>exact(hCX H e s' h).elim
  | ok fl=>
   cases fl with
   | next=>exact CC h
   | brk=>exact CC h
   | cont=>exact CC h
   | ret u=>
    obtain⟨v,H',os,bare,un,hok',r',q⟩:=h;have q':v=.bl true:=q;subst q';obtain rfl:u=Eg true:=r';refine⟨rfl,OldK.of_keep fun b o e=>?_,os,bare⟩
    cases q:H b with
    | none=>exact un.keep b o e q (by intro z; exact absurd (show b∈([]:List AB) from z) (by simp)) (by simp)
    | some u=>
     rcases hO b with z|⟨ob,xs,z⟩
     ·rw[q] at z; cases z
     ·have z2:=un.frzs b ob _ z;obtain⟨e1,_⟩:=hok b _ z;obtain⟨e2,_⟩:=hok' b _ z2;rw[e] at e1; cases e1;exact e2
 cases hk:K.lookup a with
 | some o=>
  have e:=KX a o hk;rw[ha] at e
  cases e
  refine core (fun _=>none) (fun _=>.inl rfl) (.inr ⟨_,vs.toArray,_,hk,rfl,rfl,rfl,by rw[Ak,lenV]; exact hl,by simpa using rv⟩) (fun b u z=>by have z':(none:Option HO)=some u:=z; cases z') (fun b z=>absurd rfl z) fun z=>absurd rfl z
 | none=>
  refine core (fun b=>if b=a then some (.frz { cls:=.type "list", data:=.seq vs.toArray } (.lst (ns.map V.int))) else none) (fun b=>?_) (.inl (.inr ⟨{ cls:=.type "list", data:=.seq vs.toArray },if_pos rfl⟩)) (fun b u z=>?_) (fun b z=>?_) fun _=>hk
  ·by_cases hb:b=a
   ·exact .inr ⟨_,_,if_pos hb⟩
   ·exact .inl (if_neg hb)
  ·by_cases hb:b=a
   ·have z':=(if_pos hb).symm.trans z
    cases z'
    subst hb;exact⟨ha,by rw[AS]; exact hl,vs,_,rv,ha⟩
   ·have z':=(if_neg hb).symm.trans z
    cases z'
  ·by_cases hb:b=a
   ·exact hb
   ·exact absurd (if_neg hb) z
end L2
namespace L2
open PySem PySem.Spec PyProof.Rows
theorem aKI {l:FJ}{n k:Nat}{q:AL}{loose:List Str}{XP:(Str→Option AA)→AF→Prop}{YP:AI→AF→Prop}{d:DefRec}{K:Params→Ad}{CX:AI→CXT}{sp:AI→Sp}{x:Str}
  (hn:l.most=some n) (hn2:n≤sizeLine) (hdf:d.params.defaults=[]) (him:F7 q=true) (hr:Room k C9)
  (hY:∀(w:AI) (h:AF),YP w h→(K w.params).In h)
  (F:∀(w:AI) (mg:Str→Option AA) (fa:AB) (h:AF),(K w.params).In h→h.Ns Ao mg→mg d.name=some (.ref fa) →
   ∃ fd:BR,(∀(s:AC) (u:AA),Dh s fd ⟨[u],[]⟩ [(x,u)]) ∧
    ∀ base:AF,(K w.params).In base→base.Ns Ao mg→FnOk l.prog w (K w.params) mg base (CX w) k fa fd [x] (sp w))
  (hsp:∀(w:AI) (H:Hp) (a:AB) (ns:List Int),ns.length≤n→Only H→SqL (K w.params) H a (ns.map V.int)→sp w [.ref a] H (fun v _=>v=.bl true) fun _ _ _=>False)
  (hCX:∀(w:AI) (H:Hp) (s:AC) (e:AA) (s':AC),CX w [] H s (fun _ _ _=>False) e s'→False) :
  PySem.W.WalkO q loose XP YP l.row.toRowW d [] (fun f vs=>PySem.call f vs):=by
 refine Att.attach_call hn hdf fun w s₀ s₁ mg mb fa o pm cd doc a vs ns G Y ho hd hcd hmg hobj hints hlen hg=>?_;have KX:=hY w _ Y;obtain⟨fd,hb,hF⟩:=F w mg fa _ KX G.T.g hmg;exact law_call KX G.T.g G.T.b G.T.builtins G.T.nolimit (let ⟨mm,h1,_⟩:=(G.T.seer him).mods; ⟨mm,h1⟩) hg hobj hints (Aw hlen hn2) hr hF hb (fun H hO hS=>hsp w H a ns hlen hO hS) fun H e s'=>hCX w H s₁ e s'
end L2
namespace L2
open PySem PySem.Spec PyProof.Rows
noncomputable def zZ (s:AO):Arguments:=match s with
 | .FunctionDef _ a _ _ _ _ _ _ _ _=>a
 | _=>{ posonlyargs:=[],args:=[],vararg:=none,kwonlyargs:=[],kw_defaults:=[],kwarg:=none,defaults:=[] }
noncomputable def rY (s:AO):List AO:=match s with
 | .FunctionDef _ _ b _ _ _ _ _ _ _=>b
 | _=>[]
noncomputable def aW (s:AO):BH:=match s with
 | .FunctionDef _ _ _ _ _ _ sc _ _ _=>sc
 | _=>{ kind:=.function,names:=[],isGenerator:=false,isCoroutine:=false }
abbrev CX0:CXT:=fun _ _ _ _ _ _=>False
abbrev E0:XK:=fun _ _ _=>False
theorem aR3 {X:Cx}:aF9 CX0 X E0:=fun _ _ _ _ _ _ _ h=>h.elim
structure Fun (K:Ad)(x qual:Str)(st:AO)(f:AB)(fd:BR):Prop where
 ex:∃(oc:AA) (od:Option AB) (kV doc pm:AA) (an:Option AB) (cdv ct:AA) (osl:Array (Option AA)),
  fd=fnOf x qual (zZ st) (rY st) (aW st) .none kV doc pm an cdv ct∧K.lookup f=some ⟨oc,od,.func fd,osl⟩∧codeIn K cdv qual=true
 kp:keepIn K (.ref f)=true
section
variable {P:AL}{w:AI}{K:Ad}{mg:Str→Option AA}{base:AF}
theorem Fun.ok {x qual:Str}{st:AO}{f:AB}{fd:BR}{N ps:List Str}{k:Nat}{sp:Sp}(F:Fun K x qual st f fd)(S:FnScope N ps (aW st))(len:∀ vs H Q E,sp vs H Q E→vs.length=ps.length)
  (hbody:∀(cdv:AA) (A:AV) (outer:List Env) (s:AC) (H:Hp) (vs:List V) (Q:VK) (E:XK),Room k (A.deeper (CF qual (aW st) s.heap.objs.size f cdv))→sp vs H Q E →
   ∃ t,PSs (aKX CX0 P w K mg base N qual (aW st) f cdv A outer s H E).nox (rY st) t∧t { nx:=fun _ H'=>Q .non H',rt:=Q } (start N vs) H):FnOk P w K mg base CX0 (k+1) f fd ps sp:=by
 obtain⟨oc,od,kV,doc,pm,an,cdv,ct,osl,rfl,lk,hcd⟩:=F.ex;refine aPO lk hcd S len fun A outer s H vs Q E hr hsp=>?_;obtain⟨t,h,q⟩:=hbody cdv A outer s H vs Q E hr hsp;exact⟨t,h.nox,q⟩
theorem Fun.binds {x qual:Str}{st:AO}{f:AB}{fd:BR}{ps:List Str}(F:Fun K x qual st f fd)
  (h:∀(kV doc pm:AA) (an:Option AB) (cdv ct:AA) (us:List AA),us.length=ps.length→bindArgs (fnOf x qual (zZ st) (rY st) (aW st) .none kV doc pm an cdv ct) ⟨us,[]⟩=pure (ps.zip us)):Binds K fd ps []:=by
 obtain⟨oc,od,kV,doc,pm,an,cdv,ct,osl,rfl,lk,hcd⟩:=F.ex;exact .all (h kV doc pm an cdv ct)
theorem aME {x qual:Str}{st:AO}{f:AB}{oc:AA}{od an:Option AB}{osl:Array (Option AA)}{kV doc pm cdv ct:AA}(l:K.lookup f=some ⟨oc,od,.func (fnOf x qual (zZ st) (rY st) (aW st) .none kV doc pm an cdv ct),osl⟩)
  (c:codeIn K cdv qual=true) (k:keepIn K (.ref f)=true):Fun K x qual st f (fnOf x qual (zZ st) (rY st) (aW st) .none kV doc pm an cdv ct):=⟨⟨oc,od,kV,doc,pm,an,cdv,ct,osl,rfl,l,c⟩,k⟩
end
theorem pC {n:Nat}(h:n≤1000):n<sizeLine:=FK h (by decide)
section
variable {X:Cx}
theorem pv (i:Nat){x:Str}{pos:Pos}(hN:X.N[i]?=some x:=by rfl)(hv:Vis X.env.scope x:=by first|exact DA rfl|exact Or.inr (DA rfl)|exact Or.inr (Or.inr rfl))(hd:(x==("__debug__" : Str))=false:=by decide)
  (hcd:(x==("__classdict__" : Str))=false:=by decide):PE X (.Name x pos) (a7M i):=aOI hN hv hd hcd
end
theorem a5C {A B:Prop}(h:B):if false=true then A else B:=by
 rw[if_neg BZ];exact h
theorem a4U {A B:Prop}(h:A):if true=true then A else B:=by
 rw[if_pos rfl];exact h
theorem aQI {c A B:Prop}[Decidable c](hc:c)(h:B):if (!decide c)=true then A else B:=by
 rw[decide_eq_true hc];exact a5C h
noncomputable def Same (H H':Hp):Prop:=∀ b o,H b=some o→H' b=some o
theorem Same.refl (H:Hp):Same H H:=fun _ _ h=>h
theorem Same.trans {H H1 H2:Hp}(a:Same H H1)(b:Same H1 H2):Same H H2:=fun c o h=>b c o (a c o h)
theorem Same.free {H H':Hp}(e:Same H H'){l:AB}(h:H' l=Option.none):H l=Option.none:=by
 cases q:H l with
 | none=>rfl
 | some o=>
  rw[e l o q] at h
  cases h
theorem Same.seq {K:Ad}{H H':Hp}{a:AB}{xs:List V}(e:Same H H')(h:SqL K H a xs):SqL K H' a xs:=by
 rcases h with(h|⟨o,h⟩)|h
 ·exact .inl (.inl (e _ _ h))
 ·exact .inl (.inr ⟨o,e _ _ h⟩)
 ·exact .inr h
end L2
set_option maxHeartbeats 4000000
namespace LT
theorem cY (a:Rat):(a.den:Int)≠0:=by have:=a.den_nz; omega
theorem uG (a:Rat):(0:Int)<a.den:=by have:=a.den_nz; omega
theorem aEF (a b:Rat):Rat.divInt (a.num*b.den+b.num*a.den) (a.den*b.den)=a+b:=by
 rw[← Rat.divInt_add_divInt _ _ (cY a) (cY b),CS,CS]
theorem aDA (a b:Rat):Rat.divInt (a.num*b.den-b.num*a.den) (a.den*b.den)=a-b:=by
 rw[Rat.sub_eq_add_neg,←aEF a (-b),Rat.neg_num,Rat.neg_den,Int.neg_mul,Int.sub_eq_add_neg]
theorem aJ4 (a b:Rat):Rat.divInt (a.num*b.num) (a.den*b.den)=a*b:=by
 rw[← FL,CS,CS]
theorem aFT {b:Rat}(h:b≠0):b.num≠0:=fun e=>h (by rw[← CS b,e,FM])
theorem aNJ {b:Rat}(h:b≠0):Rat.divInt b.den b.num=b⁻¹:=by
 have e:b*Rat.divInt b.den b.num=1:=by
  conv=>lhs; arg 1; rw[← CS b]
  rw[FL,Int.mul_comm b.num];exact Rat.divInt_self' (BM (cY b) (aFT h))
 grind
theorem aIS (a:Rat){b:Rat}(h:b≠0):Rat.divInt (a.num*b.den) (a.den*b.num)=a/b:=by
 rw[← FL,CS,aNJ h,Rat.div_def]
theorem aOD (a b:Rat):decide (a.num*b.den<b.num*a.den)=decide (a<b):=by
 rw[decide_eq_decide,Rat.lt_iff]
theorem fd (t:Int)(g:Nat):t.fdiv (g:Int)=t/(g:Int):=F0 t (by omega)
theorem tO {t b:Int}(h:0<b):t.fdiv (BK t b:Nat)=(Rat.divInt t b).num∧b.fdiv (BK t b:Nat)=((Rat.divInt t b).den:Int):=by
 rw[Rat.num_divInt,Rat.den_divInt,fd,fd,if_neg (by omega),Int.sign_eq_one_of_pos h,Int.one_mul,Int.gcd_comm b t];refine⟨rfl,?_⟩;obtain⟨n,rfl⟩:∃ n:Nat,b=(n:Int):=⟨b.toNat,by omega⟩;rw[← Int.natCast_ediv,Int.natAbs_natCast]
theorem aHO {t b:Int}(h:b<0):t.fdiv (-(BK t b:Nat))=(Rat.divInt t b).num∧b.fdiv (-(BK t b:Nat))=((Rat.divInt t b).den:Int):=by
 have h1:=tO (t := -t) (b := -b) (by omega);have e:Rat.divInt (-t) (-b)=Rat.divInt t b:=by
  have:=F8 (n:=t) (d:=b) (a := -1) (by decide);rw[← this]; congr 1<;>omega
 rw[e,Int.gcd_neg,Int.neg_gcd] at h1;rw[← h1.1,←h1.2];constructor
 ·rw[← Int.neg_neg t,Int.neg_fdiv_neg]; simp
 ·rw[← Int.neg_neg b,Int.neg_fdiv_neg]; simp
theorem a9H {d r:Int}(hd:0≤d)(h:0<r):BK r (d%r)=BK d r:=by
 obtain⟨m,rfl⟩:∃ n:Nat,d=(n:Int):=⟨d.toNat,by omega⟩;obtain⟨n,rfl⟩:∃ n:Nat,r=(n:Int):=⟨r.toNat,by omega⟩;rw[← Int.natCast_emod];show Nat.gcd n (m%n)=Nat.gcd m n;rw[Nat.gcd_comm n,←Nat.gcd_rec,Nat.gcd_comm]
theorem aG6 {d:Int}(h:0≤d):(BK d 0:Int)=d:=by
 rw[Int.gcd_zero_right]; omega
theorem aAD (i:Int):0≤(if i<0 then -i else i):=by split<;>omega
theorem aFE (i j:Int):BK (if i<0 then -i else i) (if j<0 then -j else j)=BK i j:=by
 split<;>split<;>simp only[Int.gcd_neg,Int.neg_gcd]
noncomputable def Bt (k:Nat)(i:Int):Prop:=i.natAbs<2^k
noncomputable def Sz (k:Nat)(q:Rat):Prop:=Bt k q.num∧Bt k q.den
theorem Bt.mono {k m:Nat}{i:Int}(h:Bt k i)(l:k≤m):Bt m i:=Al h (F9 (by decide) l)
theorem Sz.mono {k m:Nat}{q:Rat}(h:Sz k q)(l:k≤m):Sz m q:=⟨h.1.mono l,h.2.mono l⟩
theorem Bt.mul {k m:Nat}{i j:Int}(h:Bt k i)(g:Bt m j):Bt (k+m) (i*j):=by
 unfold Bt at *; rw[Int.natAbs_mul,Nat.pow_add];exact Nat.mul_lt_mul'' h g
theorem Bt.add {k:Nat}{i j:Int}(h:Bt k i)(g:Bt k j):Bt (k+1) (i+j):=by
 unfold Bt at *; have:=Int.natAbs_add_le i j; rw[Nat.pow_succ]; omega
theorem Bt.neg {k:Nat}{i:Int}(h:Bt k i):Bt k (-i):=by unfold Bt at *; omega
theorem Bt.sub {k:Nat}{i j:Int}(h:Bt k i)(g:Bt k j):Bt (k+1) (i-j):=by
 rw[Int.sub_eq_add_neg]; exact h.add g.neg
theorem Bt.ediv {k:Nat}{i:Int}(h:Bt k i)(g:Nat):Bt k (i/(g:Int)):=by
 unfold Bt at *;exact FK (by exact Int.natAbs_ediv_le_natAbs _ _) h
theorem Sz.divInt {k:Nat}{t b:Int}(h:Bt k t)(g:Bt k b)(h0:b≠0):Sz k (Rat.divInt t b):=by
 rcases Int.lt_or_gt_of_ne h0 with hb|hb
 ·have e:Rat.divInt (-t) (-b)=Rat.divInt t b:=by
   have:=F8 (n:=t) (d:=b) (a := -1) (by decide);rw[← this]; congr 1<;>omega
  rw[← e];have n:=tO (t := -t) (b := -b) (by omega);rw[fd,fd] at n;exact⟨by rw[← n.1]; exact h.neg.ediv _,by rw[← n.2]; exact g.neg.ediv _⟩
 ·have n:=tO (t:=t) (b:=b) hb;rw[fd,fd] at n;exact⟨by rw[← n.1]; exact h.ediv _,by rw[← n.2]; exact g.ediv _⟩
theorem Sz.add {k m:Nat}{a b:Rat}(h:Sz k a)(g:Sz m b):Sz (k+m+1) (a+b):=by
 rw[← aEF];refine Sz.divInt (Bt.add (h.1.mul g.2) ?_) ((h.2.mul g.2).mono (by omega)) (BM (cY a) (cY b));exact(g.1.mul h.2).mono (by omega)
theorem Sz.sub {k m:Nat}{a b:Rat}(h:Sz k a)(g:Sz m b):Sz (k+m+1) (a-b):=by
 rw[← aDA];refine Sz.divInt (Bt.sub (h.1.mul g.2) ?_) ((h.2.mul g.2).mono (by omega)) (BM (cY a) (cY b));exact(g.1.mul h.2).mono (by omega)
theorem Sz.mul {k m:Nat}{a b:Rat}(h:Sz k a)(g:Sz m b):Sz (k+m) (a*b):=by
 rw[← aJ4];exact Sz.divInt (h.1.mul g.1) (h.2.mul g.2) (BM (cY a) (cY b))
theorem Sz.div {k m:Nat}{a b:Rat}(h:Sz k a)(g:Sz m b)(b0:b≠0):Sz (k+m) (a/b):=by
 rw[← aIS a b0];exact Sz.divInt (h.1.mul g.2) (h.2.mul g.1) (BM (cY a) (aFT b0))
end LT
namespace LT
theorem aGK (q:Rat):(q.num:Rat)=q*((q.den:Int):Rat):=by
 have h:((q.den:Int):Rat)≠0:=by
  have:=cY q;exact fun e=>this (by exact_mod_cast e)
 have e:=CS q;rw[Rat.divInt_eq_div] at e;grind
theorem dI {t b:Int}{q:Rat}(hb:b≠0)(h:(t:Rat)=q*(b:Rat)):Rat.divInt t b=q:=by
 have h0:(b:Rat)≠0:=fun e=>hb (by exact_mod_cast e);rw[Rat.divInt_eq_div,h];grind
theorem aQR (s m t:Rat):Rat.divInt (s.num*m.den*t.den+m.num*t.num*s.den) (s.den*m.den*t.den)=s+m*t:=by
 refine dI (BM (BM (cY s) (cY m)) (cY t)) ?_;simp only[Rat.intCast_add,FN];rw[aGK s,aGK m,aGK t];grind
theorem aR7 {i:Int}(h1 : -1152921504606846976<i)(h2:i<1152921504606846976):Bt 60 i:=by
 show i.natAbs<2^60;have:(2:Nat)^60=1152921504606846976:=by decide
 omega
theorem aDK {k:Nat}{i:Int}(h:Bt k i)(hk:1≤k):Sz k (i:Rat):=by
 refine⟨by rw[Rat.num_intCast]; exact h,?_⟩;rw[Rat.den_intCast];exact Al (by decide:(1:Nat)<2^1) (F9 (by decide) hk)
end LT
namespace LT
theorem aEC {s:Int}(h:s=1∨s = -1):Bt 1 s:=by
 show s.natAbs<2^1;omega
end LT
namespace L2
open PySem PySem.Spec PyProof.Rows
mutual
inductive Dt (H:Hp):V→AJ→Prop
 | non:Dt H .non .none
 | bl (b:Bool):Dt H (.bl b) (.bool b)
 | int (i:Int):Dt H (.int i) (.int i)
 | str (x:Str):Dt H (.str x) (.str x)
 | tup {p:AB} {xs:List V} {ds:List AJ}:H p=some (.tup xs)→Dts H xs ds→Dt H (.ref p) (.tuple ds)
 | lst {p:AB} {xs:List V} {ds:List AJ}:H p=some (.lst xs)→Dts H xs ds→Dt H (.ref p) (.list ds)
 | dic {p:AB} {kvs:List (Key×V)} {kds:List (AJ×AJ)}:Rd H p (.dK kvs)→Dtk H kvs kds→Dt H (.ref p) (.dict kds)
inductive Dts (H:Hp):List V→List AJ→Prop
 | nil:Dts H [] []
 | cons {x:V} {xs:List V} {d:AJ} {ds:List AJ}:Dt H x d→Dts H xs ds→Dts H (x::xs) (d::ds)
inductive Dtk (H:Hp):List (Key×V)→List (AJ×AJ)→Prop
 | nil:Dtk H [] []
 | cons {n:Int} {x:V} {d:AJ} {kvs:List (Key×V)} {kds:List (AJ×AJ)}:Dt H x d→Dtk H kvs kds→Dtk H ((CW n,x)::kvs) ((.int n,d)::kds)
end
mutual
theorem Dt.reads {P:AL}{w:AI}{H:Hp}{h:AF}(ok:HOk P w H h):∀(d:AJ) (x:V) (v:AA),Dt H x d→RelV x v→∃ as,Reads h v d as
 | .none,_,_,e,r=>by cases e; cases r; exact⟨_,.none⟩
 | .bool _,_,_,e,r=>by cases e; cases r; exact⟨_,.bool _⟩
 | .int _,_,_,e,r=>by cases e; obtain⟨t,rfl⟩:=r; exact⟨_,.int _ _⟩
 | .str _,_,_,e,r=>by cases e; obtain⟨t,rfl⟩:=r; exact⟨_,.str _ _⟩
 | .list ds,_,_,e,r=>by
  cases e with
  | @lst p xs _ hp rs=>
   cases r
   obtain⟨_,its,n,r',hg⟩:=(show ObjOk P w H h p (.lst xs) from ok p _ hp);obtain⟨as,q⟩:=Dts.reads ok ds xs its rs r';exact⟨_,.list hg rfl rfl (by simpa using q)⟩
 | .tuple ds,_,_,e,r=>by
  cases e with
  | @tup p xs _ hp rs=>
   cases r
   obtain⟨_,its,r',o,h1,h2,n,h3⟩:=(show ObjOk P w H h p (.tup xs) from ok p _ hp);obtain⟨as,q⟩:=Dts.reads ok ds xs its rs r';exact⟨_,.tuple h1 h2 h3 (by simpa using q)⟩
 | .dict kds,_,_,e,r=>by
  cases e with
  | @dic p kvs _ hp rs=>
   cases r
   obtain⟨_,_,vs,kv,o,es,ep,h1,h2,h3,_,h4,_⟩:=(show ObjOk P w H h p (.dK kvs) from hp.ok ok);obtain⟨as,bs,q1,q2⟩:=Dtk.reads ok kds kvs vs es.toList rs kv h4;exact⟨_,.dict h1 h2.1 h3 q1 q2⟩
theorem Dts.reads {P:AL}{w:AI}{H:Hp}{h:AF}(ok:HOk P w H h):∀(ds:List AJ) (xs:List V) (vs:List AA),Dts H xs ds→Vals xs vs→∃ as,ReadsAll h vs ds as
 | [],_,_,e,r=>by cases e; cases r; exact⟨_,.nil⟩
 | d::ds,_,_,e,r=>by
  cases e with
  | cons e1 e2=>
   cases r with
   | cons r1 r2=>
    obtain⟨as,q1⟩:=Dt.reads ok d _ _ e1 r1;obtain⟨bs,q2⟩:=Dts.reads ok ds _ _ e2 r2;exact⟨_,.cons q1 q2⟩
theorem Dtk.reads {P:AL}{w:AI}{H:Hp}{h:AF}(ok:HOk P w H h):∀(kds:List (AJ×AJ)) (kvs:List (Key×V)) (vs:List (Key×AA)) (es:List B8),Dtk H kvs kds→KV kvs vs→Pairs (a3Z P w) es vs →
  ∃ as bs,ReadsAll h (es.map (·.key)) (kds.map (·.1)) as∧ReadsAll h (es.map (·.val)) (kds.map (·.2)) bs
 | [],_,_,_,e,r,z=>by cases e; cases r; cases z; exact⟨_,_,.nil,.nil⟩
 | (k,d)::kds,_,_,_,e,r,z=>by
  cases e with
  | @cons n _ _ _ _ e1 e2=>
   cases r with
   | cons r1 r2=>
    cases z with
    | @cons en kv _ _ z1 z2 z3=>
     obtain⟨k1,rv⟩:=r1;obtain⟨as,q1⟩:=Dt.reads ok d _ _ e1 rv;obtain⟨as2,bs2,q3,q4⟩:=Dtk.reads ok kds _ _ _ e2 r2 z3;have kr:∃ cs,Reads h en.key (.int n) cs:=by
      rcases dG ((aBO P w _ _).symm.trans z1) with⟨i,t,a,b⟩|⟨_,_,a,_⟩
      ·rw[← k1] at a
       cases a
       rw[b];exact⟨_,.int _ _⟩
      ·rw[← k1] at a
       cases a
     obtain⟨cs,kr⟩:=kr;exact⟨_,_,.cons kr q3,.cons (z2▸q1:Reads h en.val d as) q4⟩
end
theorem Rd.same {H H':Hp}(g:Same H H'){a:AB}{u:HO}(r:Rd H a u):Rd H' a u:=r.elim (fun e=>.inl (g _ _ e)) fun⟨o,e⟩=>.inr ⟨o,g _ _ e⟩
mutual
theorem Dt.same {H H':Hp}(g:Same H H'):∀(d:AJ) (x:V),Dt H x d→Dt H' x d
 | .none,_,e=>by cases e; exact .non
 | .bool _,_,e=>by cases e; exact .bl _
 | .int _,_,e=>by cases e; exact .int _
 | .str _,_,e=>by cases e; exact .str _
 | .list ds,_,e=>by
  cases e with
  | lst hp rs=>exact .lst (g _ _ hp) (Dts.same g ds _ rs)
 | .tuple ds,_,e=>by
  cases e with
  | tup hp rs=>exact .tup (g _ _ hp) (Dts.same g ds _ rs)
 | .dict kds,_,e=>by
  cases e with
  | dic hp rs=>exact .dic (hp.same g) (Dtk.same g kds _ rs)
theorem Dts.same {H H':Hp}(g:Same H H'):∀(ds:List AJ) (xs:List V),Dts H xs ds→Dts H' xs ds
 | [],_,e=>by cases e; exact .nil
 | d::ds,_,e=>by
  cases e with
  | cons e1 e2=>exact .cons (Dt.same g d _ e1) (Dts.same g ds _ e2)
theorem Dtk.same {H H':Hp}(g:Same H H'):∀(kds:List (AJ×AJ)) (kvs:List (Key×V)),Dtk H kvs kds→Dtk H' kvs kds
 | [],_,e=>by cases e; exact .nil
 | (_,d)::kds,_,e=>by
  cases e with
  | cons e1 e2=>exact .cons (Dt.same g d _ e1) (Dtk.same g kds _ e2)
end
mutual
noncomputable def zV:AJ→Bool
 | .list _=>false
 | .dict _=>false
 | .tuple ds=>tU ds
 | _=>true
noncomputable def tU:List AJ→Bool
 | []=>true
 | d::ds=>zV d&&tU ds
end
noncomputable def SameX (x:AB)(H H':Hp):Prop:=∀ b o,b≠x→H b=some o→H' b=some o
theorem SameX.refl (x:AB)(H:Hp):SameX x H H:=fun _ _ _ e=>e
theorem SameX.trans {x:AB}{H H1 H2:Hp}(a:SameX x H H1)(b:SameX x H1 H2):SameX x H H2:=fun c o n e=>b c o n (a c o n e)
theorem qJ {H:Hp}{p:AB}(h:H p=none)(o:HO):Same H (upd H p o):=fun b u q=>by rw[aY (bA q h)]; exact q
theorem fZ {H:Hp}{p:AB}(o:HO):SameX p H (upd H p o):=fun b u n q=>by rw[aY n]; exact q
structure Good (d:AJ):Prop where
 lay:d.canLay0=true
 dep:d.depth≤60
section
variable {X:Cx}
theorem aNG {u a b:Nat}(h:u+64<Ai)(ha:a≤60):u+min a b<Ai:=by
 have:min a b≤a:=Ci _ _;omega
noncomputable def aRE:R2:=fun x y H Q=>∃ dx dy,Dt H x dx∧Dt H y dy∧Good dx∧Good dy∧Q (.bl (Av dx dy)) H
noncomputable def aRB:R2:=fun x y H Q=>∃ dx dy,Dt H x dx∧Dt H y dy∧Good dx∧Good dy∧Q (.bl (!PyData.eqv dx dy)) H
theorem oE (hu:X.A.units+64<Ai):OpR X (BQ .Eq) aRE:=by
 intro pins s σ H x y v u Q I rx ry h;obtain⟨dx,dy,ex,ey,gx,gy,q⟩:=h;obtain⟨as,r1⟩:=Dt.reads I.hok dx x v ex rx;obtain⟨bs,r2⟩:=Dt.reads I.hok dy y u ey ry;exact SeqAt.compareEq_reads r1 r2 gx.lay gy.lay (aNG hu gx.dep) ⟨.bl _,H,I,rfl,q⟩
theorem jO (hu:X.A.units+64<Ai):OpR X (BQ .NotEq) aRB:=by
 intro pins s σ H x y v u Q I rx ry h;obtain⟨dx,dy,ex,ey,gx,gy,q⟩:=h;obtain⟨as,r1⟩:=Dt.reads I.hok dx x v ex rx;obtain⟨bs,r2⟩:=Dt.reads I.hok dy y u ey ry;exact SeqAt.compareNe_reads r1 r2 gx.lay gy.lay (aNG hu gx.dep) ⟨.bl _,H,I,rfl,q⟩
theorem bW:OpR X (CD .Mult) (rI Df fun i j=>.int (i*j)):=opI fun _ _ _ _ _ _ _ hc q=>mul_int q hc
noncomputable def aHY (_ j:Int):Prop:=j≠0∧LT.Bt 9000 j
theorem aS8 {i j:Int}(h:aHY i j):AM.divisionGoesByPylong i j=false:=by
 refine PyProof.noPylong_of_log2 ((Nat.log2_lt ?_).mpr h.2);have:=h.1;omega
theorem xK:OpR X (CD .FloorDiv) (rI aHY fun i j=>.int (i.fdiv j)):=opI fun _ _ _ _ _ _ _ hc q=>floordiv_int hc.1 q (.inl (aS8 hc))
theorem bits_le {k:Nat}{i:Int}(h:LT.Bt k i):GA i≤k:=by
 unfold GA
 split
 ·exact A8 _
 ·rename_i h0
  have:i.natAbs≠0:=by
   intro e;exact h0 (by simpa using e)
  exact(Nat.log2_lt this).mpr h
theorem aOY {k m:Nat}{i j:Int}(h:LT.Bt k i)(g:LT.Bt m j)(hk:k≤1048576:=by decide)(hm:m≤1048576:=by decide):Df i j:=
 Df.of_bits (Aw (bits_le h) hk) (Aw (bits_le g) hm)
theorem uI {a b v:Int}{j j':Nat}{p p' pos:Pos}(h:a^b.toNat=v)(hc:aS0 a b):PE X (.BinOp (.Constant (.int a) j p) .Pow (.Constant (.int b) j' p') pos) (tC (.int v)):=by
 intro pins s σ H Q I hq;subst h;exact bT aOX aD aD pins s σ H Q I ⟨_,_,rfl,rfl,hc,hq⟩
theorem aI3 {x c y:Int}(h:0<c)(h2:c<2^64):CMul (x%c) y:=by
 have h3:=CB x (b:=c) (by omega);have h4:=CA x h;exact .inl ⟨by omega,by omega⟩
noncomputable def aS4:V→Option AA
 | .ty n=>some (.type n)
 | .ref a=>some (.ref a)
 | _=>none
noncomputable def aRZ (K:Ad):List V→Hp→VK→Prop:=fun xs H Q=>∃ x c cv t b,xs=[x,c]∧aS4 c=some cv∧TyOf K H x t∧AY K t cv=some b∧Q (.bl b) H
theorem aAG:CallR X (.builtin "isinstance") (aRZ X.K):=by
 intro pins s σ H xs us Q I r h;obtain⟨x,c,cv,t,b,rfl,ec,ty,e,q⟩:=h;obtain⟨u,v,rfl,rx,rc⟩:=vals2 r;have ev:v=cv:=by
  cases c<;>first
   | (cases ec; exact rc)
   | cases ec
 subst ev;exact aG0 I rx ty e fun tk=>⟨.bl b,H,I.tok tk,rfl,q⟩
structure Cal (P:AL)(w:AI)(K:Ad)(mg:Str→Option AA)(base:AF)(k:Nat)(x:Str)(ps:List Str)(sp:Sp):Prop where
 ex:∃(f:AB) (fd:BR),FnOk P w K mg base CX0 k f fd ps sp∧mg x=some (.ref f)∧keepIn K (.ref f)=true∧Binds K fd ps []
variable {j k:Nat}{x:Str}{ps:List Str}{sp:Sp}{e:AR}{es:List AR}{t:TA}{p pos:Pos}
theorem aG (c:Cal X.prog X.w X.K X.mg X.base j x ps sp)(hr:Room k X.A)(hg:Gl X x)(ha:PA X (e::es) t)(hjk:j≤k:=by decide)
  (hdb:(x==("__debug__" : Str))=false:=by decide) (he:Am (e::es) X.env=(false,Ah e X.env)::Am es X.env:=by rfl) (hpl:(Bq pos (Am es X.env)).any (·.1)=false:=by rfl) :
  PE X (.Call (.Name x p) (e::es) [] pos) (aLS sp [] E0 t):=by
 obtain⟨f,fd,F,hm,hk,hb⟩:=c.ex;exact aKE F (hr.mono hjk) hg hm hk hb .nil aR3 ha hdb he hpl
end
structure Bl (K:Ad)(mg:Str→Option AA):Prop where
 len_:mg "len" = none
 abs_:mg "abs" = none
 range_:mg "range" = none
 isinstance_:mg "isinstance" = none
 int_:mg "int" = none
 bool_:mg "bool" = none
 tuple_:mg "tuple" = none
 max_:mg "max" = none
 min_:mg "min" = none
 list_:mg "list" = none
 all_:mg "all" = none
 any_:mg "any" = none
 sorted_:mg "sorted" = none
 zip_:mg "zip" = none
 set_:mg "set" = none
 sum_:mg "sum" = none
 str_:mg "str" = none
 enumerate_:mg "enumerate" = none
 repr_:mg "repr" = none
 kib:AY K (.type "int") (.type "bool")=some false
 kbi:AY K (.type "bool") (.type "int")=some true
theorem aHL (K:Ad)(t:AA):AY K t t=some true:=by
 unfold AY;rw[if_pos (beq_self_eq_true t)]
end L2
namespace L2
open PySem PySem.Spec PyProof.Rows LT
theorem aPG {c A B:Prop}[Decidable c](h:c)(a:A):if decide c=true then A else B:=by rw[decide_eq_true h]; exact a4U a
theorem aL2 {c A B:Prop}[Decidable c](h:¬c)(b:B):if decide c=true then A else B:=by rw[decide_eq_false h]; exact a5C b
theorem aPB {c A B:Prop}[Decidable c](h:¬c)(a:A):if (!decide c)=true then A else B:=by rw[decide_eq_false h]; exact a4U a
theorem fU {c A B:Prop}[Decidable c](h1:c→A)(h2:¬c→B):if decide c=true then A else B:=by
 by_cases h:c
 ·exact aPG h (h1 h)
 ·exact aL2 h (h2 h)
theorem zQ {c A B:Prop}[Decidable c](h1:¬c→A)(h2:c→B):if (!decide c)=true then A else B:=by
 by_cases h:c
 ·exact aQI h (h2 h)
 ·exact aPB h (h1 h)
theorem aD5 {i j:Int}(h:V.int i=V.int j):i=j:=V.int.inj h
theorem eU {n:Nat}(h:n≤1000):n≤sizeLine:=Bz (pC h)
theorem aGC {n:Nat}(h:Nat.ble n 1000=true):n≤sizeLine:=eU (GB h)
noncomputable def cG (q:Rat):AJ:=.tuple [.int q.num,.int (q.den:Int)]
theorem qL (q:Rat):Good (cG q):=⟨rfl,by show 1≤60; decide⟩
theorem a8H (a b:Rat):Av (cG a) (cG b)=decide (a=b):=by
 show((a.num==b.num)&&(((a.den:Int)==(b.den:Int))&&true))=decide (a=b)
 rw[Bool.and_true]
 by_cases e:a=b
 ·subst e; simp
 ·rw[decide_eq_false e];refine Ec.mpr fun h=>e ?_;rw[CT] at h;have h1:a.num=b.num:=beq_iff_eq.mp h.1;have h2:(a.den:Int)=(b.den:Int):=beq_iff_eq.mp h.2;exact EK h1 (by omega)
noncomputable def gQ (l:Rat×Rat):AJ:=.tuple [cG l.1,cG l.2]
noncomputable def aH4 (K:Ad):Sp:=fun vs H Q _=>∃(a:AB) (ns:List Int),vs=[.ref a]∧SqL K H a (ns.map V.int)∧ns.length≤63∧∀ H',Q (.bl true) H'
theorem aJZ {k:Nat}{t b:Int}(h:Bt k b)(h0:b≠0):Bt k (BK t b:Nat):=by
 unfold Bt at *;refine FK ?_ h;show BK t b≤b.natAbs;exact Nat.le_of_dvd (by omega) (Nat.gcd_dvd_right _ _)
theorem aJW {t b:Int}(h0:b≠0):((BK t b:Nat):Int)≠0:=by
 have:=Int.gcd_pos_of_ne_zero_right t h0;omega
end L2
abbrev Fg:=Ad
abbrev Mg:=PySem.Str→Option PySem.Value
namespace L2.VS
open PySem PySem.Spec PyProof.Rows
section
abbrev D:=AJ
structure Pb where
 P:V→Hp→Prop
 mono:∀{v G G'},Same G G'→P v G→P v G'
structure Bx where
 P:V→List AB→Hp→Hp→Prop
 mono:∀{v fp G G' H},Same G G'→P v fp G H→P v fp G' H
 loc:∀{v fp G H H'},(∀ b∈fp,H' b=H b)→P v fp G H→P v fp G H'
 dom:∀{v fp G H},P v fp G H→∀ b∈fp,∃ o,H b=some o
 uniq:∀{v fp fp' G H},P v fp G H→P v fp' G H→fp=fp'
 nt:∀{v fp G H},P v fp G H→∀ b∈fp,∀ xs,H b=some (.tup xs)→∃ q∈fp,V.ref q∈xs∧∃ vs,H q=some (.lst vs)
 view:Option D
 vok:∀{v fp G H G' d},P v fp G H→view=some d→Same G G'→(∀ b∈fp,G' b=H b)→Dt G' v d
 pv:Option Pb:=none
 pok:∀{v fp G H G' B},P v fp G H→pv=some B→Same G G'→(∀ b∈fp,G' b=H b)→B.P v G':=by intro _ _ _ _ _ _ _ z; cases z
inductive Sl where
 | no|val (d:D)|own (ds:List D)|pen|con (p:AB)|box (B:Bx)|pub (B:Pb)
abbrev En:=List Sl
inductive Rv where
 | val (d:D)|own (ds:List D)|box (B:Bx)
def Rv.d:Rv→D
 | .val d=>d
 | .own ds=>.list ds
 | .box B=>B.view.getD .none
def Rv.sl:Rv→Sl
 | .val d=>.val d
 | .own ds=>.own ds
 | .box B=>.box B
inductive Fl where
 | nx (Γ:En)|rt (r:Rv)|bk (Γ:En)|ct (Γ:En)
variable {P0:AB→Hp→Prop}
structure Fra (P0:AB→Hp→Prop) where
 H0:Hp
 G0:Hp
 pen:Option AB
 stab:∀ p,pen=some p→∀ H H',(∀ b o,H0 b=some o→H' b=H b)→P0 p H→P0 p H'
 pin:∀ p,pen=some p→∀ H,P0 p H→∃ o,H p=some o
 pin0:∀ p,pen=some p→∃ o,H0 p=some o
 pg:∀ p,pen=some p→G0 p=none
def Fra.PI (F:Fra P0)(H:Hp):Prop:=∀ p,F.pen=some p→P0 p H
theorem Fra.stab' (F:Fra P0):∀ H H',(∀ b o,F.H0 b=some o→H' b=H b)→F.PI H→F.PI H':=fun H H' h pi p e=>F.stab p e H H' h (pi p e)
structure Rf (F:Fra P0)(G H:Hp):Prop where
 sub:Same G H
 g0:∀ b o,F.H0 b=some o→G b=F.G0 b
 h0:∀ b o,F.H0 b=some o→F.pen≠some b→H b=some o
 pn:F.PI H
def SlF (F:Fra P0)(G H:Hp)(x:Option (Option V))(fp:List AB):Sl→Prop
 | .no=>fp=[]
 | .val d=>fp=[]∧∃ v,x=some (some v)∧Dt G v d
 | .own ds=>∃ p vs,fp=[p]∧x=some (some (.ref p))∧F.H0 p=none∧G p=none∧H p=some (.lst vs)∧Dts G vs ds
 | .pen=>fp=[]∧∃ p,x=some (some (.ref p))∧F.pen=some p
 | .con p=>fp=[]∧x=some (some (.ref p))
 | .pub B=>fp=[]∧∃ v,x=some (some v)∧B.P v G
 | .box B=>∃ v,x=some (some v)∧B.P v fp G H∧∀ b∈fp,F.H0 b=none∧G b=none
def aQJ (F:Fra P0)(G H:Hp)(x:Option (Option V)):Sl→Prop
 | .no=>True
 | .val d=>∃ v,x=some (some v)∧Dt G v d
 | .own ds=>∃ p vs,x=some (some (.ref p))∧F.H0 p=none∧G p=none∧H p=some (.lst vs)∧Dts G vs ds
 | .pen=>∃ p,x=some (some (.ref p))∧F.pen=some p
 | .con p=>x=some (some (.ref p))
 | .pub B=>∃ v,x=some (some v)∧B.P v G
 | .box B=>∃ v fp,x=some (some v)∧B.P v fp G H∧∀ b∈fp,F.H0 b=none∧G b=none
theorem SlF.ok {F:Fra P0}{G H:Hp}{x:Option (Option V)}{fp:List AB}:∀{s:Sl},SlF F G H x fp s→aQJ F G H x s
 | .no,_=>trivial
 | .val _,h=>h.2
 | .own _,h=>let ⟨p,vs,_,r⟩:=h; ⟨p,vs,r⟩
 | .pen,h=>h.2
 | .con _,h=>h.2
 | .pub _,h=>h.2
 | .box _,h=>let ⟨v,r⟩:=h; ⟨v,fp,r⟩
theorem SlF.mine {F:Fra P0}{G H:Hp}{x:Option (Option V)}{fp:List AB}{b:AB}(hb:b∈fp):∀{s:Sl},SlF F G H x fp s→F.H0 b=none∧G b=none∧∃ o,H b=some o
 | .no,h=>by rw[show fp=[] from h] at hb; cases hb
 | .val _,h=>by rw[h.1] at hb; cases hb
 | .own _,h=>by
  obtain⟨p,vs,e,_,h1,h2,h3,_⟩:=h;rw[e] at hb;rw[mem_singleton.mp hb];exact⟨h1,h2,_,h3⟩
 | .pen,h=>by rw[h.1] at hb; cases hb
 | .con _,h=>by rw[h.1] at hb; cases hb
 | .pub _,h=>by rw[h.1] at hb; cases hb
 | .box B,h=>by
  obtain⟨v,_,h2,h3⟩:=h;exact⟨(h3 b hb).1,(h3 b hb).2,B.dom h2 b hb⟩
theorem SlF.go {F:Fra P0}{G H G' H':Hp}{x:Option (Option V)}{fp:List AB}(g:Same G G')(k:∀ b∈fp,G' b=none∧H' b=H b):∀{s:Sl},SlF F G H x fp s→SlF F G' H' x fp s
 | .no,h=>h
 | .val _,h=>let ⟨e,v,e1,d1⟩:=h; ⟨e,v,e1,Dt.same g _ _ d1⟩
 | .own _,h=>by
  obtain⟨p,vs,e,e1,e2,e3,e4,e5⟩:=h;have:=k p (by rw[e]; exact mem_singleton.mpr rfl);exact⟨p,vs,e,e1,e2,this.1,this.2.trans e4,Dts.same g _ _ e5⟩
 | .pen,h=>h
 | .con _,h=>h
 | .pub B,h=>let ⟨e,v,e1,d1⟩:=h; ⟨e,v,e1,B.mono g d1⟩
 | .box B,h=>by
  obtain⟨v,h1,h2,h3⟩:=h;exact⟨v,h1,B.loc (fun b hb=>(k b hb).2) (B.mono g h2),fun b hb=>⟨(h3 b hb).1,(k b hb).1⟩⟩
structure R (F:Fra P0)(Γ:En)(σ:St)(G H:Hp):Prop where
 fr:Rf F G H
 len:Γ.length=σ.length
 fps:∃ fps:Nat→List AB,(∀(i:Nat) s,Γ[i]?=some s→SlF F G H σ[i]? (fps i) s)∧∀(i j:Nat) (s t:Sl),Γ[i]?=some s→Γ[j]?=some t→i≠j→∀ b∈fps i,b∉fps j
theorem R.sl {F:Fra P0}{Γ:En}{σ:St}{G H:Hp}(r:R F Γ σ G H)(i:Nat)(s:Sl)(e:Γ[i]?=some s):aQJ F G H σ[i]? s:=
 let ⟨_,h,_⟩:=r.fps; (h i s e).ok
theorem R.of {F:Fra P0}{Γ:En}{σ:St}{G H:Hp}(fr:Rf F G H)(len:Γ.length=σ.length)(sl:∀(i:Nat) s,Γ[i]?=some s→aQJ F G H σ[i]? s)(nb:∀(i:Nat) B,Γ[i]?≠some (.box B))
  (ap:∀(i j:Nat) x y,i≠j→Γ[i]?=some (.own x)→Γ[j]?=some (.own y)→σ[i]?≠σ[j]?):R F Γ σ G H:=by
 refine⟨fr,len,fun i=>match Γ[i]?,σ[i]? with|some (.own _),some (some (.ref p))=>[p]|_,_=>[],fun i s e=>?_,fun i j s t ei ej hij b hb hc=>?_⟩
 ·have h:=sl i s e
  cases s with
  | no=>simp only[e]; rfl
  | val d=>simp only[e]; exact⟨rfl,h⟩
  | own ds=>
   obtain⟨p,vs,e1,r⟩:=h;simp only[e,e1];exact⟨p,vs,rfl,rfl,r⟩
  | pen=>simp only[e]; exact⟨rfl,h⟩
  | con q=>simp only[e]; exact⟨rfl,h⟩
  | pub B=>simp only[e]; exact⟨rfl,h⟩
  | box B=>exact absurd e (nb i B)
 ·simp only[ei] at hb;simp only[ej] at hc
  cases s with
  | own x=>
   cases t with
   | own y=>
    split at hb
    ·rename_i p _ e1
     split at hc
     ·rename_i q _ e2
      have e1:=mem_singleton.mp hb;have e2:=mem_singleton.mp hc;exact ap i j x y hij ei ej (by simp_all)
     ·cases hc
    ·cases hb
   | _=>simp at hc
  | _=>simp at hb
section
variable {F:Fra P0}{Γ:En}{σ:St}{G H G' H':Hp}{p:AB}{o:HO}
theorem Rf.dom (h:Rf F G H){b:AB}(e:F.H0 b=some o):∃ o',H b=some o':=by
 by_cases hb:F.pen=some b
 ·exact F.pin b hb H (h.pn b hb)
 ·exact⟨o,h.h0 b o e hb⟩
theorem Rf.fresh (h:Rf F G H)(hp:H p=none):F.H0 p=none:=by
 cases e:F.H0 p with
 | none=>rfl
 | some o=>
  obtain⟨o',e'⟩:=h.dom e;rw[hp] at e'; cases e'
theorem Rf.gfresh (h:Rf F G H)(hp:H p=none):G p=none:=h.sub.free hp
theorem Rf.pub (h:Rf F G H)(hp:H p=none):Rf F (upd G p o) (upd H p o):=by
 have hf:=h.fresh hp;have hn:∀ b u,F.H0 b=some u→b≠p:=fun b u e z=>by rw[z,hf] at e; cases e
 refine⟨fun b u e=>?_,fun b u e=>?_,fun b u e hb=>?_,F.stab' H _ (fun b u e=>aY (hn b u e)) h.pn⟩
 ·by_cases hb:b=p
  ·subst hb; rw[bO] at e; cases e; exact bO
  ·rw[aY hb] at e ⊢; exact h.sub b u e
 ·rw[aY (hn b u e)]; exact h.g0 b u e
 ·rw[aY (hn b u e)]; exact h.h0 b u e hb
theorem Rf.priv (h:Rf F G H)(hp:F.H0 p=none)(hg:G p=none):Rf F G (upd H p o):=by
 have hn:∀ b u,F.H0 b=some u→b≠p:=fun b u e z=>by rw[z,hp] at e; cases e
 refine⟨fun b u e=>?_,h.g0,fun b u e hb=>?_,F.stab' H _ (fun b u e=>aY (hn b u e)) h.pn⟩
 ·rw[aY (bA e hg)]; exact h.sub b u e
 ·rw[aY (hn b u e)]; exact h.h0 b u e hb
theorem Rf.give (h:Rf F G H)(hp:F.H0 p=none)(hH:H p=some o):Rf F (upd G p o) H:=by
 have hn:∀ b u,F.H0 b=some u→b≠p:=fun b u e z=>by rw[z,hp] at e; cases e
 refine⟨fun b u e=>?_,fun b u e=>?_,h.h0,h.pn⟩
 ·by_cases hb:b=p
  ·subst hb; rw[bO] at e; cases e; exact hH
  ·rw[aY hb] at e; exact h.sub b u e
 ·rw[aY (hn b u e)]; exact h.g0 b u e
def R.Has (_:R F Γ σ G H)(b:AB):Prop:=∃(i:Nat) (s:Sl) (fp:List AB),Γ[i]?=some s∧SlF F G H σ[i]? fp s∧b∈fp
theorem R.keep (r:R F Γ σ G H)(f:Rf F G' H')(g:Same G G')
  (k:∀ b o,r.Has b→F.H0 b=none→G b=none→H b=some o→G' b=none∧H' b=some o):R F Γ σ G' H':=by
 obtain⟨fps,h1,h2⟩:=r.fps;refine⟨f,r.len,fps,fun i s e=>(h1 i s e).go g fun b hb=>?_,h2⟩;obtain⟨m1,m2,o,m3⟩:=(h1 i s e).mine hb;obtain⟨k1,k2⟩:=k b o ⟨i,s,fps i,e,h1 i s e,hb⟩ m1 m2 m3;exact⟨k1,k2.trans m3.symm⟩
theorem R.new (r:R F Γ σ G H)(hp:H p=none):R F Γ σ (upd G p o) (upd H p o):=by
 refine r.keep (r.fr.pub hp) (qJ (r.fr.gfresh hp) o) fun q u _ _ g h=>?_;have hq:q≠p:=bA h hp;rw[aY hq,aY hq];exact⟨g,h⟩
theorem R.newP (r:R F Γ σ G H)(hp:H p=none):R F Γ σ G (upd H p o):=by
 refine r.keep (r.fr.priv (r.fr.fresh hp) (r.fr.gfresh hp)) (Same.refl _) fun q u _ _ g h=>?_;have hq:q≠p:=bA h hp;rw[aY hq];exact⟨g,h⟩
def RvO (F:Fra P0)(G H:Hp)(r:V):Rv→Prop
 | .val d=>Dt G r d
 | .own ds=>∃ p vs,r=.ref p∧F.H0 p=none∧G p=none∧H p=some (.lst vs)∧Dts G vs ds
 | .box B=>∃ fp,B.P r fp G H∧∀ b∈fp,F.H0 b=none∧G b=none
def Apart (F:Fra P0)(Γ:En)(σ:St)(G H:Hp)(r:V):Rv→Prop
 | .val _=>True
 | .own _=>∀(i:Nat) s fp,Γ[i]?=some s→SlF F G H σ[i]? fp s→∀ p,r=.ref p→p∉fp
 | .box B=>∀(i:Nat) s fp f,Γ[i]?=some s→SlF F G H σ[i]? fp s→B.P r f G H→∀ b∈f,b∉fp
theorem R.give (r:R F Γ σ G H){v:V}{ds:List D}(h:RvO F G H v (.own ds))(ha:Apart F Γ σ G H v (.own ds)):∃ G',Same G G'∧R F Γ σ G' H∧Dt G' v (.list ds):=by
 obtain⟨p,vs,rfl,e1,e2,e3,e4⟩:=h;have g:=qJ e2 (.lst vs);refine⟨upd G p (.lst vs),g,r.keep (r.fr.give e1 e3) g fun q u hq _ eg eh=>⟨?_,eh⟩,.lst bO (Dts.same g _ _ e4)⟩;have hqp:q≠p:=fun z=>by
  obtain⟨i,s,fp,a1,a2,a3⟩:=hq;rw[z] at a3;exact ha i s fp a1 a2 p rfl a3
 rw[aY hqp];exact eg
theorem R.giveB (r:R F Γ σ G H){v:V}{B:Bx}{d:D}(h:RvO F G H v (.box B))(ha:Apart F Γ σ G H v (.box B))(hv:B.view=some d):∃ G',Same G G'∧R F Γ σ G' H∧Dt G' v d:=by
 obtain⟨fp,e1,e2⟩:=h;have g:Same G (fun b=>if b∈fp then H b else G b):=fun b o e=>by
  show(if b∈fp then H b else G b)=some o
  rw[if_neg (fun z=>by rw[(e2 b z).2] at e; cases e)];exact e
 refine⟨fun b=>if b∈fp then H b else G b,g,r.keep ⟨fun b o e=>?_,fun b o e=>?_,r.fr.h0,r.fr.pn⟩ g fun q u hq _ eg eh=>⟨?_,eh⟩,B.vok e1 hv g fun b hb=>if_pos hb⟩
 ·have e:(if b∈fp then H b else G b)=some o:=e
  split at e
  ·exact e
  ·exact r.fr.sub b o e
 ·show(if b∈fp then H b else G b)=_
  rw[if_neg (fun z=>by rw[(e2 b z).1] at e; cases e)];exact r.fr.g0 b o e
 ·obtain⟨i,s,f,a1,a2,a3⟩:=hq
  show(if q∈fp then H q else G q)=none
  rw[if_neg fun z=>ha i s f fp a1 a2 e1 q z a3];exact eg
theorem R.set (r:R F Γ σ G H){i:Nat}{v:V}{rv:Rv}(h:RvO F G H v rv)(ha:Apart F Γ σ G H v rv):R F (Γ.set i rv.sl) (σ.set i (some v)) G H:=by
 obtain⟨fps,h1,h2⟩:=r.fps;obtain⟨fp,hf,hd⟩:∃ fp,SlF F G H (some (some v)) fp rv.sl∧∀(j:Nat) s,Γ[j]?=some s→∀ b∈fp,b∉fps j:=by
  cases rv with
  | val d=>exact⟨[],⟨rfl,v,rfl,h⟩,fun j s _ b hb=>nomatch hb⟩
  | own ds=>
   obtain⟨p,vs,rfl,q⟩:=h;exact⟨[p],⟨p,vs,rfl,rfl,q⟩,fun j s ej b hb=>by rw[mem_singleton.mp hb]; exact ha j s (fps j) ej (h1 j s ej) p rfl⟩
  | box B=>
   obtain⟨fp,q1,q2⟩:=h;exact⟨fp,⟨v,rfl,q1,q2⟩,fun j s ej b hb=>ha j s (fps j) fp ej (h1 j s ej) q1 b hb⟩
 have lt:∀{m:Nat} {z},(Γ.set i rv.sl)[m]?=some z→m<Γ.length:=fun e=>by
  have:=(List.getElem?_eq_some_iff.mp e).1;simpa using this
 have old:∀{m:Nat} {z},m≠i→(Γ.set i rv.sl)[m]?=some z→Γ[m]?=some z:=fun hm e=>by rw[Bh (Ne.symm hm)] at e; exact e
 refine⟨r.fr,by rw[CO,CO]; exact r.len,fun j=>if j=i then fp else fps j,fun j s e=>?_,fun j k s t ej ek hjk b hb hc=>?_⟩
 ·dsimp only
  by_cases hj:j=i
  ·subst hj;have hi:=lt e;rw[Bn hi] at e;rw[if_pos rfl,Bn (by rw[← r.len]; exact hi)]
   cases e
   exact hf
  ·rw[if_neg hj,Bh (Ne.symm hj)];exact h1 j s (old hj e)
 ·dsimp only at hb hc
  by_cases hj:j=i
  ·have hk:k≠i:=fun z=>hjk (hj.trans z.symm);rw[if_pos hj] at hb;rw[if_neg hk] at hc;exact hd k t (old hk ek) b hb hc
  ·rw[if_neg hj] at hb
   by_cases hk:k=i
   ·rw[if_pos hk] at hc;exact hd j s (old hj ej) b hc hb
   ·rw[if_neg hk] at hc;exact h2 j k s t (old hj ej) (old hk ek) hjk b hb hc
theorem R.setV (r:R F Γ σ G H){i:Nat}{v:V}{d:D}(h:Dt G v d):R F (Γ.set i (.val d)) (σ.set i (some v)) G H:=r.set (rv:=.val d) h trivial
theorem R.drop (r:R F Γ σ G H)(i:Nat):R F (Γ.set i .no) σ G H:=by
 obtain⟨fps,h1,h2⟩:=r.fps;have back:∀{m z},m≠i→(Γ.set i .no)[m]?=some z→Γ[m]?=some z:=fun{m z} hm e=>by rw[Bh (Ne.symm hm)] at e; exact e
 refine⟨r.fr,by rw[CO]; exact r.len,fun j=>if j=i then[] else fps j,fun j s e=>?_,fun j k s t ej ek hjk b hb hc=>?_⟩
 ·dsimp only
  by_cases hj:j=i
  ·subst hj;have hi:j<Γ.length:=by
    have:=(List.getElem?_eq_some_iff.mp e).1;simpa using this
   rw[Bn hi] at e
   cases e
   rw[if_pos rfl];rfl
  ·rw[if_neg hj];exact h1 j s (back hj e)
 ·dsimp only at hb hc
  by_cases hj:j=i
  ·rw[if_pos hj] at hb; cases hb
  ·rw[if_neg hj] at hb
   by_cases hk:k=i
   ·rw[if_pos hk] at hc; cases hc
   ·rw[if_neg hk] at hc;exact h2 j k s t (back hj ej) (back hk ek) hjk b hb hc
theorem R.writeF (r:R F Γ σ G H){i:Nat}{s0 s1:Sl}{H':Hp}(e:Γ[i]?=some s0)(fr:Rf F G H')(h:∀ fp,SlF F G H σ[i]? fp s0→∃ fp',SlF F G H' σ[i]? fp' s1∧(∀ b,b∉fp→(∃ o,H b=some o)→H' b=H b∧b∉fp')):R F (Γ.set i s1) σ G H':=by
 obtain⟨fps,h1,h2⟩:=r.fps;obtain⟨fp',w1,w2⟩:=h (fps i) (h1 i s0 e);have hi:i<Γ.length:=(List.getElem?_eq_some_iff.mp e).1;have back:∀{m z},m≠i→(Γ.set i s1)[m]?=some z→Γ[m]?=some z:=fun{m z} hm e=>by rw[Bh (Ne.symm hm)] at e; exact e
 have away:∀{j:Nat} {s:Sl},j≠i→Γ[j]?=some s→∀ b∈fps j,H' b=H b∧b∉fp':=fun hj ej b hb=>
  w2 b (fun z=>h2 _ i _ s0 ej e hj b hb z) ((h1 _ _ ej).mine hb).2.2
 refine⟨fr,by rw[CO]; exact r.len,fun j=>if j=i then fp' else fps j,fun j s ej=>?_,fun j k s t ej ek hjk b hb hc=>?_⟩
 ·dsimp only
  by_cases hj:j=i
  ·subst hj;rw[Bn hi] at ej
   cases ej
   rw[if_pos rfl];exact w1
  ·rw[if_neg hj];have e0:=back hj ej;exact(h1 j s e0).go (Same.refl _) fun b hb=>⟨((h1 j s e0).mine hb).2.1,(away hj e0 b hb).1⟩
 ·dsimp only at hb hc
  by_cases hj:j=i
  ·have hk:k≠i:=fun z=>hjk (hj.trans z.symm);rw[if_pos hj] at hb;rw[if_neg hk] at hc;exact(away hk (back hk ek) b hc).2 hb
  ·rw[if_neg hj] at hb
   by_cases hk:k=i
   ·rw[if_pos hk] at hc;exact(away hj (back hj ej) b hb).2 hc
   ·rw[if_neg hk] at hc;exact h2 j k s t (back hj ej) (back hk ek) hjk b hb hc
theorem R.write (r:R F Γ σ G H){i:Nat}{ds es:List D}{p:AB}{ws:List V}(e:Γ[i]?=some (.own ds))(ep:σ[i]?=some (some (.ref p)))(hw:Dts G ws es):R F (Γ.set i (.own es)) σ G (upd H p (.lst ws)):=by
 obtain⟨p',vs,e1,e2,e3,e4,e5⟩:=r.sl i _ e;rw[ep] at e1; cases e1;refine r.writeF e (r.fr.priv e2 e3) fun fp h=>?_;obtain⟨q,us,f0,f1,f2,f3,f4,f5⟩:=h;rw[ep] at f1; cases f1;refine⟨[p],⟨p,ws,rfl,ep,e2,e3,bO,hw⟩,fun b hb _=>?_⟩;have hbp:b≠p:=fun z=>hb (by rw[f0,z]; exact mem_singleton.mpr rfl);exact⟨aY hbp,fun z=>hbp (mem_singleton.mp z)⟩
end
abbrev ME:=En→(D→En→Prop)→Prop
abbrev MO:=En→(Rv→En→Prop)→Prop
abbrev MT:=En→(Bool→En→Prop)→Prop
abbrev MA:=En→(List Sl→En→Prop)→Prop
abbrev MD:=En→(List D→En→Prop)→Prop
abbrev MG:=D→En→(En→Prop)→Prop
abbrev MGs:=List D→En→(En→Prop)→Prop
abbrev MS:=En→(Fl→Prop)→Prop
abbrev Fm:=List Sl→(Rv→Prop)→Prop
def VT (P0:AB→Hp→Prop)(t:TE)(m:ME):Prop:=∀(F:Fra P0) (Γ:En) (σ:St) (G H:Hp) (Q:VK) (Qm:D→En→Prop),R F Γ σ G H→m Γ Qm →
 (∀ d Γ' r G' H',Qm d Γ'→Same G G'→R F Γ' σ G' H'→Dt G' r d→Q r H')→t σ H Q
def VO (P0:AB→Hp→Prop)(t:TE)(m:MO):Prop:=∀(F:Fra P0) (Γ:En) (σ:St) (G H:Hp) (Q:VK) (Qm:Rv→En→Prop),R F Γ σ G H→m Γ Qm →
 (∀ rv Γ' r G' H',Qm rv Γ'→Same G G'→R F Γ' σ G' H'→RvO F G' H' r rv→Apart F Γ' σ G' H' r rv→Q r H')→t σ H Q
def VTT (P0:AB→Hp→Prop)(t:TT)(m:MT):Prop:=∀(F:Fra P0) (Γ:En) (σ:St) (G H:Hp) (Q:Bool→Hp→Prop) (Qm:Bool→En→Prop),R F Γ σ G H→m Γ Qm →
 (∀ b Γ' G' H',Qm b Γ'→Same G G'→R F Γ' σ G' H'→Q b H')→t σ H Q
def VD (P0:AB→Hp→Prop)(t:TA)(m:MD):Prop:=∀(F:Fra P0) (Γ:En) (σ:St) (G H:Hp) (Q:List V→Hp→Prop) (Qm:List D→En→Prop),R F Γ σ G H→m Γ Qm →
 (∀ ds Γ' rs G' H',Qm ds Γ'→Same G G'→R F Γ' σ G' H'→Dts G' rs ds→Q rs H')→t σ H Q
def aE7 (F:Fra P0)(G:Hp)(r:V):Sl→Prop
 | .val d=>Dt G r d
 | .pen=>∃ p,r=.ref p∧F.pen=some p
 | .con p=>r=.ref p
 | .pub B=>B.P r G
 | _=>False
def VA (P0:AB→Hp→Prop)(t:TA)(m:MA):Prop:=∀(F:Fra P0) (Γ:En) (σ:St) (G H:Hp) (Q:List V→Hp→Prop) (Qm:List Sl→En→Prop),R F Γ σ G H→m Γ Qm →
 (∀ as Γ' rs G' H',Qm as Γ'→Same G G'→R F Γ' σ G' H'→AX (aE7 F G') rs as→Q rs H')→t σ H Q
def VG (P0:AB→Hp→Prop)(A:Nat→Bool)(g:TG)(m:MG):Prop:=∀(F:Fra P0) (Γ:En) (σ:St) (G H:Hp) (v:V) (d:D) (Q:St→Hp→Prop) (Qm:En→Prop),R F Γ σ G H→Dt G v d→m d Γ Qm →
 (∀ Γ' σ',Qm Γ'→R F Γ' σ' G H→(∀ i,A i=false→σ'[i]?=σ[i]?)→Q σ' H)→g v σ H Q
def VGs (P0:AB→Hp→Prop)(A:Nat→Bool)(g:TGs)(m:MGs):Prop:=∀(F:Fra P0) (Γ:En) (σ:St) (G H:Hp) (vs:List V) (ds:List D) (Q:St→Hp→Prop) (Qm:En→Prop),R F Γ σ G H→Dts G vs ds→m ds Γ Qm →
 (∀ Γ' σ',Qm Γ'→R F Γ' σ' G H→(∀ i,A i=false→σ'[i]?=σ[i]?)→Q σ' H)→g vs σ H Q
def Post (F:Fra P0)(A:Nat→Bool)(σ0:St)(G:Hp)(E:Ends):Fl→Prop
 | .nx Γ=>∀ σ G' H',Same G G'→R F Γ σ G' H'→(∀ i,A i=false→σ[i]?=σ0[i]?)→E.nx σ H'
 | .rt rv=>∀ r G' H',Same G G'→Rf F G' H'→RvO F G' H' r rv→E.rt r H'
 | .bk Γ=>∀ σ G' H',Same G G'→R F Γ σ G' H'→(∀ i,A i=false→σ[i]?=σ0[i]?)→E.bk σ H'
 | .ct Γ=>∀ σ G' H',Same G G'→R F Γ σ G' H'→(∀ i,A i=false→σ[i]?=σ0[i]?)→E.ct σ H'
def VSA (P0:AB→Hp→Prop)(A:Nat→Bool)(t:TS)(m:MS):Prop:=∀(F:Fra P0) (Γ:En) (σ:St) (G H:Hp) (E:Ends) (Qm:Fl→Prop),R F Γ σ G H→m Γ Qm→(∀ fl,Qm fl→Post F A σ G E fl)→t E σ H
abbrev aSP:Nat→Bool:=fun _=>true
abbrev VS (P0:AB→Hp→Prop)(t:TS)(m:MS):Prop:=VSA P0 aSP t m
theorem Post.same {F:Fra P0}{A:Nat→Bool}{σ0 σ1:St}{G G':Hp}{E:Ends}(g:Same G G')(hσ:∀ i,A i=false→σ1[i]?=σ0[i]?):∀{fl:Fl},Post F A σ0 G E fl→Post F A σ1 G' E fl
 | .nx _,h=>fun σ G2 H2 s r e=>h σ G2 H2 (g.trans s) r fun i hi=>(e i hi).trans (hσ i hi)
 | .rt _,h=>fun r G2 H2 s=>h r G2 H2 (g.trans s)
 | .bk _,h=>fun σ G2 H2 s r e=>h σ G2 H2 (g.trans s) r fun i hi=>(e i hi).trans (hσ i hi)
 | .ct _,h=>fun σ G2 H2 s r e=>h σ G2 H2 (g.trans s) r fun i hi=>(e i hi).trans (hσ i hi)
def SsX (P0:AB→Hp→Prop)(X:Cx)(sts:List AO)(m:MS):Prop:=∃ t,PSs X sts t∧VS P0 t m
end
section
variable {P0:AB→Hp→Prop}
theorem _root_.L2.Dts.get {G:Hp}:∀{vs:List V} {ds:List D} {i:Nat} {d:D},Dts G vs ds→ds[i]?=some d→∃ v,vs[i]?=some v∧Dt G v d
 := by
  intro vs ds i d h e
  induction ds generalizing vs i with
  | nil=>cases e
  | cons x ds ih=>
    cases h with
    | cons a b=>
      cases i with
      | zero=>cases e; exact⟨_,rfl,a⟩
      | succ i=>
        have q:=ih b (show ds[i]?=some d from e);exact q
theorem _root_.L2.Dts.len {G:Hp}:∀{vs:List V} {ds:List D},Dts G vs ds→vs.length=ds.length
 := by
  intro vs ds h
  induction ds generalizing vs with
  | nil=>cases h; rfl
  | cons x ds ih=>cases h with|cons a b=>exact congrArg Nat.succ (ih b)
theorem _root_.L2.Dts.app {G:Hp}:∀{vs ws:List V} {ds es:List D},Dts G vs ds→Dts G ws es→Dts G (vs++ws) (ds++es)
 := by
  intro vs ws ds es h g
  induction ds generalizing vs with
  | nil=>cases h; exact g
  | cons x ds ih=>cases h with|cons a b=>exact .cons a (ih b)
theorem _root_.L2.Dts.drp {G:Hp}:∀{vs:List V} {ds:List D} (n:Nat),Dts G vs ds→Dts G (vs.drop n) (ds.drop n)
 | _,_,0,h=>h
 | _,_,_+1,.nil=>.nil
 | _,_,n+1,.cons _ b=>Dts.drp n b
theorem _root_.L2.Dts.tak {G:Hp}:∀{vs:List V} {ds:List D} (n:Nat),Dts G vs ds→Dts G (vs.take n) (ds.take n)
 | _,_,0,_=>.nil
 | _,_,_+1,.nil=>.nil
 | _,_,n+1,.cons a b=>.cons a (Dts.tak n b)
def oQ (o:Option D)(k:D→Prop):Prop:=match o with
 | some d=>k d
 | none=>False
theorem aER {o:Option D}{k:D→Prop}(h:oQ o k):∃ d,o=some d∧k d:=by
 cases o with
 | none=>exact h.elim
 | some d=>exact⟨d,rfl,h⟩
def mC (d:D):ME:=fun Γ Q=>Q d Γ
def aN (i:Nat):ME:=fun Γ Q=>match Γ[i]? with
 | some (.val d)=>Q d Γ
 | _=>False
def mI0 (g:Int→Int→D)(ma mb:ME):ME:=fun Γ Q=>ma Γ fun x Γ1=>mb Γ1 fun y Γ2=>match x,y with
 | .int i,.int j=>Q (g i j) Γ2
 | _,_=>False
def mI (C:Int→Int→Prop)(g:Int→Int→D)(ma mb:ME):ME:=fun Γ Q=>ma Γ fun x Γ1=>mb Γ1 fun y Γ2=>match x,y with
 | .int i,.int j=>C i j∧Q (g i j) Γ2
 | _,_=>False
def mU (g:Int→D)(ma:ME):ME:=fun Γ Q=>ma Γ fun x Γ1=>match x with
 | .int i=>Q (g i) Γ1
 | _=>False
def mEq (ma mb:ME):ME:=fun Γ Q=>ma Γ fun x Γ1=>mb Γ1 fun y Γ2=>Good x∧Good y∧Q (.bool (Av x y)) Γ2
def mNe (ma mb:ME):ME:=fun Γ Q=>ma Γ fun x Γ1=>mb Γ1 fun y Γ2=>Good x∧Good y∧Q (.bool (!PyData.eqv x y)) Γ2
def isN:D→Bool
 | .none=>true
 | _=>false
def aM6 (ma:ME):ME:=fun Γ Q=>ma Γ fun x Γ1=>Q (.bool (isN x)) Γ1
def aFM (ma:ME):ME:=fun Γ Q=>ma Γ fun x Γ1=>Q (.bool (!isN x)) Γ1
def aGN (ma mb:ME):ME:=fun Γ Q=>ma Γ fun x Γ1=>match x with
 | .bool c=>if c=true then mb Γ1 Q else Q (.bool false) Γ1
 | _=>False
def aBV (ma:ME):ME:=fun Γ Q=>ma Γ fun x Γ1=>match x with
 | .bool c=>Q (.bool (!c)) Γ1
 | _=>False
def eX (ma:ME):MT:=fun Γ Q=>ma Γ fun x Γ1=>match x with
 | .bool c=>Q c Γ1
 | _=>False
def aJM (ma mb:MT):MT:=fun Γ Q=>ma Γ fun c Γ1=>if c=true then mb Γ1 Q else Q false Γ1
def mOr (ma mb:MT):MT:=fun Γ Q=>ma Γ fun c Γ1=>if c=true then Q true Γ1 else mb Γ1 Q
def aFN (ma:MT):MT:=fun Γ Q=>ma Γ fun c Γ1=>Q (!c) Γ1
def aP6 (mc:MT)(ma mb:MO):MO:=fun Γ Q=>mc Γ fun c Γ1=>if c=true then ma Γ1 Q else mb Γ1 Q
def eF:MD:=fun Γ Q=>Q [] Γ
def bG (ma:ME)(mr:MD):MD:=fun Γ Q=>ma Γ fun x Γ1=>mr Γ1 fun xs Γ2=>Q (x::xs) Γ2
def bY:MA:=fun Γ Q=>Q [] Γ
def bB (ma:ME)(mr:MA):MA:=fun Γ Q=>ma Γ fun x Γ1=>mr Γ1 fun xs Γ2=>Q (.val x::xs) Γ2
def qX (i:Nat)(mr:MA):MA:=fun Γ Q=>match Γ[i]? with
 | some .pen=>mr Γ fun xs Γ2=>Q (.pen::xs) Γ2
 | _=>False
def mW (md:MD):ME:=fun Γ Q=>md Γ fun ds Γ1=>ds.length≤1000∧Q (.tuple ds) Γ1
def a4S (md:MD):MO:=fun Γ Q=>md Γ fun ds Γ1=>ds.length≤1000∧Q (.own ds) Γ1
def ixD:D→D→Option D
 | .tuple ds,.int i=>atI ds i
 | .list ds,.int i=>atI ds i
 | _,_=>none
def mIx (ma mb:ME):ME:=fun Γ Q=>ma Γ fun x Γ1=>mb Γ1 fun y Γ2=>oQ (ixD x y) fun d=>Q d Γ2
def nbQ:Rv→Prop→Prop
 | .box B,p=>B.view.isSome=true∧p
 | _,p=>p
def bZ (mo:MO):ME:=fun Γ Q=>mo Γ fun rv Γ1=>nbQ rv (Q rv.d Γ1)
def cN (m:ME):MO:=fun Γ Q=>m Γ fun d Γ1=>Q (.val d) Γ1
def a1C (i:Nat):MO:=fun Γ Q=>match Γ[i]? with
 | some (.val d)=>Q (.val d) Γ
 | some (.own ds)=>Q (.own ds) (Γ.set i .no)
 | some (.box B)=>Q (.box B) (Γ.set i .no)
 | _=>False
def aZ (n:Nat)(f:Fm)(ma:MA):MO:=fun Γ Q=>ma Γ fun as Γ1=>as.length=n∧f as fun rv=>Q rv Γ1
def aK4:D→Option D
 | .tuple ds=>some (.int ds.length)
 | .list ds=>some (.int ds.length)
 | _=>none
def xG (ma:ME):ME:=fun Γ Q=>ma Γ fun x Γ1=>oQ (aK4 x) fun d=>Q d Γ1
def yF:D→Option (List D)
 | .tuple ds=>some ds
 | .list ds=>some ds
 | _=>none
def aLR (ma:ME):MO:=fun Γ Q=>ma Γ fun x Γ1=>match yF x with
 | some ds=>Q (.own ds) Γ1
 | none=>False
def cutD (xs:List D)(lo hi:Option Int):List D:=(xs.drop (HT.sIx xs.length 0 lo)).take (HT.sIx xs.length xs.length hi-HT.sIx xs.length 0 lo)
abbrev MP:=En→(Option Int→En→Prop)→Prop
def pNo:MP:=fun Γ Q=>Q none Γ
def pSo (m:ME):MP:=fun Γ Q=>m Γ fun x Γ1=>match x with
 | .int i=>Q (some i) Γ1
 | _=>False
def aP3 (ma:ME)(ml mh:MP):MO:=fun Γ Q=>ma Γ fun x Γ1=>ml Γ1 fun lo Γ2=>mh Γ2 fun hi Γ3=>match x with
 | .list ds=>Q (.own (cutD ds lo hi)) Γ3
 | _=>False
def aPY (ma mb:ME):MO:=fun Γ Q=>ma Γ fun x Γ1=>mb Γ1 fun y Γ2=>match x,y with
 | .list ds,.list es=>ds.length+es.length≤1000∧Q (.own (ds++es)) Γ2
 | _,_=>False
def VP (P0:AB→Hp→Prop)(t:TO)(m:MP):Prop:=∀(F:Fra P0) (Γ:En) (σ:St) (G H:Hp) (Q:Option Int→Hp→Prop) (Qm:Option Int→En→Prop),R F Γ σ G H→m Γ Qm →
 (∀ d Γ' G' H',Qm d Γ'→Same G G'→R F Γ' σ G' H'→Q d H')→t σ H Q
section
variable {ta tb tc:TE}{ma mb:ME}{tA tB':TT}{mA mB:MT}{K:Fg}
theorem aP1 {v:V}{d:D}(h:∀ G,Dt G v d):VT P0 (tC v) (mC d):=fun _ _ _ G _ _ _ r m k=>k _ _ _ _ _ m (Same.refl _) r (h G)
theorem aB {i:Nat}:VT P0 (a7M i) (aN i):=by
 intro F Γ σ G H Q Qm r m k;unfold aN at m
 split at m
 ·rename_i d e
  obtain⟨v,e1,d1⟩:=r.sl i _ e;exact⟨v,e1,k _ _ _ _ _ m (Same.refl _) r d1⟩
 ·exact m.elim
theorem aM2 {r2:R2}{m2:D→D→(D→Prop)→Prop}(ha:VT P0 ta ma)(hb:VT P0 tb mb)
  (h:∀(F:Fra P0) (Γ:En) (σ:St) (G H:Hp) (x y:V) (d e:D) (Q:VK) (Qm:D→Prop),R F Γ σ G H→Dt G x d→Dt G y e→m2 d e Qm→(∀ u r G' H',Qm u→Same G G'→R F Γ σ G' H'→Dt G' r u→Q r H')→r2 x y H Q) :
  VT P0 (tOp r2 ta tb) (fun Γ Q=>ma Γ fun x Γ1=>mb Γ1 fun y Γ2=>m2 x y fun d=>Q d Γ2):=by
 intro F Γ σ G H Q Qm r m k;refine ha F Γ σ G H _ _ r m fun d Γ1 x G1 H1 m1 s1 r1 d1=>?_;refine hb F Γ1 σ G1 H1 _ _ r1 m1 fun e Γ2 y G2 H2 m2 s2 r2 d2=>?_;exact h F Γ2 σ G2 H2 x y d e _ _ r2 (Dt.same s2 _ _ d1) d2 m2 fun u w G3 H3 q s3 r3 d3=>k _ _ _ _ _ q ((s1.trans s2).trans s3) r3 d3
theorem aCY {gv:Int→Int→V}{g:Int→Int→D}(hg:∀ G i j,Dt G (gv i j) (g i j))(ha:VT P0 ta ma)(hb:VT P0 tb mb):VT P0 (tOp (rI0 gv) ta tb) (mI0 g ma mb):=by
 refine aM2 (m2:=fun x y Q=>match x,y with|.int i,.int j=>Q (g i j)|_,_=>False) ha hb fun F Γ σ G H x y d e Q Qm r d1 d2 m k=>?_
 split at m
 ·cases d1; cases d2
  exact⟨_,_,rfl,rfl,k _ _ _ _ m (Same.refl _) r (hg _ _ _)⟩
 ·exact m.elim
theorem aQZ {C:Int→Int→Prop}{gv:Int→Int→V}{g:Int→Int→D}(hg:∀ G i j,Dt G (gv i j) (g i j))(ha:VT P0 ta ma)(hb:VT P0 tb mb):VT P0 (tOp (rI C gv) ta tb) (mI C g ma mb):=by
 refine aM2 (m2:=fun x y Q=>match x,y with|.int i,.int j=>C i j∧Q (g i j)|_,_=>False) ha hb fun F Γ σ G H x y d e Q Qm r d1 d2 m k=>?_
 split at m
 ·cases d1; cases d2
  exact⟨_,_,rfl,rfl,m.1,k _ _ _ _ m.2 (Same.refl _) r (hg _ _ _)⟩
 ·exact m.elim
theorem aSK {gv:Int→V}{g:Int→D}(hg:∀ G i,Dt G (gv i) (g i))(ha:VT P0 ta ma):VT P0 (tUn (rU gv) ta) (mU g ma):=by
 intro F Γ σ G H Q Qm r m k;refine ha F Γ σ G H _ _ r m fun d Γ1 x G1 H1 m1 s1 r1 d1=>?_
 split at m1
 ·cases d1
  exact⟨_,rfl,k _ _ _ _ _ m1 s1 r1 (hg _ _)⟩
 ·exact m1.elim
theorem wU (ha:VT P0 ta ma)(hb:VT P0 tb mb):VT P0 (tOp aRE ta tb) (mEq ma mb):=by
 refine aM2 (m2:=fun x y Q=>Good x∧Good y∧Q (.bool (Av x y))) ha hb fun F Γ σ G H x y d e Q Qm r d1 d2 m k=>?_;exact⟨d,e,Dt.same r.fr.sub _ _ d1,Dt.same r.fr.sub _ _ d2,m.1,m.2.1,k _ _ _ _ m.2.2 (Same.refl _) r (.bl _)⟩
theorem rM (ha:VT P0 ta ma)(hb:VT P0 tb mb):VT P0 (tOp aRB ta tb) (mNe ma mb):=by
 refine aM2 (m2:=fun x y Q=>Good x∧Good y∧Q (.bool (!PyData.eqv x y))) ha hb fun F Γ σ G H x y d e Q Qm r d1 d2 m k=>?_;exact⟨d,e,Dt.same r.fr.sub _ _ d1,Dt.same r.fr.sub _ _ d2,m.1,m.2.1,k _ _ _ _ m.2.2 (Same.refl _) r (.bl _)⟩
theorem aJB {G:Hp}{x:V}{d:D}(h:Dt G x d):decide (x=V.non)=isN d:=by
 cases h<;>first|rfl|exact decide_eq_false (by intro z; cases z)
theorem a9B (ha:VT P0 ta ma):VT P0 (tOp (fun x y H Q=>y=.non∧Q (.bl (decide (x=.non))) H) ta (tC .non)) (aM6 ma):=by
 intro F Γ σ G H Q Qm r m k;refine ha F Γ σ G H _ _ r m fun d Γ1 x G1 H1 m1 s1 r1 d1=>⟨rfl,?_⟩;rw[aJB d1];exact k _ _ _ _ _ m1 s1 r1 (.bl _)
theorem a8M (ha:VT P0 ta ma):VT P0 (tOp (fun x y H Q=>y=.non∧Q (.bl (!decide (x=.non))) H) ta (tC .non)) (aFM ma):=by
 intro F Γ σ G H Q Qm r m k;refine ha F Γ σ G H _ _ r m fun d Γ1 x G1 H1 m1 s1 r1 d1=>⟨rfl,?_⟩;rw[aJB d1];exact k _ _ _ _ _ m1 s1 r1 (.bl _)
theorem aJ1 (ha:VT P0 ta ma)(hb:VT P0 tb mb):VT P0 (aNN ta tb) (aGN ma mb):=by
 intro F Γ σ G H Q Qm r m k;refine ha F Γ σ G H _ _ r m fun d Γ1 x G1 H1 m1 s1 r1 d1=>?_
 split at m1
 ·rename_i c
  cases d1
  refine⟨c,rfl,?_⟩
  cases c with
  | true=>exact a4U (hb F Γ1 σ G1 H1 _ _ r1 m1 fun e Γ2 y G2 H2 m2 s2 r2 d2=>k _ _ _ _ _ m2 (s1.trans s2) r2 d2)
  | false=>exact a5C (k _ _ _ _ _ m1 s1 r1 (.bl _))
 ·exact m1.elim
theorem aCS (ha:VT P0 ta ma):VT P0 (aMA ta) (aBV ma):=by
 intro F Γ σ G H Q Qm r m k;refine ha F Γ σ G H _ _ r m fun d Γ1 x G1 H1 m1 s1 r1 d1=>?_
 split at m1
 ·cases d1
  exact⟨_,rfl,k _ _ _ _ _ m1 s1 r1 (.bl _)⟩
 ·exact m1.elim
theorem bQ (ha:VT P0 ta ma):VTT P0 (aO9 ta) (eX ma):=by
 intro F Γ σ G H Q Qm r m k;refine ha F Γ σ G H _ _ r m fun d Γ1 x G1 H1 m1 s1 r1 d1=>?_
 split at m1
 ·cases d1
  exact⟨_,rfl,k _ _ _ _ m1 s1 r1⟩
 ·exact m1.elim
theorem lD (ha:VT P0 ta ma):VTT P0 (tB ta) (eX ma):=bQ ha
theorem uR (ha:VTT P0 tA mA)(hb:VTT P0 tB' mB):VTT P0 (aRN tA tB') (aJM mA mB):=by
 intro F Γ σ G H Q Qm r m k;refine ha F Γ σ G H _ _ r m fun c Γ1 G1 H1 m1 s1 r1=>?_
 cases c with
 | true=>exact a4U (hb F Γ1 σ G1 H1 _ _ r1 m1 fun e Γ2 G2 H2 m2 s2 r2=>k _ _ _ _ m2 (s1.trans s2) r2)
 | false=>exact a5C (k _ _ _ _ m1 s1 r1)
theorem a1F (ha:VTT P0 tA mA)(hb:VTT P0 tB' mB):VTT P0 (tOr tA tB') (mOr mA mB):=by
 intro F Γ σ G H Q Qm r m k;refine ha F Γ σ G H _ _ r m fun c Γ1 G1 H1 m1 s1 r1=>?_
 cases c with
 | true=>exact a4U (k _ _ _ _ m1 s1 r1)
 | false=>exact a5C (hb F Γ1 σ G1 H1 _ _ r1 m1 fun e Γ2 G2 H2 m2 s2 r2=>k _ _ _ _ m2 (s1.trans s2) r2)
theorem nR (ha:VTT P0 tA mA):VTT P0 (aR8 tA) (aFN mA):=by
 intro F Γ σ G H Q Qm r m k;exact ha F Γ σ G H _ _ r m fun c Γ1 G1 H1 m1 s1 r1=>k _ _ _ _ m1 s1 r1
theorem aJC {oa ob:MO}(hc:VTT P0 tA mA)(ha:VO P0 ta oa)(hb:VO P0 tb ob):VO P0 (tIf tA ta tb) (aP6 mA oa ob):=by
 intro F Γ σ G H Q Qm r m k;refine hc F Γ σ G H _ _ r m fun c Γ1 G1 H1 m1 s1 r1=>?_
 cases c with
 | true=>exact a4U (ha F Γ1 σ G1 H1 _ _ r1 m1 fun e Γ2 y G2 H2 m2 s2 r2 d2 a2=>k _ _ _ _ _ m2 (s1.trans s2) r2 d2 a2)
 | false=>exact a5C (hb F Γ1 σ G1 H1 _ _ r1 m1 fun e Γ2 y G2 H2 m2 s2 r2 d2 a2=>k _ _ _ _ _ m2 (s1.trans s2) r2 d2 a2)
theorem bK:VD P0 xM eF:=fun _ _ _ _ _ _ _ r m k=>k _ _ _ _ _ m (Same.refl _) r .nil
theorem aO {tr:TA}{mr:MD}(ha:VT P0 ta ma)(hr:VD P0 tr mr):VD P0 (fB ta tr) (bG ma mr):=by
 intro F Γ σ G H Q Qm r m k;refine ha F Γ σ G H _ _ r m fun d Γ1 x G1 H1 m1 s1 r1 d1=>?_;exact hr F Γ1 σ G1 H1 _ _ r1 m1 fun e Γ2 y G2 H2 m2 s2 r2 d2=>k _ _ _ _ _ m2 (s1.trans s2) r2 (.cons (Dt.same s2 _ _ d1) d2)
theorem aP:VA P0 xM bY:=fun _ _ _ _ _ _ _ r m k=>k _ _ _ _ _ m (Same.refl _) r .nil
theorem aF {tr:TA}{mr:MA}(ha:VT P0 ta ma)(hr:VA P0 tr mr):VA P0 (fB ta tr) (bB ma mr):=by
 intro F Γ σ G H Q Qm r m k;refine ha F Γ σ G H _ _ r m fun d Γ1 x G1 H1 m1 s1 r1 d1=>?_;exact hr F Γ1 σ G1 H1 _ _ r1 m1 fun e Γ2 y G2 H2 m2 s2 r2 d2=>k _ _ _ _ _ m2 (s1.trans s2) r2 (.cons (Dt.same s2 _ _ d1) d2)
theorem dB {i:Nat}{tr:TA}{mr:MA}(hr:VA P0 tr mr):VA P0 (fB (a7M i) tr) (qX i mr):=by
 intro F Γ σ G H Q Qm r m k;unfold qX at m
 split at m
 ·rename_i e
  obtain⟨p,e1,e2⟩:=r.sl i _ e;exact⟨_,e1,hr F Γ σ G H _ _ r m fun as Γ2 y G2 H2 m2 s2 r2 d2=>k _ _ _ _ _ m2 s2 r2 (.cons ⟨p,rfl,e2⟩ d2)⟩
 ·exact m.elim
theorem cH {t:TA}{md:MD}(h:VD P0 t md):VT P0 (aPP t) (mW md):=by
 intro F Γ σ G H Q Qm r m k;refine h F Γ σ G H _ _ r m fun ds Γ1 xs G1 H1 m1 s1 r1 d1=>⟨eU (by rw[d1.len]; exact m1.1),fun p hp=>?_⟩;have g:=qJ (r1.fr.gfresh hp) (.tup xs);exact k _ _ _ _ _ m1.2 (s1.trans g) (r1.new hp) (.tup bO (Dts.same g _ _ d1))
theorem SlF.det {F:Fra P0}{G H:Hp}{x:Option (Option V)}{fp fp':List AB}:∀{s:Sl},SlF F G H x fp s→SlF F G H x fp' s→fp=fp'
 | .no,h,g=>(show fp=[] from h).trans (show fp'=[] from g).symm
 | .val _,h,g=>h.1.trans g.1.symm
 | .pen,h,g=>h.1.trans g.1.symm
 | .con _,h,g=>h.1.trans g.1.symm
 | .pub _,h,g=>h.1.trans g.1.symm
 | .own _,h,g=>by
  obtain⟨p,vs,e,e1,_⟩:=h;obtain⟨q,ws,f,f1,_⟩:=g;rw[e1] at f1; cases f1;rw[e,f]
 | .box B,h,g=>by
  obtain⟨v,e1,e2,_⟩:=h;obtain⟨v',f1,f2,_⟩:=g;rw[e1] at f1; cases f1;exact B.uniq e2 f2
theorem R.before {F:Fra P0}{Γ:En}{σ:St}{G H G' H':Hp}(r:R F Γ σ G H)(g:Same G G')(k:∀ b o,F.H0 b=none→G b=none→H b=some o→G' b=none∧H' b=some o){i:Nat}{s:Sl}{fp:List AB}(e:Γ[i]?=some s)(h:SlF F G' H' σ[i]? fp s):∀ b∈fp,∃ o,H b=some o:=by
 obtain⟨fps,h1,h2⟩:=r.fps;have h0:=h1 i s e;have h3:SlF F G' H' σ[i]? (fps i) s:=h0.go g fun b hb=>by
  obtain⟨m1,m2,o,m3⟩:=h0.mine hb;obtain⟨k1,k2⟩:=k b o m1 m2 m3;exact⟨k1,k2.trans m3.symm⟩
 rw[h.det h3];exact fun b hb=>(h0.mine hb).2.2
theorem Apart.new {F:Fra P0}{Γ:En}{σ:St}{G H G' H':Hp}(r:R F Γ σ G H){p:AB}(hp:H p=none){ds:List D}(g:Same G G')(k:∀ b o,F.H0 b=none→G b=none→H b=some o→G' b=none∧H' b=some o):Apart F Γ σ G' H' (.ref p) (.own ds):=by
 intro i s fp e h q eq hq
 cases eq
 obtain⟨o,eo⟩:=r.before g k e h p hq;rw[hp] at eo; cases eo
theorem Apart.newB {F:Fra P0}{Γ:En}{σ:St}{G H G' H':Hp}(r:R F Γ σ G H){v:V}{B:Bx}(hp:∀ fp,B.P v fp G' H'→∀ b∈fp,H b=none)(g:Same G G')(k:∀ b o,F.H0 b=none→G b=none→H b=some o→G' b=none∧H' b=some o):Apart F Γ σ G' H' v (.box B):=by
 intro i s fp f e h hf b hb hc;obtain⟨o,eo⟩:=r.before g k e h b hc;rw[hp f hf b hb] at eo; cases eo
theorem lA {F:Fra P0}{Γ:En}{σ:St}{G H:Hp}(r:R F Γ σ G H){p:AB}{xs:List V}{ds:List D}(hp:H p=none)(d:Dts G xs ds) :
  R F Γ σ G (upd H p (.lst xs))∧RvO F G (upd H p (.lst xs)) (.ref p) (.own ds)∧Apart F Γ σ G (upd H p (.lst xs)) (.ref p) (.own ds):=
 ⟨r.newP hp,⟨p,xs,rfl,r.fr.fresh hp,r.fr.gfresh hp,bO,d⟩,Apart.new r hp (Same.refl _) fun b o _ g e=>⟨g,by rw[aY (bA e hp)]; exact e⟩⟩
theorem iW {t:TA}{md:MD}(h:VD P0 t md):VO P0 (aP4 t) (a4S md):=by
 intro F Γ σ G H Q Qm r m k;refine h F Γ σ G H _ _ r m fun ds Γ1 xs G1 H1 m1 s1 r1 d1=>⟨eU (by rw[d1.len]; exact m1.1),fun p hp=>?_⟩;obtain⟨a,b,c⟩:=lA r1 hp d1;exact k _ _ _ _ _ m1.2 s1 a b c
theorem aQ {mo:MO}(h:VO P0 ta mo):VT P0 ta (bZ mo):=by
 intro F Γ σ G H Q Qm r m k;refine h F Γ σ G H _ _ r m fun rv Γ1 x G1 H1 m1 s1 r1 d1 a1=>?_
 cases rv with
 | val d=>exact k _ _ _ _ _ m1 s1 r1 d1
 | own ds=>
  obtain⟨G2,s2,r2,d2⟩:=r1.give d1 a1;exact k _ _ _ _ _ m1 (s1.trans s2) r2 d2
 | box B=>
  obtain⟨hv,m1⟩:=m1;obtain⟨d,hd⟩:=D4.mp hv;obtain⟨G2,s2,r2,d2⟩:=r1.giveB d1 a1 hd;have m1:Qm (B.view.getD .none) Γ1:=m1;rw[hd] at m1;exact k _ _ _ _ _ m1 (s1.trans s2) r2 d2
theorem aX (h:VT P0 ta ma):VO P0 ta (cN ma):=by
 intro F Γ σ G H Q Qm r m k;exact h F Γ σ G H _ _ r m fun d Γ1 x G1 H1 m1 s1 r1 d1=>k _ _ _ _ _ m1 s1 r1 d1 trivial
theorem R.apart {F:Fra P0}{Γ:En}{σ:St}{G H:Hp}(r:R F Γ σ G H){i j:Nat}{s t:Sl}{fp fq:List AB}(hij:i≠j)(ei:Γ[i]?=some s)(ej:Γ[j]?=some t)(hi:SlF F G H σ[i]? fp s)(hj:SlF F G H σ[j]? fq t):∀ b∈fp,b∉fq:=by
 obtain⟨fps,h1,h2⟩:=r.fps;rw[hi.det (h1 i s ei),hj.det (h1 j t ej)];exact h2 i j s t ei ej hij
theorem uM {i:Nat}:VO P0 (a7M i) (a1C i):=by
 intro F Γ σ G H Q Qm r m k;have other:∀{j:Nat} {s s0:Sl} {fp fq:List AB},Γ[i]?=some s0→SlF F G H σ[i]? fp s0→(Γ.set i .no)[j]?=some s→SlF F G H σ[j]? fq s→∀ b∈fp,b∉fq:=by
  intro j s s0 fp fq e h ej hj b hb hc
  by_cases hij:i=j
  ·subst hij;have hi:i<Γ.length:=(List.getElem?_eq_some_iff.mp e).1;rw[Bn hi] at ej
   cases ej
   rw[show fq=[] from hj] at hc; cases hc
  ·rw[Bh hij] at ej;exact r.apart hij e ej h hj b hb hc
 unfold a1C at m
 split at m
 ·rename_i d e
  obtain⟨v,e1,d1⟩:=r.sl i _ e;exact⟨v,e1,k _ _ _ _ _ m (Same.refl _) r d1 trivial⟩
 ·rename_i ds e
  obtain⟨p,vs,e1,e2⟩:=r.sl i _ e;refine⟨_,e1,k _ _ _ _ _ m (Same.refl _) (r.drop i) ⟨p,vs,rfl,e2⟩ fun j s fp ej hj q eq hq=>?_⟩
  cases eq
  exact other e (fp:=[p]) ⟨p,vs,rfl,e1,e2⟩ ej hj p (mem_singleton.mpr rfl) hq
 ·rename_i B e
  obtain⟨v,fp,e1,e2,e3⟩:=r.sl i _ e;refine⟨_,e1,k _ _ _ _ _ m (Same.refl _) (r.drop i) ⟨fp,e2,e3⟩ fun j s fq f ej hj hf b hb=>?_⟩;rw[B.uniq hf e2] at hb;exact other e (fp:=fp) ⟨v,e1,e2,e3⟩ ej hj b hb
 ·exact m.elim
theorem aU (ha:VT P0 ta ma)(hb:VT P0 tb mb):VT P0 (tOp (rIx K) ta tb) (mIx ma mb):=by
 refine aM2 (m2:=fun x y Q=>oQ (ixD x y) Q) ha hb fun F Γ σ G H x y d e Q Qm r d1 d2 m k=>?_;obtain⟨u,hu,q⟩:=aER m;unfold ixD at hu
 split at hu
 ·rename_i ds i
  cases d2
  cases d1 with
  | @tup p xs _ hp rs=>
   obtain⟨j,h1,h2⟩:∃ j,ixN ds.length i=some j∧ds[j]?=some u:=by
    unfold atI at hu
    cases e:ixN ds.length i with
    | none=>rw[e] at hu; cases hu
    | some j=>rw[e] at hu; exact⟨j,rfl,hu⟩
   obtain⟨v,hv,dv⟩:=Dts.get rs h2;refine .inr (.inl ⟨p,xs,i,v,rfl,rfl,SqT.of (r.fr.sub _ _ hp),?_,k _ _ _ _ q (Same.refl _) r dv⟩);unfold atI;rw[rs.len,h1];exact hv
 ·rename_i ds i
  cases d2
  cases d1 with
  | @lst p xs _ hp rs=>
   obtain⟨j,h1,h2⟩:∃ j,ixN ds.length i=some j∧ds[j]?=some u:=by
    unfold atI at hu
    cases e:ixN ds.length i with
    | none=>rw[e] at hu; cases hu
    | some j=>rw[e] at hu; exact⟨j,rfl,hu⟩
   obtain⟨v,hv,dv⟩:=Dts.get rs h2;refine .inl ⟨p,xs,i,v,rfl,rfl,SqL.of (r.fr.sub _ _ hp),?_,k _ _ _ _ q (Same.refl _) r dv⟩;unfold atI;rw[rs.len,h1];exact hv
 ·cases hu
theorem aDT {rr:List V→Hp→VK→Prop}{m1:D→(D→Prop)→Prop}(ha:VT P0 ta ma)
  (h:∀(F:Fra P0) (Γ:En) (σ:St) (G H:Hp) (x:V) (d:D) (Q:VK) (Qm:D→Prop),R F Γ σ G H→Dt G x d→m1 d Qm→(∀ u r G' H',Qm u→Same G G'→R F Γ σ G' H'→Dt G' r u→Q r H')→rr [x] H Q) :
  VT P0 (tCB rr (fB ta xM)) (fun Γ Q=>ma Γ fun x Γ1=>m1 x fun d=>Q d Γ1):=by
 intro F Γ σ G H Q Qm r m k;refine ha F Γ σ G H _ _ r m fun d Γ1 x G1 H1 m1 s1 r1 d1=>?_;exact h F Γ1 σ G1 H1 x d _ _ r1 d1 m1 fun u w G3 H3 q s3 r3 d3=>k _ _ _ _ _ q (s1.trans s3) r3 d3
theorem eY (ha:VT P0 ta ma):VT P0 (tCB (fun xs H Q=>∃ p ys,xs=[.ref p]∧(SqL K H p ys∨SqT K H p ys)∧Q (.int ys.length) H) (fB ta xM)) (xG ma):=by
 refine aDT (m1:=fun x Q=>oQ (aK4 x) Q) ha fun F Γ σ G H x d Q Qm r d1 m k=>?_;obtain⟨u,hu,q⟩:=aER m;unfold aK4 at hu
 split at hu
 ·cases hu
  cases d1 with
  | @tup p xs _ hp rs=>exact⟨p,xs,rfl,.inr (SqT.of (r.fr.sub _ _ hp)),by rw[rs.len]; exact k _ _ _ _ q (Same.refl _) r (.int _)⟩
 ·cases hu
  cases d1 with
  | @lst p xs _ hp rs=>exact⟨p,xs,rfl,.inl (SqL.of (r.fr.sub _ _ hp)),by rw[rs.len]; exact k _ _ _ _ q (Same.refl _) r (.int _)⟩
 ·cases hu
def aMI (ma:ME):ME:=fun Γ Q=>ma Γ fun x Γ1=>match x with
 | .int i=>Q (.int (if i<0 then -i else i)) Γ1
 | _=>False
theorem aE6 (ha:VT P0 ta ma):VT P0 (tCB (fun xs H Q=>∃ i,xs=[.int i]∧Q (.int (if i<0 then -i else i)) H) (fB ta xM)) (aMI ma):=by
 refine aDT (m1:=fun x Q=>match x with|.int i=>Q (.int (if i<0 then -i else i))|_=>False) ha fun F Γ σ G H x d Q Qm r d1 m k=>?_
 split at m
 ·cases d1
  exact⟨_,rfl,k _ _ _ _ m (Same.refl _) r (.int _)⟩
 ·exact m.elim
def aKG (ma:ME):ME:=fun Γ Q=>ma Γ fun x Γ1=>match x with
 | .int i=>Q (.int i) Γ1
 | .bool b=>Q (.int (if b then 1 else 0)) Γ1
 | _=>False
theorem aL6 (ha:VT P0 ta ma):VT P0 (tCB (fun xs H Q=>(∃ i,xs=[.int i]∧Q (.int i) H)∨∃ k,xs=[.bl k]∧Q (.int (if k then 1 else 0)) H) (fB ta xM)) (aKG ma):=by
 refine aDT (m1:=fun x Q=>match x with|.int i=>Q (.int i)|.bool b=>Q (.int (if b then 1 else 0))|_=>False) ha fun F Γ σ G H x d Q Qm r d1 m k=>?_
 split at m
 ·cases d1
  exact .inl ⟨_,rfl,k _ _ _ _ m (Same.refl _) r (.int _)⟩
 ·cases d1
  exact .inr ⟨_,rfl,k _ _ _ _ m (Same.refl _) r (.int _)⟩
 ·exact m.elim
theorem aM9:VP P0 aD0 pNo:=fun _ _ _ _ _ _ _ r m k=>k _ _ _ _ m (Same.refl _) r
theorem aMF (ha:VT P0 ta ma):VP P0 (aOV ta) (pSo ma):=by
 intro F Γ σ G H Q Qm r m k;refine ha F Γ σ G H _ _ r m fun d Γ1 x G1 H1 m1 s1 r1 d1=>?_
 split at m1
 ·cases d1
  exact⟨_,rfl,k _ _ _ _ m1 s1 r1⟩
 ·exact m1.elim
theorem _root_.L2.Dts.cut {G:Hp}{vs:List V}{ds:List D}(h:Dts G vs ds)(lo hi:Option Int):Dts G (aLY vs lo hi) (cutD ds lo hi):=by
 unfold aLY cutD;rw[h.len];exact Dts.tak _ (Dts.drp _ h)
theorem aJL {tl th:TO}{ml mh:MP}(ha:VT P0 ta ma)(hl:VP P0 tl ml)(hh:VP P0 th mh):VO P0 (tSl (aS3 K) ta tl th) (aP3 ma ml mh):=by
 intro F Γ σ G H Q Qm r m k;refine ha F Γ σ G H _ _ r m fun d Γ1 x G1 H1 m1 s1 r1 d1=>?_;refine hl F Γ1 σ G1 H1 _ _ r1 m1 fun lo Γ2 G2 H2 m2 s2 r2=>?_;refine hh F Γ2 σ G2 H2 _ _ r2 m2 fun hi Γ3 G3 H3 m3 s3 r3=>?_
 split at m3
 ·have d1:=Dt.same (s2.trans s3) _ _ d1
  cases d1 with
  | @lst p xs _ hp rs=>
   refine⟨p,xs,rfl,SqL.of (r3.fr.sub _ _ hp),fun l hl=>?_⟩;obtain⟨a,b,c⟩:=lA r3 hl (rs.cut lo hi);exact k _ _ _ _ _ m3 ((s1.trans s2).trans s3) a b c
 ·exact m3.elim
theorem aN4 (ha:VT P0 ta ma)(hb:VT P0 tb mb):VO P0 (tOp aRU ta tb) (aPY ma mb):=by
 intro F Γ σ G H Q Qm r m k;refine ha F Γ σ G H _ _ r m fun d Γ1 x G1 H1 m1 s1 r1 d1=>?_;refine hb F Γ1 σ G1 H1 _ _ r1 m1 fun e Γ2 y G2 H2 m2 s2 r2 d2=>?_;have d1:=Dt.same s2 _ _ d1
 split at m2
 ·cases d1 with
  | @lst p xs _ hp rs=>
   cases d2 with
   | @lst q ys _ hq ss=>
    refine⟨p,q,xs,ys,rfl,rfl,r2.fr.sub _ _ hp,r2.fr.sub _ _ hq,eU (by rw[rs.len,ss.len]; exact m2.1),fun l hl=>?_⟩;obtain⟨a,b,c⟩:=lA r2 hl (rs.app ss);exact k _ _ _ _ _ m2.2 (s1.trans s2) a b c
 ·exact m2.elim
def spM (P0:AB→Hp→Prop)(n:Nat)(f:Fm):Sp:=fun vs H Q _=>∃(F:Fra P0) (as:List Sl) (Qm:Rv→Prop),F.H0=H∧Rf F F.G0 H∧AX (aE7 F F.G0) vs as∧as.length=n∧f as Qm ∧
 ∀ rv r G' H',Qm rv→Rf F G' H'→RvO F G' H' r rv→Q r H'
def Fra.sub (F:Fra P0){G H:Hp}(r:Rf F G H):Fra P0 where
 H0:=H
 G0:=G
 pen:=F.pen
 stab:=fun p e H1 H2 h=>F.stab p e H1 H2 fun b o e=>let ⟨o',e'⟩:=r.dom e; h b o' e'
 pin:=F.pin
 pin0:=fun p e=>F.pin p e H (r.pn p e)
 pg:=fun p e=>by
  obtain⟨o,e0⟩:=F.pin0 p e;rw[r.g0 p o e0];exact F.pg p e
theorem Fra.subRf (F:Fra P0){G H:Hp}(r:Rf F G H):Rf (F.sub r) G H:=⟨r.sub,fun _ _ _=>rfl,fun _ _ e _=>e,r.pn⟩
theorem Rf.back {F:Fra P0}{G H G' H':Hp}(r:Rf F G H)(h:Rf (F.sub r) G' H'):Rf F G' H'∧Same G G':=by
 refine⟨⟨h.sub,fun b o e=>?_,fun b o e hb=>?_,h.pn⟩,fun b o e=>?_⟩
 ·obtain⟨o',e'⟩:=r.dom e;exact(h.g0 b o' e').trans (r.g0 b o e)
 ·exact h.h0 b o (r.h0 b o e hb) hb
 ·exact(h.g0 b o (r.sub b o e)).trans e
theorem Fra.pen_ne (F:Fra P0){p:AB}(h:F.H0 p=none):F.pen≠some p:=fun e=>by
 obtain⟨o,e0⟩:=F.pin0 p e;rw[h] at e0; cases e0
theorem R.after {F:Fra P0}{Γ:En}{σ:St}{G H G' H':Hp}(r:R F Γ σ G H)(h:Rf (F.sub r.fr) G' H'):R F Γ σ G' H'∧Same G G':=by
 obtain⟨a,b⟩:=r.fr.back h;refine⟨r.keep a b fun p u _ e1 e2 e3=>⟨(h.g0 p _ e3).trans e2,h.h0 p _ e3 (F.pen_ne e1)⟩,b⟩
theorem aL {n:Nat}{f:Fm}{t:TA}{m:MA}{E:XK}(h:VA P0 t m):VO P0 (aLS (spM P0 n f) [] E t) (aZ n f m):=by
 intro F Γ σ G H Q Qm r hm k;refine h F Γ σ G H _ _ r hm fun as Γ1 rs G1 H1 m1 s1 r1 d1=>?_;refine⟨F.sub r1.fr,as,fun rv=>Qm rv Γ1,rfl,F.subRf r1.fr,?_,m1.1,m1.2,fun rv v G2 H2 q f2 v2=>?_⟩
 ·rw[CK];exact AX.imp' (fun a s h=>by cases s<;>exact h) d1
 ·obtain⟨r2,s2⟩:=r1.after f2;refine k _ _ _ _ _ q (s1.trans s2) r2 ?_ ?_
  ·cases rv with
   | val d=>exact v2
   | own ds=>
    obtain⟨p,vs,e,e1,e2,e3,e4⟩:=v2;exact⟨p,vs,e,r1.fr.fresh e1,e2,e3,e4⟩
   | box B=>
    obtain⟨fp,e1,e2⟩:=v2;exact⟨fp,e1,fun b hb=>⟨r1.fr.fresh (e2 b hb).1,(e2 b hb).2⟩⟩
  ·have kp:∀ b o,F.H0 b=none→G1 b=none→H1 b=some o→G2 b=none∧H2 b=some o:=fun b o h1 h2 h3=>⟨(f2.g0 b _ h3).trans h2,f2.h0 b _ h3 (F.pen_ne h1)⟩
   cases rv with
   | val d=>trivial
   | own ds=>
    obtain⟨p,vs,rfl,e1,e2,e3,e4⟩:=v2;exact Apart.new r1 e1 s2 kp
   | box B=>
    obtain⟨fp,e1,e2⟩:=v2;exact Apart.newB r1 (fun f hf b hb=>by rw[B.uniq hf e1] at hb; exact(e2 b hb).1) s2 kp
end
end
section
variable {P0:AB→Hp→Prop}{A:Nat→Bool}
def gN (i:Nat):MG:=fun d Γ Q=>Q (Γ.set i (.val d))
def a8N:MGs:=fun ds Γ Q=>match ds with
 | []=>Q Γ
 | _=>False
def o9 (g:MG)(gs:MGs):MGs:=fun ds Γ Q=>match ds with
 | d::r=>g d Γ fun Γ1=>gs r Γ1 Q
 | []=>False
def gT (n:Nat)(gs:MGs):MG:=fun d Γ Q=>match d with
 | .tuple ds=>ds.length=n∧gs ds Γ Q
 | _=>False
theorem uL {i:Nat}{v:Option V}{σ:St}(hA:A i=true):∀ j,A j=false→(σ.set i v)[j]?=σ[j]?:=fun j hj=>Bh (fun z=>by rw[z,hj] at hA; cases hA)
theorem cB {i:Nat}(hA:A i=true:=by rfl):VG P0 A (a68 i) (gN i):=fun _ _ _ _ _ _ _ _ _ r h m k=>k _ _ m (r.setV h) (uL hA)
theorem zT:VGs P0 A aRF a8N:=by
 intro F Γ σ G H vs ds Q Qm r h m k
 cases h with
 | nil=>exact⟨rfl,k _ _ m r fun _ _=>rfl⟩
 | cons _ _=>exact m.elim
theorem gU {g:TG}{gs:TGs}{m:MG}{ms:MGs}(h1:VG P0 A g m)(h2:VGs P0 A gs ms):VGs P0 A (aNB g gs) (o9 m ms):=by
 intro F Γ σ G H vs ds Q Qm r h hm k
 cases h with
 | nil=>exact hm.elim
 | cons a b=>exact⟨_,_,rfl,h1 F Γ σ G H _ _ _ _ r a hm fun Γ1 σ1 m1 r1 e1=>h2 F Γ1 σ1 G H _ _ _ _ r1 b m1 fun Γ2 σ2 m2 r2 e2=>k _ _ m2 r2 fun i hi=>(e2 i hi).trans (e1 i hi)⟩
theorem a5L {K:Fg}{n:Nat}{gs:TGs}{ms:MGs}(h:VGs P0 A gs ms):VG P0 A (aRI K n gs) (gT n ms):=by
 intro F Γ σ G H v d Q Qm r hd m k;unfold gT at m
 split at m
 ·cases hd with
  | @tup p xs _ hp rs=>exact⟨p,xs,rfl,SqT.of (r.fr.sub _ _ hp),by rw[rs.len]; exact m.1,h F Γ σ G H _ _ _ _ r rs m.2 k⟩
 ·exact m.elim
def Walk (P0:AB→Hp→Prop)(J:It)(G0:Hp)(ds:List D):Prop:=∀(F:Fra P0) (Γ:En) (σ:St) (G H:Hp),Same G0 G→R F Γ σ G H →
 (∀ i d,ds[i]?=some d→J.go i H∧∀ x H',J.yld i H x H'→∃ G',Same G G'∧R F Γ σ G' H'∧Dt G' x d)∧J.stop ds.length H
def VI (P0:AB→Hp→Prop)(wi:TI)(m:MD):Prop:=∀(F:Fra P0) (Γ:En) (σ:St) (G H:Hp) (Q:It→Hp→Prop) (Qm:List D→En→Prop),R F Γ σ G H→m Γ Qm →
 (∀ ds Γ' J G' H',Qm ds Γ'→Same G G'→R F Γ' σ G' H'→Walk P0 J G' ds→Q J H')→wi σ H Q
def a7S (ma:ME):MD:=fun Γ Q=>ma Γ fun x Γ1=>match x with
 | .list ds=>Q ds Γ1
 | _=>False
def aQU (ma:ME):MD:=fun Γ Q=>ma Γ fun x Γ1=>match x with
 | .tuple ds=>Q ds Γ1
 | _=>False
def eZ (lo:Int)(n:Nat):List D:=(List.range n).map fun(k:Nat)=>A0 (lo+k)
def z9 (md:MD):MD:=fun Γ Q=>md Γ fun ds Γ1=>match ds with
 | [.int j] => -(2^62)≤j∧j<2^62∧Q (eZ 0 j.toNat) Γ1
 | _=>False
def aHN (md:MD):MD:=fun Γ Q=>md Γ fun ds Γ1=>match ds with
 | [.int i,.int j]=>(-(2^62)≤i∧i<2^62 ∧ -(2^62)≤j∧j<2^62)∧Q (eZ i (j-i).toNat) Γ1
 | _=>False
theorem gM {K:Fg}{ta:TE}{ma:ME}(ha:VT P0 ta ma):VI P0 (aNC K ta) (a7S ma):=by
 intro F Γ σ G H Q Qm r m k;refine ha F Γ σ G H _ _ r m fun d Γ1 x G1 H1 m1 s1 r1 d1=>?_
 split at m1
 ·cases d1 with
  | @lst p xs ds hp rs=>
   refine⟨p,rfl,⟨xs,SqL.of (r1.fr.sub _ _ hp)⟩,k _ _ _ _ _ m1 s1 r1 fun F2 Γ2 σ2 G2 H2 s2 r2=>⟨fun i d e=>?_,?_⟩⟩
   ·have hq:H2 p=some (.lst xs):=r2.fr.sub _ _ (s2 _ _ hp);obtain⟨v,ev,dv⟩:=Dts.get rs e;refine⟨⟨xs,v,SqL.of hq,ev⟩,fun y H3 hy=>⟨G2,Same.refl _,?_⟩⟩;obtain⟨rfl,hy⟩:=hy;have:=hy xs (SqL.of hq);rw[ev] at this
    cases this
    exact⟨r2,Dt.same s2 _ _ dv⟩
   ·exact⟨xs,SqL.of (r2.fr.sub _ _ (s2 _ _ hp)),by rw[rs.len]; exact AN _⟩
 ·exact m1.elim
theorem aML {K:Fg}{ta:TE}{ma:ME}(ha:VT P0 ta ma):VI P0 (aRC K ta) (aQU ma):=by
 intro F Γ σ G H Q Qm r m k;refine ha F Γ σ G H _ _ r m fun d Γ1 x G1 H1 m1 s1 r1 d1=>?_
 split at m1
 ·cases d1 with
  | @tup p xs ds hp rs=>
   refine⟨p,rfl,⟨xs,SqT.of (r1.fr.sub _ _ hp)⟩,k _ _ _ _ _ m1 s1 r1 fun F2 Γ2 σ2 G2 H2 s2 r2=>⟨fun i d e=>?_,?_⟩⟩
   ·have hq:H2 p=some (.tup xs):=r2.fr.sub _ _ (s2 _ _ hp);obtain⟨v,ev,dv⟩:=Dts.get rs e;refine⟨⟨xs,v,SqT.of hq,ev⟩,fun y H3 hy=>⟨G2,Same.refl _,?_⟩⟩;obtain⟨rfl,hy⟩:=hy;have:=hy xs (SqT.of hq);rw[ev] at this
    cases this
    exact⟨r2,Dt.same s2 _ _ dv⟩
   ·exact⟨xs,SqT.of (r2.fr.sub _ _ (s2 _ _ hp)),by rw[rs.len]; exact AN _⟩
 ·exact m1.elim
theorem a1G {G:Hp}(lo:Int)(n:Nat):Walk P0 (Itr lo n) G (eZ lo n):=by
 intro F Γ σ G2 H2 _ r;have hl:(eZ lo n).length=n:=by simp[eZ]
 refine⟨fun i d e=>?_,by rw[hl]; exact AN _⟩;have hi:i<n:=by have:=(List.getElem?_eq_some_iff.mp e).1; omega
 refine⟨hi,fun x H' hy=>?_⟩;obtain⟨rfl,rfl⟩:=hy;refine⟨G2,Same.refl _,r,?_⟩;unfold eZ at e;rw[Aa,DP hi] at e
 cases e
 exact .int _
theorem nP {t:TA}{md:MD}(h:VD P0 t md):VI P0 (aOW t) (z9 md):=by
 intro F Γ σ G H Q Qm r m k;refine h F Γ σ G H _ _ r m fun ds Γ1 xs G1 H1 m1 s1 r1 d1=>?_
 split at m1
 ·rename_i j
  cases d1 with
  | cons a b=>
   cases a; cases b
   exact⟨j,rfl,m1.1,m1.2.1,k _ _ _ _ _ m1.2.2 s1 r1 (a1G _ _)⟩
 ·exact m1.elim
theorem aEP {t:TA}{md:MD}(h:VD P0 t md):VI P0 (aNT t) (aHN md):=by
 intro F Γ σ G H Q Qm r m k;refine h F Γ σ G H _ _ r m fun ds Γ1 xs G1 H1 m1 s1 r1 d1=>?_
 split at m1
 ·rename_i i j
  cases d1 with
  | cons a b=>
   cases a
   cases b with
   | cons b c=>
    cases b; cases c
    exact⟨i,j,rfl,m1.1,k _ _ _ _ _ m1.2 s1 r1 (a1G _ _)⟩
 ·exact m1.elim
def mNx:MS:=fun Γ Q=>Q (.nx Γ)
def cF (a b:MS):MS:=fun Γ Q=>a Γ fun fl=>match fl with
 | .nx Γ1=>b Γ1 Q
 | fl=>Q fl
def eE (i:Nat)(m:MO):MS:=fun Γ Q=>m Γ fun rv Γ1=>Q (.nx (Γ1.set i rv.sl))
def aPW (m:ME)(g:MG):MS:=fun Γ Q=>m Γ fun d Γ1=>g d Γ1 fun Γ2=>Q (.nx Γ2)
def aM4 (i j:Nat)(m:MD):MS:=fun Γ Q=>m Γ fun ds Γ1=>match ds with
 | [d,e]=>Q (.nx ((Γ1.set i (.val d)).set j (.val e)))
 | _=>False
def dH (m:MO):MS:=fun Γ Q=>m Γ fun rv _=>Q (.rt rv)
def mIf (c:MT)(a b:MS):MS:=fun Γ Q=>c Γ fun k Γ1=>if k=true then a Γ1 Q else b Γ1 Q
def aIZ:MS:=fun _ _=>False
def forL (g:MG)(b:MS):List D→En→(Fl→Prop)→Prop
 | [],Γ,Q=>Q (.nx Γ)
 | d::ds,Γ,Q=>g d Γ fun Γ1=>b Γ1 fun fl=>match fl with
  | .nx Γ2=>forL g b ds Γ2 Q
  | .ct Γ2=>forL g b ds Γ2 Q
  | .bk Γ2=>Q (.nx Γ2)
  | .rt rv=>Q (.rt rv)
def a4T (mi:MD)(g:MG)(b:MS):MS:=fun Γ Q=>mi Γ fun ds Γ1=>forL g b ds Γ1 Q
def zY (c:MT)(b:MS):MS:=fun Γ Q=>∃ W:Nat→En→Prop,(∃ n,W n Γ)∧∀ n Γ,W n Γ→c Γ fun k Γ1=>if k=true then b Γ1 fun fl=>match fl with
  | .nx Γ2=>∃ n',n'<n∧W n' Γ2
  | .ct Γ2=>∃ n',n'<n∧W n' Γ2
  | .bk Γ2=>Q (.nx Γ2)
  | .rt rv=>Q (.rt rv)
 else Q (.nx Γ1)
def nT (i:Nat)(m:ME):MS:=fun Γ Q=>match Γ[i]? with
 | some (.own _)=>m Γ fun d Γ1=>match Γ1[i]? with
  | some (.own ds)=>ds.length<1000∧Q (.nx (Γ1.set i (.own (ds++[d]))))
  | _=>False
 | _=>False
def aBB (i:Nat)(m:MS):MS:=fun Γ Q=>match Γ[i]? with
 | some (.own ds)=>m (Γ.set i (.val (.list ds))) Q
 | _=>m Γ Q
theorem dF:VSA P0 A aOC mNx:=fun _ _ _ _ _ _ _ r m k=>k _ m _ _ _ (Same.refl _) r fun _ _=>rfl
theorem aHM:VSA P0 A aJ9 aIZ:=fun _ _ _ _ _ _ _ _ m _=>m.elim
theorem aV {t u:TS}{a b:MS}(ha:VSA P0 A t a)(hb:VSA P0 A u b):VSA P0 A (aR9 t u) (cF a b):=by
 intro F Γ σ G H E Qm r m k;refine ha F Γ σ G H _ _ r m fun fl q=>?_
 cases fl with
 | nx Γ1=>exact fun σ1 G1 H1 s1 r1 e1=>hb F Γ1 σ1 G1 H1 E Qm r1 q fun fl q=>(k fl q).same s1 e1
 | rt rv=>exact k _ q
 | bk Γ1=>exact k _ q
 | ct Γ1=>exact k _ q
theorem bI {i:Nat}{t:TE}{m:MO}(h:VO P0 t m)(hA:A i=true:=by rfl):VSA P0 A (aKA t (a68 i)) (eE i m):=by
 intro F Γ σ G H E Qm r hm k;exact h F Γ σ G H _ _ r hm fun rv Γ1 x G1 H1 m1 s1 r1 d1 a1=>k _ m1 _ _ _ s1 (r1.set d1 a1) (uL hA)
theorem aMC {t:TE}{g:TG}{m:ME}{mg:MG}(h:VT P0 t m)(hg:VG P0 A g mg):VSA P0 A (aKA t g) (aPW m mg):=by
 intro F Γ σ G H E Qm r hm k;exact h F Γ σ G H _ _ r hm fun d Γ1 x G1 H1 m1 s1 r1 d1=>hg F Γ1 σ G1 H1 x d _ _ r1 d1 m1 fun Γ2 σ2 m2 r2 e2=>k _ m2 _ _ _ s1 r2 e2
theorem a9R {i j:Nat}{t:TA}{m:MD}(h:VD P0 t m)(hA:A i=true:=by rfl)(hB:A j=true:=by rfl):VSA P0 A (aRK i j t) (aM4 i j m):=by
 intro F Γ σ G H E Qm r hm k;refine h F Γ σ G H _ _ r hm fun ds Γ1 x G1 H1 m1 s1 r1 d1=>?_
 split at m1
 ·cases d1 with
  | cons a b=>
   cases b with
   | cons b c=>
    cases c
    exact⟨_,_,rfl,k _ m1 _ _ _ s1 ((r1.setV a).setV b) fun q hq=>(uL hB q hq).trans (uL hA q hq)⟩
 ·exact m1.elim
theorem bD {t:TE}{m:MO}(h:VO P0 t m):VSA P0 A (aRO t) (dH m):=by
 intro F Γ σ G H E Qm r hm k;exact h F Γ σ G H _ _ r hm fun rv Γ1 x G1 H1 m1 s1 r1 d1 _=>k _ m1 _ _ _ s1 r1.fr d1
theorem dD {c:TT}{t u:TS}{mc:MT}{a b:MS}(hc:VTT P0 c mc)(ha:VSA P0 A t a)(hb:VSA P0 A u b):VSA P0 A (aRL c t u) (mIf mc a b):=by
 intro F Γ σ G H E Qm r m k;refine hc F Γ σ G H _ _ r m fun k1 Γ1 G1 H1 m1 s1 r1=>?_
 cases k1 with
 | true=>exact a4U (ha F Γ1 σ G1 H1 E Qm r1 m1 fun fl q=>(k fl q).same s1 fun _ _=>rfl)
 | false=>exact a5C (hb F Γ1 σ G1 H1 E Qm r1 m1 fun fl q=>(k fl q).same s1 fun _ _=>rfl)
theorem t8 {c:TT}{t:TS}{mc:MT}{b:MS}(hc:VTT P0 c mc)(hb:VSA P0 A t b):VSA P0 A (aIT c t) (zY mc b):=by
 intro F Γ σ G H E Qm r m k;obtain⟨W,⟨n0,w0⟩,turn⟩:=m;refine⟨fun n σ1 H1=>∃ Γ1 G1,Same G G1∧R F Γ1 σ1 G1 H1∧W n Γ1∧∀ i,A i=false→σ1[i]?=σ[i]?,⟨n0,Γ,G,Same.refl _,r,w0,fun _ _=>rfl⟩,?_⟩;rintro n σ1 H1 ⟨Γ1,G1,s1,r1,w1,e1⟩;refine hc F Γ1 σ1 G1 H1 _ _ r1 (turn n Γ1 w1) fun k2 Γ2 G2 H2 m2 s2 r2=>?_
 cases k2 with
 | true=>
  refine a4U ⟨_,fun _ _ h=>h,?_⟩;refine hb F Γ2 σ1 G2 H2 _ _ r2 m2 fun fl q=>?_
  cases fl with
  | nx Γ3=>
   obtain⟨n',hn,w3⟩:=q;exact fun σ3 G3 H3 s3 r3 e3=>⟨n',hn,Γ3,G3,(s1.trans s2).trans s3,r3,w3,fun i hi=>(e3 i hi).trans (e1 i hi)⟩
  | ct Γ3=>
   obtain⟨n',hn,w3⟩:=q;exact fun σ3 G3 H3 s3 r3 e3=>⟨n',hn,Γ3,G3,(s1.trans s2).trans s3,r3,w3,fun i hi=>(e3 i hi).trans (e1 i hi)⟩
  | bk Γ3=>exact fun σ3 G3 H3 s3 r3 e3=>k _ q _ _ _ ((s1.trans s2).trans s3) r3 fun i hi=>(e3 i hi).trans (e1 i hi)
  | rt rv=>exact fun v G3 H3 s3 r3=>k _ q _ _ _ ((s1.trans s2).trans s3) r3
 | false=>exact a5C (k _ m2 _ _ _ (s1.trans s2) r2 e1)
theorem iY {wi:TI}{g:TG}{t:TS}{mi:MD}{mg:MG}{b:MS}(hi:VI P0 wi mi)(hg:VG P0 A g mg)(hb:VSA P0 A t b):VSA P0 A (aRH wi g t) (a4T mi mg b):=by
 intro F Γ σ G H E Qm r m k;refine hi F Γ σ G H _ _ r m fun ds Γ1 J G1 H1 m1 s1 r1 wk=>?_;refine⟨fun i n σ2 H2=>n=ds.length-i∧i≤ds.length∧∃ Γ2 G2,Same G1 G2∧R F Γ2 σ2 G2 H2∧forL mg b (ds.drop i) Γ2 Qm∧∀ i,A i=false→σ2[i]?=σ[i]?,⟨ds.length,by simp,A8 _,Γ1,G1,Same.refl _,r1,m1,fun _ _=>rfl⟩,?_⟩;rintro i n σ2 H2 ⟨rfl,hle,Γ2,G2,s2,r2,m2,e2⟩;obtain⟨go,stop⟩:=wk F Γ2 σ2 G2 H2 s2 r2
 by_cases hlt:i<ds.length
 ·refine .inr ⟨(go i ds[i] (by simp[hlt])).1,fun σ' H'=>ds.length-(i+1)<ds.length-i∧i+1≤ds.length∧∃ Γ3 G3,Same G1 G3∧R F Γ3 σ' G3 H'∧forL mg b (ds.drop (i+1)) Γ3 Qm∧∀ i,A i=false→σ'[i]?=σ[i]?,fun σ' H' h=>⟨_,h.1,rfl,h.2⟩,fun x H' hy=>?_⟩;obtain⟨G3,s3,r3,d3⟩:=(go i ds[i] (by simp[hlt])).2 x H' hy;rw[List.drop_eq_getElem_cons hlt] at m2;refine hg F Γ2 σ2 G3 H' x _ _ _ r3 d3 m2 fun Γ4 σ4 m4 r4 e4=>?_;refine hb F Γ4 σ4 G3 H' _ _ r4 m4 fun fl q=>?_
  cases fl with
  | nx Γ5=>exact fun σ5 G5 H5 s5 r5 e5=>⟨by omega,hlt,Γ5,G5,(s2.trans s3).trans s5,r5,q,fun i hi=>((e5 i hi).trans (e4 i hi)).trans (e2 i hi)⟩
  | ct Γ5=>exact fun σ5 G5 H5 s5 r5 e5=>⟨by omega,hlt,Γ5,G5,(s2.trans s3).trans s5,r5,q,fun i hi=>((e5 i hi).trans (e4 i hi)).trans (e2 i hi)⟩
  | bk Γ5=>exact fun σ5 G5 H5 s5 r5 e5=>k _ q _ _ _ ((s1.trans s2).trans (s3.trans s5)) r5 fun i hi=>((e5 i hi).trans (e4 i hi)).trans (e2 i hi)
  | rt rv=>exact fun v G5 H5 s5 r5=>k _ q _ _ _ ((s1.trans s2).trans (s3.trans s5)) r5
 ·have e:i=ds.length:=by omega
  subst e;rw[List.drop_length] at m2;exact .inl ⟨stop,k _ m2 _ _ _ (s1.trans s2) r2 e2⟩
theorem oZ {K:Fg}{i:Nat}{t:TE}{m:ME}(h:VT P0 t m):VSA P0 A (aGR (tBM K "list" a87 (a7M i) (fB t xM))) (nT i m):=by
 intro F Γ σ G H E Qm r hm k;unfold nT at hm
 split at hm
 ·rename_i ds0 e0
  obtain⟨p,vs,e1,e2,e3,e4,e5⟩:=r.sl i _ e0;refine⟨_,e1,.inl ⟨rfl,_,SqL.of e4⟩,?_⟩;refine h F Γ σ G H _ _ r hm fun d Γ1 x G1 H1 m1 s1 r1 d1=>?_
  split at m1
  ·rename_i ds e
   obtain⟨p',ws,f1,f2,f3,f4,f5⟩:=r1.sl i _ e;rw[e1] at f1; cases f1;refine⟨p,ws,x,rfl,rfl,f4,pC (by rw[f5.len]; exact Bz m1.1),?_⟩;exact k _ m1.2 _ _ _ s1 (r1.write e e1 (f5.app (.cons d1 .nil))) fun _ _=>rfl
  ·exact m1.elim
 ·exact hm.elim
theorem R.pub1 {F:Fra P0}{Γ:En}{σ:St}{G H:Hp}(r:R F Γ σ G H){i:Nat}{ds:List D}(e:Γ[i]?=some (.own ds)):∃ G',Same G G'∧R F (Γ.set i (.val (.list ds))) σ G' H:=by
 obtain⟨p,vs,e1,e2,e3,e4,e5⟩:=r.sl i _ e;have hap:Apart F (Γ.set i .no) σ G H (.ref p) (.own ds):=fun j s fp ej hj q eq hq=>by
  cases eq
  by_cases hji:i=j
  ·subst hji;have hi:i<Γ.length:=(List.getElem?_eq_some_iff.mp e).1;rw[Bn hi] at ej
   cases ej
   rw[show fp=[] from hj] at hq; cases hq
  ·rw[Bh hji] at ej;exact r.apart hji e ej (fp:=[p]) ⟨p,vs,rfl,e1,e2,e3,e4,e5⟩ hj p (mem_singleton.mpr rfl) hq
 obtain⟨G',s,r',d'⟩:=(r.drop i).give (ds:=ds) ⟨p,vs,rfl,e2,e3,e4,e5⟩ hap;refine⟨G',s,?_⟩;have q:=r'.setV (i:=i) d';rw[List.set_set] at q;have hs:σ.set i (some (.ref p))=σ:=by
  apply Cv;intro j
  by_cases hj:i=j
  ·subst hj;have hi:i<σ.length:=(List.getElem?_eq_some_iff.mp e1).1;rw[Bn hi,e1]
  ·rw[Bh hj]
 rw[hs] at q;exact q
theorem aJE {i:Nat}{t:TS}{m:MS}(h:VSA P0 A t m):VSA P0 A t (aBB i m):=by
 intro F Γ σ G H E Qm r hm k;unfold aBB at hm
 split at hm
 ·rename_i ds e
  obtain⟨G',s,r'⟩:=r.pub1 e;exact h F _ σ G' H E Qm r' hm fun fl q=>(k fl q).same s fun _ _=>rfl
 ·exact h F Γ σ G H E Qm r hm k
def mFn (n:Nat)(b:MS):Fm:=fun as Q=>b (as++List.replicate n .no) fun fl=>match fl with
 | .rt rv=>Q rv
 | .nx _=>Q (.val .none)
 | _=>False
theorem aHQ {n k:Nat}{N:List Str}{t:TS}{b:MS}(h:VS P0 t b)(hN:N.length=n+k){vs:List V}{H:Hp}{Q:VK}{E:XK}(hs:spM P0 n (mFn k b) vs H Q E) :
  t { nx:=fun _ H'=>Q .non H',rt:=Q } (start N vs) H:=by
 obtain⟨F,as,Qm,rfl,rf,pr,hl,hm,q⟩:=hs;have hlen:vs.length=as.length:=AX.length pr;have get:∀{vs:List V} {as:List Sl} {i:Nat} {s:Sl},AX (aE7 F F.G0) vs as→as[i]?=some s→∃ v,vs[i]?=some v∧aE7 F F.G0 v s:=by
  intro vs as i s pr
  induction pr generalizing i with
  | nil=>intro e; simp at e
  | cons a b ih=>
   cases i with
   | zero=>intro e; simp at e; subst e; exact⟨_,rfl,a⟩
   | succ i=>intro e; simpa using ih (i:=i) (by simpa using e)
 have at_:∀{i:Nat} {s:Sl},(as++List.replicate k Sl.no)[i]?=some s→s≠.no→∃ v,(start N vs)[i]?=some (some v)∧aE7 F F.G0 v s:=by
  intro i s e hne
  by_cases hi:i<as.length
  ·rw[Bu hi] at e;obtain⟨v,ev,av⟩:=get pr e;refine⟨v,?_,av⟩;unfold start;rw[Bu (by rw[AS]; omega),Aa,ev];rfl
  ·rw[B3 (by omega),CN] at e
   split at e
   ·cases e; exact absurd rfl hne
   ·cases e
 have r:R F (as++List.replicate k .no) (start N vs) F.G0 F.H0:=by
  refine R.of rf ?_ (fun i s e=>?_) (fun i B e=>?_) (fun i j x y _ e _=>?_)
  ·unfold start;simp only[BN,Cy,AS];omega
  ·cases s with
   | no=>trivial
   | val d=>
    obtain⟨v,ev,av⟩:=at_ e (by intro z; cases z)
    exact⟨v,ev,av⟩
   | own ds=>
    obtain⟨v,ev,av⟩:=at_ e (by intro z; cases z)
    exact av.elim
   | pen=>
    obtain⟨v,ev,p,rfl,ep⟩:=at_ e (by intro z; cases z)
    exact⟨p,ev,ep⟩
   | con q=>
    obtain⟨v,ev,av⟩:=at_ e (by intro z; cases z)
    have av:v=.ref q:=av;rw[av] at ev;exact ev
   | pub B=>
    obtain⟨v,ev,av⟩:=at_ e (by intro z; cases z)
    exact⟨v,ev,av⟩
   | box B=>
    obtain⟨v,ev,av⟩:=at_ e (by intro z; cases z)
    exact av.elim
  ·obtain⟨v,ev,av⟩:=at_ e (by intro z; cases z)
   exact av.elim
  ·obtain⟨v,ev,av⟩:=at_ e (by intro z; cases z)
   exact av.elim
 refine h F _ _ _ _ _ _ r hm fun fl hq=>?_
 cases fl with
 | nx Γ=>exact fun σ G' H' _ r' _=>q _ _ _ _ hq r'.fr .non
 | rt rv=>exact fun v G' H' _ f' v'=>q _ _ _ _ hq f' v'
 | bk Γ=>exact hq.elim
 | ct Γ=>exact hq.elim
theorem aLN {n:Nat}{f:Fm}{ps:List Str}(h:ps.length=n):∀ vs H Q E,spM P0 n f vs H Q E→vs.length=ps.length:=by
 rintro vs H Q E ⟨F,as,Qm,_,_,pr,hl,_⟩;rw[AX.length pr,hl,h]
theorem _root_.L2.Fun.okV {P:AL}{w:AI}{K:Fg}{mg:Mg}{base:AF}{x qual:Str}{st:AO}{f:AB}{fd:BR}{N ps:List Str}{k n j:Nat}{b:MS}
  (F:Fun K x qual st f fd) (S:FnScope N ps (aW st)) (hn:ps.length=n) (hN:N.length=n+j)
  (hbody:∀(cdv:AA) (A:AV) (outer:List Env) (s:AC) (H:Hp) (E:XK),Room k (A.deeper (CF qual (aW st) s.heap.objs.size f cdv)) →
   SsX P0 (aKX CX0 P w K mg base N qual (aW st) f cdv A outer s H E).nox (rY st) b):FnOk P w K mg base CX0 (k+1) f fd ps (spM P0 n (mFn j b)):=by
 refine F.ok S (aLN hn) fun cdv A outer s H vs Q E hr hs=>?_;obtain⟨t,h1,h2⟩:=hbody cdv A outer s H E hr;exact⟨t,h1,aHQ h2 hN hs⟩
end
section
variable {P0:AB→Hp→Prop}
def v7:D→String
 | .none => "NoneType"
 | .bool _ => "bool"
 | .int _ => "int"
 | .str _ => "str"
 | .list _ => "list"
 | .tuple _ => "tuple"
 | .dict _ => "dict"
def aKK (a b:String):Bool:=a==b||(a == "bool" && b == "int")
def tyL:List String:=["NoneType", "bool", "int", "str", "list", "tuple", "dict"]
def Kit (K:Fg):Prop:=∀ a∈tyL,∀ b∈tyL,AY K (.type a) (.type b)=some (aKK a b)
theorem Kit.mk' {K:Fg}(h:∀ a∈tyL,∀ b∈tyL,(a==b)=false→AY K (.type a) (.type b)=some (a == "bool" && b == "int")):Kit K:=by
 intro a ha b hb
 by_cases e:a=b
 ·subst e;rw[aHL];simp[aKK]
 ·have e':(a==b)=false:=by simpa using e
  rw[h a ha b hb e'];simp[aKK,e']
theorem aK8 {K:Fg}{H:Hp}{x:V}{d:D}(h:Dt H x d):TyOf K H x (.type (v7 d))∧v7 d∈tyL:=by
 cases h with
 | non=>exact⟨.non,by simp[v7,tyL]⟩
 | bl b=>exact⟨.bl b,by simp[v7,tyL]⟩
 | int i=>exact⟨.int i,by simp[v7,tyL]⟩
 | str x=>exact⟨.str x,by simp[v7,tyL]⟩
 | tup hp _=>exact⟨.tup hp,by simp[v7,tyL]⟩
 | lst hp _=>exact⟨.lst hp,by simp[v7,tyL]⟩
 | dic hp _=>exact⟨hp.elim .dK fun⟨_,q⟩=>.fdK q,by simp[v7,tyL]⟩
def aOZ (n:String)(ma:ME):ME:=fun Γ Q=>ma Γ fun x Γ1=>Q (.bool (aKK (v7 x) n)) Γ1
theorem aJV {K:Fg}{n:String}{ta:TE}{ma:ME}(hk:Kit K)(hn:n∈tyL)(ha:VT P0 ta ma):VT P0 (tCB (aRZ K) (fB ta (fB (tC (.ty n)) xM))) (aOZ n ma):=by
 intro F Γ σ G H Q Qm r m k;refine ha F Γ σ G H _ _ r m fun d Γ1 x G1 H1 m1 s1 r1 d1=>?_;obtain⟨h1,h2⟩:=aK8 (K:=K) (Dt.same r1.fr.sub _ _ d1);exact⟨x,.ty n,.type n,_,_,rfl,rfl,h1,hk _ h2 _ hn,k _ _ _ _ _ m1 s1 r1 (.bl _)⟩
section
variable {X:Cx}
structure Goods (ds:List D):Prop where
 lay:FO ds=true
 dep:FP ds≤59
def aRY (neg:Bool):R2:=fun x y H Q=>∃ dx ds,Dt H x dx∧(Dt H y (.list ds)∨Dt H y (.tuple ds))∧Good dx∧Goods ds∧Q (.bl (if neg then !(ds.any fun e=>Av e dx) else ds.any fun e=>Av e dx)) H
theorem aOQ {u a b:Nat}(h:u+64<Ai)(ha:a≤59):u+1+min a b<Ai:=by
 have:min a b≤a:=Ci _ _;omega
theorem aJQ (hu:X.A.units+64<Ai):OpR X (BQ .In) (aRY false):=by
 intro pins s σ H x y v u Q I rx ry h;obtain⟨dx,ds,ex,ey,gx,gs,q⟩:=h;obtain⟨as,r1⟩:=Dt.reads I.hok dx x v ex rx;rcases ey with ey|ey
 ·obtain⟨bs,r2⟩:=Dt.reads I.hok _ y u ey ry;exact SeqAt.in_list_reads r2 r1 gs.lay gx.lay (aOQ hu gs.dep) ⟨.bl _,H,I,rfl,q⟩
 ·obtain⟨bs,r2⟩:=Dt.reads I.hok _ y u ey ry;exact SeqAt.in_tuple_reads r2 r1 gs.lay gx.lay (aOQ hu gs.dep) ⟨.bl _,H,I,rfl,q⟩
def mIn (neg:Bool)(ma mb:ME):ME:=fun Γ Q=>ma Γ fun x Γ1=>mb Γ1 fun y Γ2=>match yF y with
 | some ds=>Good x∧Goods ds∧Q (.bool (if neg then !(ds.any fun e=>Av e x) else ds.any fun e=>Av e x)) Γ2
 | none=>False
theorem aO1 {neg:Bool}{ta tb:TE}{ma mb:ME}(ha:VT P0 ta ma)(hb:VT P0 tb mb):VT P0 (tOp (aRY neg) ta tb) (mIn neg ma mb):=by
 refine aM2 (m2:=fun x y Q=>match yF y with|some ds=>Good x∧Goods ds∧Q (.bool (if neg then !(ds.any fun e=>Av e x) else ds.any fun e=>Av e x))|none=>False) ha hb fun F Γ σ G H x y d e Q Qm r d1 d2 m k=>?_
 split at m
 ·rename_i ds hds
  refine⟨d,ds,Dt.same r.fr.sub _ _ d1,?_,m.1,m.2.1,k _ _ _ _ m.2.2 (Same.refl _) r (.bl _)⟩;have d2:=Dt.same r.fr.sub _ _ d2
  cases d2<;>simp only[yF] at hds<;>try (cases hds)
  ·exact .inr (.tup (by assumption) (by assumption))
  ·exact .inl (.lst (by assumption) (by assumption))
 ·exact m.elim
end
def aHD (H H':Hp):Prop:=∀ b xs,H b=some (.tup xs)→H' b=some (.tup xs)∨∃ q vs,V.ref q∈xs∧H q=some (.lst vs)
theorem no_ref {H:Hp}{q:AB}{vs:List V}(hq:H q=some (.lst vs)):∀(ds:List D) (xs:List V),tU ds=true→Dts H xs ds→V.ref q∉xs
 | [],xs,_,e,h=>by cases e; cases h
 | d::ds,xs,z,e,h=>by
  have z':zV d=true∧tU ds=true:=by simpa [tU] using z
  cases e with
  | cons e1 e2=>
   rcases AK.mp h with e|e
   ·subst e
    cases e1 with
    | tup hp _=>rw[hq] at hp; cases hp
    | lst hp _=>exact absurd z'.1 (by simp[zV])
    | dic hp _=>exact absurd z'.1 (by simp[zV])
   ·exact no_ref hq ds _ z'.2 e2 e
mutual
theorem Dt.sameU {H H':Hp}(g:aHD H H'):∀(d:AJ) (x:V),zV d=true→Dt H x d→Dt H' x d
 | .none,_,_,e=>by cases e; exact .non
 | .bool _,_,_,e=>by cases e; exact .bl _
 | .int _,_,_,e=>by cases e; exact .int _
 | .str _,_,_,e=>by cases e; exact .str _
 | .list _,_,z,_=>absurd z (by simp[zV])
 | .tuple ds,_,z,e=>by
  have z':tU ds=true:=by simpa [zV] using z
  cases e with
  | tup hp rs=>
   rcases g _ _ hp with h|⟨q,vs,h1,h2⟩
   ·exact .tup h (Dts.sameU g ds _ z' rs)
   ·exact absurd h1 (no_ref h2 ds _ z' rs)
 | .dict _,_,z,_=>absurd z (by simp[zV])
theorem Dts.sameU {H H':Hp}(g:aHD H H'):∀(ds:List AJ) (xs:List V),tU ds=true→Dts H xs ds→Dts H' xs ds
 | [],_,_,e=>by cases e; exact .nil
 | d::ds,_,z,e=>by
  have z':zV d=true∧tU ds=true:=by simpa [tU] using z
  cases e with
  | cons e1 e2=>exact .cons (Dt.sameU g d _ z'.1 e1) (Dts.sameU g ds _ z'.2 e2)
end
def a86:En→En:=List.map fun s=>match s with
 | .own ds=>.val (.list ds)
 | .box B=>match B.view with
  | some d=>.val d
  | none=>match B.pv with
   | some b=>.pub b
   | none=>.no
 | s=>s
def aHW (m:ME):ME:=fun Γ Q=>m (a86 Γ) fun d Γ1=>zV d=true∧Γ1=a86 Γ∧Q d Γ
def a7K (m:MT):MT:=fun Γ Q=>m (a86 Γ) fun b Γ1=>Γ1=a86 Γ∧Q b Γ
def OwnA (F:Fra P0)(Γ:En)(σ:St)(G H:Hp)(b:AB):Prop:=∃(i:Nat) (s:Sl) (fp:List AB),Γ[i]?=some s∧SlF F G H σ[i]? fp s∧b∈fp
section
variable {F:Fra P0}{Γ:En}{σ:St}{G H:Hp}
open Classical in
noncomputable def aB6 (F:Fra P0)(Γ:En)(σ:St)(G H:Hp):Hp:=fun b=>if OwnA F Γ σ G H b then H b else G b
noncomputable def vD (F:Fra P0)(Γ:En)(σ:St)(G H:Hp)(G1:Hp):Hp:=fun b=>open Classical in if OwnA F Γ σ G H b then none else G1 b
theorem OwnA.at {b:AB}(h:OwnA F Γ σ G H b):F.H0 b=none∧G b=none∧∃ o,H b=some o:=by
 obtain⟨i,s,fp,_,e,hb⟩:=h;exact e.mine hb
theorem OwnA.tup {b:AB}(h:OwnA F Γ σ G H b){xs:List V}(e:H b=some (.tup xs)):∃ q vs,V.ref q∈xs∧OwnA F Γ σ G H q∧H q=some (.lst vs):=by
 obtain⟨i,s,fp,e0,e1,hb⟩:=h
 cases s with
 | no=>rw[show fp=[] from e1] at hb; cases hb
 | val d=>rw[e1.1] at hb; cases hb
 | pen=>rw[e1.1] at hb; cases hb
 | con q=>rw[e1.1] at hb; cases hb
 | pub B=>rw[e1.1] at hb; cases hb
 | own ds=>
  obtain⟨p,vs,f0,_,_,_,f3,_⟩:=e1;rw[f0] at hb;rw[mem_singleton.mp hb,f3] at e
  cases e
 | box B=>
  have e1':=e1;obtain⟨v,_,h2,_⟩:=e1;obtain⟨q,q1,q2,vs,q3⟩:=B.nt h2 b hb xs e;exact⟨q,vs,q2,⟨i,_,fp,e0,e1',q1⟩,q3⟩
theorem R.pubAll (r:R F Γ σ G H):Same G (aB6 F Γ σ G H)∧R F (a86 Γ) σ (aB6 F Γ σ G H) H:=by
 have g:Same G (aB6 F Γ σ G H):=fun b o e=>by
  unfold aB6
  by_cases h:OwnA F Γ σ G H b
  ·have:=h.at.2.1;rw[e] at this; cases this
  ·rw[if_neg h]; exact e
 have nob:∀(i:Nat) s,(a86 Γ)[i]?=some s→(∀ x,s≠.own x)∧∀ B,s≠.box B:=by
  intro i s e;unfold a86 at e;rw[Aa] at e
  cases e0:Γ[i]? with
  | none=>rw[e0] at e; cases e
  | some s0=>
   rw[e0] at e
   cases s0 with
   | box B=>
    have e:(match B.view with|some d=>Sl.val d|none=>match B.pv with|some b=>Sl.pub b|none=>Sl.no)=s:=Az.inj e
    cases hv:B.view with
    | none=>
     cases hw:B.pv with
     | none=>rw[hv,hw] at e; subst e; exact⟨fun x z=>(nomatch z),fun x z=>(nomatch z)⟩
     | some b=>rw[hv,hw] at e; subst e; exact⟨fun x z=>(nomatch z),fun x z=>(nomatch z)⟩
    | some d=>rw[hv] at e; subst e; exact⟨fun x z=>(nomatch z),fun x z=>(nomatch z)⟩
   | _=>cases e; exact⟨fun x z=>(nomatch z),fun x z=>(nomatch z)⟩
 refine⟨g,R.of ⟨fun b o e=>?_,fun b o e=>?_,r.fr.h0,r.fr.pn⟩ ?_ (fun i s e=>?_) (fun i B e=>(nob i _ e).2 B rfl) (fun i j x y _ e=>((nob i _ e).1 x rfl).elim)⟩
 ·unfold aB6 at e
  split at e
  ·exact e
  ·exact r.fr.sub b o e
 ·have h:¬OwnA F Γ σ G H b:=fun h=>by
   have:=h.at.1;rw[e] at this; cases this
  unfold aB6;rw[if_neg h];exact r.fr.g0 b o e
 ·unfold a86;rw[AS];exact r.len
 ·unfold a86 at e;rw[Aa] at e
  cases e0:Γ[i]? with
  | none=>rw[e0] at e; cases e
  | some s0=>
   rw[e0] at e;have h:=r.sl i s0 e0
   cases s0 with
   | no=>cases e; trivial
   | val d=>cases e; obtain⟨v,e1,d1⟩:=h; exact⟨v,e1,Dt.same g _ _ d1⟩
   | own ds=>
    cases e
    obtain⟨p,vs,e1,e2,e3,e4,e5⟩:=h;refine⟨_,e1,.lst ?_ (Dts.same g _ _ e5)⟩;unfold aB6;rw[if_pos ⟨i,_,[p],e0,⟨p,vs,rfl,e1,e2,e3,e4,e5⟩,mem_singleton.mpr rfl⟩];exact e4
   | pen=>cases e; exact h
   | con q=>cases e; exact h
   | pub B=>cases e; obtain⟨v,e1,e2⟩:=h; exact⟨v,e1,B.mono g e2⟩
   | box B=>
    have e:(match B.view with|some d=>Sl.val d|none=>match B.pv with|some b=>Sl.pub b|none=>Sl.no)=s:=Az.inj e;obtain⟨v,fp,e1,e2,e3⟩:=h
    cases hv:B.view with
    | none=>
     cases hw:B.pv with
     | none=>rw[hv,hw] at e; subst e; trivial
     | some b0=>
      rw[hv,hw] at e;subst e;refine⟨v,e1,B.pok e2 hw g fun b hb=>?_⟩;unfold aB6;rw[if_pos ⟨i,_,fp,e0,⟨v,e1,e2,e3⟩,hb⟩]
    | some d=>
     rw[hv] at e;subst e;refine⟨v,e1,B.vok e2 hv g fun b hb=>?_⟩;unfold aB6;rw[if_pos ⟨i,_,fp,e0,⟨v,e1,e2,e3⟩,hb⟩]
theorem R.backG (r:R F Γ σ G H){G1 H1:Hp}(s:Same (aB6 F Γ σ G H) G1)(f1:Rf F G1 H1) :
  (∀ b,OwnA F Γ σ G H b→G1 b=H b∧H1 b=H b)∧Same G (vD F Γ σ G H G1)∧Rf F (vD F Γ σ G H G1) H1∧aHD G1 (vD F Γ σ G H G1):=by
 have s0:=(r.pubAll).1;have own:∀ b,OwnA F Γ σ G H b→G1 b=H b∧H1 b=H b:=fun b h=>by
  obtain⟨_,_,o,e⟩:=h.at;have q:aB6 F Γ σ G H b=H b:=by unfold aB6; rw[if_pos h]
  rw[e] at q ⊢;exact⟨s b _ q,f1.sub b _ (s b _ q)⟩
 have g:Same G (vD F Γ σ G H G1):=fun b o e=>by
  have h:¬OwnA F Γ σ G H b:=fun h=>by
   have:=h.at.2.1;rw[e] at this; cases this
  unfold vD;rw[if_neg h];exact s b o (s0 b o e)
 refine⟨own,g,⟨fun b o e=>?_,fun b o e=>?_,f1.h0,f1.pn⟩,fun b xs e=>?_⟩
 ·unfold vD at e
  split at e
  ·cases e
  ·exact f1.sub b o e
 ·have h:¬OwnA F Γ σ G H b:=fun h=>by
   have:=h.at.1;rw[e] at this; cases this
  unfold vD;rw[if_neg h];exact f1.g0 b o e
 ·by_cases h:OwnA F Γ σ G H b
  ·have e':H b=some (.tup xs):=by rw[← (own b h).1]; exact e
   obtain⟨q,vs,q1,q2,q3⟩:=h.tup e';exact .inr ⟨q,vs,q1,by rw[(own q q2).1]; exact q3⟩
  ·refine .inl ?_;unfold vD;rw[if_neg h];exact e
theorem aGD {G1:Hp}{b:AB}(h:OwnA F Γ σ G H b):vD F Γ σ G H G1 b=none:=by
 unfold vD;rw[if_pos h]
theorem R.back (r:R F Γ σ G H){G' H':Hp}(s:Same (aB6 F Γ σ G H) G')(r':R F (a86 Γ) σ G' H'):Same G (vD F Γ σ G H G')∧R F Γ σ (vD F Γ σ G H G') H'∧aHD G' (vD F Γ σ G H G'):=by
 obtain⟨own,g,f,t⟩:=r.backG s r'.fr;obtain⟨fps,h1,h2⟩:=r.fps;refine⟨g,⟨f,r.len,fps,fun i sl e=>(h1 i sl e).go g fun b hb=>?_,h2⟩,t⟩;have ho:OwnA F Γ σ G H b:=⟨i,sl,fps i,e,h1 i sl e,hb⟩;exact⟨aGD ho,(own b ho).2⟩
end
theorem aF2 {t:TE}{m:ME}(h:VT P0 t m):VT P0 t (aHW m):=by
 intro F Γ σ G H Q Qm r hm k;obtain⟨s0,r0⟩:=r.pubAll;refine h F _ σ _ H _ _ r0 hm fun d Γ1 x G1 H1 m1 s1 r1 d1=>?_;obtain⟨hd,rfl,q⟩:=m1;obtain⟨s2,r2,t2⟩:=r.back s1 r1;exact k _ _ _ _ _ q s2 r2 (Dt.sameU t2 _ _ hd d1)
theorem a3I {t:TT}{m:MT}(h:VTT P0 t m):VTT P0 t (a7K m):=by
 intro F Γ σ G H Q Qm r hm k;obtain⟨s0,r0⟩:=r.pubAll;refine h F _ σ _ H _ _ r0 hm fun b Γ1 G1 H1 m1 s1 r1=>?_;obtain⟨rfl,q⟩:=m1;obtain⟨s2,r2,t2⟩:=r.back s1 r1;exact k _ _ _ _ q s2 r2
section
variable {ta tb:TE}{ma mb:ME}
abbrev aGF:=mI0 fun i j=>A0 (i+j)
abbrev a4R:=mI0 fun i j=>A0 (i-j)
abbrev mH:=mI Df fun i j=>A0 (i*j)
abbrev aEQ:=mI aHY fun i j=>A0 (i.fdiv j)
abbrev aPC:=mI (fun _ j=>0<j) fun i j=>A0 (i%j)
abbrev aLZ:=mU fun i=>A0 (-i)
abbrev mLt:=mI0 fun i j=>FQ (decide (i<j))
abbrev mGt:=mI0 fun i j=>FQ (decide (j<i))
abbrev mGe:=mI0 fun i j=>FQ (decide (j≤i))
theorem tH (ha:VT P0 ta ma)(hb:VT P0 tb mb):VT P0 (tOp (rI0 fun i j=>.int (i+j)) ta tb) (aGF ma mb):=aCY (fun _ _ _=>.int _) ha hb
theorem iJ (ha:VT P0 ta ma)(hb:VT P0 tb mb):VT P0 (tOp (rI0 fun i j=>.int (i-j)) ta tb) (a4R ma mb):=aCY (fun _ _ _=>.int _) ha hb
theorem cC (ha:VT P0 ta ma)(hb:VT P0 tb mb):VT P0 (tOp (rI Df fun i j=>.int (i*j)) ta tb) (mH ma mb):=aQZ (fun _ _ _=>.int _) ha hb
theorem a2L (ha:VT P0 ta ma)(hb:VT P0 tb mb):VT P0 (tOp (rI aHY fun i j=>.int (i.fdiv j)) ta tb) (aEQ ma mb):=aQZ (fun _ _ _=>.int _) ha hb
theorem aJR (ha:VT P0 ta ma)(hb:VT P0 tb mb):VT P0 (tOp (rI (fun _ j=>0<j) fun i j=>.int (i%j)) ta tb) (aPC ma mb):=aQZ (fun _ _ _=>.int _) ha hb
theorem a6N (ha:VT P0 ta ma):VT P0 (tUn (rU fun i=>.int (-i)) ta) (aLZ ma):=aSK (fun _ _=>.int _) ha
theorem a02 (ha:VT P0 ta ma)(hb:VT P0 tb mb):VT P0 (tOp (rI0 fun i j=>.bl (decide (i<j))) ta tb) (mLt ma mb):=aCY (fun _ _ _=>.bl _) ha hb
theorem aD3 (ha:VT P0 ta ma)(hb:VT P0 tb mb):VT P0 (tOp (rI0 fun i j=>.bl (decide (j<i))) ta tb) (mGt ma mb):=aCY (fun _ _ _=>.bl _) ha hb
theorem aQY (ha:VT P0 ta ma)(hb:VT P0 tb mb):VT P0 (tOp (rI0 fun i j=>.bl (decide (j≤i))) ta tb) (mGe ma mb):=aCY (fun _ _ _=>.bl _) ha hb
theorem aH {i:Int}:VT P0 (tC (.int i)) (mC (.int i)):=aP1 fun _=>.int i
theorem z7 {b:Bool}:VT P0 (tC (.bl b)) (mC (.bool b)):=aP1 fun _=>.bl b
theorem lX {s:Str}:VT P0 (tC (.str s)) (mC (.str s)):=aP1 fun _=>.str s
theorem zP:VT P0 (tC .non) (mC .none):=aP1 fun _=>.non
end
end
section
def aHV:Fm:=fun as Q=>match as with
 | [.pen,.val (.int m)]=>0<m∧m<1073741824∧∀ r:Int,0≤r→r<m→Q (.val (.int r))
 | _=>False
def o4:Fl→Prop:=fun fl=>fl=.rt (.val (.bool true))
end
end L2.VS
namespace L2.VS
open PySem PySem.Spec PyProof.Rows LT
section
variable {Γ:En}{i j n:Nat}{d e x y:D}{ma mb:ME}{oa ob:MO}{ta tb:MT}{md:MD}{aa:MA}{sa sb:MS}{g:MG}{gs:MGs}{mp mq:MP}
theorem aPN {Q:Fl→Prop}(h:sa Γ fun fl=>match fl with|.nx Γ1=>sb Γ1 Q|fl=>Q fl):cF sa sb Γ Q:=h
theorem aSD {Q:Fl→Prop}(h:Q (.nx Γ)):mNx Γ Q:=h
theorem aQ6 {Q:Fl→Prop}(h:oa Γ fun rv Γ1=>Q (.nx (Γ1.set i rv.sl))):eE i oa Γ Q:=h
theorem aQS {Q:Fl→Prop}(h:ma Γ fun d Γ1=>g d Γ1 fun Γ2=>Q (.nx Γ2)):aPW ma g Γ Q:=h
theorem aR0 {Q:Fl→Prop}(h:md Γ fun ds Γ1=>match ds with|[d,e]=>Q (.nx ((Γ1.set i (.val d)).set j (.val e)))|_=>False):aM4 i j md Γ Q:=h
theorem aPL {Q:Fl→Prop}(h:oa Γ fun rv _=>Q (.rt rv)):dH oa Γ Q:=h
theorem aSV {Q:Fl→Prop}(h:ta Γ fun k Γ1=>if k=true then sa Γ1 Q else sb Γ1 Q):mIf ta sa sb Γ Q:=h
theorem aR2 {Q:Fl→Prop}(h:md Γ fun ds Γ1=>forL g sa ds Γ1 Q):a4T md g sa Γ Q:=h
def aQ3 (i:Nat)(d:D)(Γ1:En)(Q:Fl→Prop):Prop:=match Γ1[i]? with
 | some (.own ds)=>ds.length<1000∧Q (.nx (Γ1.set i (.own (ds++[d]))))
 | _=>False
theorem aGY {Q:Fl→Prop}{ds:List D}(h0:Γ[i]?=some (.own ds))(h:ma Γ fun d Γ1=>aQ3 i d Γ1 Q):nT i ma Γ Q:=by
 unfold nT;rw[h0];exact h
theorem a1V {Q:Fl→Prop}{Γ1:En}{ds:List D}(h0:Γ1[i]?=some (.own ds))(h1:ds.length<1000)(h:Q (.nx (Γ1.set i (.own (ds++[d]))))):aQ3 i d Γ1 Q:=by
 unfold aQ3;rw[h0];exact⟨h1,h⟩
theorem aNW {Q:Fl→Prop}{ds:List D}(h0:Γ[i]?=some (.own ds))(h:sa (Γ.set i (.val (.list ds))) Q):aBB i sa Γ Q:=by
 unfold aBB;rw[h0];exact h
theorem i_c {Q:D→En→Prop}(h:Q d Γ):mC d Γ Q:=h
theorem aQ7 {Q:D→En→Prop}(h0:Γ[i]?=some (.val d))(h:Q d Γ):aN i Γ Q:=by
 unfold aN;rw[h0];exact h
theorem aSF {f:Int→Int→D}{Q:D→En→Prop}(h:ma Γ fun x Γ1=>mb Γ1 fun y Γ2=>match x,y with|.int i,.int j=>Q (f i j) Γ2|_,_=>False):mI0 f ma mb Γ Q:=h
theorem i_I {C:Int→Int→Prop}{f:Int→Int→D}{Q:D→En→Prop}(h:ma Γ fun x Γ1=>mb Γ1 fun y Γ2=>match x,y with|.int i,.int j=>C i j∧Q (f i j) Γ2|_,_=>False):mI C f ma mb Γ Q:=h
theorem i_U {f:Int→D}{Q:D→En→Prop}(h:ma Γ fun x Γ1=>match x with|.int i=>Q (f i) Γ1|_=>False):mU f ma Γ Q:=h
theorem aQD {Q:D→En→Prop}(h:ma Γ fun x Γ1=>match x with|.int i=>Q (.int (if i<0 then -i else i)) Γ1|_=>False):aMI ma Γ Q:=h
theorem aO5 {Q:D→En→Prop}(h:ma Γ fun x Γ1=>match x with|.int i=>Q (.int i) Γ1|.bool b=>Q (.int (if b then 1 else 0)) Γ1|_=>False):aKG ma Γ Q:=h
theorem aSB {Q:D→En→Prop}(h:ma Γ fun x Γ1=>mb Γ1 fun y Γ2=>Good x∧Good y∧Q (.bool (Av x y)) Γ2):mEq ma mb Γ Q:=h
theorem aS5 {Q:D→En→Prop}(h:ma Γ fun x Γ1=>mb Γ1 fun y Γ2=>Good x∧Good y∧Q (.bool (!PyData.eqv x y)) Γ2):mNe ma mb Γ Q:=h
theorem aP8 {Q:D→En→Prop}(h:ma Γ fun x Γ1=>Q (.bool (isN x)) Γ1):aM6 ma Γ Q:=h
theorem aMT {Q:D→En→Prop}(h:ma Γ fun x Γ1=>Q (.bool (!isN x)) Γ1):aFM ma Γ Q:=h
theorem aN6 {Q:D→En→Prop}(h:ma Γ fun x Γ1=>match x with|.bool c=>if c=true then mb Γ1 Q else Q (.bool false) Γ1|_=>False):aGN ma mb Γ Q:=h
theorem aMM {Q:D→En→Prop}(h:ma Γ fun x Γ1=>match x with|.bool c=>Q (.bool (!c)) Γ1|_=>False):aBV ma Γ Q:=h
theorem aPV {Q:Bool→En→Prop}(h:ma Γ fun x Γ1=>match x with|.bool c=>Q c Γ1|_=>False):eX ma Γ Q:=h
theorem aPH {Q:Bool→En→Prop}(h:ta Γ fun c Γ1=>if c=true then tb Γ1 Q else Q false Γ1):aJM ta tb Γ Q:=h
theorem aSU {Q:Bool→En→Prop}(h:ta Γ fun c Γ1=>if c=true then Q true Γ1 else tb Γ1 Q):mOr ta tb Γ Q:=h
theorem aQT {Q:Bool→En→Prop}(h:ta Γ fun c Γ1=>Q (!c) Γ1):aFN ta Γ Q:=h
theorem aQV {Q:Rv→En→Prop}(h:ta Γ fun c Γ1=>if c=true then oa Γ1 Q else ob Γ1 Q):aP6 ta oa ob Γ Q:=h
theorem aPZ {Q:List D→En→Prop}(h:Q [] Γ):eF Γ Q:=h
theorem aMO {Q:List D→En→Prop}(h:ma Γ fun x Γ1=>md Γ1 fun xs Γ2=>Q (x::xs) Γ2):bG ma md Γ Q:=h
theorem aNM {Q:List Sl→En→Prop}(h:Q [] Γ):bY Γ Q:=h
theorem aN5 {Q:List Sl→En→Prop}(h:ma Γ fun x Γ1=>aa Γ1 fun xs Γ2=>Q (.val x::xs) Γ2):bB ma aa Γ Q:=h
theorem aMP {Q:List Sl→En→Prop}(h0:Γ[i]?=some .pen)(h:aa Γ fun xs Γ2=>Q (.pen::xs) Γ2):qX i aa Γ Q:=by
 unfold qX;rw[h0];exact h
theorem aQ4 {Q:D→En→Prop}(h:md Γ fun ds Γ1=>ds.length≤1000∧Q (.tuple ds) Γ1):mW md Γ Q:=h
theorem aQ2 {Q:Rv→En→Prop}(h:md Γ fun ds Γ1=>ds.length≤1000∧Q (.own ds) Γ1):a4S md Γ Q:=h
theorem aSO {Q:D→En→Prop}(h:ma Γ fun x Γ1=>mb Γ1 fun y Γ2=>oQ (ixD x y) fun d=>Q d Γ2):mIx ma mb Γ Q:=h
theorem aPJ {Q:D→En→Prop}(h:ma Γ fun x Γ1=>oQ (aK4 x) fun d=>Q d Γ1):xG ma Γ Q:=h
theorem aQX {s:String}{Q:D→En→Prop}(h:ma Γ fun x Γ1=>Q (.bool (aKK (v7 x) s)) Γ1):aOZ s ma Γ Q:=h
theorem aPE {Q:D→En→Prop}(h:oa Γ fun rv Γ1=>nbQ rv (Q rv.d Γ1)):bZ oa Γ Q:=h
theorem aQ5 {Q:Rv→En→Prop}(h:ma Γ fun d Γ1=>Q (.val d) Γ1):cN ma Γ Q:=h
theorem aOS {Q:Rv→En→Prop}{ds:List D}(h0:Γ[i]?=some (.own ds))(h:Q (.own ds) (Γ.set i .no)):a1C i Γ Q:=by
 unfold a1C;rw[h0];exact h
theorem aNE {f:Fm}{Q:Rv→En→Prop}(h:aa Γ fun as Γ1=>as.length=n∧f as fun rv=>Q rv Γ1):aZ n f aa Γ Q:=h
theorem aHJ {Q:Rv→En→Prop}(h:ma Γ fun x Γ1=>match yF x with|some ds=>Q (.own ds) Γ1|none=>False):aLR ma Γ Q:=h
theorem aR5 {Q:Rv→En→Prop}(h:ma Γ fun x Γ1=>mp Γ1 fun lo Γ2=>mq Γ2 fun hi Γ3=>match x with|.list ds=>Q (.own (cutD ds lo hi)) Γ3|_=>False):aP3 ma mp mq Γ Q:=h
theorem aQB {Q:Option Int→En→Prop}(h:Q none Γ):pNo Γ Q:=h
theorem aQ1 {Q:Option Int→En→Prop}(h:ma Γ fun x Γ1=>match x with|.int i=>Q (some i) Γ1|_=>False):pSo ma Γ Q:=h
theorem aR4 {Q:Rv→En→Prop}(h:ma Γ fun x Γ1=>mb Γ1 fun y Γ2=>match x,y with|.list ds,.list es=>ds.length+es.length≤1000∧Q (.own (ds++es)) Γ2|_,_=>False):aPY ma mb Γ Q:=h
theorem aSA {neg:Bool}{Q:D→En→Prop}(h:ma Γ fun x Γ1=>mb Γ1 fun y Γ2=>match yF y with|some ds=>Good x∧Goods ds∧Q (.bool (if neg then !(ds.any fun e=>Av e x) else ds.any fun e=>Av e x)) Γ2|none=>False):mIn neg ma mb Γ Q:=h
theorem aOF {Q:D→En→Prop}(h:ma (a86 Γ) fun d Γ1=>zV d=true∧Γ1=a86 Γ∧Q d Γ):aHW ma Γ Q:=h
theorem aKD {Q:Bool→En→Prop}(h:ta (a86 Γ) fun b Γ1=>Γ1=a86 Γ∧Q b Γ):a7K ta Γ Q:=h
theorem aQG {Q:List D→En→Prop}(h:ma Γ fun x Γ1=>match x with|.list ds=>Q ds Γ1|_=>False):a7S ma Γ Q:=h
theorem aPT {Q:List D→En→Prop}(h:ma Γ fun x Γ1=>match x with|.tuple ds=>Q ds Γ1|_=>False):aQU ma Γ Q:=h
theorem aOO {Q:List D→En→Prop}(h:md Γ fun ds Γ1=>match ds with|[.int j] => -(2^62)≤j∧j<2^62∧Q (eZ 0 j.toNat) Γ1|_=>False):z9 md Γ Q:=h
theorem aO8 {Q:List D→En→Prop}(h:md Γ fun ds Γ1=>match ds with|[.int i,.int j]=>(-(2^62)≤i∧i<2^62 ∧ -(2^62)≤j∧j<2^62)∧Q (eZ i (j-i).toNat) Γ1|_=>False):aHN md Γ Q:=h
theorem aSS {Q:En→Prop}(h:Q (Γ.set i (.val d))):gN i d Γ Q:=h
theorem aSQ {Q:En→Prop}{ds:List D}(hl:ds.length=n)(h:gs ds Γ Q):gT n gs (.tuple ds) Γ Q:=⟨hl,h⟩
theorem aL4 {Q:En→Prop}(h:Q Γ):a8N [] Γ Q:=h
theorem aIB {Q:En→Prop}{ds:List D}(h:g d Γ fun Γ1=>gs ds Γ1 Q):o9 g gs (d::ds) Γ Q:=h
theorem j6 {k:Nat}{as:List Sl}{Q:Rv→Prop}(h:sa (as++List.replicate k .no) fun fl=>match fl with|.rt rv=>Q rv|.nx _=>Q (.val .none)|_=>False):mFn k sa as Q:=h
theorem cO {o:Option D}{k:D→Prop}(h0:o=some d)(h:k d):oQ o k:=by rw[h0]; exact h
theorem dY {m:Int}{Q:Rv→Prop}(h1:0<m)(h2:m<1073741824)(h:∀ r:Int,0≤r→r<m→Q (.val (.int r))):aHV [.pen,.val (.int m)] Q:=⟨h1,h2,h⟩
structure KOk (I:En→Prop)(Q K:Fl→Prop):Prop where
 nx:∀ Γ,I Γ→K (.nx Γ)
 ct:∀ Γ,I Γ→K (.ct Γ)
 bk:∀ Γ,Q (.nx Γ)→K (.bk Γ)
 rt:∀ rv,Q (.rt rv)→K (.rt rv)
theorem rZ {ds:List D}{Q:Fl→Prop}(I:Nat→En→Prop)(h0:I 0 Γ)(hs:∀ i d Γ K,ds[i]?=some d→I i Γ→KOk (I (i+1)) Q K→g d Γ fun Γ1=>sa Γ1 K)(he:∀ Γ,I ds.length Γ→Q (.nx Γ)):forL g sa ds Γ Q:=by
 have aux:∀(es:List D) (k:Nat) (Γ:En),(∀ i d,es[i]?=some d→ds[k+i]?=some d)→k+es.length=ds.length→I k Γ→forL g sa es Γ Q:=by
  intro es
  induction es with
  | nil=>intro k Γ _ hl hi; exact he Γ (by rw[← hl]; simpa using hi)
  | cons d es ih=>
   intro k Γ hd hl hi;have next:∀ Γ2,I (k+1) Γ2→forL g sa es Γ2 Q:=fun Γ2 h3=>ih (k+1) Γ2 (fun i e he'=>by
    have:=hd (i+1) e (by simpa using he');rw[show k+1+i=k+(i+1) by omega]; exact this) (by rw[← hl,An]; omega) h3
   exact hs k d Γ _ (by simpa using hd 0 d rfl) hi ⟨next,next,fun _ h=>h,fun _ h=>h⟩
 exact aux ds 0 Γ (fun i d h=>by simpa using h) (by simp) h0
theorem eO {lo:Int}{n:Nat}{Q:Fl→Prop}(I:Nat→En→Prop)(h0:I 0 Γ)(hs:∀ i Γ K,i<n→I i Γ→KOk (I (i+1)) Q K→g (.int (lo+i)) Γ fun Γ1=>sa Γ1 K)(he:∀ Γ,I n Γ→Q (.nx Γ)):forL g sa (eZ lo n) Γ Q:=by
 have hl:(eZ lo n).length=n:=by simp[eZ]
 refine rZ I h0 (fun i d Γ K e hi hk=>?_) (by rw[hl]; exact he);have hi':i<n:=by have:=(List.getElem?_eq_some_iff.mp e).1; omega
 unfold eZ at e;rw[Aa,DP hi'] at e
 cases e
 exact hs i Γ K hi' hi hk
theorem pA {Q:Fl→Prop}(I:Nat→En→Prop)(m0:Nat)(h0:I m0 Γ)(hs:∀ m Γ,I m Γ→ta Γ fun k Γ1=>if k=true then sa Γ1 fun fl=>match fl with
  | .nx Γ2=>∃ n',n'<m∧I n' Γ2
  | .ct Γ2=>∃ n',n'<m∧I n' Γ2
  | .bk Γ2=>Q (.nx Γ2)
  | .rt rv=>Q (.rt rv)
 else Q (.nx Γ1)):zY ta sa Γ Q:=⟨I,⟨m0,h0⟩,hs⟩
end
theorem aQ8 {A B:Prop}(h:B):if (!true)=true then A else B:=a5C h
theorem aPQ {A B:Prop}(h:A):if (!false)=true then A else B:=a4U h
theorem good_int (i:Int):Good (.int i):=⟨rfl,by show 0≤60; decide⟩
theorem good_bool (b:Bool):Good (.bool b):=⟨rfl,by show 0≤60; decide⟩
theorem good_none:Good .none:=⟨rfl,by show 0≤60; decide⟩
theorem aDN (i j:Int):Av (.int i) (.int j)=decide (i=j):=by
 show(i==j)=_
 exact GC i j
theorem aGT (i j:Bool):Av (.bool i) (.bool j)=decide (i=j):=by
 show(i==j)=_
 exact GC i j
section
variable {P:D→Prop}{Γ:En}{Q:D→En→Prop}
end
def Gd (n:Nat)(d:D):Prop:=d.canLay0=true∧d.depth≤n
theorem Gd.good {n:Nat}{d:D}(h:Gd n d)(hn:n≤60:=by decide):Good d:=⟨h.1,Aw h.2 hn⟩
theorem Gd.mono {n m:Nat}{d:D}(h:Gd n d)(hn:n≤m:=by decide):Gd m d:=⟨h.1,Aw h.2 hn⟩
theorem gds {n:Nat}:∀{ds:List D},(∀ d∈ds,Gd n d)→FO ds=true∧FP ds≤n
 | [],_=>⟨rfl,A8 _⟩
 | d::ds,h=>by
  have h1:=h d mem_cons_self;have h2:=gds (ds:=ds) fun e he=>h e (AU _ he);refine⟨by show(d.canLay0&&FO ds)=true; rw[h1.1,h2.1]; rfl,?_⟩;show max d.depth (FP ds)≤n;exact Nat.max_le.mpr ⟨h1.2,h2.2⟩
theorem aD1 {n:Nat}{ds:List D}(h:∀ d∈ds,Gd n d):Gd (n+1) (.tuple ds):=⟨(gds h).1,FR (gds h).2⟩
theorem a2C {n:Nat}{ds:List D}(h:∀ d∈ds,Gd n d):Gd (n+1) (.list ds):=⟨(gds h).1,FR (gds h).2⟩
theorem a9E {n:Nat}{ds:List D}(h:∀ d∈ds,Gd n d)(hn:n≤59:=by decide):Goods ds:=⟨(gds h).1,Aw (gds h).2 hn⟩
theorem rC (i:Int):Gd 0 (.int i):=⟨rfl,AN _⟩
theorem gd_none:Gd 0 .none:=⟨rfl,AN _⟩
theorem a6P (s:Str)(h:(AJ.str s).canLay0=true:=by decide +kernel):Gd 0 (.str s):=⟨h,AN _⟩
theorem good_str (s:Str)(h:(AJ.str s).canLay0=true:=by decide +kernel):Good (.str s):=(a6P s h).good
theorem aAH (q:Rat):Gd 1 (cG q):=aD1 (n:=0) fun d h=>by
 rcases AK.mp h with rfl|h
 ·exact rC _
 ·rw[mem_singleton.mp h]; exact rC _
theorem aP5 {n:Nat}{a b:D}(ha:Gd n a)(hb:Gd n b):Gd (n+1) (.tuple [a,b]):=aD1 fun d h=>by
 rcases AK.mp h with rfl|h
 ·exact ha
 ·rw[mem_singleton.mp h]; exact hb
theorem t7 {d:D}(h:Good d):Av d d=true:=SeqAt.eqv_refl d h.lay
theorem isT {d:D}{n:String}{A B:Prop}(h:aKK (v7 d) n=true)(a:A):if aKK (v7 d) n=true then A else B:=by rw[h]; exact a4U a
theorem aLO (q:Rat):ixD (cG q) (.int 0)=some (.int q.num):=rfl
theorem aLX (q:Rat):ixD (cG q) (.int 1)=some (.int (q.den:Int)):=rfl
theorem aIM (l:Rat×Rat):ixD (gQ l) (.int 0)=some (cG l.1):=rfl
theorem aIA (l:Rat×Rat):ixD (gQ l) (.int 1)=some (cG l.2):=rfl
end L2.VS
namespace L2
open PySem PySem.Spec PyProof.Rows
def a7W (env:Env):List (Str×A3)→List (Str×AB)→List (Str×AB)
 | [],cs=>cs
 | (n,k)::r,cs=>if (k==.free)=true then a7W env r ((n,(env.cells.lookup n).getD 0)::cs) else a7W env r cs
theorem aG5 {env:Env}:∀(names:List (Str×A3)) (cs:List (Str×AB)),(∀ y∈names,y.2=.free→∃ c,env.cells.lookup y.1=some c) →
  (forIn names cs fun(x:Str×A3) (r:List (Str×AB))=>(do
   if (x.2==A3.free)=true then do
    let a←cellOf env x.1
    pure (Di ((x.1,a)::r))
   else pure (Di r):Sem (ForInStep (List (Str×AB)))))=pure (a7W env names cs)
 | [],cs,_=>rfl
 | (n,k)::r,cs,h=>by
  have ih:=fun cs=>aG5 (env:=env) r cs fun y hy=>h y (AU _ hy);rw[EU];unfold a7W
  by_cases hk:(k==A3.free)=true
  ·obtain⟨c,hc⟩:=h (n,k) mem_cons_self (by simpa using hk);have hc':env.cells.lookup n=some c:=hc;have e:cellOf env n=pure c:=by unfold cellOf; rw[hc']
   simp only[hk,if_true,e,hc',Option.getD_some];simp only[pure_bind];exact ih _
  ·have hk':(k==A3.free)=false:=by simpa using hk
   simp only[hk',Ae,if_false,pure_bind];exact ih _
theorem aFU {scope:BH}{env:Env}(h:∀ y∈scope.names,y.2=.free→∃ c,env.cells.lookup y.1=some c):closureFor scope env=pure (a7W env scope.names []):=by
 have e:=aG5 (env:=env) scope.names [] h;unfold closureFor;rw[← e];simp only[bind_pure]
theorem sZ {env:Env}:∀(names:List (Str×A3)) (cs:List (Str×AB)),(∀ y∈names,y.2=.free→∃ c,env.cells.lookup y.1=some c)→(∀ x c,cs.lookup x=some c→env.cells.lookup x=some c) →
  ∀ x c,(a7W env names cs).lookup x=some c→env.cells.lookup x=some c
 | [],cs,_,h=>h
 | (n,k)::r,cs,hf,h=>by
  have ih:=fun cs=>sZ (env:=env) r cs fun y hy=>hf y (AU _ hy);unfold a7W
  by_cases hk:(k==A3.free)=true
  ·rw[if_pos hk];obtain⟨c0,hc⟩:=hf (n,k) mem_cons_self (by simpa using hk);have hc':env.cells.lookup n=some c0:=hc;refine ih _ fun x c e=>?_;rw[DR] at e
   cases hx:x==n with
   | true=>
    rw[hx,hc'] at e;have:x=n:=by simpa using hx
    rw[this,hc'];exact e
   | false=>rw[hx] at e; exact h x c e
  ·rw[if_neg hk];exact ih _ h
theorem xP {env:Env}:∀(names:List (Str×A3)) (cs:List (Str×AB)) (x:Str),((∃ k,(x,k)∈names∧k=.free)∨(cs.lookup x).isSome=true)→((a7W env names cs).lookup x).isSome=true
 | [],cs,x,h=>by
  rcases h with⟨k,hm,_⟩|h
  ·cases hm
  ·exact h
 | (n,k)::r,cs,x,h=>by
  unfold a7W
  by_cases hk:(k==A3.free)=true
  ·rw[if_pos hk];refine xP r _ x ?_
   by_cases hx:x=n
   ·right
    rw[DR,hx];simp
   ·rcases h with⟨k',hm,hf⟩|h
    ·rcases AK.mp hm with e|hm
     ·cases e; exact absurd rfl hx
     ·exact .inl ⟨k',hm,hf⟩
    ·right
     rw[DR];have:(x==n)=false:=by simpa using hx
     rw[this];exact h
  ·rw[if_neg hk];refine xP r _ x ?_;rcases h with⟨k',hm,hf⟩|h
   ·rcases AK.mp hm with e|hm
    ·cases e; subst hf; exact absurd rfl hk
    ·exact .inl ⟨k',hm,hf⟩
   ·exact .inr h
theorem pW {env:Env}:∀{names:List (Str×A3)} {x:Str},(∀ y∈names,y.2≠.cell) →
    ((names.map fun(n,k)=>if (k==A3.free&&env.scope.kind==.function&&env.kindOf n==some .cell) then(n,A3.cell) else(n,k)).lookup x=some .cell ∨
     (names.map fun(n,k)=>if (k==A3.free&&env.scope.kind==.function&&env.kindOf n==some .cell) then(n,A3.cell) else(n,k)).lookup x=some .free)→(x,A3.free)∈names
  | [],_,_,h=>by simp at h
  | (n,k)::r,x,hc,h=>by
    have ih:=@pW env r x (fun y hy=>hc y (AU _ hy));have hk:k≠.cell:=hc (n,k) mem_cons_self;rw[BD] at h
    by_cases hf:(k==A3.free&&env.scope.kind==.function&&env.kindOf n==some .cell)=true
    · have kf:k=.free:=by
        have:=(CT _ _▸hf:_∧_).1;have:=(CT _ _▸this:_∧_).1;simpa using this
      simp only[hf,if_true] at h;rw[DR] at h
      cases hx:x==n with
      | true=>
        have:x=n:=by simpa using hx
        subst this; subst kf;exact mem_cons_self
      | false=>rw[hx] at h; exact AU _ (ih h)
    · simp only[hf,Ae,if_false] at h;rw[DR] at h
      cases hx:x==n with
      | true=>
        have:x=n:=by simpa using hx
        subst this;rw[hx] at h;rcases h with h|h
        · exact absurd (Az.inj h) hk
        · have:k=.free:=Az.inj h;subst this;exact mem_cons_self
      | false=>rw[hx] at h; exact AU _ (ih h)
def jR (X:Cx)(N:List Str)(scope:BH)(C:AB)(s₀:AC)(H₀:Hp)(ex:List AB):Cx where
 prog:=X.prog
 w:=X.w
 K:=X.K
 mg:=X.mg
 base:=X.base
 A:=X.A
 N:=N
 s₀:=s₀
 H₀:=H₀
 env:=compEnvC scope (a7W X.env scope.names []) C X.env
 outer:=X.stack
 stack:=X.stack
 ex:=ex
 fn:=fun _=>false
 calm:=X.calm
 pn:=[]
 xe:=fun _ _=>False
def blk (nt:Nat)(fv:List Nat)(σ:St):St:=List.replicate nt none++fv.map fun j=>(σ[j]?).getD none
def aL3 (nt:Nat)(fv:List Nat)(wi:TI)(g:TG)(ti:TT)(te:TE):TE:=fun σ H Q=>wi σ H fun J H1=>∃ W:Nat→Nat→List V→Hp→Prop,(∃ m,W 0 m [] H1)∧∀ i m ys H,W i m ys H →
 (J.stop i H∧ys.length≤sizeLine∧∀ p,H p=none→Q (.ref p) (upd H p (.lst ys))) ∨
 (J.go i H∧ys.length≤sizeLine∧∀ x H',J.yld i H x H'→g x (blk nt fv σ) H' fun σ2 H2=>(∀ i,nt≤i→σ2[i]?=(blk nt fv σ)[i]?)∧ti σ2 H2 fun b H3=>if b=true then te σ2 H3 fun v H4=>∃ m',m'<m∧W (i+1) m' (ys++[v]) H4 else ∃ m',m'<m∧W (i+1) m' ys H3)
def PTs (X:Cx)(cs:List AR)(t:TT):Prop:=
 ∀(pins:List (AB×Obj)) (s:AC) (σ:St) (H:Hp) (Q:Bool→Hp→Prop),Inv X pins σ H s→t σ H Q →
  AE (AH X.prog X.w) X.A (forIn cs true fun c r=>if r=true then do let ok←isTrue c X.env (Ah c X.env); pure (Di ok) else pure (Di r)) (TP X pins σ Q) X.xe s
def aOT:TT:=fun _ H Q=>Q true H
theorem vA {X:Cx}:PTs X [] aOT:=fun _ _ _ H _ I h=>wpAny_tests_nil ⟨H,I,h⟩
theorem a3P {X:Cx}{c:AR}{t:TT}(h:PT X c t):PTs X [c] t:=fun pins s σ H Q I hq=>wpAny_tests_one (h pins s σ H Q I hq)
structure BlkOk (X:Cx)(N:List Str)(scope:BH)(nt:Nat)(fv:List Nat):Prop where
 kind:scope.kind=.function
 ncell:∀ y∈scope.names,y.2≠.cell
 names:∀ y∈scope.names,y.2=.local→scope.names.lookup y.1=some .local
 free:∀ y∈scope.names,y.2=.free→X.env.kindOf y.1=some .cell
 len:N.length=nt+fv.length
 fv:∀ i x,N[nt+i]?=some x→∃ j,fv[i]?=some j∧X.N[j]?=some x∧X.env.kindOf x=some .cell∧(relabel scope X.env).names.lookup x=some .cell
section
variable {X:Cx}{N:List Str}{scope:BH}{nt:Nat}{fv:List Nat}{pins:List (AB×Obj)}{σ:St}{H:Hp}{s:AC}
theorem BlkOk.cells (B:BlkOk X N scope nt fv)(I:Inv X pins σ H s):∀ y∈scope.names,y.2=.free→∃ c,X.env.cells.lookup y.1=some c:=fun y hy hf=>I.ok.has y.1 (.inl (B.free y hy hf))
theorem aNA (B:BlkOk X N scope nt fv)(I:Inv X pins σ H s){C:AB}{fp:List AB}(hC:s.heap.objs.size≤C)(hf:∀ b∈fp,aGH X pins H b)(hlt:∀ b∈fp,b<s.heap.objs.size) :
  (jR X N scope C s H fp).Ok:=by
 have sub:∀ x c,(a7W X.env scope.names []).lookup x=some c→X.env.cells.lookup x=some c:=sZ _ _ (B.cells I) (fun x c e=>by simp at e);refine⟨I.ok.mod,B.kind,I.ok.glob,I.ok.blt,hC,fun x y c e1 e2=>I.ok.inj x y c (sub x c e1) (sub y c e2),fun x hx=>?_,fun x c h=>absurd h (by show ¬(false=true); decide),I.ok.hd,I.ok.frames,.inl rfl,fun b hb=>⟨?_,fun x c e=>?_⟩,I.bs,Aw I.ok.bsz I.sz,fun b o e hb=>?_,fun b hb z=>?_,I.stack,I.stkFree⟩
 ·have hm:(x,A3.free)∈scope.names:=pW B.ncell hx;exact D4.mp (xP scope.names [] x (.inl ⟨_,hm,rfl⟩))
 ·exact Ag (Al (hlt b hb) hC)
 ·exact(hf b hb).2.2.2.2.1 x c (sub x c e)
 ·rcases(hf b hb).2.2.2.1 with z|z
  ·exact I.ok.noex b o e z
  ·exact absurd (Al (AT e) (Aw I.ok.bsz z)) (BI _)
 ·rcases AK.mp (I.stkSub b z) with z|z
  ·exact(hf b hb).2.1 z
  ·exact(hf b hb).2.2.1 z
theorem aDF (B:BlkOk X N scope nt fv)(I:Inv X pins σ H s){C:AB}{fp:List AB}(hC:s.heap.objs.size≤C)(hf:∀ b∈fp,aGH X pins H b)(hlt:∀ b∈fp,b<s.heap.objs.size){h':AF}{tk:Nat}
  (k:∀ b o,s.heap.get? b=some o→h'.get? b=some o) (hn:∃ m,h'.Ns C m):Inv (jR X N scope C s H fp) [] (blk nt fv σ) H { s with heap:=h',toks:=tk }:=by
 have sub:∀ x c,(a7W X.env scope.names []).lookup x=some c→X.env.cells.lookup x=some c:=sZ _ _ (B.cells I) (fun x c e=>by simp at e);obtain⟨m,hn⟩:=hn;refine⟨aNA B I hC hf hlt,rfl,I.bare,Un.kept k,⟨m,hn,fun i x v e1 e2 e3=>?_⟩,fun x c e=>?_,I.hok.fresh hC,fun x c e=>I.freeC x c (sub x c e),fun p hp=>(nomatch hp),I.hok.kept k,?_⟩
 ·have hi:nt≤i:=by
   refine FI fun hlt=>?_;unfold blk at e2;rw[Bu (by simpa using hlt),CN] at e2
   split at e2<;>cases e2
  obtain⟨j,hj⟩:∃ j,i=nt+j:=⟨i-nt,by omega⟩;subst hj;obtain⟨o,f1,f2,f3,f4⟩:=B.fv j x e1;unfold blk at e2;rw[B3 (by simp),Cy,Nat.add_sub_cancel_left,Aa,f1] at e2;have e2':(σ[o]?).getD none=some v:=Az.inj e2;have e4:σ[o]?=some (some v):=by
   cases q:σ[o]? with
   | none=>rw[q] at e2'; cases e2'
   | some z=>rw[q] at e2'; exact congrArg some e2'
  obtain⟨m0,hn0,hl⟩:=I.loc;obtain⟨u,ru,lk⟩:=hl o x v f2 e4 (.inr (.inl f3));refine⟨u,ru,.inr ⟨.inl f4,?_⟩⟩;rcases lk with⟨z,_⟩|⟨_,c,hc,hcell⟩
  ·rw[f3] at z; cases z
  ·have hm:(x,A3.free)∈scope.names:=pW B.ncell (.inl f4);obtain⟨c',hc'⟩:=D4.mp (xP (env:=X.env) scope.names [] x (.inl ⟨_,hm,rfl⟩));have:=sub x c' hc';rw[hc] at this
   cases this
   obtain⟨oc,h1,h2⟩:=hcell;exact⟨c,hc',oc,k c oc h1,h2⟩
 ·obtain⟨v,oc,h1,h2⟩:=I.cell x c (sub x c e);exact⟨v,oc,k c oc h1,h2⟩
 ·show(blk nt fv σ).length=N.length
  unfold blk;rw[BN,Cy,AS];exact B.len.symm
end
section
variable {prog:AL}{w:AI}{A:AV}{R:Cn→AC→Prop}{s:AC}
theorem a78 {elt target iter:AR}{ifs:List AR}{scope:BH}{pos:Pos}{it acc:AA}{env:Env}(I:Nat→AC→Prop)
  (turn:∀ n s,I n s→AE (AH prog w) A (BJ it) (fun r s₁=>match r with
   | none=>R (.ok .next) s₁
   | some v=>AE (AH prog w) A (Ek target it v) (fun _ s₁'=>AE (AH prog w) A (CZ target env v) (fun _ s₂=>
     AE (AH prog w) A (forIn ifs true fun c r=>if r=true then do let ok←isTrue c env (Ah c env); pure (Di ok) else pure (Di r)) (fun ok s₃=>
      if ok=true then AE (AH prog w) A (Ah elt env) (fun x s₄=>
       AE (AH prog w) A (call (.builtin "list.append") [acc,x]) (fun _ s₅=>∃ m,m<n∧I m s₅) (fun _ _=>False) s₄) (fun _ _=>False) s₃
      else ∃ m,m<n∧I m s₃) (fun _ _=>False) s₂) (fun _ _=>False) s₁') (fun _ _=>False) s₁) (fun _ _=>False) s)
  (n:Nat) (h:I n s) :
  Bk (AH prog w) A (.compLoop (.ListComp elt [⟨target,iter,ifs,0⟩] scope pos) 0 it acc env) R s:=by
 refine codeAny_loop rfl I (fun n s hI=>?_) n h;show AE _ A ((compTurn (.ListComp elt [⟨target,iter,ifs,0⟩] scope pos) 0 it acc env).onRaise (fun x=>do noteFrame x env; theTreesLotGoes x)) _ _ s;refine wpAny_noted ?_;rw[compTurn_list];refine AD (Ej (AD (BY (turn n s hI) (fun r s₁ h₁=>?_) fun _ _ f=>f.elim)))
 cases r with
 | none=>exact AG h₁
 | some v=>
  refine AD (BY h₁ (fun _ s₁' h₁'=>?_) fun _ _ f=>f.elim);refine AD (BY h₁' (fun _ s₂ h₂=>AD (BY h₂ (fun ok s₃ h₃=>?_) fun _ _ f=>f.elim)) fun _ _ f=>f.elim)
  cases ok with
  | false=>exact AG ⟨rfl,h₃⟩
  | true=>
   exact AD (AD (BY h₃ (fun x s₄ h₄=>AD (BY h₄ (fun _ s₅ h₅=>AG (AG ⟨rfl,h₅⟩)) fun _ _ f=>f.elim)) fun _ _ f=>f.elim))
end
end L2
namespace L2
open PySem PySem.Spec PyProof.Rows
section
variable {X:Cx}{N:List Str}{scope:BH}{nt:Nat}{fv:List Nat}{elt tg iter:AR}{ifs:List AR}{wi:TI}{g:TG}{ti:TT}{te:TE}{pos:Pos}
def a06 (its:List AA)(n:Nat):Obj:={ cls:=.type "list", dict:=none,data:=.seq its.toArray n }
theorem aA9 (hc:X.calm=true)(B:BlkOk X N scope nt fv)
  (hg:∀ C s₀ H₀ ex,PG (jR X N scope C s₀ H₀ ex) tg g) (ht:∀ C s₀ H₀ ex,PTs (jR X N scope C s₀ H₀ ex) ifs ti) (he:∀ C s₀ H₀ ex,PE (jR X N scope C s₀ H₀ ex) elt te)
  {pins:List (AB×Obj)} {σ:St} {s2:AC} {H2:Hp} {it:AB} {fp:List AB} {tn:Nat→AF→Prop} {J:It} (I2:Inv X pins σ H2 s2) (T:Turn X.prog X.w X.K tg J fp it tn) (st2:tn 0 s2.heap) (f2:∀ b∈fp,aGH X pins H2 b)
  {W:Nat→Nat→List V→Hp→Prop} {m0:Nat} (w0:W 0 m0 [] H2) {Q:VK}
  (turn:∀ i m ys H,W i m ys H→(J.stop i H∧ys.length≤sizeLine∧∀ p,H p=none→Q (.ref p) (upd H p (.lst ys))) ∨
   (J.go i H∧ys.length≤sizeLine∧∀ x H',J.yld i H x H'→g x (blk nt fv σ) H' fun σ2 H2=>(∀ i,nt≤i→σ2[i]?=(blk nt fv σ)[i]?)∧ti σ2 H2 fun b H3=>if b=true then te σ2 H3 fun v H4=>∃ m',m'<m∧W (i+1) m' (ys++[v]) H4 else ∃ m',m'<m∧W (i+1) m' ys H3))
  {RR:AA→AB→Cn→AC→Prop}
  (hR:∀ D C s',s2.heap.objs.size≤C→(∃ m,s'.heap.Ns C m)→(∀ h',Ar C s'.heap h'→∃ H',Inv X pins σ H' { s' with heap:=h' }∧H' C=none∧Q (.ref D) H')→RR (.ref D) C (.ok .next) s') :
  AE (AH X.prog X.w) X.A (newList []) (fun acc s₃=>AE (AH X.prog X.w) X.A (newFunctionEnv scope X.env.globals (a7W X.env scope.names []) [] X.env.qual none .none (some X.env)) (fun cenv s₄=>
   Bk (AH X.prog X.w) X.A (.compStart (.ListComp elt [⟨tg,iter,ifs,0⟩] scope pos) 0 (.ref it) acc { cenv with scope:=relabel scope X.env }) (RR acc cenv.locals) s₄) X.xe s₃) X.xe s2:=by
 refine Ca (wpAny_newFunctionEnv B.ncell (by intro y hy; simp at hy) (fun h₁ hns₁ hsb₁=>?_) B.kind);dsimp only at hns₁ hsb₁ ⊢;generalize hH2:s2.heap.push { cls:=.type "list", dict:=none,data:=.seq ([]:List AA).toArray }=Hh at hns₁ hsb₁ ⊢;have hC:Hh.objs.size=s2.heap.objs.size+1:=by rw[← hH2,B6]
 have hDC:s2.heap.objs.size≠Hh.objs.size:=by rw[hC]; exact Ag (D1 _)
 have hCle:s2.heap.objs.size≤Hh.objs.size:=by rw[hC]; exact Nat.le_succ _
 have below:∀ b,b<s2.heap.objs.size→b≠Hh.objs.size∧b≠s2.heap.objs.size:=fun b hb=>⟨by rw[hC]; exact Ag (Ba hb),Ag hb⟩;have old:∀ b o,s2.heap.get? b=some o→h₁.get? b=some o:=fun b o e=>hsb₁.extBut b o (below b (AT e)).1 (AZ _ (hH2▸AZ _ e));have hacc:h₁.get? s2.heap.objs.size=some (a06 [] 0):=hsb₁.extBut _ _ hDC (AZ _ (hH2▸Aq _ rfl));have flt:∀ b∈fp,b<s2.heap.objs.size:=fun b hb=>by obtain⟨o,e,_⟩:=T.obj 0 _ st2 b hb; exact AT e
 have fresh:∀ a,s2.heap.objs.size≤a→s2.heap.get? a=none:=fun a ha=>by
  cases e:s2.heap.get? a with
  | none=>rfl
  | some o'=>exact absurd (AT e) (not_lt.mpr ha)
 have ftk:∀{H':Hp} {pl:List (AB×Obj)},(∀ b∈fp,H' b=none)→(∀ p∈pl,p.1∉fp)→∀ b∈fp,aGH (jR X N scope Hh.objs.size s2 H2 fp) pl H' b:=fun{H' pl} hn hp b hb=>
  ⟨hn b hb,(below b (flt b hb)).1,fun z=>by
   rcases AK.mp (I2.stkSub b z) with z|z
   ·exact(f2 b hb).2.1 z
   ·exact(f2 b hb).2.2.1 z,.inl hb,fun x c e=>(f2 b hb).2.2.2.2.1 x c (sZ _ _ (B.cells I2) (fun x c e=>by simp at e) x c e),fun p hp' z=>hp p hp' (z▸hb)⟩
 have Dfp:s2.heap.objs.size∉fp:=fun hm=>BI _ (flt _ hm);have Dfs:s2.heap.objs.size∉frs X.stack:=fun z=>by
  rcases AK.mp (I2.stkSub _ z) with z|z
  ·exact BI _ (z▸I2.lt)
  ·exact I2.nofs (AN _) z
 have Dcell:∀ x c,(a7W X.env scope.names []).lookup x=some c→c≠s2.heap.objs.size:=fun x c e z=>by
  obtain⟨v,q⟩:=I2.cell x c (sZ _ _ (B.cells I2) (fun x c e=>by simp at e) x c e);exact BI _ (z▸q.lt)
 have Iblk:Inv (jR X N scope Hh.objs.size s2 H2 fp) [] (blk nt fv σ) H2 { s2 with heap:=h₁,toks:=s2.toks+([]:List (Str×AA)).length }:=aDF B I2 hCle f2 flt old ⟨_,hns₁⟩;have pinD:∀{s':AC} {H':Hp} {σ':St} {its:List AA} {n:Nat} {pl:List (AB×Obj)},Inv (jR X N scope Hh.objs.size s2 H2 fp) pl σ' H' s'→s'.heap.get? s2.heap.objs.size=some (a06 its n)→H' s2.heap.objs.size=none →
   Inv (jR X N scope Hh.objs.size s2 H2 fp) [(s2.heap.objs.size,a06 its n)] σ' H' s':=fun I e hn=>I.pins_of fun p hp=>by
  rw[mem_singleton.mp hp];exact⟨e,hn,hDC,Dfs,fun v z=>by cases z⟩
 have loop:∀ s₃:AC,s₃={ s2 with heap:=h₁,toks:=s2.toks+([]:List (Str×AA)).length } →
   Bk (AH X.prog X.w) X.A (.compLoop (.ListComp elt [⟨tg,iter,ifs,0⟩] scope pos) 0 (.ref it) (.ref s2.heap.objs.size) (compEnvC scope (a7W X.env scope.names []) Hh.objs.size X.env)) (RR (.ref s2.heap.objs.size) Hh.objs.size) s₃:=by
  rintro s₃ rfl;refine a78 (fun n s'=>∃ i ys its k H',Inv (jR X N scope Hh.objs.size s2 H2 fp) [(s2.heap.objs.size,a06 its k)] (blk nt fv σ) H' s'∧tn i s'.heap∧(∀ b∈fp,H' b=none)∧W i n ys H'∧Vals ys its) ?_ m0
   ⟨0,[],[],0,H2,pinD Iblk hacc (I2.hok.fresh (AN _)),T.keep _ _ _ st2 fun b _ o e=>old b o e,fun b hb=>(f2 b hb).1,w0,.nil⟩
  rintro n s' ⟨i,ys,its,k,H',I',st',fr',w',vs'⟩;obtain⟨pd,pn,_,_,_⟩:=I'.pin (s2.heap.objs.size,a06 its k) (by exact mem_cons_self);have pfp:∀{o:Obj},∀ p∈[(s2.heap.objs.size,o)],p.1∉fp:=fun p hp=>by rw[mem_singleton.mp hp]; exact Dfp
  rcases turn i n ys H' w' with⟨stop,hz,q⟩|⟨go,hz,step⟩
  ·refine BY (T.done (jR X N scope Hh.objs.size s2 H2 fp) rfl rfl rfl hc i _ s' _ H' (fun _ _=>False) I' (ftk fr' pfp) st' stop) (fun r s1 ⟨hr,I1⟩=>?_) fun _ _ f=>f;subst hr;obtain⟨pd1,pn1,_,_,_⟩:=I1.pin (s2.heap.objs.size,a06 its k) (by exact mem_cons_self);obtain⟨m,hm,_⟩:=I1.loc;refine hR _ _ s1 hCle ⟨m,hm⟩ fun h' sb=>⟨upd H' s2.heap.objs.size (.lst ys),?_,by rw[aY (Ne.symm hDC)]; exact I1.free,q _ pn1⟩;have keepT:∀ b u,H' b=some u→b≠Hh.objs.size:=fun b u e z=>by
    have e0:H' Hh.objs.size=none:=I1.free;rw[z,e0] at e
    cases e
   have kept:∀ b o,b≠Hh.objs.size→s1.heap.get? b=some o→h'.get? b=some o:=fun b o hb e=>sb.extBut b o hb e;have un:=I1.base;refine I2.call' (s':={ s1 with heap:=h' }) (ch:=fp) I1.os ⟨fun b o e hn hb hx=>?_,fun b o e hn hb hx=>?_,fun b o e hn hx=>?_,fun b o e hx=>?_,fun b xs e=>?_,fun b o u e=>?_,fun b ps e=>?_⟩ ?_ I1.bare fun b hb=>?_
   ·exact kept b o (below b (AT e)).1 (un.keep b o e hn hb hx)
   ·obtain⟨sl,e1⟩:=un.slot b o e hn hb hx;exact⟨sl,kept b _ (below b (AT e)).1 e1⟩
   ·rw[aY (below b (AT e)).2];exact un.free b o e hn hx
   ·obtain⟨o',e1⟩:=un.there b o e hx;exact⟨o',kept b o' (below b (AT e)).1 e1⟩
   ·have e1:=un.tups b xs e;rw[aY (bA e1 pn1)];exact e1
   ·have e1:=un.frzs b o u e;rw[aY (bA e1 pn1)];exact e1
   ·obtain⟨mo,e1⟩:=un.tbls b ps e;exact⟨mo,by rw[aY (bA e1 pn1)]; exact e1⟩
   ·intro b u e
    by_cases hb:b=s2.heap.objs.size
    ·subst hb;rw[bO] at e
     cases e
     exact⟨hz,its,k,vs',kept _ _ hDC pd1⟩
    ·rw[aY hb] at e;refine(I1.hok b u e).stay (fun c v hc' q'=>kept c v ?_ q') (fun c q'=>by rw[aY (bA q' pn1)]; exact q') fun c xs q'=>by rw[aY (bA q' pn1)]; exact q'
     rcases hc' with z|z
     ·rw[z]; exact keepT b u e
     ·exact keepT c _ z
   ·exact⟨(f2 b hb).2.2.2.1,(f2 b hb).2.1,(f2 b hb).2.2.2.2.1,(f2 b hb).2.2.2.2.2⟩
  ·refine BY (T.item (jR X N scope Hh.objs.size s2 H2 fp) rfl rfl rfl hc i _ s' _ H' (fun _ _=>False) I' (ftk fr' pfp) st' go) (fun r s3 ⟨u,hr,h3⟩=>?_) fun _ _ f=>f;subst hr;refine BY h3 (fun _ s4 ⟨x,H4,I4,r4,y4,st4,fr4⟩=>?_) fun _ _ f=>f;have I4':=I4.pinned (ftk fr4 pfp) (T.obj _ _ st4);refine BY (hg Hh.objs.size s2 H2 fp _ s4 _ H4 x u _ I4' r4 (step x H4 y4)) (fun _ s5 ⟨σ5,H5,I5,x5,q5⟩=>?_) fun _ _ f=>f;refine BY (ht Hh.objs.size s2 H2 fp _ s5 σ5 H5 _ I5 q5) (fun b s6 ⟨H6,I6,q6⟩=>?_) fun _ _ f=>f;have weak:∀{s':AC} {H':Hp} {pl:List (AB×Obj)},Inv (jR X N scope Hh.objs.size s2 H2 fp) pl σ5 H' s'→Inv (jR X N scope Hh.objs.size s2 H2 fp) pl (blk nt fv σ) H' s':=by
    intro s' H' pl I;refine I.weak ((aDF B I2 hCle f2 flt old ⟨_,hns₁⟩ (tk:=0)).len.trans I.len.symm) fun j v e=>?_
    by_cases hj:nt≤j
    ·rw[x5 j hj]; exact e
    ·unfold blk at e;rw[Bu (by simpa using hj),CN] at e
     split at e<;>cases e
   have pnew:∀{s':AC} {H':Hp} {σ':St},Inv (jR X N scope Hh.objs.size s2 H2 fp) ([(s2.heap.objs.size,a06 its k)]++a5D fp s4.heap) σ' H' s' →
     s'.heap.get? s2.heap.objs.size=some (a06 its k)∧H' s2.heap.objs.size=none∧tn (i+1) s'.heap∧∀ b∈fp,H' b=none:=fun{s' H' σ'} I=>by
    obtain⟨p1,p2,_⟩:=I.pin (s2.heap.objs.size,a06 its k) (by exact mem_cons_self);refine⟨p1,p2,T.keep _ _ _ st4 fun b hb o e=>(I.pin (b,o) (Bo _ (Bo _ (qM hb e)))).1,fun b hb=>?_⟩;obtain⟨o,e,d⟩:=T.obj _ _ st4 b hb;exact(I.pin (b,o) (Bo _ (Bo _ (qM hb e)))).2.1
   cases b with
   | false=>
    obtain⟨m',hm,w6⟩:=q6;obtain⟨p1,p2,p3,p4⟩:=pnew I6;exact⟨m',hm,i+1,ys,its,k,H6,weak (pinD I6 p1 p2),p3,p4,w6,vs'⟩
   | true=>
    refine BY (he Hh.objs.size s2 H2 fp _ s6 σ5 H6 _ I6 q6) (fun v s7 ⟨y,H7,I7,r7,q7⟩=>?_) fun _ _ f=>f;obtain⟨m',hm,w7⟩:=q7;obtain⟨p1,p2,p3,p4⟩:=pnew I7;have hl:=vs'.length;refine wpAny_list_append_plain (l:=s2.heap.objs.size) (items:=its.toArray) ⟨k,p1⟩ (fun h8 pl8 sb8=>?_) (by rw[Ak]; omega);obtain⟨k8,e8⟩:=pl8;have e8':h8.get? s2.heap.objs.size=some (a06 (its++[v]) k8):=by
     rw[e8];unfold a06;simp
    have I7':=(weak I7).pins_of (pins':=[]) fun p hp=>(nomatch hp);have I8:Inv (jR X N scope Hh.objs.size s2 H2 fp) [] (blk nt fv σ) H7 { s7 with heap:=h8 }:=I7'.turned (t':=s7.toks) (it:=s2.heap.objs.size) (fun b o hb e=>(sb8.2 b hb).trans e) p2 hDC (.inr (AN _)) Dcell (fun p hp=>(nomatch hp));exact⟨m',hm,i+1,ys++[y],its++[v],k8,H7,pinD I8 e8' p2,T.keep _ _ _ p3 fun b hb o e=>(sb8.2 b (fun z=>Dfp (z▸hb))).trans e,p4,w7,vs'.append (.cons r7 .nil)⟩
 exact codeAny_compStart_list (loop _ rfl) (T.self X.A 0 _ _ _ (T.keep _ _ _ st2 fun b _ o e=>old b o e) (loop _ rfl))
theorem xN (hc:X.calm=true)(B:BlkOk X N scope nt fv)(hi:PI X tg iter wi)
  (hg:∀ C s₀ H₀ ex,PG (jR X N scope C s₀ H₀ ex) tg g) (ht:∀ C s₀ H₀ ex,PTs (jR X N scope C s₀ H₀ ex) ifs ti) (he:∀ C s₀ H₀ ex,PE (jR X N scope C s₀ H₀ ex) elt te)
  (hs:∀ x,FD iter X.env x=pure x:=by intro _; rfl):PE X (.ListComp elt [⟨tg,iter,ifs,0⟩] scope pos) (aL3 nt fv wi g ti te):=by
 intro pins s σ H Q I h;rw[eval_ListComp];refine GD (use:=none) rfl hs (aFU (B.cells I)) B.kind B.names (thn (hi pins s σ H _ I h) fun xv s1 h1=>thn h1 fun itv s2 h2=>?_);obtain⟨it,fp,tn,J,H2,rfl,I2,T,st2,f2,W,⟨m0,w0⟩,turn⟩:=h2;refine aA9 hc B hg ht he I2 T st2 f2 w0 turn (RR:=fun acc C=>compPost (AH X.prog X.w) X.A X.xe none (EP X pins σ Q) acc C) fun D C s' hC hn hq=>?_;obtain⟨m,hm⟩:=hn;refine⟨m,hm,fun h' sb=>?_⟩;obtain⟨H',I',_,q'⟩:=hq h' sb;exact⟨.ref D,H',I',rfl,q'⟩
theorem uY {i:Nat}{x:Str}{pos' spos:Pos}(hN:X.N.Nodup)(hi':X.N[i]?=some x)(hx:X.env.scope.names.lookup x=some .local)(hc:X.calm=true)(B:BlkOk X N scope nt fv)(hi:PI X tg iter wi)
  (hg:∀ C s₀ H₀ ex,PG (jR X N scope C s₀ H₀ ex) tg g) (ht:∀ C s₀ H₀ ex,PTs (jR X N scope C s₀ H₀ ex) ifs ti) (he:∀ C s₀ H₀ ex,PE (jR X N scope C s₀ H₀ ex) elt te)
  (hsw:swapsWith (.ListComp elt [⟨tg,iter,ifs,0⟩] scope pos) (some (.Name x pos')) spos.line X.env=pure true:=by rfl)
  (hs:∀ x,FD iter X.env x=pure x:=by intro _; rfl):PS X (.Assign [.Name x pos'] (.ListComp elt [⟨tg,iter,ifs,0⟩] scope pos) spos) (aKA (aL3 nt fv wi g ti te) (a68 i)):=by
 intro pins s σ H D I h;rw[exec_Assign_Name_used _ _ _ _ hsw];refine AD (Ej (AD ?_));show AE _ X.A (do let _←comprehension (.ListComp elt [⟨tg,iter,ifs,0⟩] scope pos) scope X.env _ (newList []) false (Ah iter X.env) (some (CZ (.Name x pos') X.env))) _ _ s;refine AD (BY (GD (use:=some (CZ (.Name x pos') X.env)) (Q:=fun _ s'=>SP X pins D .next s') rfl hs (aFU (B.cells I)) B.kind B.names
  (thn (hi pins s σ H _ I h) fun xv s1 h1=>thn h1 fun itv s2 h2=>?_)) (fun _ s' h'=>AG (AG h')) fun _ _ e=>e)
 obtain⟨it,fp,tn,J,H2,rfl,I2,T,st2,f2,W,⟨m0,w0⟩,turn⟩:=h2;refine aA9 (Q:=fun v H1=>a68 i v σ H1 D.nx) hc B hg ht he I2 T st2 f2 w0 turn (RR:=fun acc C=>compPost (AH X.prog X.w) X.A X.xe (some (CZ (.Name x pos') X.env)) (fun _ s'=>SP X pins D .next s') acc C) fun L C s' hC hn hq=>?_;obtain⟨m,hm⟩:=hn;obtain⟨H',I',hC',q'⟩:=hq s'.heap (Ar.refl ..);have hCL:C≠X.env.locals:=fun z=>by
  have:=I2.lt;rw[← z] at this;exact BI _ (Al this hC)
 have Ccell:∀ y c,X.env.cells.lookup y=some c→c≠C:=fun y c e z=>by
  obtain⟨v,qc⟩:=I2.cell y c e;exact BI _ (Al (z▸qc.lt) hC)
 show AE _ X.A (CZ (.Name x pos') X.env (.ref L)) _ _ s';refine wpAny_assign_Name (a6J (v:=.ref L) I' hN hi' (.inl hx) rfl (fun s'' I'' sb''=>?_) (.inr hx));obtain⟨a,sb,ha⟩:=sb'';have haC:C≠a:=by
  rcases ha with z|z
  ·rw[z]; exact hCL
  ·exact(Ccell x a z).symm
 refine⟨m,hm.sameBut sb haC,fun h' sb'=>?_⟩;refine⟨_,H',I''.turned (t':=s''.toks) (it:=C) (fun b o hb e=>(sb'.2 b hb).trans e) hC' hCL (.inr (Aw I2.sz hC)) Ccell fun p hp z=>?_,q'⟩;have e:=(I2.pin p hp).1;exact BI _ (Al (z▸AT e) hC)
end
end L2
namespace L2
open PySem PySem.Spec PyProof.Rows
def aSR (scope osc:BH):List (Str×A3):=scope.names.map fun(n,k)=>if (k==.free&&osc.kind==.function&&osc.names.lookup n==some .cell) then(n,.cell) else(n,k)
def aR6 (osc:BH)(ON N:List Str)(scope:BH)(nt:Nat)(fv:List Nat):Bool:=
 scope.kind==.function&&scope.names.all (fun y=>y.2 != .cell)&&scope.names.all (fun y=>y.2 != .local||scope.names.lookup y.1==some .local) &&
 scope.names.all (fun y=>y.2 != .free||osc.names.lookup y.1==some .cell)&&N.length==nt+fv.length &&
 (List.range fv.length).all fun i=>match N[nt+i]?,fv[i]? with
  | some x,some j=>ON[j]?==some x&&osc.names.lookup x==some .cell&&(aSR scope osc).lookup x==some .cell
  | _,_=>false
theorem rE {X:Cx}{osc:BH}{ON N:List Str}{scope:BH}{nt:Nat}{fv:List Nat}(h:aR6 osc ON N scope nt fv=true)(e1:X.env.scope=osc:=by rfl)(e2:X.N=ON:=by rfl):BlkOk X N scope nt fv:=by
 subst e1 e2;unfold aR6 at h;simp only[CT,List.all_eq_true,Bool.or_eq_true,bne_iff_ne,ne_eq,beq_iff_eq] at h;obtain⟨⟨⟨⟨⟨h1,h2⟩,h3⟩,h4⟩,h5⟩,h6⟩:=h;refine⟨h1,h2,fun y hy e=>?_,fun y hy e=>?_,h5,fun i x e=>?_⟩
 ·rcases h3 y hy with z|z
  ·exact absurd e z
  ·exact z
 ·rcases h4 y hy with z|z
  ·exact absurd e z
  ·exact z
 ·have hi:i<fv.length:=by
   have:=(List.getElem?_eq_some_iff.mp e).1;omega
  have q:=h6 i (A2.mpr hi);rw[e,AQ hi] at q;simp only[CT,beq_iff_eq] at q;obtain⟨⟨q1,q2⟩,q3⟩:=q;exact⟨fv[i],AQ hi,q1,q2,q3⟩
end L2
namespace L2.VS
open PySem PySem.Spec PyProof.Rows
section
variable {P0:AB→Hp→Prop}
def v6:MT:=fun Γ Q=>Q true Γ
theorem qQ:VTT P0 aOT v6:=fun _ _ _ _ _ _ _ r m k=>k _ _ _ _ m (Same.refl _) r
def aPS:Option Sl→Sl
 | some (.val d)=>.val d
 | some .pen=>.pen
 | some (.pub B)=>.pub B
 | _=>.no
def aLU (nt:Nat)(fv:List Nat)(Γ:En):En:=List.replicate nt .no++fv.map fun j=>aPS Γ[j]?
def a0W (g:MG)(t:MT)(e:ME)(Γb:En):List D→List D→(List D→Prop)→Prop
 | [],acc,Q=>Q acc
 | d::ds,acc,Q=>g d Γb fun Γ1=>t Γ1 fun b Γ2=>if b=true then e Γ2 fun v _=>a0W g t e Γb ds (acc++[v]) Q else a0W g t e Γb ds acc Q
def wK (nt:Nat)(fv:List Nat)(mi:MD)(g:MG)(t:MT)(e:ME):MO:=fun Γ Q=>mi Γ fun ds Γ1=>ds.length≤1000∧a0W g t e (aLU nt fv Γ1) ds [] fun out=>Q (.own out) Γ1
theorem aR1 {F:Fra P0}{Γ:En}{σ:St}{G H G' H':Hp}{nt:Nat}{fv:List Nat}(r:R F Γ σ G H)(rf:Rf (F.sub r.fr) G' H')(s:Same G G'):R (F.sub r.fr) (aLU nt fv Γ) (blk nt fv σ) G' H':=by
 have at_:∀{i:Nat} {sl:Sl},(aLU nt fv Γ)[i]?=some sl→sl≠.no→∃(j:Nat) (s0:Sl),Γ[j]?=some s0∧sl=aPS (some s0)∧(blk nt fv σ)[i]?=some ((σ[j]?).getD none):=by
  intro i sl e hn;unfold aLU at e
  by_cases hi:i<nt
  ·rw[Bu (by simpa using hi),CN] at e;rw[if_pos hi] at e
   cases e
   exact absurd rfl hn
  ·rw[B3 (by simpa using hi),Cy,Aa] at e
   cases ej:fv[i-nt]? with
   | none=>rw[ej] at e; cases e
   | some j=>
    rw[ej] at e;have e':aPS Γ[j]?=sl:=Az.inj e
    cases es:Γ[j]? with
    | none=>rw[es] at e'; exact absurd e'.symm hn
    | some s0=>
     rw[es] at e';refine⟨j,s0,es,e'.symm,?_⟩;unfold blk;rw[B3 (by simpa using hi),Cy,Aa,ej];rfl
 refine R.of rf (by simp[aLU,blk]) (fun i sl e=>?_) (fun i B e=>?_) (fun i j x y _ e=>?_)
 ·cases sl with
  | no=>trivial
  | val d=>
   obtain⟨j,s0,h1,h2,h3⟩:=at_ e (by intro z; cases z)
   cases s0 with
   | val d0=>
    cases h2
    obtain⟨v,e1,d1⟩:=r.sl j _ h1;rw[e1] at h3;exact⟨v,h3,Dt.same s _ _ d1⟩
   | _=>cases h2
  | own ds=>
   obtain⟨j,s0,h1,h2,h3⟩:=at_ e (by intro z; cases z)
   cases s0<;>cases h2
  | pen=>
   obtain⟨j,s0,h1,h2,h3⟩:=at_ e (by intro z; cases z)
   cases s0 with
   | pen=>
    obtain⟨p,e1,e2⟩:=r.sl j _ h1;rw[e1] at h3;exact⟨p,h3,e2⟩
   | _=>cases h2
  | con q=>
   obtain⟨j,s0,h1,h2,h3⟩:=at_ e (by intro z; cases z)
   cases s0<;>cases h2
  | pub B=>
   obtain⟨j,s0,h1,h2,h3⟩:=at_ e (by intro z; cases z)
   cases s0 with
   | pub B'=>
    cases h2
    obtain⟨v,e1,e2⟩:=r.sl j _ h1;rw[e1] at h3;exact⟨v,h3,B.mono s e2⟩
   | _=>cases h2
  | box B=>
   obtain⟨j,s0,h1,h2,h3⟩:=at_ e (by intro z; cases z)
   cases s0<;>cases h2
 ·obtain⟨j,s0,h1,h2,h3⟩:=at_ e (by intro z; cases z)
  cases s0<;>cases h2
 ·obtain⟨j,s0,h1,h2,h3⟩:=at_ e (by intro z; cases z)
  cases s0<;>cases h2
theorem lK {nt:Nat}{fv:List Nat}{wi:TI}{g:TG}{ti:TT}{te:TE}{mi:MD}{mg:MG}{mt:MT}{me:ME}(hi:VI P0 wi mi)(hg:VG P0 (fun i=>decide (i<nt)) g mg)(ht:VTT P0 ti mt)(he:VT P0 te me) :
  VO P0 (aL3 nt fv wi g ti te) (wK nt fv mi mg mt me):=by
 intro F Γ σ G H Q Qm r m k;refine hi F Γ σ G H _ _ r m fun ds Γ1 J G1 H1 m1 s1 r1 wk=>?_;obtain⟨hsz,m1⟩:=m1;refine⟨fun i n ys H2=>n=ds.length-i∧i≤ds.length∧ys.length≤i∧∃ G2 out,Rf (F.sub r1.fr) G2 H2∧Same G1 G2∧Dts G2 ys out∧a0W mg mt me (aLU nt fv Γ1) (ds.drop i) out fun out=>Qm (.own out) Γ1,
  ⟨ds.length,by simp,A8 _,A8 _,G1,[],F.subRf r1.fr,Same.refl _,.nil,by simpa using m1⟩,?_⟩
 rintro i n ys H2 ⟨rfl,hle,hy,G2,out,rf2,s2,d2,m2⟩;have rb:=aR1 (nt:=nt) (fv:=fv) r1 rf2 s2;obtain⟨go,stop⟩:=wk (F.sub r1.fr) _ _ G2 H2 s2 rb;have small:ys.length≤sizeLine:=eU (by omega)
 by_cases hlt:i<ds.length
 ·refine .inr ⟨(go i ds[i] (by simp[hlt])).1,small,fun x H' hyl=>?_⟩;obtain⟨G3,s3,r3,d3⟩:=(go i ds[i] (by simp[hlt])).2 x H' hyl;rw[List.drop_eq_getElem_cons hlt] at m2;refine hg (F.sub r1.fr) _ _ G3 H' x _ _ _ r3 d3 m2 fun Γ4 σ4 m4 r4 e4=>⟨fun j hj=>e4 j (decide_eq_false (by omega)),?_⟩;refine ht (F.sub r1.fr) _ _ G3 H' _ _ r4 m4 fun b Γ5 G5 H5 m5 s5 r5=>?_
  cases b with
  | true=>
   refine a4U (he (F.sub r1.fr) _ _ G5 H5 _ _ r5 m5 fun d Γ6 v G6 H6 m6 s6 r6 d6=>?_);refine⟨ds.length-(i+1),by omega,rfl,hlt,by rw[BN,Cz]; omega,G6,out++[d],r6.fr,((s2.trans s3).trans s5).trans s6,?_,m6⟩;exact(Dts.same ((s3.trans s5).trans s6) _ _ d2).app (.cons d6 .nil)
  | false=>
   refine a5C ?_;exact⟨ds.length-(i+1),by omega,rfl,hlt,by omega,G5,out,r5.fr,(s2.trans s3).trans s5,Dts.same (s3.trans s5) _ _ d2,m5⟩
 ·have e:i=ds.length:=by omega
  subst e;rw[List.drop_length] at m2;refine .inl ⟨stop,small,fun p hp=>?_⟩;obtain⟨r7,s7⟩:=r1.after rf2;obtain⟨a,b,c⟩:=lA r7 hp d2;exact k _ _ _ _ _ m2 (s1.trans s7) a b c
theorem aMX {nt:Nat}{fv:List Nat}{mi:MD}{mg:MG}{mt:MT}{me:ME}{Γ:En}{Q:Rv→En→Prop}(h:mi Γ fun ds Γ1=>ds.length≤1000∧a0W mg mt me (aLU nt fv Γ1) ds [] fun out=>Q (.own out) Γ1):wK nt fv mi mg mt me Γ Q:=h
theorem iT {α:Type}{mg:MG}{mt:MT}{me:ME}{Γb:En}(p:α→Bool)(f:α→D)(enc:α→D):∀(xs:List α) (acc:List D) (Q:List D→Prop),
  (∀ x∈xs,∀(K:List D→Prop) (k:D→Prop) (k0:Prop),(p x=true→k (f x))→(p x=false→k0)→mg (enc x) Γb fun Γ1=>mt Γ1 fun b Γ2=>if b=true then me Γ2 fun v _=>k v else k0) →
  Q (acc++(xs.filter p).map f)→a0W mg mt me Γb (xs.map enc) acc Q
 | [],acc,Q,_,q=>by simpa [a0W] using q
 | x::xs,acc,Q,h,q=>by
  show mg (enc x) Γb fun Γ1=>mt Γ1 fun b Γ2=>if b=true then me Γ2 fun v _=>a0W mg mt me Γb (xs.map enc) (acc++[v]) Q else a0W mg mt me Γb (xs.map enc) acc Q
  refine h x mem_cons_self Q (fun v=>a0W mg mt me Γb (xs.map enc) (acc++[v]) Q) _ (fun hp=>?_) fun hp=>?_
  ·refine iT p f enc xs _ Q (fun y hy=>h y (AU _ hy)) ?_;simpa [Cw,hp,DL] using q
  ·refine iT p f enc xs _ Q (fun y hy=>h y (AU _ hy)) ?_;simpa [Cw,hp] using q
end
end L2.VS
namespace L2
open PySem PySem.Spec PyProof.Rows
section
variable {X:Cx}
def aCX (n:Nat)(x:Int):Nat:=if x<0 then(x+(n:Int)).toNat else min x.toNat n
def vW {α:Type}(xs:List α)(x:Int)(y:α):List α:=xs.take (aCX xs.length x)++y::xs.drop (aCX xs.length x)
theorem aAC {α:Type}(xs:List α)(x:Int)(y:α):(vW xs x y).length=xs.length+1:=by
 unfold vW;rw[BN,An,Bw,DQ];omega
theorem Vals.ins {xs:List V}{us:List AA}(r:Vals xs us)(x:Int){y:V}{u:AA}(h:RelV y u):Vals (vW xs x y) (vW us x u):=by
 unfold vW;rw[r.length];exact(r.take _).append (.cons h (r.drop _))
def aFO:V→List V→Hp→VK→Prop:=fun x vs H Q=>∃ l xs i y,x=.ref l∧vs=[.int i,y]∧H l=some (.lst xs) ∧ -(2^63)≤i∧i<2^63∧xs.length<sizeLine∧Q .non (upd H l (.lst (vW xs i y)))
theorem a5X:MtM X "list.insert" aFO:=by
 intro pins s σ H x vs v us Q I rx rv h;obtain⟨l,xs,i,y,rfl,rfl,hH,h1,h2,hz,q⟩:=h
 cases rx
 obtain⟨u0,u,rfl,ru0,ru⟩:=rv.two;obtain⟨t,rfl⟩:=ru0;obtain⟨z,its,n,r,hl,e⟩:=I.lstM hH;have hf:GE i=true:=by
  unfold GE;rw[CT];exact⟨decide_eq_true h1,decide_eq_true h2⟩
 refine call_meets F.slot_list_insert ⟨_,e,rfl⟩ F.entry_list_insert (F.args_list_insert_3 _ _ _) (PySem.AutoSeq1.list_insert_list_int_val_1 l its.toArray n i t u (by simp[hf]) (by rw[Ak]; omega)) ⟨e,?_⟩;refine⟨.non,_,I.lset (its':=vW its i u) hH e ?_ (r.ins i ru) ?_,rfl,q⟩
 ·show(its.toArray.extract 0 (if i<0 then(i+(its.toArray.size:Int)).toNat else min i.toNat its.toArray.size)).push u++its.toArray.extract (if i<0 then(i+(its.toArray.size:Int)).toNat else min i.toNat its.toArray.size)=(vW its i u).toArray
  rw[Ak];unfold vW aCX;generalize (if i<0 then(i+(its.length:Int)).toNat else min i.toNat its.length)=k;apply toList_inj.mp;simp;exact List.take_of_length_le (by simp)
 ·rw[aAC];omega
def sG {α:Type}(ix:List Nat)(xs:List α):List α:=ix.filterMap fun i=>xs[i]?
theorem Vals.pick {xs:List V}{us:List AA}(r:Vals xs us):∀ ix:List Nat,Vals (sG ix xs) (sG ix us)
 | []=>.nil
 | i::ix=>by
  have ih:=Vals.pick r ix;unfold sG at *;rw[CL,CL]
  cases e:xs[i]? with
  | none=>rw[r.none_of e]; exact ih
  | some x=>
   obtain⟨u,hu,ru⟩:=r.get e;rw[hu];exact .cons ru ih
def qZ (n:Nat)(st:Int):List Nat:=let b:=Co none none (some st) n; sliceRange b.1 b.2.1 b.2.2
theorem rD (its:List AA)(st:Int):Em its.toArray none none (some st)=(sG (qZ its.length st) its).toArray:=by
 unfold Em sG qZ;simp
def aOM (K:Fg):R2:=fun x y H Q=>∃ a xs st,x=.ref a∧y=.int st∧st≠0∧SqL K H a xs∧∀ p,H p=none→Q (.ref p) (upd H p (.lst (sG (qZ xs.length st) xs)))
theorem aLI {e es:AR}{te ts:TE}{pos p2:Pos}(he:PE X e te)(hs:PE X es ts):PE X (.Subscript e (.Slice none none (some es) p2) pos) (tOp (aOM X.K) te ts):=by
 intro pins s σ H Q I h;refine Subscript_ (thn (he pins s σ H _ I h) fun v s1 ⟨x,H1,I1,r1,q1⟩=>?_);refine wpAny_Slice ?_;rw[FE];refine AG (AG ?_);rw[evalPart_some];refine thn (hs pins s1 σ H1 _ I1 q1) fun vs s3 ⟨y,H3,I3,r3,q3⟩=>?_;obtain⟨a,xs,st,rfl,rfl,h0,hx,q⟩:=q3
 cases r1
 obtain⟨t,rfl⟩:=r3;have I4:Inv X pins σ H3 { s3 with heap:=s3.heap.push { cls:=.type "slice", data:=.fields #[.none,.none,.int st t] } }:=I3.kept (t':=s3.toks) fun b ob q=>AZ _ q;obtain⟨its,r,ht,hz⟩:=I4.list hx;have hlen:=r.length;show AE (AH X.prog X.w) X.A (FF e (.Slice none none (some es) p2) (.ref a) (.ref s3.heap.objs.size)) (EP X pins σ Q) X.xe { s3 with heap:=s3.heap.push { cls:=.type "slice", data:=.fields #[.none,.none,.int st t] } };refine tail_any (ops:=[.ref a,.ref s3.heap.objs.size]) ht.isList.typeIs slot_list_getitem.lookup ?_ (by with_unfolding_all rfl);refine F3 (sl:=s3.heap.objs.size) (lo:=none) (hi:=none) (st:=some st) ht.isList (AF.IsSliceOf.new ..) .none .none (.int st t) (by simpa using h0) ?_ (by rw[Ak]<;>omega);rw[rD,←hlen];have hle:(sG (qZ xs.length st) xs).length≤xs.length:=by
  have:=slicePick_size_le its.toArray none none (some st);rw[rD,Ak,Ak,←hlen] at this;rw[(r.pick _).length];exact this
 refine⟨.ref _,_,I4.laid (t':=s3.toks) (o:=.lst (sG (qZ xs.length st) xs)) (fun b ob q=>AZ _ q) (AN _) ?_,rfl,q _ (I4.hok.fresh (AN _))⟩;exact⟨Aw hle hz,_,0,r.pick _,Aq _ rfl⟩
end
end L2
namespace L2.VS
open PySem PySem.Spec PyProof.Rows
section
variable {P0:AB→Hp→Prop}
theorem _root_.L2.Dts.ins {G:Hp}{vs:List V}{ds:List D}(r:Dts G vs ds)(x:Int){y:V}{d:D}(h:Dt G y d):Dts G (vW vs x y) (vW ds x d):=by
 unfold vW;rw[r.len];exact(r.tak _).app (.cons h (r.drp _))
theorem _root_.L2.Dts.pick {G:Hp}{vs:List V}{ds:List D}(r:Dts G vs ds):∀ ix:List Nat,Dts G (sG ix vs) (sG ix ds)
 | []=>.nil
 | i::ix=>by
  have ih:=Dts.pick r ix;unfold sG at *;rw[CL,CL]
  cases e:ds[i]? with
  | none=>
   have:vs[i]?=none:=by
    rw[List.getElem?_eq_none_iff] at e ⊢;rw[r.len]; exact e
   rw[this];exact ih
  | some d=>
   obtain⟨v,hv,dv⟩:=Dts.get r e;rw[hv];exact .cons dv ih
def aMH (i:Nat)(x:D)(d:D)(Γ1:En)(Q:Fl→Prop):Prop:=match Γ1[i]?,x with
 | some (.own ds),.int k => -(2^63)≤k∧k<2^63∧ds.length<1000∧Q (.nx (Γ1.set i (.own (vW ds k d))))
 | _,_=>False
def uK (i:Nat)(ma mb:ME):MS:=fun Γ Q=>match Γ[i]? with
 | some (.own _)=>ma Γ fun x Γ1=>mb Γ1 fun d Γ2=>aMH i x d Γ2 Q
 | _=>False
theorem a4V {K:Fg}{i:Nat}{ta tb:TE}{ma mb:ME}(ha:VT P0 ta ma)(hb:VT P0 tb mb){A:Nat→Bool}:VSA P0 A (aGR (tBM K "list" aFO (a7M i) (fB ta (fB tb xM)))) (uK i ma mb):=by
 intro F Γ σ G H E Qm r hm k;unfold uK at hm
 split at hm
 ·rename_i ds0 e0
  obtain⟨p,vs,e1,e2,e3,e4,e5⟩:=r.sl i _ e0;refine⟨_,e1,.inl ⟨rfl,_,SqL.of e4⟩,?_⟩;refine ha F Γ σ G H _ _ r hm fun c Γ1 y G1 H1 m1 s1 r1 d1=>?_;refine hb F Γ1 σ G1 H1 _ _ r1 m1 fun d Γ2 x G2 H2 m2 s2 r2 d2=>?_;unfold aMH at m2
  split at m2
  ·rename_i ds j e
   cases d1
   obtain⟨p',ws,f1,f2,f3,f4,f5⟩:=r2.sl i _ e;rw[e1] at f1; cases f1;refine⟨p,ws,j,x,rfl,rfl,f4,m2.1,m2.2.1,pC (by rw[f5.len]; exact Bz m2.2.2.1),?_⟩;exact k _ m2.2.2.2 _ _ _ (s1.trans s2) (r2.write e e1 (f5.ins j d2)) fun _ _=>rfl
  ·exact m2.elim
 ·exact hm.elim
def aLJ (ma mb:ME):MO:=fun Γ Q=>ma Γ fun x Γ1=>mb Γ1 fun y Γ2=>match x,y with
 | .list ds,.int st=>st≠0∧Q (.own (sG (qZ ds.length st) ds)) Γ2
 | _,_=>False
theorem aK6 {K:Fg}{ta tb:TE}{ma mb:ME}(ha:VT P0 ta ma)(hb:VT P0 tb mb):VO P0 (tOp (aOM K) ta tb) (aLJ ma mb):=by
 intro F Γ σ G H Q Qm r m k;refine ha F Γ σ G H _ _ r m fun d Γ1 x G1 H1 m1 s1 r1 d1=>?_;refine hb F Γ1 σ G1 H1 _ _ r1 m1 fun e Γ2 y G2 H2 m2 s2 r2 d2=>?_;have d1:=Dt.same s2 _ _ d1
 split at m2
 ·cases d2
  cases d1 with
  | @lst p xs _ hp rs=>
   refine⟨p,xs,_,rfl,rfl,m2.1,SqL.of (r2.fr.sub _ _ hp),fun l hl=>?_⟩;rw[rs.len];obtain⟨a,b,c⟩:=lA r2 hl (rs.pick (qZ _ _));exact k _ _ _ _ _ m2.2 (s1.trans s2) a b c
 ·exact m2.elim
theorem aHC {i:Nat}{ma mb:ME}{Γ:En}{Q:Fl→Prop}{ds:List D}(h0:Γ[i]?=some (.own ds))(h:ma Γ fun x Γ1=>mb Γ1 fun d Γ2=>aMH i x d Γ2 Q):uK i ma mb Γ Q:=by
 unfold uK;rw[h0];exact h
theorem aJ5 {i:Nat}{j:Int}{d:D}{Γ:En}{Q:Fl→Prop}{ds:List D}(h0:Γ[i]?=some (.own ds))(h1 : -(2^63)≤j)(h2:j<2^63)(h3:ds.length<1000)(h:Q (.nx (Γ.set i (.own (vW ds j d))))):aMH i (.int j) d Γ Q:=by
 unfold aMH;rw[h0];exact⟨h1,h2,h3,h⟩
theorem aMQ {ma mb:ME}{Γ:En}{Q:Rv→En→Prop}(h:ma Γ fun x Γ1=>mb Γ1 fun y Γ2=>match x,y with|.list ds,.int st=>st≠0∧Q (.own (sG (qZ ds.length st) ds)) Γ2|_,_=>False):aLJ ma mb Γ Q:=h
end
end L2.VS
namespace L2
open PySem PySem.Spec PyProof.Rows
section
variable {X:Cx}
end
end L2
namespace L2.VS
open PySem PySem.Spec PyProof.Rows
section
variable {P0:AB→Hp→Prop}
def aFV (p p':Int→Int→Bool)(ma mb mc:ME):ME:=fun Γ Q=>ma Γ fun x Γ1=>mb Γ1 fun y Γ2=>match x,y with
 | .int i,.int j=>if p i j=true then mc Γ2 fun z Γ3=>(match z with
   | .int l=>Q (.bool (p' j l)) Γ3
   | _=>False) else Q (.bool false) Γ2
 | _,_=>False
theorem aI4 {p p':Int→Int→Bool}{ta tb tc:TE}{ma mb mc:ME}(ha:VT P0 ta ma)(hb:VT P0 tb mb)(hc:VT P0 tc mc) :
  VT P0 (aJG (rI0 fun i j=>.bl (p i j)) (rI0 fun i j=>.bl (p' i j)) ta tb tc) (aFV p p' ma mb mc):=by
 intro F Γ σ G H Q Qm r m k;refine ha F Γ σ G H _ _ r m fun d Γ1 x G1 H1 m1 s1 r1 d1=>?_;refine hb F Γ1 σ G1 H1 _ _ r1 m1 fun e Γ2 y G2 H2 m2 s2 r2 d2=>?_
 split at m2
 ·cases d1; cases d2
  rename_i i j
  refine⟨i,j,rfl,rfl,p i j,rfl,?_⟩
  cases hp:p i j with
  | true=>
   rw[hp] at m2;refine a4U (hc F Γ2 σ G2 H2 _ _ r2 m2 fun z Γ3 w G3 H3 m3 s3 r3 d3=>?_)
   split at m3
   ·cases d3
    exact⟨_,_,rfl,rfl,k _ _ _ _ _ m3 ((s1.trans s2).trans s3) r3 (.bl _)⟩
   ·exact m3.elim
  | false=>
   rw[hp] at m2;exact a5C (k _ _ _ _ _ m2 (s1.trans s2) r2 (.bl _))
 ·exact m2.elim
theorem aKC {p p':Int→Int→Bool}{ma mb mc:ME}{Γ:En}{Q:D→En→Prop}(h:ma Γ fun x Γ1=>mb Γ1 fun y Γ2=>match x,y with
 | .int i,.int j=>if p i j=true then mc Γ2 fun z Γ3=>(match z with
   | .int l=>Q (.bool (p' j l)) Γ3
   | _=>False) else Q (.bool false) Γ2
 | _,_=>False):aFV p p' ma mb mc Γ Q:=h
end
section
variable {P0:AB→Hp→Prop}
end
section
def aPU (K:Fg)(pen a:AB)(ns:List Int)(H:Hp):Prop:=∃ z k:Int,0≤z∧0≤k∧H pen=some (.lst [.int z,.int k,.ref a])∧SqL K H a (ns.map V.int)
theorem aK9 {K:Fg}{pen a:AB}{ns:List Int}{z k:Int}{H H':Hp}(hp:H pen=some (.lst [.int z,.int k,.ref a]))(h:SqL K H a (ns.map V.int))(e:SameX pen H H'):SqL K H' a (ns.map V.int):=by
 rcases h with(h|⟨o,h⟩)|h
 ·refine .inl (.inl (e _ _ ?_ h));rintro rfl;rw[hp] at h;injection h with h;injection h with h;have h2:([V.int z,V.int k,V.ref a]:List V)[2]?=(ns.map V.int)[2]?:=by rw[h]
  rw[Aa] at h2
  cases e2:ns[2]? with
  | none=>rw[e2] at h2; cases h2
  | some n=>rw[e2] at h2; cases h2
 ·refine .inl (.inr ⟨o,e _ _ ?_ h⟩);rintro rfl;rw[hp] at h
  cases h
 ·exact .inr h
def aEN (K:Fg):Sp:=fun vs H Q _=>∃ pen a ns,∃ m:Int,vs=[.ref pen,.int m]∧aPU K pen a ns H∧0<m∧m<1073741824∧∀(r:Int) H',0≤r→r<m→aPU K pen a ns H'→SameX pen H H'→Q (.int r) H'
def fX (K:Fg)(a:AB)(ns:List Int):AB→Hp→Prop:=fun p H=>aPU K p a ns H
theorem aI2 {K:Fg}{a:AB}{ns:List Int}:∀ vs H Q E,spM (fX K a ns) 2 aHV vs H Q E→aEN K vs H Q E:=by
 rintro vs H Q E ⟨F,as,Qm,rfl,rf,pr,hl,hm,q⟩;unfold aHV at hm
 split at hm
 ·rename_i m
  cases pr with
  | cons a1 b1=>
   cases b1 with
   | cons a2 b2=>
    cases b2
    obtain⟨p,rfl,ep⟩:=a1;have a2:Dt F.G0 _ (.int m):=a2
    cases a2
    refine⟨p,a,ns,m,rfl,rf.pn p ep,hm.1,hm.2.1,fun r H' h1 h2 hp hx=>?_⟩;refine q _ _ F.G0 H' (hm.2.2 r h1 h2) ⟨fun b o e=>hx b o (fun z=>?_) (rf.sub b o e),fun _ _ _=>rfl,fun b o e hb=>hx b o (fun z=>hb (by rw[z]; exact ep)) e,fun p' ep'=>?_⟩ (.int _)
    ·rw[z,F.pg p ep] at e; cases e
    ·rw[ep] at ep'; cases ep'; exact hp
 ·exact hm.elim
theorem aDZ {K:Fg}{a:AB}{ns:List Int}{pen:AB}{H0:Hp}(h0:∃ o,H0 pen=some o)(hS:SqL K H0 a (ns.map V.int)):∀ H H',(∀ b o,H0 b=some o→H' b=H b)→fX K a ns pen H→fX K a ns pen H':=by
 rintro H H' h ⟨z,k,hz,hk,e,s⟩;obtain⟨o,e0⟩:=h0;refine⟨z,k,hz,hk,(h pen o e0).trans e,?_⟩;rcases hS with(q|⟨ob,q⟩)|q
 ·have ea:=h a _ q;rcases s with(s|⟨ob',s⟩)|s
  ·exact .inl (.inl (ea.trans s))
  ·exact .inl (.inr ⟨ob',ea.trans s⟩)
  ·exact .inr s
 ·have ea:=h a _ q;rcases s with(s|⟨ob',s⟩)|s
  ·exact .inl (.inl (ea.trans s))
  ·exact .inl (.inr ⟨ob',ea.trans s⟩)
  ·exact .inr s
 ·exact .inr q
theorem law_go2 {K:Fg}{a:AB}{ns:List Int}{k:Nat}{t:TS}{b:MS}{H:Hp}{pen:AB}{Q:VK}{nx:St→Hp→Prop}(h:VS (fX K a ns) t b)(hp:H pen=none)(hS:SqL K H a (ns.map V.int))
    (hb:b (.no::.pen::List.replicate k .no) o4) (q:∀ H',Q (.bl true) H') :
    t { nx:=nx,rt:=Q } (some (.ref a)::some (.ref pen)::List.replicate k none) (upd H pen (.lst [.int 0,.int 0,.ref a])):=by
  have g:=qJ hp (.lst [.int 0,.int 0,.ref a]);have hS':=g.seq hS
  let F:Fra (fX K a ns):=
    { H0:=upd H pen (.lst [.int 0,.int 0,.ref a])
      G0:=fun _=>none
      pen:=some pen
      stab:=fun p e=>by cases e; exact aDZ ⟨_,bO⟩ hS'
      pin:=fun p e H1 h1=>by obtain⟨z,k,_,_,e1,_⟩:=h1; exact⟨_,e1⟩
      pin0:=fun p e=>by cases e; exact⟨_,bO⟩
      pg:=fun _ _=>rfl }
  refine h F (.no::.pen::List.replicate k .no) _ F.G0 _ _ o4 (R.of ⟨fun b o e=>(nomatch e),fun _ _ _=>rfl,fun _ _ e _=>e,fun p e=>?_⟩ ?_ (fun i s e=>?_) (fun i B e=>?_) (fun i j x y _ e=>?_)) hb fun fl e=>?_
  · cases e
    exact⟨0,0,by decide,by decide,bO,hS'⟩
  · simp
  · match i with
    | 0=>cases e; trivial
    | 1=>cases e; exact⟨pen,rfl,rfl⟩
    | i+2=>
      have e':(List.replicate k Sl.no)[i]?=some s:=by simpa using e
      rw[CN] at e'
      split at e'
      · cases e'; trivial
      · cases e'
  · match i with
    | 0=>cases e
    | 1=>cases e
    | i+2=>
      have e':(List.replicate k Sl.no)[i]?=some (.box B):=by simpa using e
      rw[CN] at e'
      split at e'
      · cases e'
      · cases e'
  · match i with
    | 0=>cases e
    | 1=>cases e
    | i+2=>
      have e':(List.replicate k Sl.no)[i]?=some (.own x):=by simpa using e
      rw[CN] at e'
      split at e'
      · cases e'
      · cases e'
  · unfold o4 at e;subst e;intro r G' H' _ _ hr;have hr:Dt G' r (.bool true):=hr
    cases hr
    exact q H'
theorem law_body2 {K:Fg}{a:AB}{ns:List Int}{k:Nat}{b:MS}{H:Hp}{Q:VK}{nx:St→Hp→Prop}{X:Cx}{st:AO}{rest:List AO}{N:List Str}
  (h1:PS X st (aKA (aP4 (fB (tC (.int 0)) (fB (tC (.int 0)) (fB (a7M 0) xM)))) (a68 1))) (h2:∃ t,PSs X rest t∧VS (fX K a ns) t b) (hN:N.length=k+2) (hS:SqL K H a (ns.map V.int))
  (hb:b (.no::.pen::List.replicate k .no) o4) (q:∀ H',Q (.bl true) H'):∃ t,PSs X (st::rest) t∧t { nx:=nx,rt:=Q } (start N [.ref a]) H:=by
 obtain⟨t,h2,h3⟩:=h2;refine⟨_,aJ h1 h2,?_⟩;have e:start N [.ref a]=some (.ref a)::none::List.replicate k none:=by
  unfold start;rw[hN];rfl
 rw[e];refine⟨_,rfl,aGC rfl,fun pen hp=>?_⟩;exact law_go2 (t:=t) h3 hp hS hb q
end
section
variable {P0:AB→Hp→Prop}{K:Fg}
end
end L2.VS
namespace LT
abbrev Ln:=Rat×Rat
def pl (l:Ln)(t:Rat):Rat:=l.1+l.2*t
def mt (l k:Ln):Rat:=(k.1-l.1)/(l.2-k.2)
theorem aEV {l k:Ln}(h:l.2≠k.2)(t:Rat):pl l t-pl k t=(l.2-k.2)*(t-mt l k):=by
 unfold pl mt;have e:=D7 (a:=k.1-l.1) (b:=l.2-k.2) (by grind);generalize (k.1-l.1)/(l.2-k.2)=m at *;grind
theorem vK {l k:Ln}(h:l.2≠k.2):mt k l=mt l k:=by
 unfold mt;have e:=D7 (a:=k.1-l.1) (b:=l.2-k.2) (by grind);have e':=D7 (a:=l.1-k.1) (b:=k.2-l.2) (by grind);generalize (k.1-l.1)/(l.2-k.2)=m at *;generalize (l.1-k.1)/(k.2-l.2)=n at *;have:(l.2-k.2)*(m-n)=0:=by grind
 rcases Rat.mul_eq_zero.mp this with z|z<;>grind
theorem aAA {l k:Ln}(h:l.2≠k.2){t:Rat}:pl l t=pl k t↔t=mt l k:=by
 have e:=aEV h t;constructor
 ·intro z;have:(l.2-k.2)*(t-mt l k)=0:=by grind
  rcases Rat.mul_eq_zero.mp this with z|z<;>grind
 ·intro z;rw[z] at e ⊢;grind
def ahB (l k:Ln)(i j:Int)(t:Rat):Bool:=if pl l t=pl k t then(if l.2=k.2 then decide (i<j) else decide (k.2<l.2)) else decide (pl k t<pl l t)
theorem a0O {l k:Ln}{i j:Int}{t:Rat}(h:l.2≠k.2)(ht:t<mt l k):ahB l k i j t=decide (l.2<k.2):=by
 have e:=aEV h t;have n:pl l t≠pl k t:=fun z=>by have:=(aAA h).mp z; grind
 unfold ahB;rw[if_neg n,decide_eq_decide];have hm:0<mt l k-t:=by grind
 constructor
 ·intro z;apply Classical.byContradiction;intro c;have:=Eo (a:=l.2-k.2) (b:=mt l k-t) (by grind) hm;grind
 ·intro z;have:=Eo (a:=k.2-l.2) (b:=mt l k-t) (by grind) hm;grind
theorem a4J {l k:Ln}{i j:Int}{t:Rat}(h:l.2≠k.2)(ht:mt l k≤t):ahB l k i j t=decide (k.2<l.2):=by
 have e:=aEV h t;unfold ahB
 by_cases hq:pl l t=pl k t
 ·rw[if_pos hq,if_neg h]
 ·have hm:0<t-mt l k:=by
   have:t≠mt l k:=fun z=>hq ((aAA h).mpr z);grind
  rw[if_neg hq,decide_eq_decide];constructor
  ·intro z;apply Classical.byContradiction;intro c;have:=Eo (a:=k.2-l.2) (b:=t-mt l k) (by grind) hm;grind
  ·intro z;have:=Eo (a:=l.2-k.2) (b:=t-mt l k) (by grind) hm;grind
theorem nU {l k:Ln}{i j:Int}{t:Rat}(h:l.2=k.2):ahB l k i j t=if l.1=k.1 then decide (i<j) else decide (k.1<l.1):=by
 unfold ahB pl;rw[h]
 by_cases c:l.1=k.1
 ·rw[if_pos (by rw[c]),if_pos rfl,if_pos c]
 ·rw[if_neg (by grind),if_neg c,decide_eq_decide];grind
def mtO (l k:Ln):Option Rat:=if l.2=k.2 then none else some (mt l k)
end LT
namespace LT
theorem a2J {l k:Ln}{i j:Int}{t:Rat}:ahB l k i j t=true↔pl k t<pl l t∨(pl l t=pl k t∧(k.2<l.2∨(l.2=k.2∧i<j))):=by
 unfold ahB
 by_cases h1:pl l t=pl k t
 ·rw[if_pos h1]
  by_cases h2:l.2=k.2
  ·rw[if_pos h2,decide_eq_true_eq]; grind
  ·rw[if_neg h2,decide_eq_true_eq]; grind
 ·rw[if_neg h1,decide_eq_true_eq]; grind
theorem aE9 {l k m:Ln}{i j n:Int}{t:Rat}(h1:ahB l k i j t=true)(h2:ahB k m j n t=true):ahB l m i n t=true:=by
 rw[a2J] at *;grind
theorem aDB {l k:Ln}{i j:Int}{t:Rat}(h1:ahB l k i j t=true):ahB k l j i t=false:=by
 cases h:ahB k l j i t with
 | false=>rfl
 | true=>
  rw[a2J] at *;grind
theorem aD9 {l k:Ln}{i j:Int}{t:Rat}(h:i≠j):ahB l k i j t=true∨ahB k l j i t=true:=by
 rw[a2J,a2J];grind
def ahN (ls:List Ln)(t:Rat)(i j:Nat):Bool:=match ls[i]?,ls[j]? with
 | some l,some k=>ahB l k i j t
 | _,_=>false
theorem iI {ls:List Ln}{t:Rat}{i j:Nat}{l k:Ln}(h1:ls[i]?=some l)(h2:ls[j]?=some k):ahN ls t i j=ahB l k i j t:=by unfold ahN; rw[h1,h2]
structure Strict (a:Nat→Nat→Bool)(n:Nat):Prop where
 asymm:∀ i j,i<n→j<n→a i j=true→a j i=false
 trans:∀ i j k,i<n→j<n→k<n→a i j=true→a j k=true→a i k=true
 total:∀ i j,i<n→j<n→i≠j→a i j=true∨a j i=true
theorem Strict.flip {a:Nat→Nat→Bool}{n i j:Nat}(h:Strict a n)(hi:i<n)(hj:j<n)(hij:i≠j):a j i = !a i j:=by
 cases e:a i j with
 | true=>rw[h.asymm i j hi hj e]; rfl
 | false=>
  rcases h.total i j hi hj hij with z|z
  ·rw[e] at z; cases z
  ·rw[z]; rfl
theorem eN (ls:List Ln)(t:Rat):Strict (ahN ls t) ls.length:=by
 refine⟨fun i j hi hj h=>?_,fun i j k hi hj hk h1 h2=>?_,fun i j hi hj hij=>?_⟩
 ·rw[iI (AQ hi) (AQ hj)] at h;rw[iI (AQ hj) (AQ hi)];exact aDB h
 ·rw[iI (AQ hi) (AQ hj)] at h1;rw[iI (AQ hj) (AQ hk)] at h2;rw[iI (AQ hi) (AQ hk)];exact aE9 h1 h2
 ·rw[iI (AQ hi) (AQ hj),iI (AQ hj) (AQ hi)];exact aD9 (by omega)
abbrev Srt (a:Nat→Nat→Bool)(xs:List Nat):Prop:=xs.Pairwise fun x y=>a x y=true
def cT (a:Nat→Nat→Bool)(xs:List Nat)(k:Nat):List Nat:=((xs.filter fun o => !a k o)++[k])++xs.filter fun o=>a k o
def a4H (a:Nat→Nat→Bool):Nat→List Nat
 | 0=>[]
 | n+1=>cT a (a4H a n) n
def ord (ls:List Ln)(t:Rat):List Nat:=a4H (ahN ls t) ls.length
theorem a3L {α:Type}(p:α→Bool):∀ xs:List α,(xs.filter fun o => !p o).length+(xs.filter fun o=>p o).length=xs.length
 | []=>rfl
 | x::xs=>by
  have:=a3L p xs
  cases h:p x<;>simp[h]<;>omega
theorem a5F (a:Nat→Nat→Bool):∀ n,(a4H a n).length=n
 | 0=>rfl
 | n+1=>by
  have h:=a5F a n;have e:=a3L (fun o=>a n o) (a4H a n)
  show(cT a (a4H a n) n).length=n+1
  unfold cT;simp only[BN,Cz];omega
theorem a5P (a:Nat→Nat→Bool):∀ n i,i∈a4H a n↔i<n
 | 0,i=>by simp[a4H]
 | n+1,i=>by
  have h:=a5P a n i;show i∈cT a (a4H a n) n↔_;unfold cT;simp only[BO,Ap,mem_singleton,h]
  cases a n i<;>simp<;>omega
theorem a8U {a:Nat→Nat→Bool}{n k:Nat}{xs:List Nat}(h:Strict a n)(hk:k<n)(hx:∀ x∈xs,x<n∧x≠k)(hs:Srt a xs):Srt a (cT a xs k):=by
 unfold cT Srt;have front:∀ x∈xs.filter (fun o => !a k o),a x k=true:=fun x m=>by
  obtain⟨m1,m2⟩:=Ap.mp m;obtain⟨b1,b2⟩:=hx x m1;rw[h.flip hk b1 (Ne.symm b2)];exact m2
 have back:∀ x∈xs.filter (fun o=>a k o),a k x=true:=fun x m=>(Ap.mp m).2;have lt1:∀ x∈xs.filter (fun o => !a k o),x<n:=fun x m=>(hx x (Ap.mp m).1).1;have lt2:∀ x∈xs.filter (fun o=>a k o),x<n:=fun x m=>(hx x (Ap.mp m).1).1;rw[C1];refine⟨?_,hs.filter _,fun x m y m2=>?_⟩
 ·rw[C1];refine⟨hs.filter _,List.pairwise_singleton _ _,fun x m y m2=>?_⟩;rw[mem_singleton.mp m2];exact front x m
 ·rcases BO.mp m with m|m
  ·exact h.trans x k y (lt1 x m) hk (lt2 y m2) (front x m) (back y m2)
  ·rw[mem_singleton.mp m];exact back y m2
theorem aLC (ls:List Ln)(t:Rat)(i:Nat):i∈ord ls t↔i<ls.length:=a5P _ _ _
theorem aDC (ls:List Ln)(t:Rat):(ord ls t).length=ls.length:=a5F _ _
theorem a69 {a:Nat→Nat→Bool}{n k:Nat}:∀{xs:List Nat},Strict a n→k<n→(∀ x∈xs,x<n∧x≠k)→Srt a xs →
  xs.take (xs.filter fun o => !a k o).length=xs.filter (fun o => !a k o)∧xs.drop (xs.filter fun o => !a k o).length=xs.filter (fun o=>a k o)
 | [],_,_,_,_=>⟨rfl,rfl⟩
 | x::xs,h,hk,hx,hs=>by
  obtain⟨p1,q1⟩:=BU.mp hs;obtain⟨b1,b2⟩:=hx x mem_cons_self;have ih:=a69 (xs:=xs) h hk (fun y hy=>hx y (AU _ hy)) q1
  cases e:a k x with
  | false=>simp only[Cw,e,EL,if_true,An,List.take_succ_cons,List.drop_succ_cons,ih.1,ih.2,Ae,if_false]; exact⟨trivial,trivial⟩
  | true=>
   have all:∀ y∈xs,a k y=true:=fun y hy=>h.trans k x y hk b1 (hx y (AU _ hy)).1 e (p1 y hy);have f0:xs.filter (fun o => !a k o)=[]:=by
    rw[List.filter_eq_nil_iff];intro y hy;rw[all y hy]; simp
   have f1:xs.filter (fun o=>a k o)=xs:=CM.mpr all;simp only[Cw,e,Bb,Ae,if_false,f0,f1,if_true];exact⟨rfl,rfl⟩
end LT
namespace LT
def Leads (ls:List Ln)(t:Rat)(i:Nat):Prop:=i<ls.length∧∀ j,j<ls.length→j≠i→ahN ls t i j=true
theorem Leads.unique {ls:List Ln}{t:Rat}{i j:Nat}(h:Leads ls t i)(g:Leads ls t j):i=j:=by
 apply Classical.byContradiction;intro c;have h1:=h.2 j g.1 (Ne.symm c);have h2:=g.2 i h.1 c;rw[(eN ls t).asymm i j h.1 g.1 h1] at h2
 cases h2
def gK (ls:List Ln)(t:Rat):Nat→Nat
 | 0=>0
 | n+1=>if ahN ls t (n+1) (gK ls t n)=true then n+1 else gK ls t n
def dU (ls:List Ln)(t:Rat):Nat:=gK ls t (ls.length-1)
theorem yS (ls:List Ln)(t:Rat):∀ n,gK ls t n≤n
 | 0=>AN _
 | n+1=>by
  have ih:=yS ls t n;have e:gK ls t (n+1)=if ahN ls t (n+1) (gK ls t n)=true then n+1 else gK ls t n:=rfl
  rw[e]
  split<;>omega
theorem a5A (ls:List Ln)(t:Rat):∀ n,n<ls.length→∀ j,j≤n→j≠gK ls t n→ahN ls t (gK ls t n) j=true
 | 0,_,j,hj,hn=>absurd (show j=gK ls t 0 by show j=0; omega) hn
 | n+1,hl,j,hj,hn=>by
  have ih:=a5A ls t n (by omega);have le:=yS ls t n;have st:=eN ls t;have e:gK ls t (n+1)=if ahN ls t (n+1) (gK ls t n)=true then n+1 else gK ls t n:=rfl
  rw[e] at hn ⊢
  by_cases c:ahN ls t (n+1) (gK ls t n)=true
  ·rw[if_pos c] at hn ⊢
   by_cases d:j=gK ls t n
   ·rw[d]; exact c
   ·exact st.trans _ (gK ls t n) _ hl (by omega) (by omega) c (ih j (by omega) d)
  ·rw[if_neg c] at hn ⊢
   by_cases d:j=n+1
   ·rw[d,st.flip hl (show gK ls t n<ls.length by omega) (by omega)]
    cases h:ahN ls t (n+1) (gK ls t n) with
    | true=>exact absurd h c
    | false=>rfl
   ·exact ih j (by omega) hn
theorem nY {ls:List Ln}(h:ls≠[])(t:Rat):Leads ls t (dU ls t):=by
 have hl:=Dw.mpr h;have le:=yS ls t (ls.length-1);refine⟨by unfold dU; omega,fun j hj hn=>a5A ls t (ls.length-1) (by omega) j (by omega) hn⟩
theorem Leads.eq {ls:List Ln}{t:Rat}{i:Nat}(h:Leads ls t i):i=dU ls t:=h.unique (nY (by rintro rfl; exact absurd h.1 (by simp)) t)
def a1P (ls:List Ln)(a b:Rat):Prop:=∃(i j:Nat) (l k:Ln),ls[i]?=some l∧ls[j]?=some k∧l.2≠k.2∧a<mt l k∧mt l k≤b
theorem yV {ls:List Ln}{a b:Rat}(hab:a≤b)(h:¬a1P ls a b)(i j:Nat):ahN ls b i j=ahN ls a i j:=by
 unfold ahN
 cases hi:ls[i]? with
 | none=>rfl
 | some l=>
  cases hj:ls[j]? with
  | none=>rfl
  | some k=>
   show ahB l k i j b=ahB l k i j a
   by_cases hs:l.2=k.2
   ·rw[nU hs,nU hs]
   ·by_cases h1:mt l k≤a
    ·rw[a4J hs h1,a4J hs (by grind)]
    ·by_cases h2:b<mt l k
     ·rw[a0O hs h2,a0O hs (by grind)]
     ·exact absurd ⟨i,j,l,k,hi,hj,hs,by grind,by grind⟩ h
theorem Leads.const {ls:List Ln}{a b:Rat}{i:Nat}(hab:a≤b)(h:¬a1P ls a b):Leads ls a i↔Leads ls b i:=by
 unfold Leads;constructor
 ·exact fun g=>⟨g.1,fun j hj hn=>by rw[yV hab h]; exact g.2 j hj hn⟩
 ·exact fun g=>⟨g.1,fun j hj hn=>by rw[← yV hab h]; exact g.2 j hj hn⟩
def Fr (lo:Option Rat)(t:Rat):Prop:=match lo with
 | none=>True
 | some s=>s≤t
def Bf (lo:Option Rat)(t:Rat):Prop:=match lo with
 | none=>True
 | some s=>s<t
def RowFrom (ls:List Ln)(lo:Option Rat)(r:Nat):List (Nat×Rat)→Prop
 | []=>∀ t,Fr lo t→Leads ls t r
 | p::rest=>Bf lo p.2∧p.1≠r∧(∀ t,Fr lo t→t<p.2→Leads ls t r)∧RowFrom ls (some p.2) p.1 rest
theorem RowFrom.at {ls:List Ln}{s:Rat}{r:Nat}:∀{rest:List (Nat×Rat)},RowFrom ls (some s) r rest→Leads ls s r
 | [],h=>h s (show s≤s by grind)
 | p::rest,h=>h.2.2.1 s (show s≤s by grind) h.1
theorem RowFrom.unique {ls:List Ln}:∀{xs ys:List (Nat×Rat)} {lo:Option Rat} {r:Nat},RowFrom ls lo r xs→RowFrom ls lo r ys→xs=ys
 | [],[],_,_,_,_=>rfl
 | [],p::ys,lo,r,h,g=>by
  have h1:=h p.2 (by have:=g.1; cases lo with|none=>trivial|some s=>exact(show s≤p.2 by have:s<p.2:=this; grind));exact absurd (g.2.2.2.at.unique h1) g.2.1
 | p::xs,[],lo,r,h,g=>by
  have h1:=g p.2 (by have:=h.1; cases lo with|none=>trivial|some s=>exact(show s≤p.2 by have:s<p.2:=this; grind));exact absurd (h.2.2.2.at.unique h1) h.2.1
 | p::xs,q::ys,lo,r,h,g=>by
  have hp:Fr lo p.2:=by have:=h.1; cases lo with|none=>trivial|some s=>exact(show s≤p.2 by have:s<p.2:=this; grind)
  have hq:Fr lo q.2:=by have:=g.1; cases lo with|none=>trivial|some s=>exact(show s≤q.2 by have:s<q.2:=this; grind)
  have e:p.2=q.2:=by
   apply Classical.byContradiction;intro c
   by_cases d:p.2<q.2
   ·exact absurd (h.2.2.2.at.unique (g.2.2.1 p.2 hp d)) h.2.1
   ·exact absurd (g.2.2.2.at.unique (h.2.2.1 q.2 hq (by grind))) g.2.1
  have h2:=h.2.2.2;rw[e] at h2;have e1:p.1=q.1:=h2.at.unique g.2.2.2.at;rw[e1] at h2;have e2:=RowFrom.unique h2 g.2.2.2;rw[e2,show p=q from EM e1 e]
theorem RowFrom.first {ls:List Ln}{lo:Option Rat}{r1 r2:Nat}{xs ys:List (Nat×Rat)}(h:RowFrom ls lo r1 xs)(g:RowFrom ls lo r2 ys):r1=r2:=by
 cases lo with
 | some s=>exact h.at.unique g.at
 | none=>
  have early:∀{r:Nat} {zs:List (Nat×Rat)},RowFrom ls none r zs→∃ u,∀ t,t<u→Leads ls t r:=fun{r zs} k=>by
   cases zs with
   | nil=>exact⟨0,fun t _=>k t trivial⟩
   | cons p zs=>exact⟨p.2,fun t ht=>k.2.2.1 t trivial ht⟩
  obtain⟨u,hu⟩:=early h;obtain⟨v,hv⟩:=early g
  by_cases c:u≤v
  ·exact(hu (u-1) (by grind)).unique (hv (u-1) (by grind))
  ·exact(hu (v-1) (by grind)).unique (hv (v-1) (by grind))
def oK (ls:List Ln)(last:Nat):List Rat→List (Nat×Rat)
 | []=>[]
 | t::ts=>if dU ls t=last then oK ls last ts else(dU ls t,t)::oK ls (dU ls t) ts
theorem zG {ls:List Ln}(hne:ls≠[]):∀(ts:List Rat) (lo mb:Option Rat) (last:Nat),ts.Pairwise (·<·)→(∀ s∈ts,Bf lo s)→(∀ s∈ts,Bf mb s) →
  (∀ t,Fr lo t→(∀ s∈ts,t<s)→Leads ls t last)→(∀ s,(∃(i j:Nat) (l k:Ln),ls[i]?=some l∧ls[j]?=some k∧l.2≠k.2∧mt l k=s)→Bf mb s→s∈ts)→RowFrom ls lo last (oK ls last ts)
 | [],lo,mb,last,_,_,_,h,_=>fun t ht=>h t ht fun _ hs=>(nomatch hs)
 | t::ts,lo,mb,last,hp,hb,hb2,h,hm=>by
  obtain⟨p1,p2⟩:=BU.mp hp;have hbt:=hb t mem_cons_self;have hbt2:=hb2 t mem_cons_self;have up:∀ s,Bf (some t) s→Bf mb s:=fun s hs=>by
   have hs:t<s:=hs
   cases mb with
   | none=>trivial
   | some s0=>exact(show s0<s by have:s0<t:=hbt2; grind)
  have hm':∀ s,(∃(i j:Nat) (l k:Ln),ls[i]?=some l∧ls[j]?=some k∧l.2≠k.2∧mt l k=s)→Bf (some t) s→s∈ts:=fun s hs hb'=>by
   rcases AK.mp (hm s hs (up s hb')) with c|c
   ·have:t<s:=hb'; grind
   ·exact c
  have next:∀ u,t≤u→(∀ s∈ts,u<s)→Leads ls u (dU ls t):=fun u hu hs=>by
   refine(Leads.const hu ?_).mp (nY hne t)
   rintro⟨i,j,l,k,e1,e2,e3,e4,e5⟩
   have:=hs _ (hm' (mt l k) ⟨i,j,l,k,e1,e2,e3,rfl⟩ e4);grind
  have before:∀ u,Fr lo u→u<t→Leads ls u last:=fun u hu ht=>h u hu fun s hs=>by
   rcases AK.mp hs with c|c
   ·rw[c]; exact ht
   ·have:=p1 s c; grind
  show RowFrom ls lo last (if dU ls t=last then _ else _)
  by_cases c:dU ls t=last
  ·rw[if_pos c];refine zG hne ts lo (some t) last p2 (fun s hs=>hb s (AU _ hs)) (fun s hs=>p1 s hs) (fun u hu hs=>?_) hm'
   by_cases d:u<t
   ·exact before u hu d
   ·rw[← c]; exact next u (by grind) hs
  ·rw[if_neg c];exact⟨hbt,c,before,zG hne ts (some t) (some t) (dU ls t) p2 (fun s hs=>p1 s hs) (fun s hs=>p1 s hs) (fun u hu hs=>next u hu hs) hm'⟩
end LT
namespace LT
def slo (ls:List Ln)(i:Nat):Rat:=match ls[i]? with
 | some l=>l.2
 | none=>0
theorem jU {ls:List Ln}{i:Nat}{l:Ln}(h:ls[i]?=some l):slo ls i=l.2:=by unfold slo; rw[h]
theorem aCV {ls:List Ln}{t:Rat}{i j:Nat}(h:ahN ls t i j=true):∃ l k,ls[i]?=some l∧ls[j]?=some k∧ahB l k i j t=true:=by
 unfold ahN at h
 cases e1:ls[i]? with
 | none=>rw[e1] at h; cases h
 | some l=>
  cases e2:ls[j]? with
  | none=>rw[e1,e2] at h; cases h
  | some k=>rw[e1,e2] at h; exact⟨l,k,rfl,rfl,h⟩
theorem a3U {ls:List Ln}{t u:Rat}{i j:Nat}(h:ahN ls t i j=true)(hs:slo ls i≤slo ls j)(hu:u≤t):ahN ls u i j=true:=by
 obtain⟨l,k,e1,e2,h⟩:=aCV h;rw[jU e1,jU e2] at hs;rw[iI e1 e2]
 by_cases c:l.2=k.2
 ·rw[nU c] at h ⊢; exact h
 ·by_cases d:mt l k≤t
  ·rw[a4J c d,decide_eq_true_eq] at h; grind
  ·rw[a0O c (by grind),decide_eq_true_eq]; grind
theorem a6W {ls:List Ln}{t u:Rat}{i j:Nat}(h:ahN ls t i j=true)(hs:slo ls j≤slo ls i)(hu:t≤u):ahN ls u i j=true:=by
 obtain⟨l,k,e1,e2,h⟩:=aCV h;rw[jU e1,jU e2] at hs;rw[iI e1 e2]
 by_cases c:l.2=k.2
 ·rw[nU c] at h ⊢; exact h
 ·by_cases d:mt l k≤t
  ·rw[a4J c (by grind),decide_eq_true_eq]; grind
  ·rw[a0O c (by grind),decide_eq_true_eq] at h; grind
theorem Fr.of_bf {lo:Option Rat}{s:Rat}(h:Bf lo s):Fr lo s:=by
 cases lo with
 | none=>trivial
 | some a=>exact(show a≤s by have:a<s:=h; grind)
theorem stretch {lo:Option Rat}{s u:Rat}(h:Bf lo s)(hu:u<s):∃ v,u≤v∧v<s∧Fr lo v:=by
 cases lo with
 | none=>exact⟨u,by grind,hu,trivial⟩
 | some a=>
  have h:a<s:=h
  by_cases c:a≤u
  ·exact⟨u,by grind,hu,c⟩
  ·exact⟨a,by grind,h,(show a≤a by grind)⟩
theorem aI7 {ls:List Ln}{lo:Option Rat}{r:Nat}{p:Nat×Rat}{rest:List (Nat×Rat)}(h:RowFrom ls lo r (p::rest)) :
  ∃ l k,ls[r]?=some l∧ls[p.1]?=some k∧l.2<k.2∧mt l k=p.2:=by
 obtain⟨hb,hne,hl,hr⟩:=h;have ls1:=hr.at;obtain⟨v,_,v2,v3⟩:=stretch (u:=p.2-1) hb (by grind);have l1:=hl v v3 v2;have a1:=l1.2 p.1 ls1.1 hne;have a2:=ls1.2 r l1.1 (Ne.symm hne);obtain⟨l,k,e1,e2,b1⟩:=aCV a1;have b2:=a2;rw[iI e2 e1] at b2;have st:=eN ls v;have hs:l.2<k.2:=by
  apply Classical.byContradiction;intro c;have:=a3U a2 (by rw[jU e1,jU e2]; grind) (show v≤p.2 by grind);rw[st.asymm _ _ l1.1 ls1.1 a1] at this; cases this
 have hs2:k.2≠l.2:=by grind
 refine⟨l,k,e1,e2,hs,?_⟩;have hs3:l.2≠k.2:=Ne.symm hs2;have em:mt k l=mt l k:=vK hs3;have m1:mt l k≤p.2:=by
  apply Classical.byContradiction;intro c;rw[a0O hs2 (by rw[em]; grind),decide_eq_true_eq] at b2;grind
 apply Classical.byContradiction;intro c;have hlt:mt l k<p.2:=by grind
 obtain⟨w,w1,w2,w3⟩:=stretch hb hlt;have a3:=(hl w w3 w2).2 p.1 ls1.1 hne;rw[iI e1 e2,a4J hs3 w1,decide_eq_true_eq] at a3;grind
theorem a8X {ls:List Ln}:∀{rest:List (Nat×Rat)} {lo:Option Rat} {r:Nat},RowFrom ls lo r rest→∀ x∈r::rest.map Dj,∃ t,Leads ls t x
 | [],lo,r,h,x,hx=>by
  rw[mem_singleton.mp hx]
  cases lo with
  | none=>exact⟨0,h 0 trivial⟩
  | some s=>exact⟨s,h s (show s≤s by grind)⟩
 | p::rest,lo,r,h,x,hx=>by
  rcases AK.mp hx with z|z
  ·rw[z];obtain⟨v,_,v2,v3⟩:=stretch (u:=p.2-1) h.1 (by grind);exact⟨v,h.2.2.1 v v3 v2⟩
  ·exact a8X h.2.2.2 x z
def Cov (ls:List Ln)(r a b:Nat):Prop:=∀ t,ahN ls t a r=true∨ahN ls t b r=true
theorem aB4 {ls:List Ln}{x:Nat}(hx:x<ls.length)(hn:∀ t,¬Leads ls t x):∀{rest:List (Nat×Rat)} {lo:Option Rat} {r:Nat},RowFrom ls lo r rest→slo ls r≤slo ls x →
  ∃ a∈r::rest.map Dj,∃ b∈r::rest.map Dj,Cov ls x a b
 | [],lo,r,h,hs=>by
  refine⟨r,mem_cons_self,r,mem_cons_self,fun t=>.inl ?_⟩;obtain⟨v,v1,_,v3⟩:∃ v,t≤v∧True∧Fr lo v:=by
   cases lo with
   | none=>exact⟨t,by grind,trivial,trivial⟩
   | some s=>
    by_cases c:s≤t
    ·exact⟨t,by grind,trivial,c⟩
    ·exact⟨s,by grind,trivial,(show s≤s by grind)⟩
  have l:=h v v3;exact a3U (l.2 x hx (fun z=>hn v (z▸l))) hs v1
 | p::rest,lo,r,h,hs=>by
  by_cases c:slo ls p.1≤slo ls x
  ·obtain⟨a,ha,b,hb,g⟩:=aB4 hx hn h.2.2.2 c;exact⟨a,AU _ ha,b,AU _ hb,g⟩
  ·refine⟨r,mem_cons_self,p.1,AU _ mem_cons_self,fun t=>?_⟩
   by_cases d:t<p.2
   ·obtain⟨v,v1,v2,v3⟩:=stretch h.1 d;have l:=h.2.2.1 v v3 v2;exact .inl (a3U (l.2 x hx (fun z=>hn v (z▸l))) hs v1)
   ·have l:=h.2.2.2.at;exact .inr (a6W (l.2 x hx (fun z=>hn _ (z▸l))) (by grind) (by grind))
theorem aKH {ls:List Ln}{x r:Nat}{rest:List (Nat×Rat)}(hx:x<ls.length)(hn:∀ t,¬Leads ls t x)(h:RowFrom ls none r rest):∃ a∈r::rest.map Dj,∃ b∈r::rest.map Dj,Cov ls x a b:=by
 by_cases c:slo ls r≤slo ls x
 ·exact aB4 hx hn h c
 ·refine⟨r,mem_cons_self,r,mem_cons_self,fun t=>.inl ?_⟩;obtain⟨v,v1,v2⟩:∃ v,v≤t∧Leads ls v r:=by
   cases rest with
   | nil=>exact⟨t,by grind,h t trivial⟩
   | cons p rest=>
    by_cases d:t<p.2
    ·exact⟨t,by grind,h.2.2.1 t trivial d⟩
    ·exact⟨p.2-1,by grind,h.2.2.1 _ trivial (by grind)⟩
  exact a6W (v2.2 x hx (fun z=>hn v (z▸v2))) (by grind) v1
end LT
namespace LT
end LT
namespace LT
def RowOf (f:Rat→Nat)(lo:Option Rat)(r:Nat):List (Nat×Rat)→Prop
 | []=>∀ t,Fr lo t→f t=r
 | p::rest=>Bf lo p.2∧p.1≠r∧(∀ t,Fr lo t→t<p.2→f t=r)∧RowOf f (some p.2) p.1 rest
theorem RowOf.at {f:Rat→Nat}{s:Rat}{r:Nat}:∀{rest:List (Nat×Rat)},RowOf f (some s) r rest→f s=r
 | [],h=>h s (show s≤s by grind)
 | p::rest,h=>h.2.2.1 s (show s≤s by grind) h.1
theorem RowOf.unique {f:Rat→Nat}:∀{xs ys:List (Nat×Rat)} {lo:Option Rat} {r:Nat},RowOf f lo r xs→RowOf f lo r ys→xs=ys
 | [],[],_,_,_,_=>rfl
 | [],p::ys,lo,r,h,g=>absurd (g.2.2.2.at.symm.trans (h p.2 (Fr.of_bf g.1))) g.2.1
 | p::xs,[],lo,r,h,g=>absurd (h.2.2.2.at.symm.trans (g p.2 (Fr.of_bf h.1))) h.2.1
 | p::xs,q::ys,lo,r,h,g=>by
  have e:p.2=q.2:=by
   apply Classical.byContradiction;intro c
   by_cases d:p.2<q.2
   ·exact absurd (h.2.2.2.at.symm.trans (g.2.2.1 p.2 (Fr.of_bf h.1) d)) h.2.1
   ·exact absurd (g.2.2.2.at.symm.trans (h.2.2.1 q.2 (Fr.of_bf g.1) (by grind))) g.2.1
  have h2:=h.2.2.2;rw[e] at h2;have e1:p.1=q.1:=h2.at.symm.trans g.2.2.2.at;rw[e1] at h2;rw[RowOf.unique h2 g.2.2.2,show p=q from EM e1 e]
theorem RowOf.first {f:Rat→Nat}{lo:Option Rat}{r1 r2:Nat}{xs ys:List (Nat×Rat)}(h:RowOf f lo r1 xs)(g:RowOf f lo r2 ys):r1=r2:=by
 cases lo with
 | some s=>exact h.at.symm.trans g.at
 | none=>
  have early:∀{r:Nat} {zs:List (Nat×Rat)},RowOf f none r zs→∃ u,∀ t,t<u→f t=r:=fun{r zs} k=>by
   cases zs with
   | nil=>exact⟨0,fun t _=>k t trivial⟩
   | cons p zs=>exact⟨p.2,fun t ht=>k.2.2.1 t trivial ht⟩
  obtain⟨u,hu⟩:=early h;obtain⟨v,hv⟩:=early g
  by_cases c:u≤v
  ·exact(hu (u-1) (by grind)).symm.trans (hv (u-1) (by grind))
  ·exact(hu (v-1) (by grind)).symm.trans (hv (v-1) (by grind))
def dJ (f:Rat→Nat)(last:Nat):List Rat→List (Nat×Rat)
 | []=>[]
 | t::ts=>if f t=last then dJ f last ts else(f t,t)::dJ f (f t) ts
theorem vB {f:Rat→Nat}{M:Rat→Prop}(hc:∀ a b,a≤b→(∀ s,M s→¬(a<s∧s≤b))→f b=f a):∀(ts:List Rat) (lo mb:Option Rat) (last:Nat),ts.Pairwise (·<·)→(∀ s∈ts,Bf lo s)→(∀ s∈ts,Bf mb s) →
  (∀ t,Fr lo t→(∀ s∈ts,t<s)→f t=last)→(∀ s,M s→Bf mb s→s∈ts)→RowOf f lo last (dJ f last ts)
 | [],lo,mb,last,_,_,_,h,_=>fun t ht=>h t ht fun _ hs=>(nomatch hs)
 | t::ts,lo,mb,last,hp,hb,hb2,h,hm=>by
  obtain⟨p1,p2⟩:=BU.mp hp;have hbt:=hb t mem_cons_self;have hbt2:=hb2 t mem_cons_self;have hm':∀ s,M s→Bf (some t) s→s∈ts:=fun s hs hb'=>by
   have hts:t<s:=hb';rcases AK.mp (hm s hs (by cases mb with|none=>trivial|some s0=>exact(show s0<s by have:s0<t:=hbt2; grind))) with c|c
   ·grind
   ·exact c
  have next:∀ u,t≤u→(∀ s∈ts,u<s)→f u=f t:=fun u hu hs=>hc t u hu fun s hM hh=>by
   have:=hs _ (hm' s hM hh.1);grind
  have before:∀ u,Fr lo u→u<t→f u=last:=fun u hu ht=>h u hu fun s hs=>by
   rcases AK.mp hs with c|c
   ·rw[c]; exact ht
   ·have:=p1 s c; grind
  show RowOf f lo last (if f t=last then _ else _)
  by_cases c:f t=last
  ·rw[if_pos c];refine vB hc ts lo (some t) last p2 (fun s hs=>hb s (AU _ hs)) (fun s hs=>p1 s hs) (fun u hu hs=>?_) hm'
   by_cases d:u<t
   ·exact before u hu d
   ·rw[← c]; exact next u (by grind) hs
  ·rw[if_neg c];exact⟨hbt,c,before,vB hc ts (some t) (some t) (f t) p2 (fun s hs=>p1 s hs) (fun s hs=>p1 s hs) (fun u hu hs=>next u hu hs) hm'⟩
theorem aEZ {ls:List Ln}{a b:Rat}(hab:a≤b)(h:¬a1P ls a b):ord ls b=ord ls a:=by
 unfold ord;rw[show ahN ls b=ahN ls a from funext fun i=>funext fun j=>yV hab h i j]
def rkN (ls:List Ln)(k:Nat)(t:Rat):Nat:=(ord ls t).getD k 0
theorem yH {ls:List Ln}{k:Nat}{a b:Rat}(hab:a≤b)(h:¬a1P ls a b):rkN ls k b=rkN ls k a:=by unfold rkN; rw[aEZ hab h]
end LT
namespace LT
def a4X (a:Nat→Nat→Bool)(rs:List Nat):List Nat:=rs.foldl (cT a) []
theorem ordStep_mem {a:Nat→Nat→Bool}{xs:List Nat}{k x:Nat}:x∈cT a xs k↔x∈xs∨x=k:=by
 unfold cT;simp only[BO,Ap,mem_singleton]
 cases a k x<;>simp[or_comm]
theorem a8F {a:Nat→Nat→Bool}{xs:List Nat}{k:Nat}:(cT a xs k).length=xs.length+1:=by
 have e:=a3L (fun o=>a k o) xs;unfold cT;simp only[BN,Cz];omega
theorem a6V (a:Nat→Nat→Bool)(rs:List Nat)(k:Nat):a4X a (rs++[k])=cT a (a4X a rs) k:=by unfold a4X; rw[List.foldl_append]; rfl
theorem a5Q {a:Nat→Nat→Bool}:∀(rs acc:List Nat) (x:Nat),x∈rs.foldl (cT a) acc↔x∈acc∨x∈rs
 | [],acc,x=>by simp
 | r::rs,acc,x=>by
  show x∈rs.foldl (cT a) (cT a acc r)↔_;rw[a5Q rs,ordStep_mem,AK];grind
theorem ordL_mem {a:Nat→Nat→Bool}{rs:List Nat}{x:Nat}:x∈a4X a rs↔x∈rs:=by unfold a4X; rw[a5Q]; simp
theorem a7G {a:Nat→Nat→Bool}:∀(rs acc:List Nat),(rs.foldl (cT a) acc).length=acc.length+rs.length
 | [],acc=>rfl
 | r::rs,acc=>by
  show(rs.foldl (cT a) (cT a acc r)).length=_
  rw[a7G rs,a8F,An];omega
theorem a9A {a:Nat→Nat→Bool}{rs:List Nat}:(a4X a rs).length=rs.length:=by unfold a4X; rw[a7G]; simp
theorem a5M {a:Nat→Nat→Bool}{n:Nat}(h:Strict a n):∀(rs acc:List Nat),(∀ x∈rs,x<n)→(∀ x∈acc,x<n)→rs.Nodup→(∀ x∈acc,x∉rs)→Srt a acc→Srt a (rs.foldl (cT a) acc)
 | [],acc,_,_,_,_,hs=>hs
 | r::rs,acc,h1,h2,h3,h4,hs=>by
  obtain⟨n1,n2⟩:=BS.mp h3;have hr:=h1 r mem_cons_self;refine a5M h rs (cT a acc r) (fun x hx=>h1 x (AU _ hx)) (fun x hx=>?_) n2 (fun x hx hm=>?_) (a8U h hr (fun x hx=>⟨h2 x hx,fun e=>h4 x hx (by rw[e]; exact mem_cons_self)⟩) hs)
  ·rcases ordStep_mem.mp hx with z|z
   ·exact h2 x z
   ·rw[z]; exact hr
  ·rcases ordStep_mem.mp hx with z|z
   ·exact h4 x z (AU _ hm)
   ·exact n1 (by rw[← z]; exact hm)
theorem aIL {a:Nat→Nat→Bool}{n:Nat}{rs:List Nat}(h:Strict a n)(h1:∀ x∈rs,x<n)(h2:rs.Nodup):Srt a (a4X a rs):=
 a5M h rs [] h1 (fun x hx=>nomatch hx) h2 (fun x hx=>nomatch hx) List.Pairwise.nil
theorem a1R (a:Nat→Nat→Bool):∀ n,a4X a (List.range n)=a4H a n
 | 0=>rfl
 | n+1=>by rw[EY,a6V,a1R a n]; rfl
end LT
namespace LT
def mtN (ls:List Ln)(i j:Nat):Rat:=match ls[i]?,ls[j]? with
 | some l,some k=>mt l k
 | _,_=>0
theorem a7I {ls:List Ln}{i j:Nat}{l k:Ln}(h1:ls[i]?=some l)(h2:ls[j]?=some k):mtN ls i j=mt l k:=by unfold mtN; rw[h1,h2]
def yK (ls:List Ln)(L n:Nat)(b:Option (Nat×Rat)):Option (Nat×Rat):=
 if slo ls L<slo ls n then(match b with
  | none=>some (n,mtN ls L n)
  | some c=>if mtN ls L n=c.2 then(if ahN ls (mtN ls L n) n c.1=true then some (n,mtN ls L n) else some c) else if mtN ls L n<c.2 then some (n,mtN ls L n) else some c)
 else b
def aFA (ls:List Ln)(L:Nat):Nat→Option (Nat×Rat)
 | 0=>none
 | n+1=>yK ls L n (aFA ls L n)
def nlN (ls:List Ln)(L:Nat):Option (Nat×Rat):=aFA ls L ls.length
theorem a0A {ls:List Ln}{L:Nat}:∀ n,aFA ls L n=none→∀ j,j<n→¬slo ls L<slo ls j
 | 0,_,j,hj=>absurd hj (by omega)
 | n+1,h,j,hj=>by
  have h:yK ls L n (aFA ls L n)=none:=h;unfold yK at h
  split at h
  ·split at h
   ·cases h
   ·split at h
    ·split at h<;>cases h
    ·split at h<;>cases h
  ·rename_i c
   by_cases e:j=n
   ·rw[e]; exact c
   ·exact a0A n h j (by omega)
structure NlOk (ls:List Ln)(L n:Nat)(c:Nat×Rat):Prop where
 lt:c.1<n
 st:slo ls L<slo ls c.1
 tm:c.2=mtN ls L c.1
 mn:∀ j,j<n→slo ls L<slo ls j→c.2≤mtN ls L j
 tie:∀ j,j<n→slo ls L<slo ls j→mtN ls L j=c.2→j≠c.1→ahN ls c.2 c.1 j=true
theorem tL {ls:List Ln}{L:Nat}:∀ n,n≤ls.length→∀ c,aFA ls L n=some c→NlOk ls L n c
 | 0,_,c,h=>by cases h
 | n+1,hn,c,h=>by
  have ih:=tL (ls:=ls) (L:=L) n (by omega);have S:=fun t=>eN ls t;have h:yK ls L n (aFA ls L n)=some c:=h;unfold yK at h
  split at h
  ·rename_i hs
   cases hb:aFA ls L n with
   | none=>
    rw[hb] at h
    cases h
    have no:=a0A n hb;refine⟨by show n<n+1; omega,hs,rfl,fun j hj hj2=>?_,fun j hj hj2 _ hne=>?_⟩
    ·by_cases e:j=n
     ·rw[e]; exact Dk
     ·exact absurd hj2 (no j (by omega))
    ·exact absurd hj2 (no j (by have:j≠n:=hne; omega))
   | some b=>
    rw[hb] at h;have B:=ih b hb;dsimp only at h
    by_cases e1:mtN ls L n=b.2
    ·rw[if_pos e1] at h
     by_cases e2:ahN ls (mtN ls L n) n b.1=true
     ·rw[if_pos e2] at h
      cases h
      refine⟨by show n<n+1; omega,hs,rfl,fun j hj hj2=>?_,fun j hj hj2 hm hne=>?_⟩
      ·by_cases e:j=n
       ·rw[e]; exact Dk
       ·show mtN ls L n≤_; rw[e1]; exact B.mn j (by omega) hj2
      ·have hj3:j<n:=by have:j≠n:=hne; omega
       show ahN ls (mtN ls L n) n j=true
       by_cases e:j=b.1
       ·rw[e]; exact e2
       ·have t1:=B.tie j hj3 hj2 (by rw[hm]; exact e1) e;rw[← e1] at t1;exact(S _).trans n b.1 j (by omega) (by have:=B.lt; omega) (by omega) e2 t1
     ·rw[if_neg e2] at h
      cases h
      refine⟨by have:=B.lt; omega,B.st,B.tm,fun j hj hj2=>?_,fun j hj hj2 hm hne=>?_⟩
      ·by_cases e:j=n
       ·rw[e,e1]; exact Dk
       ·exact B.mn j (by omega) hj2
      ·by_cases e:j=n
       ·rw[e];have hb1:=B.lt;rw[e1] at e2
        rcases(S c.2).total c.1 n (by omega) (by omega) (by omega) with z|z
        ·exact z
        ·exact absurd z e2
       ·exact B.tie j (by omega) hj2 hm hne
    ·rw[if_neg e1] at h
     by_cases e2:mtN ls L n<b.2
     ·rw[if_pos e2] at h
      cases h
      refine⟨by show n<n+1; omega,hs,rfl,fun j hj hj2=>?_,fun j hj hj2 hm hne=>?_⟩
      ·by_cases e:j=n
       ·rw[e]; exact Dk
       ·have:=B.mn j (by omega) hj2;show mtN ls L n≤mtN ls L j;grind
      ·have:=B.mn j (by have:j≠n:=hne; omega) hj2;have hm:mtN ls L j=mtN ls L n:=hm;grind
     ·rw[if_neg e2] at h
      cases h
      refine⟨by have:=B.lt; omega,B.st,B.tm,fun j hj hj2=>?_,fun j hj hj2 hm hne=>?_⟩
      ·by_cases e:j=n
       ·rw[e]; grind
       ·exact B.mn j (by omega) hj2
      ·by_cases e:j=n
       ·rw[e] at hm; exact absurd hm e1
       ·exact B.tie j (by omega) hj2 hm hne
  ·rename_i hs
   have B:=ih c h;refine⟨by have:=B.lt; omega,B.st,B.tm,fun j hj hj2=>?_,fun j hj hj2 hm hne=>?_⟩
   ·by_cases e:j=n
    ·rw[e] at hj2; exact absurd hj2 hs
    ·exact B.mn j (by omega) hj2
   ·by_cases e:j=n
    ·rw[e] at hj2; exact absurd hj2 hs
    ·exact B.tie j (by omega) hj2 hm hne
theorem a1L {ls:List Ln}{i j:Nat}{t:Rat}(hi:i<ls.length)(hj:j<ls.length)(hs:slo ls i<slo ls j)(ht:t<mtN ls i j):ahN ls t i j=true:=by
 have e1:ls[i]?=some ls[i]:=AQ hi;have e2:ls[j]?=some ls[j]:=AQ hj;rw[jU e1,jU e2] at hs;rw[a7I e1 e2] at ht;rw[iI e1 e2,a0O (by grind) ht,decide_eq_true hs]
theorem yP {ls:List Ln}{i j:Nat}{t:Rat}(hi:i<ls.length)(hj:j<ls.length)(hs:slo ls i<slo ls j)(ht:mtN ls i j≤t):ahN ls t j i=true:=by
 have e1:ls[i]?=some ls[i]:=AQ hi;have e2:ls[j]?=some ls[j]:=AQ hj;rw[jU e1,jU e2] at hs;rw[a7I e1 e2] at ht;rw[iI e2 e1,a4J (by grind) (by rw[vK (by grind)]; exact ht),decide_eq_true hs]
def LeadFr (ls:List Ln)(lo:Option Rat)(L:Nat):Prop:=∀ t,Fr lo t→∃ u,u≤t∧Fr lo u∧Leads ls u L
theorem LeadFr.at {ls:List Ln}{s:Rat}{L:Nat}(h:Leads ls s L):LeadFr ls (some s) L:=fun t ht=>⟨s,ht,(show s≤s by grind),h⟩
theorem row_end {ls:List Ln}{lo:Option Rat}{L:Nat}(h:LeadFr ls lo L)(hn:nlN ls L=none):RowFrom ls lo L []:=by
 intro t ht;obtain⟨u,hu,_,hl⟩:=h t ht;refine⟨hl.1,fun j hj hne=>a6W (hl.2 j hj hne) ?_ hu⟩;have:=a0A _ hn j hj;grind
theorem a9N {ls:List Ln}{lo:Option Rat}{L:Nat}{c:Nat×Rat}(h:LeadFr ls lo L)(hc:nlN ls L=some c) :
  Bf lo c.2∧c.1≠L∧(∀ t,Fr lo t→t<c.2→Leads ls t L)∧Leads ls c.2 c.1:=by
 have C:=tL _ (AN _) c hc;have lead:∀ u,Leads ls u L→∀ t,u≤t→t<c.2→Leads ls t L:=fun u hl t hu ht=>by
  refine⟨hl.1,fun j hj hne=>?_⟩
  by_cases hs:slo ls L<slo ls j
  ·exact a1L hl.1 hj hs (by have:=C.mn j hj hs; grind)
  ·exact a6W (hl.2 j hj hne) (by grind) hu
 have hne:c.1≠L:=fun e=>by have:=C.st; rw[e] at this; grind
 have up:∀ u,Leads ls u L→u<c.2:=fun u hl=>by
  apply Classical.byContradiction;intro hge;have h1:=hl.2 c.1 C.lt hne;have h2:=yP (t:=u) hl.1 C.lt C.st (by rw[← C.tm]; grind);rw[(eN ls u).asymm _ _ hl.1 C.lt h1] at h2
  cases h2
 have some_u:∃ u,Fr lo u∧Leads ls u L:=by
  cases lo with
  | none=>obtain⟨u,_,h2,h3⟩:=h 0 trivial; exact⟨u,h2,h3⟩
  | some s=>obtain⟨u,_,h2,h3⟩:=h s (show s≤s by grind); exact⟨u,h2,h3⟩
 obtain⟨u0,f0,l0⟩:=some_u;have hu0:=up u0 l0;refine⟨?_,hne,fun t ht hlt=>?_,C.lt,fun j hj hjc=>?_⟩
 ·cases lo with
  | none=>trivial
  | some s=>
   have f0:s≤u0:=f0;show s<c.2;grind
 ·obtain⟨u,hu,_,hl⟩:=h t ht;exact lead u hl t hu hlt
 ·have S:=eN ls c.2;have cL:ahN ls c.2 c.1 L=true:=yP l0.1 C.lt C.st (by rw[← C.tm]; exact Dk)
  by_cases e:j=L
  ·rw[e]; exact cL
  ·by_cases hs:slo ls L<slo ls j
   ·by_cases hm:mtN ls L j=c.2
    ·exact C.tie j hj hs hm hjc
    ·have:=C.mn j hj hs;exact S.trans _ L _ C.lt l0.1 hj cL (a1L l0.1 hj hs (by grind))
   ·exact S.trans _ L _ C.lt l0.1 hj cL (a6W (l0.2 j hj e) (by grind) (by grind))
def oY (l k:Ln):Bool:=if l.2=k.2 then decide (k.1<l.1) else decide (l.2<k.2)
def rG (ls:List Ln):Nat→Nat
 | 0=>0
 | n+1=>match ls[n+1]?,ls[rG ls n]? with
  | some l,some k=>if oY l k=true then n+1 else rG ls n
  | _,_=>rG ls n
def flN (ls:List Ln):Nat:=rG ls (ls.length-1)
theorem a2Y (ls:List Ln):∀ n,rG ls n≤n
 | 0=>AN _
 | n+1=>by
  have ih:=a2Y ls n;unfold rG
  split
  ·split<;>omega
  ·omega
def aLQ (ls:List Ln)(i j:Nat):Prop:=∃ l k,ls[i]?=some l∧ls[j]?=some k∧(l.2<k.2∨(l.2=k.2∧(k.1<l.1∨(k.1=l.1∧i<j))))
theorem a2B (ls:List Ln):∀ n,n<ls.length→∀ j,j≤n→j≠rG ls n→aLQ ls (rG ls n) j
 | 0,_,j,hj,hn=>absurd (show j=rG ls 0 by show j=0; omega) hn
 | n+1,hl,j,hj,hn=>by
  have ih:=a2B ls n (by omega);have le:=a2Y ls n;have e1:ls[n+1]?=some ls[n+1]:=AQ hl;have e2:ls[rG ls n]?=some ls[rG ls n]:=AQ (by omega);have e:rG ls (n+1)=if oY ls[n+1] ls[rG ls n]=true then n+1 else rG ls n:=by
   show(match ls[n+1]?,ls[rG ls n]? with|some l,some k=>if oY l k=true then n+1 else rG ls n|_,_=>rG ls n)=_
   rw[e1,e2]
  rw[e] at hn ⊢
  by_cases c:oY ls[n+1] ls[rG ls n]=true
  ·rw[if_pos c] at hn ⊢;unfold oY at c
   by_cases d:j=rG ls n
   ·rw[d];refine⟨_,_,e1,e2,?_⟩
    split at c
    ·exact .inr ⟨by assumption,.inl (of_decide_eq_true c)⟩
    ·exact .inl (of_decide_eq_true c)
   ·obtain⟨l,k,f1,f2,h⟩:=ih j (by omega) d;rw[e2] at f1; cases f1;refine⟨_,k,e1,f2,?_⟩
    split at c
    ·have:=of_decide_eq_true c; grind
    ·have:=of_decide_eq_true c; grind
  ·rw[if_neg c] at hn ⊢
   by_cases d:j=n+1
   ·rw[d];refine⟨_,_,e2,e1,?_⟩;unfold oY at c
    split at c
    ·have:¬ls[rG ls n].1<ls[n+1].1:=fun h=>c (decide_eq_true h)
     by_cases z:ls[n+1].1=ls[rG ls n].1
     ·exact .inr ⟨by grind,.inr ⟨z,by omega⟩⟩
     ·exact .inr ⟨by grind,.inl (by grind)⟩
    ·have:¬ls[n+1].2<ls[rG ls n].2:=fun h=>c (decide_eq_true h);exact .inl (by grind)
   ·exact ih j (by omega) hn
def nH (ls:List Ln)(i:Nat)(t:Rat):Nat→Rat
 | 0=>t
 | n+1=>if mtN ls i n≤nH ls i t n then mtN ls i n-1 else nH ls i t n
theorem yC (ls:List Ln)(i:Nat)(t:Rat):∀ n,nH ls i t n≤t
 | 0=>Dk
 | n+1=>by
  have ih:=yC ls i t n;unfold nH
  split<;>grind
theorem a0C (ls:List Ln)(i:Nat)(t:Rat):∀ n j,j<n→nH ls i t n<mtN ls i j
 | 0,j,hj=>absurd hj (by omega)
 | n+1,j,hj=>by
  have ih:=a0C ls i t n;unfold nH
  by_cases e:j=n
  ·rw[e]; split<;>grind
  ·have:=ih j (by omega)
   split<;>grind
theorem aGP {ls:List Ln}(h:ls≠[]):LeadFr ls none (flN ls):=by
 intro t _;have hl:=Dw.mpr h;have le:=a2Y ls (ls.length-1);have hf:flN ls<ls.length:=by unfold flN; omega
 refine⟨nH ls (flN ls) t ls.length,yC ls _ t _,trivial,hf,fun j hj hne=>?_⟩;obtain⟨l,k,e1,e2,hh⟩:=a2B ls (ls.length-1) (by omega) j (by omega) hne;have e1:ls[flN ls]?=some l:=e1;have hb:=a0C ls (flN ls) t ls.length j hj;rw[a7I e1 e2] at hb;rw[iI e1 e2]
 by_cases c:l.2=k.2
 ·rw[nU c];rcases hh with z|⟨_,z|⟨z1,z2⟩⟩
  ·grind
  ·rw[if_neg (by grind),decide_eq_true z]
  ·rw[if_pos z1.symm];exact decide_eq_true (by have:flN ls<j:=z2; omega)
 ·rw[a0O c hb];exact decide_eq_true (by grind)
end LT
namespace L2
open PySem PySem.Spec PyProof.Rows
theorem a2I:∀{xs:List V} {us:List AA},xs.length=us.length→(∀(i:Nat) x u,xs[i]?=some x→us[i]?=some u→RelV x u)→Vals xs us
 | [],[],_,_=>.nil
 | x::xs,u::us,hl,h=>.cons (h 0 x u rfl rfl) (a2I (by simpa using hl) fun i y w e1 e2=>h (i+1) y w (by simpa using e1) (by simpa using e2))
def tR (lo:Int)(n:Nat):List V:=(List.range n).map fun(k:Nat)=>V.int (lo+k)
theorem a1E (lo:Int)(n:Nat):(tR lo n).length=n:=by unfold tR; rw[AS,Bv]
section
variable {X:Cx}
def aMW:List V→Hp→VK→Prop:=fun xs H Q=>∃ j:Int,xs=[.int j]∧∀ r,H r=none→Q (.ref r) (upd H r (.rng 0 j))
theorem a7D:CallR X (.type "range") aMW:=by
 intro pins s σ H xs us Q I r h;obtain⟨j,rfl,q⟩:=h;obtain⟨u,rfl,rx⟩:=vals1 r;obtain⟨t,rfl⟩:=rx;refine call_range_1 ?_;exact⟨.ref s.heap.objs.size,_,I.laid (o:=.rng 0 j) (fun b o e=>AZ _ e) (AN _) (show ObjOk X.prog X.w _ _ _ (.rng 0 j) from⟨_,_,_,Aq _ rfl⟩),rfl,q _ (I.hok.fresh (AN _))⟩
def a96:List V→Hp→VK→Prop:=fun xs H Q=>∃ p lo hi,xs=[.ref p]∧H p=some (.rng lo hi)∧(-(2^62)≤lo∧lo<2^62 ∧ -(2^62)≤hi∧hi<2^62)∧(hi-lo).toNat≤1000 ∧
 ∀ l,H l=none→Q (.ref l) (upd H l (.lst (tR lo (hi-lo).toNat)))
theorem a3Y (hc:X.calm=true):CallR X (.type "list") a96:=by
 intro pins s σ H xs us Q I r h;obtain⟨p,lo,hi,rfl,hp,⟨b1,b2,b3,b4⟩,hn,q⟩:=h;obtain⟨u,rfl,rx⟩:=vals1 r
 cases rx
 obtain⟨t,u,v,hr⟩:=I.hok p _ hp;have hsz:Fz lo hi 1=((hi-lo).toNat:Int):=by rw[rangeSize_one]; split<;>omega
 refine call_list_range (I.ok.hd hc) hr (small_one b1 b2 b3 b4) hsz (by omega) fun h' tk acc' c' kp e it=>?_;have hl:(tR lo (hi-lo).toNat).length=acc'.toList.length:=by rw[a1E,Af]; exact it.1.symm
 have hv:Vals (tR lo (hi-lo).toNat) acc'.toList:=by
  refine a2I hl fun i x w e1 e2=>?_;obtain⟨t',ew⟩:=it.2 i w (by simpa using e2);unfold tR at e1;rw[Aa] at e1
  cases e3:(List.range (hi-lo).toNat)[i]? with
  | none=>rw[e3] at e1; cases e1
  | some k=>
   rw[e3] at e1
   cases e1
   have hk:k=i:=by
    obtain⟨hlt,e4⟩:=List.getElem?_eq_some_iff.mp e3;rw[List.getElem_range] at e4;exact e4.symm
   subst hk;exact⟨t',by rw[ew,Da]⟩
 exact⟨.ref s.heap.objs.size,_,I.laid kp (AN _) (show ObjOk X.prog X.w _ h' _ (.lst (tR lo (hi-lo).toNat)) from⟨eU (by rw[a1E]; exact hn),acc'.toList,c',hv,by simpa using e⟩),rfl,q _ (I.hok.fresh (AN _))⟩
end
end L2
namespace L2.VS
open PySem PySem.Spec PyProof.Rows
section
variable {P0:AB→Hp→Prop}{A:Nat→Bool}
def aM1 (i:Nat)(f:Int→Int→Int)(m:ME):MS:=fun Γ Q=>match Γ[i]? with
 | some (.val (.int a))=>m Γ fun d Γ1=>match d with
  | .int b=>Q (.nx (Γ1.set i (.val (.int (f a b)))))
  | _=>False
 | _=>False
theorem aJH {i:Nat}{f:Int→Int→Int}{t:TE}{m:ME}(h:VT P0 t m)(hA:A i=true:=by rfl):VSA P0 A (aRD i t (ipI f)) (aM1 i f m):=by
 intro F Γ σ G H E Qm r hm k;unfold aM1 at hm
 split at hm
 ·rename_i a e
  obtain⟨v,e1,d1⟩:=r.sl i _ e
  cases d1
  refine⟨_,e1,h F Γ σ G H _ _ r hm fun d Γ1 x G1 H1 m1 s1 r1 d1=>?_⟩
  split at m1
  ·cases d1
   exact⟨_,_,rfl,rfl,k _ m1 _ _ _ s1 (r1.setV (.int _)) (uL hA)⟩
  ·exact m1.elim
 ·exact hm.elim
abbrev aSW:Int→Int→Int:=fun i j=>i+j
abbrev aSZ:Int→Int→Int:=fun i j=>i-j
theorem aQ0 {i:Nat}{f:Int→Int→Int}{m:ME}{Γ:En}{a:Int}{Q:Fl→Prop}(h0:Γ[i]?=some (.val (.int a)))(h:m Γ fun d Γ1=>match d with|.int b=>Q (.nx (Γ1.set i (.val (.int (f a b)))))|_=>False):aM1 i f m Γ Q:=by
 unfold aM1;rw[h0];exact h
theorem aEE {G:Hp}(lo:Int)(n:Nat):Dts G (tR lo n) (eZ lo n):=by
 unfold tR eZ;generalize List.range n=xs
 induction xs with
 | nil=>exact .nil
 | cons x xs ih=>exact .cons (.int _) ih
def a2V (ma:ME):MO:=fun Γ Q=>ma Γ fun x Γ1=>match x with
 | .int j=>(0≤j∧j≤1000)∧Q (.own (eZ 0 j.toNat)) Γ1
 | _=>False
theorem aCD {ta:TE}{ma:ME}(ha:VT P0 ta ma):VO P0 (tCB a96 (fB (tCB aMW (fB ta xM)) xM)) (a2V ma):=by
 intro F Γ σ G H Q Qm r m k;refine ha F Γ σ G H _ _ r m fun d Γ1 x G1 H1 m1 s1 r1 d1=>?_
 split at m1
 ·rename_i j
  cases d1
  obtain⟨⟨h1,h2⟩,m1⟩:=m1;refine⟨j,rfl,fun p hp=>?_⟩;have r2:=r1.newP (o:=.rng 0 j) hp;refine⟨p,0,j,rfl,bO,⟨by omega,by omega,by omega,by omega⟩,by omega,fun l hl=>?_⟩;have e:(j-0).toNat=j.toNat:=by omega
  rw[e];obtain⟨a,b,c⟩:=lA r2 hl (aEE 0 j.toNat);exact k _ _ _ _ _ m1 s1 a b c
 ·exact m1.elim
theorem aCR {ma:ME}{Γ:En}{Q:Rv→En→Prop}(h:ma Γ fun x Γ1=>match x with|.int j=>(0≤j∧j≤1000)∧Q (.own (eZ 0 j.toNat)) Γ1|_=>False):a2V ma Γ Q:=h
end
end L2.VS
namespace PySem
open Sem (wp)
namespace F
theorem zip_no_len:typeLookup (.type "zip") "__len__" = pure none:=by rw[Ep,Er]; kernel_rfl
theorem zip_no_hint:typeLookup (.type "zip") "__length_hint__" = pure none:=by rw[Ep,Er]; kernel_rfl
end F
set_option hygiene false in
local macro_rules|`(tactic| walk_at "zr")=>`(tactic| (
 simp only[Ae,if_false,List.forIn_toArray,EU,List.forIn_nil];refine AD (AD (AD (BB ?_)));show AE _ _ (Es (.ref i1) >>= _) _ _ _;refine AD (FS (h1.extBut hs₀.extBut D.i1z) (hl1.extBut hs₀.extBut D.l1z) hx fun h₂ h1₂ hs₂=>AG ?_);refine AG ?_;refine AD (AD (BB ?_));show AE _ _ (Es (.ref i2) >>= _) _ _ _;refine AD (FS ((h2.extBut hs₀.extBut D.i2z).extBut hs₂.extBut D.i12.symm) ((hl2.extBut hs₀.extBut D.l2z).extBut hs₂.extBut D.l2i1) hy fun h₄ h2₄ hs₄=>AG ?_);refine AG (AG ?_);show AE _ _ (newTuple [x,y] >>= _) _ _ _;refine AD (wpAny_newTuple (AG ⟨_,rfl,?_⟩))
 replace hs₂:Ar i1 h₀ h₂:=hs₂
 replace hs₄:Ar i2 h₂ h₄:=hs₄
 have hsz:h₄.objs.size=hp.objs.size:=by rw[hs₄.1,hs₂.1,hs₀.1]
 show Q (.ref h₄.objs.size) ⟨h₄.push { cls:=.type "tuple", data:=.seq #[x,y] },g,d,tk,os⟩;have hz₄:m8 h₄ z TI TO (Au T) (.bool true):=hs₄.extBut _ _ D.i2z.symm (hs₂.extBut _ _ D.i1z.symm hz₀);have hT₄:Bc (h₄.push { cls:=.type "tuple", data:=.seq #[x,y] }) h₄.objs.size x y:=Aq _ rfl;rw[hsz] at hT₄ ⊢;exact hQ _ (AZ _ hz₄) ((h1₂.extBut hs₄.extBut D.i12).at fun o e=>AZ _ e) (h2₄.at fun o e=>AZ _ e) hT₄ (by rw[B6,hsz])
  fun c o c1 c2 c3 e=>AZ _ (hs₄.extBut _ _ c3 (hs₂.extBut _ _ c2 (hs₀.extBut _ _ c1 e)))))
set_option hygiene false in
local macro_rules|`(tactic| walk_at "ze")=>`(tactic| (
 simp only[Ae,if_false,List.forIn_toArray,EU,List.forIn_nil];refine AD (AD (AD (BB ?_)));show AE _ _ (Es (.ref i1) >>= _) _ _ _
 cases hx:xs[k1]? with
 | none=>
  refine AD (GF hh (h1.extBut hs₀.extBut D.i1z) (hl1.extBut hs₀.extBut D.l1z) hx fun h₂ e hs₂ he=>?_);exact hE h₂ e (fun c o c1 c2 c3 x=>hs₂ _ _ c2 (hs₀.extBut _ _ c1 x)) he
 | some x=>
  have hy:ys[k2]?=none:=by rcases hend with h|h; rw[hx] at h; cases h; exact h
  refine AD (FS (h1.extBut hs₀.extBut D.i1z) (hl1.extBut hs₀.extBut D.l1z) hx fun h₂ h1₂ hs₂=>AG ?_);refine AG ?_;refine AD (AD (BB ?_));show AE _ _ (Es (.ref i2) >>= _) _ _ _;refine AD (GF hh ((h2.extBut hs₀.extBut D.i2z).extBut hs₂.extBut D.i12.symm) ((hl2.extBut hs₀.extBut D.l2z).extBut hs₂.extBut D.l2i1) hy fun h₄ e hs₄ he=>?_);exact hE h₄ e (fun c o c1 c2 c3 x=>hs₄ _ _ c3 (hs₂.extBut _ _ c2 (hs₀.extBut _ _ c1 x))) he))
abbrev m8 (h:AF)(z TI TO:AB)(f0 f1:AA):Prop:=
 h.get? z=some { cls:=.type "zip", dict:=none,data:=.fields #[f0,f1,.bool false,.ref TI,.ref TO],slots:=#[] }
section
variable {prog:AL}{w:AI}{A:AV}{E:AA→AC→Prop}{s:AC}
theorem m9 {a:AB}{Q:Option Obj→AC→Prop}(h:Q (s.heap.get? a) s):AE (AH prog w) A (loadIfAlive a) Q E s:=by
 intro Γ p hΓ;show wp _ _ (.loadIfAlive a .pure) _ _ _ _;rw[Sem.wp_loadIfAlive];exact AG (M:=AH prog w) (A:=A) (E:=E) h Γ p hΓ
theorem a0U {z TI TO i1 i2 l1 l2 T:AB}{k1 k2:Nat}{xs ys:Array AA}{x y:AA}{b1:Bool}{oT:Obj}{Q:AA→AC→Prop}(D:DB z TI TO i1 i2 l1 l2)
  (hz:m8 s.heap z TI TO (Au T) (.bool b1)) (hT:s.heap.get? T=some oT) (hTI:Bc s.heap TI (.ref i1) (.ref i2))
  (h1:s.heap.IsListIter i1 l1 k1) (h2:s.heap.IsListIter i2 l2 k2) (hl1:s.heap.IsList l1 xs) (hl2:s.heap.IsList l2 ys) (hx:xs[k1]?=some x) (hy:ys[k2]?=some y)
  (hQ:∀ h',m8 h' z TI TO (Au T) (.bool true)→h'.IsListIter i1 l1 (k1+1)→h'.IsListIter i2 l2 (k2+1)→Bc h' s.heap.objs.size x y→h'.objs.size=s.heap.objs.size+1 →
   (∀ c o,c≠z→c≠i1→c≠i2→s.heap.get? c=some o→h'.get? c=some o)→Q (.ref s.heap.objs.size) { s with heap:=h' }) :
  AE (AH prog w) A (AM.«zip.__next__» ⟨[.ref z],[]⟩) (fun fin s'=>∃ v,fin=.done (.ret v)∧Q v s') E s:=by
 obtain⟨hp,g,d,tk,os⟩:=s;show AE _ _ (field (.ref z) 2 >>= _) _ _ _;refine AD (Cp hz rfl (x:=.bool false) rfl ?_);show AE _ _ (field (.ref z) 3 >>= _) _ _ _;refine AD (Cp hz rfl (x:=.ref TI) rfl ?_);refine AD (Cb hTI rfl ?_);show AE _ _ (Et (.ref z) >>= _) _ _ _;refine AD ?_;unfold Et;refine AD (Cp hz rfl (x:=Au T) rfl ?_);simp only[Au];refine AD (m9 ?_);simp only[B7,hT,E7,Ae,if_false];refine AD (Cp hz rfl (x:=.bool b1) rfl ?_)
 cases b1
 ·rw[if_pos (by decide)];refine AD (wpAny_setField_rec hz (by simp) fun h₀ hz₀ hs₀=>AG ?_)
  replace hz₀:m8 h₀ z TI TO (Au T) (.bool true):=hz₀
  replace hs₀:Ar z hp h₀:=hs₀
  walk_at "zr"
 ·rw[if_neg (by decide)];refine AG ?_;obtain⟨h₀,e₀⟩:∃ h₀,h₀=hp:=⟨_,rfl⟩;have hz₀:m8 h₀ z TI TO (Au T) (.bool true):=by rw[e₀]; exact hz
  have hs₀:Ar z hp h₀:=by rw[e₀]; exact⟨rfl,fun _ _=>rfl⟩
  show AE _ _ _ _ _ ⟨hp,g,d,tk,os⟩;rw[show(⟨hp,g,d,tk,os⟩:AC)=⟨h₀,g,d,tk,os⟩ by rw[e₀]];walk_at "zr"
theorem a3W {z TI TO i1 i2 l1 l2 T:AB}{k1 k2:Nat}{xs ys:Array AA}{b1:Bool}{oT:Obj}{Q:Fin→AC→Prop}(hh:A.handled=none)(D:DB z TI TO i1 i2 l1 l2)
  (hz:m8 s.heap z TI TO (Au T) (.bool b1)) (hT:s.heap.get? T=some oT) (hTI:Bc s.heap TI (.ref i1) (.ref i2))
  (h1:s.heap.IsListIter i1 l1 k1) (h2:s.heap.IsListIter i2 l2 k2) (hl1:s.heap.IsList l1 xs) (hl2:s.heap.IsList l2 ys) (hend:xs[k1]?=none∨ys[k2]?=none)
  (hE:∀ h' e,(∀ c o,c≠z→c≠i1→c≠i2→s.heap.get? c=some o→h'.get? c=some o)→(∃ o,h'.get? e=some o∧o.cls=.type "StopIteration")→E (.ref e) { s with heap:=h' }) :
  AE (AH prog w) A (AM.«zip.__next__» ⟨[.ref z],[]⟩) Q E s:=by
 obtain⟨hp,g,d,tk,os⟩:=s;show AE _ _ (field (.ref z) 2 >>= _) _ _ _;refine AD (Cp hz rfl (x:=.bool false) rfl ?_);show AE _ _ (field (.ref z) 3 >>= _) _ _ _;refine AD (Cp hz rfl (x:=.ref TI) rfl ?_);refine AD (Cb hTI rfl ?_);show AE _ _ (Et (.ref z) >>= _) _ _ _;refine AD ?_;unfold Et;refine AD (Cp hz rfl (x:=Au T) rfl ?_);simp only[Au];refine AD (m9 ?_);simp only[B7,hT,E7,Ae,if_false];refine AD (Cp hz rfl (x:=.bool b1) rfl ?_)
 cases b1
 ·rw[if_pos (by decide)];refine AD (wpAny_setField_rec hz (by simp) fun h₀ hz₀ hs₀=>AG ?_)
  replace hz₀:m8 h₀ z TI TO (Au T) (.bool true):=hz₀
  replace hs₀:Ar z hp h₀:=hs₀
  walk_at "ze"
 ·rw[if_neg (by decide)];refine AG ?_;obtain⟨h₀,e₀⟩:∃ h₀,h₀=hp:=⟨_,rfl⟩;have hz₀:m8 h₀ z TI TO (Au T) (.bool true):=by rw[e₀]; exact hz
  have hs₀:Ar z hp h₀:=by rw[e₀]; exact⟨rfl,fun _ _=>rfl⟩
  show AE _ _ _ _ _ ⟨hp,g,d,tk,os⟩;rw[show(⟨hp,g,d,tk,os⟩:AC)=⟨h₀,g,d,tk,os⟩ by rw[e₀]];walk_at "ze"
theorem wO {z TI TO i1 i2 l1 l2 T:AB}{k1 k2:Nat}{xs ys:Array AA}{x y:AA}{b1:Bool}{oT:Obj}{Q:Option AA→AC→Prop}(D:DB z TI TO i1 i2 l1 l2)
  (hz:m8 s.heap z TI TO (Au T) (.bool b1)) (hT:s.heap.get? T=some oT) (hTI:Bc s.heap TI (.ref i1) (.ref i2))
  (h1:s.heap.IsListIter i1 l1 k1) (h2:s.heap.IsListIter i2 l2 k2) (hl1:s.heap.IsList l1 xs) (hl2:s.heap.IsList l2 ys) (hx:xs[k1]?=some x) (hy:ys[k2]?=some y)
  (hQ:∀ h',m8 h' z TI TO (Au T) (.bool true)→h'.IsListIter i1 l1 (k1+1)→h'.IsListIter i2 l2 (k2+1)→Bc h' s.heap.objs.size x y→h'.objs.size=s.heap.objs.size+1 →
   (∀ c o,c≠z→c≠i1→c≠i2→s.heap.get? c=some o→h'.get? c=some o)→Q (some (.ref s.heap.objs.size)) { s with heap:=h' }) :
  AE (AH prog w) A (BJ (.ref z)) Q E s:=by
 have hT':s.TypeIs (.ref z) "zip" := ⟨_,hz,rfl⟩;unfold BJ;exact AD (Dl (Dm (name:=DC "__next__") hT' F.slot_zip_next
  (Bm F.slot_zip_next hT' F.entry_zip_next
   (a0U D hz hT hTI h1 h2 hl1 hl2 hx hy fun h' a1 a3 a4 a5 a6 a7=>AG (hQ h' a1 a3 a4 a5 a6 a7)) (F.args_zip_next_1 _))))
theorem zJ {z TI TO i1 i2 l1 l2 T:AB}{k1 k2:Nat}{xs ys:Array AA}{b1:Bool}{oT:Obj}{Q:Option AA→AC→Prop}(hh:A.handled=none)(D:DB z TI TO i1 i2 l1 l2)
  (hz:m8 s.heap z TI TO (Au T) (.bool b1)) (hT:s.heap.get? T=some oT) (hTI:Bc s.heap TI (.ref i1) (.ref i2))
  (h1:s.heap.IsListIter i1 l1 k1) (h2:s.heap.IsListIter i2 l2 k2) (hl1:s.heap.IsList l1 xs) (hl2:s.heap.IsList l2 ys) (hend:xs[k1]?=none∨ys[k2]?=none)
  (hQ:∀ h',(∀ c o,c≠z→c≠i1→c≠i2→s.heap.get? c=some o→h'.get? c=some o)→Q none { s with heap:=h' }):AE (AH prog w) A (BJ (.ref z)) Q E s:=by
 have hT':s.TypeIs (.ref z) "zip" := ⟨_,hz,rfl⟩;unfold BJ;refine AD (Dl (Dm (name:=DC "__next__") hT' F.slot_zip_next
  (Bm F.slot_zip_next hT' F.entry_zip_next (a3W hh D hz hT hTI h1 h2 hl1 hl2 hend fun h' e hk he=>?_) (F.args_zip_next_1 _))))
 obtain⟨o,ho,hc⟩:=he;refine AD (DD (T := "StopIteration") (b:=true) ⟨o,ho,hc⟩ FT ?_);exact AG (hQ _ hk)
end
end PySem
namespace PySem
open Sem (wp)
structure ZAt (N z TI TO i1 i2 l1 l2:AB)(xs ys:Array AA)(i:Nat)(h:AF):Prop where
 tI:Bc h TI (.ref i1) (.ref i2)
 it1:h.IsListIter i1 l1 i
 it2:h.IsListIter i2 l2 i
 li1:h.IsList l1 xs
 li2:h.IsList l2 ys
 zz:(i=0∧IsZip h z TI TO .none∧∃ a b,Bc h TO a b)∨∃ T b1 oT,m8 h z TI TO (Au (T:AB)) (.bool b1)∧h.get? T=some oT∧N≤T
def AccZ (N:Nat)(xs ys:Array AA)(i:Nat)(h:AF)(acc:Array AA):Prop:=
 acc.size=i∧∀(j:Nat) v,acc[j]?=some v→∃(T:AB) (x y:AA),v=.ref T∧N≤T∧xs[j]?=some x∧ys[j]?=some y∧Bc h T x y
theorem AccZ.up {N:Nat}{xs ys:Array AA}{i:Nat}{h h':AF}{acc:Array AA}(a:AccZ N xs ys i h acc)(k:∀ b o,N≤b→h.get? b=some o→h'.get? b=some o):AccZ N xs ys i h' acc:=
 ⟨a.1,fun j v e=>let ⟨T,x,y,e1,e2,e3,e4,e5⟩:=a.2 j v e; ⟨T,x,y,e1,e2,e3,e4,k _ _ e2 e5⟩⟩
theorem AccZ.push {N:Nat}{xs ys:Array AA}{i:Nat}{h:AF}{acc:Array AA}{T:AB}{x y:AA}(a:AccZ N xs ys i h acc)(hT:N≤T)(hx:xs[i]?=some x)(hy:ys[i]?=some y)(hp:Bc h T x y):AccZ N xs ys (i+1) h (acc.push (.ref T)):=by
 refine⟨by rw[FU,a.1],fun j v hj=>?_⟩;rw[Array.getElem?_push] at hj
 split at hj
 ·rename_i e; rw[a.1] at e; cases hj; rw[e]; exact⟨T,x,y,rfl,hT,hx,hy,hp⟩
 ·exact a.2 j v hj
theorem agt {N b c:Nat}(h1:c<N)(h2:N≤b):b≠c:=A5 (Al h1 h2)
section
variable {prog:AL}{w:AI}{A:AV}{R:Cn→AC→Prop}
theorem tX (hh:A.handled=none){N z TI TO i1 i2 l1 l2 S:AB}{xs ys:Array AA}(D:DB z TI TO i1 i2 l1 l2)(n1:z<N)(n2:TI<N)(n3:TO<N)(n4:i1<N)(n5:i2<N)(n6:l1<N)(n7:l2<N)(n8:S<N)
  (s1:S≠z) (s2:S≠TI) (s3:S≠TO) (s4:S≠i1) (s5:S≠i2) (s6:S≠l1) (s7:S≠l2) (res:AA) (hn:min xs.size ys.size≤sizeLine) :
  ∀(k i:Nat) (s:AC) (acc:Array AA) (c:Nat),min xs.size ys.size-i=k→i≤min xs.size ys.size→N≤s.heap.objs.size→ZAt N z TI TO i1 i2 l1 l2 xs ys i s.heap →
  s.heap.get? S=some { cls:=.type "list", dict:=none,data:=.seq acc c,slots:=#[] }→AccZ N xs ys i s.heap acc →
  (∀ h' acc' c',(∀ b o,b<N→b∉[S,z,TO,i1,i2]→s.heap.get? b=some o→h'.get? b=some o)→h'.get? S=some { cls:=.type "list", dict:=none,data:=.seq acc' c',slots:=#[] } →
   AccZ N xs ys (min xs.size ys.size) h' acc'→R (.ok (.ret res)) { s with heap:=h' }) →
  Bk (AH prog w) A (.builtin "list.extend.loop" ⟨[.ref S,.ref z,res],[]⟩) R s:=by
 intro k
 induction k with
 | zero=>
  intro i s acc c hk hi hsz Z hS hacc hR;have hin:i=min xs.size ys.size:=by omega
  subst hin;have hend:xs[min xs.size ys.size]?=none∨ys[min xs.size ys.size]?=none:=by
   rcases Nat.le_total xs.size ys.size with h|h
   ·exact .inl (by rw[Nat.min_eq_left h]; exact CU (AN _))
   ·exact .inr (by rw[Nat.min_eq_right h]; exact CU (AN _))
  refine Cq F.entry_extend_loop ?_;rw[DE F.plain_extend_loop _];show AE _ A.in1 (BJ (.ref z) >>= _) _ _ s;refine AD ?_;rcases Z.zz with⟨e0,hz,a,b,hTO⟩|⟨T,b1,oT,hz,hT,hNT⟩
  ·refine wpAny_pyNext_zip_end (A:=A.in1) hh D hz Z.tI hTO Z.it1 Z.it2 Z.li1 Z.li2 hend fun h' kp=>AG (hR h' acc c (fun b o hb hm e=>?_) (kp _ _ s1 s3 s4 s5 hS) (hacc.up fun b o hb e=>?_))
   ·exact kp b o (fun z=>hm (by simp[z])) (fun z=>hm (by simp[z])) (fun z=>hm (by simp[z])) (fun z=>hm (by simp[z])) e
   ·exact kp b o (agt n1 hb) (agt n3 hb) (agt n4 hb) (agt n5 hb) e
  ·refine zJ (A:=A.in1) hh D hz hT Z.tI Z.it1 Z.it2 Z.li1 Z.li2 hend fun h' kp=>AG (hR h' acc c (fun b o hb hm e=>?_) (kp _ _ s1 s4 s5 hS) (hacc.up fun b o hb e=>?_))
   ·exact kp b o (fun z=>hm (by simp[z])) (fun z=>hm (by simp[z])) (fun z=>hm (by simp[z])) e
   ·exact kp b o (agt n1 hb) (agt n4 hb) (agt n5 hb) e
 | succ k ih=>
  intro i s acc c hk hi hsz Z hS hacc hR;have hlt:i<min xs.size ys.size:=by omega
  have hix:i<xs.size:=Al hlt (Ci ..);have hiy:i<ys.size:=Al hlt (Nat.min_le_right ..);have ex:=A1 hix;have ey:=A1 hiy;refine Cq F.entry_extend_loop ?_;rw[DE F.plain_extend_loop _];show AE _ A.in1 (BJ (.ref z) >>= _) _ _ s;refine AD ?_;have next:∀(h':AF) (T:AB) (b1:Bool) (oT:Obj),m8 h' z TI TO (Au T) (.bool b1)→h'.get? T=some oT→N≤T→h'.IsListIter i1 l1 (i+1)→h'.IsListIter i2 l2 (i+1)→Bc h' s.heap.objs.size xs[i] ys[i]→h'.objs.size=s.heap.objs.size+1 →
    (∀ c o,c≠z→c≠TO→c≠i1→c≠i2→s.heap.get? c=some o→h'.get? c=some o) →
    AE (AH prog w) A.in1 (Cc S (·.push (.ref s.heap.objs.size)) >>= fun _=>again (.builtin "list.extend.loop" ⟨[.ref S,.ref z,res],[]⟩)) (fun fin s'=>match fin with|.done f=>R (.ok f) s'|.again c'=>c'.quiet=true∧Bk (AH prog w) A c' R s') (fun e s'=>R (.error e) s') { s with heap:=h' }:=by
   intro h' T b1 oT hz hT hNT it1 it2 hp hsz' kp;have hS':=kp _ _ s1 s3 s4 s5 hS;refine AD ?_;have oth:∀ b o,b≠S→h'.get? b=some o→(h'.update S (Aj (·.push (.ref s.heap.objs.size)))).get? b=some o:=fun b o hb e=>(Bj _ _ (Ne.symm hb)).trans e;refine Cd hS' rfl (AG ⟨Cr F.plain_extend_loop _,ih (i+1) _ (acc.push (.ref s.heap.objs.size)) _ (by omega) hlt ?_ ⟨?_,?_,?_,?_,?_,?_⟩ (BV _ hS' rfl) ?_ fun h'' acc' c' kp2 hS2 hacc2=>?_⟩)
    (by rw[hacc.1]; omega) (by show(acc.push _).size≤sizeLine+1; rw[FU,hacc.1]; omega)
   ·show N≤(h'.update S _).objs.size;rw[DZ,hsz']; exact Nat.le_succ_of_le hsz
   ·exact oth _ _ (Ne.symm s2) (kp _ _ D.TIz D.TITO D.TIi1 D.TIi2 Z.tI)
   ·exact it1.at fun o e=>oth _ o (Ne.symm s4) e
   ·exact it2.at fun o e=>oth _ o (Ne.symm s5) e
   ·exact Z.li1.at fun o e=>oth _ o (Ne.symm s6) (kp _ o D.l1z D.l1TO D.l1i1 D.l1i2 e)
   ·exact Z.li2.at fun o e=>oth _ o (Ne.symm s7) (kp _ o D.l2z D.l2TO D.l2i1 D.l2i2 e)
   ·exact .inr ⟨T,b1,oT,oth _ _ (Ne.symm s1) hz,oth _ _ (agt n8 hNT) hT,hNT⟩
   ·exact AccZ.push (hacc.up fun b o hb e=>oth _ _ (agt n8 hb) (kp _ _ (agt n1 hb) (agt n3 hb) (agt n4 hb) (agt n5 hb) e)) hsz ex ey (oth _ _ (agt n8 hsz) hp)
   ·refine hR h'' acc' c' (fun b o hb hm e=>kp2 b o hb hm (oth b o (fun z=>hm (by simp[z])) ?_)) hS2 hacc2;exact kp b o (fun z=>hm (by simp[z])) (fun z=>hm (by simp[z])) (fun z=>hm (by simp[z])) (fun z=>hm (by simp[z])) e
  rcases Z.zz with⟨e0,hz,a,b,hTO⟩|⟨T,b1,oT,hz,hT,hNT⟩
  ·refine wpAny_pyNext_zip_item (A:=A.in1) D hz Z.tI hTO Z.it1 Z.it2 Z.li1 Z.li2 ex ey fun h' a1 a2 a3 a4 a5 a6 kp=>?_;exact next h' s.heap.objs.size false _ a1 a5 hsz a3 a4 a5 a6 kp
  ·refine wO (A:=A.in1) D hz hT Z.tI Z.it1 Z.it2 Z.li1 Z.li2 ex ey fun h' a1 a3 a4 a5 a6 kp=>?_;exact next h' T true oT a1 (kp _ _ (agt n1 hNT) (agt n4 hNT) (agt n5 hNT) hT) hNT a3 a4 a5 a6 fun c o c1 _ c3 c4 e=>kp c o c1 c3 c4 e
end
section
variable {prog:AL}{w:AI}{A:AV}{E:AA→AC→Prop}{s:AC}
theorem a3B {Q:AA→AC→Prop}{z TI TO i1 i2 l1 l2:AB}{xs ys:Array AA}{a b:AA}(hh:A.handled=none)(D:DB z TI TO i1 i2 l1 l2)
  (hz:IsZip s.heap z TI TO .none) (hTI:Bc s.heap TI (.ref i1) (.ref i2)) (hTO:Bc s.heap TO a b) (h1:s.heap.IsListIter i1 l1 0) (h2:s.heap.IsListIter i2 l2 0) (hl1:s.heap.IsList l1 xs) (hl2:s.heap.IsList l2 ys) (hn:min xs.size ys.size≤sizeLine)
  (hQ:∀ h' acc' c',(∀ b o,b∉[z,TO,i1,i2]→s.heap.get? b=some o→h'.get? b=some o)→h'.get? s.heap.objs.size=some { cls:=.type "list", dict:=none,data:=.seq acc' c',slots:=#[] } →
   AccZ (s.heap.objs.size+1) xs ys (min xs.size ys.size) h' acc'→Q (.ref s.heap.objs.size) { s with heap:=h' }) :
  AE (AH prog w) A (call (.type "list") [.ref z]) Q E s:=by
 refine callType_codes (Q₁:=fun obj s₁=>obj=.ref s.heap.objs.size∧s₁={ s with heap:=s.heap.push { cls:=.type "list", data:=.seq #[] } }) F.called_list (F.typeCall_list_1 _) F.entry_list_init
  (code_list_new _ ⟨rfl,rfl⟩) fun obj s₁ h₁=>?_
 obtain⟨rfl,rfl⟩:=h₁;have hS:(s.heap.push { cls:=.type "list", data:=.seq #[] }).get? s.heap.objs.size=some { cls:=.type "list", data:=.seq #[] }:=Aq _ rfl;refine⟨⟨_,hS,rfl⟩,F.args_list_init_2 _ _,?_⟩;generalize hSe:s.heap.objs.size=S at *;have lt:∀{c o},s.heap.get? c=some o→c<S:=fun e=>by rw[← hSe]; exact AT e
 have lz:=lt hz;have lTI:=lt hTI;have lTO:=lt hTO;have li1:i1<S:=by obtain⟨_,e,_⟩:=h1; exact lt e
 have li2:i2<S:=by obtain⟨_,e,_⟩:=h2; exact lt e
 have ll1:l1<S:=by obtain⟨_,e,_⟩:=hl1; exact lt e
 have ll2:l2<S:=by obtain⟨_,e,_⟩:=hl2; exact lt e
 show AE _ _ (do let old←Eu (.ref S); GG (.ref S) (fun _=>#[]); letGo old.toList.reverse; Ce (.ref S) (.ref z) .none) _ _ _;refine AD ?_;unfold Eu;refine AD (Cb hS rfl (AG ?_));show AE _ _ (Cc S (fun _=>#[]) >>= fun _=>letGo (#[]:Array AA).toList.reverse >>= fun _=>Ce (.ref S) (.ref z) .none) _ _ _;refine AD (Cd hS rfl ?_);have hS₂:=BV (Aj (fun _=>(#[]:Array AA))) hS rfl;have up₂:∀ b o,s.heap.get? b=some o→((s.heap.push { cls:=.type "list", data:=.seq #[] }).update S (Aj (fun _=>(#[]:Array AA)))).get? b=some o:=
  fun b o e=>(Bj _ _ (A5 (lt e))).trans (AZ _ e)
 have sz₂:((s.heap.push { cls:=.type "list", data:=.seq #[] }).update S (Aj (fun _=>(#[]:Array AA)))).objs.size=S+1:=by rw[DZ,B6,hSe]
 generalize (s.heap.push { cls:=.type "list", data:=.seq #[] }).update S (Aj (fun _=>(#[]:Array AA)))=hp at *;refine AD (wpAny_letGo ?_);have hT:(({ s with heap:=hp }:AC)).TypeIs (.ref z) "zip" := ⟨_,up₂ _ _ hz,rfl⟩;unfold Ce;refine AD (DF hT ?_);have g1:Do (.ref S) (.ref z)=false:=by simp[Do]; exact A5 lz
 have g2:(BG "zip" == BG "list")=false:=by decide
 have g3:(BG "zip" == BG "tuple")=false:=by decide
 simp only[g1,g2,g3,EJ,Ae,if_false];refine AD (wpAny_pyIter_zip (up₂ _ _ hz) ?_);refine AD (BB ?_);unfold Ev;refine AD (Cf hT F.zip_no_len ?_);show AE _ _ (specialOf (Ac z) (DC "__length_hint__") >>= _) _ _ _;refine AD (Cf hT F.zip_no_hint ?_);refine AG ?_;show AE _ _ (rule "list.extend.makes-room" >>= fun _=>GH (.ref S) >>= fun _=>
  again (.builtin "list.extend.loop" ⟨[.ref S,.ref z,.none],[]⟩)) _ _ _
 refine AD (Cm ?_);refine AD ?_;show AE _ _ (Cc S (·.push .none) >>= fun _=>Cc S (·.pop)) _ _ _;refine AD (Cd hS₂ rfl ?_);have hS₃:=BV (Aj (·.push BF)) hS₂ rfl;refine Cd hS₃ rfl ?_;have hS₄:=BV (Aj (·.pop)) hS₃ rfl;have up₄:∀ b o,s.heap.get? b=some o→((hp.update S (Aj (·.push BF))).update S (Aj (·.pop))).get? b=some o:=
  fun b o e=>(Bj _ _ (A5 (lt e))).trans ((Bj _ _ (A5 (lt e))).trans (up₂ b o e))
 have sz₄:((hp.update S (Aj (·.push BF))).update S (Aj (·.pop))).objs.size=S+1:=by rw[DZ,DZ,sz₂]
 refine AG ⟨Cr F.plain_extend_loop _,tX (A:=A.in1) hh (N:=S+1) (S:=S) (xs:=xs) (ys:=ys) D (Ba lz) (Ba lTI) (Ba lTO) (Ba li1) (Ba li2) (Ba ll1) (Ba ll2) (D1 _) (A5 lz) (A5 lTI) (A5 lTO) (A5 li1) (A5 li2) (A5 ll1) (A5 ll2) .none hn _ 0 _ _ _ rfl (A8 _) (by show S+1≤_; rw[sz₄]; exact AN _) ⟨up₄ _ _ hTI,h1.at fun o e=>up₄ _ o e,h2.at fun o e=>up₄ _ o e,hl1.at fun o e=>up₄ _ o e,hl2.at fun o e=>up₄ _ o e,.inl ⟨rfl,up₄ _ _ hz,_,_,up₄ _ _ hTO⟩⟩ hS₄ ⟨rfl,fun j v e=>by simp at e⟩ fun h' acc' c' kp e1 e2=>?_⟩;exact⟨rfl,hQ h' acc' c' (fun b o hm e=>kp b o (Ba (lt e)) (fun h=>by
  rcases AK.mp h with z|z
  ·exact absurd (lt e) (by rw[z]; exact BI _)
  ·exact hm z) (up₄ b o e)) e1 e2⟩
end
end PySem
namespace L2
open PySem PySem.Spec PyProof.Rows
theorem a99:∀{v v':V} {u:AA},RelV v u→RelV v' u→v=v':=by
 intro v v' u h h';have go:∀{v:V} {u:AA},RelV v u→v=(match u with|.none=>V.non|.bool b=>.bl b|.int i _=>.int i|.str x _=>.str x|.bytes b _=>.byt b|.float b _=>.flt b|.ref a=>.ref a|.type n=>.ty n|_=>.non):=by
  intro v u h
  cases v<;>first
   | (cases h; rfl)
   | (obtain⟨t,rfl⟩:=h; rfl)
 rw[go h,←go h']
section
variable {X:Cx}{pins:List (AB×Obj)}{σ:List (Option V)}{H:Hp}{s:AC}
theorem Inv.laidN {H2:Hp}{h':AF}{t':Nat}(I:Inv X pins σ H s)(k:∀ b u,s.heap.get? b=some u→h'.get? b=some u)(lo:∀ b,b<s.heap.objs.size→H2 b=H b)
  (new:∀ b o,s.heap.objs.size≤b→H2 b=some o→ObjOk X.prog X.w H2 h' b o):Inv X pins σ H2 { s with heap:=h',toks:=t' }:=by
 refine I.un ⟨fun b u q _ _ _=>k b u q,fun b u q _ _ _=>⟨u.slots,k b u q⟩,fun b u q n _=>(lo b (AT q)).trans n,fun b u q _=>⟨u,k b u q⟩,fun b xs q=>(lo b (I.hok.lt q)).trans q,fun b u xs q=>(lo b (I.hok.lt q)).trans q,fun b ps q=>⟨#[],by rw[lo b (I.hok.lt q),q]; simp⟩⟩ fun b o e=>?_
 by_cases hb:b<s.heap.objs.size
 ·rw[lo b hb] at e;exact(I.hok b o e).stay (fun c v _ q=>k c v q) (fun c q=>(lo c (I.hok.lt q)).trans q) fun c xs q=>(lo c (I.hok.lt q)).trans q
 ·exact new b o (FI hb) e
def tLZ (K:Fg)(ta:TA):TE:=fun σ H Q=>ta σ H fun vs H1=>∃ p q xs ys,vs=[.ref p,.ref q]∧SqL K H1 p xs∧SqL K H1 q ys ∧
 ∀(l:AB) (H2:Hp) (us:List V),H1 l=none→Same H1 H2→H2 l=some (.lst us)→AX (fun(v:V) (z:V×V)=>∃ T,v=.ref T∧H1 T=none∧T≠l∧H2 T=some (.tup [z.1,z.2])) us (xs.zip ys)→Q (.ref l) H2
theorem a75 {α β:Type}{P:α→β→Prop}:∀{xs:List α} {us:List β},xs.length=us.length→(∀(i:Nat) x u,xs[i]?=some x→us[i]?=some u→P x u)→AX P xs us
 | [],[],_,_=>.nil
 | x::xs,u::us,hl,h=>.cons (h 0 x u rfl rfl) (a75 (by simpa using hl) fun i y w e1 e2=>h (i+1) y w (by simpa using e1) (by simpa using e2))
theorem Vals.at {xs:List V}{us:List AA}(h:Vals xs us){i:Nat}{u:AA}(e:us[i]?=some u):∃ x,xs[i]?=some x∧RelV x u:=by
 induction h generalizing i with
 | nil=>simp at e
 | @cons x w xs us hx _ ih=>
  cases i with
  | zero=>simp at e; subst e; exact⟨x,rfl,hx⟩
  | succ i=>simpa using ih (by simpa using e)
open Classical in
theorem a8W {h0 h':AF}{N:Nat}{xs ys:List V}{ix iy:List AA}{acc:Array AA}{c':Nat}{Q:VK}{l:AB}(I:Inv X pins σ H s)(kp:∀ b u,s.heap.get? b=some u→h'.get? b=some u)(rx:Vals xs ix)(ry:Vals ys iy)(hl:s.heap.objs.size≤l)
  (e1:h'.get? l=some { cls:=.type "list", dict:=none,data:=.seq acc c',slots:=#[] }) (e2:AccZ (l+1) ix.toArray iy.toArray (min ix.toArray.size iy.toArray.size) h' acc) (hz:xs.length≤sizeLine)
  (k:∀(l:AB) (H2:Hp) (us:List V),H l=none→Same H H2→H2 l=some (.lst us)→AX (fun(v:V) (z:V×V)=>∃ T,v=.ref T∧H T=none∧T≠l∧H2 T=some (.tup [z.1,z.2])) us (xs.zip ys)→Q (.ref l) H2) :
  EP X pins σ Q (.ref l) { s with heap:=h' }:=by
 obtain⟨hs,ha⟩:=e2
 let Pr:AB→V×V→Prop:=fun b z=>∃ ux uy,l+1≤b∧Bc h' b ux uy∧RelV z.1 ux∧RelV z.2 uy∧∃ j:Nat,acc[j]?=some (Ac b)
 have prU:∀ b z z',Pr b z→Pr b z'→z=z':=by
  rintro b ⟨z1,z2⟩ ⟨z3,z4⟩ ⟨ux,uy,_,p1,p2,p3,_⟩ ⟨vx,vy,_,q1,q2,q3,_⟩;have e:=p1.symm.trans q1;simp only[Az.injEq,Obj.mk.injEq,Data.seq.injEq,Array.mk.injEq,List.cons.injEq,and_true,true_and] at e;obtain⟨rfl,rfl⟩:=e;have e1:z1=z3:=a99 p2 q2;have e2:z2=z4:=a99 p3 q3;rw[e1,e2]
 let us:List V:=(acc.toList).map fun u=>match u with|.ref T=>V.ref T|_=>V.non
 let H2:Hp:=fun b=>if b=l then some (.lst us) else if hb:∃ z,Pr b z then some (.tup [(choose hb).1,(choose hb).2]) else H b
 have h2P:∀ b z,b≠l→Pr b z→H2 b=some (.tup [z.1,z.2]):=fun b z hb hz=>by
  have hx:∃ z,Pr b z:=⟨z,hz⟩
  show(if b=l then _ else if hb:∃ z,Pr b z then _ else _)=_
  rw[if_neg hb,dif_pos hx,prU b _ z (choose_spec hx) hz]
 have h2l:H2 l=some (.lst us):=by show(if l=l then _ else _)=_; rw[if_pos rfl]
 have lo:∀ b,b<s.heap.objs.size→H2 b=H b:=fun b hb=>by
  have n1:b≠l:=Ag (Al hb hl);have n2:¬∃ z,Pr b z:=fun⟨z,ux,uy,hN,_⟩=>absurd (Al hb (Aw hl (Nat.le_of_succ_le hN))) (BI _)
  show(if b=l then _ else if hb:∃ z,Pr b z then _ else _)=_
  rw[if_neg n1,dif_neg n2]
 have hxl:=rx.length;have hyl:=ry.length;have hmin:min ix.toArray.size iy.toArray.size≤xs.length:=by rw[hxl]; simpa using Ci _ _
 have vus:Vals us acc.toList:=by
  refine a2I (by simp[us]) fun i x u e3 e4=>?_;obtain⟨T,ux,uy,e5,_⟩:=ha i u (by simpa using e4);have e6:us[i]?=some (V.ref T):=by
   simp only[us];rw[Aa,e4,e5]; rfl
  rw[e6] at e3; cases e3;rw[e5]; exact rfl
 refine⟨.ref l,H2,I.laidN (t':=s.toks) kp lo fun b o hb eb=>?_,rfl,k l H2 us (I.hok.fresh hl) (fun b o e=>(lo b (I.hok.lt e)).trans e) h2l ?_⟩
 ·have eb:(if b=l then some (HO.lst us) else if hb:∃ z,Pr b z then some (HO.tup [(choose hb).1,(choose hb).2]) else H b)=some o:=eb
  by_cases n1:b=l
  ·rw[if_pos n1] at eb
   cases eb
   subst n1;refine⟨?_,acc.toList,c',vus,by simpa using e1⟩;rw[vus.length,Af,hs];exact Aw hmin hz
  ·rw[if_neg n1] at eb
   split at eb
   ·rename_i hx
    cases eb
    obtain⟨ux,uy,_,p1,p2,p3,_⟩:=choose_spec hx;exact⟨eU (by show 2≤1000; decide),[ux,uy],.cons p2 (.cons p3 .nil),⟨_,p1,rfl,_,rfl⟩⟩
   ·rw[I.hok.fresh hb] at eb; cases eb
 ·have hlen:us.length=(xs.zip ys).length:=by
   rw[vus.length,Af,hs,List.length_zip,hxl,hyl]; simp
  refine a75 hlen fun i v z e3 e4=>?_;have hi:i<acc.size:=by
   have:=(List.getElem?_eq_some_iff.mp e3).1;rw[vus.length,Af] at this;exact this
  have e5:acc[i]?=some acc[i]:=A1 hi;obtain⟨T,ux,uy,e6,hT,g1,g2,g3⟩:=ha i _ e5;have e7:us[i]?=some (V.ref T):=by
   simp only[us];rw[Aa,BX,e5,e6]; rfl
  rw[e7] at e3; cases e3;obtain⟨x,ex,rx'⟩:=Vals.at rx (i:=i) (u:=ux) (by simpa using g1);obtain⟨y,ey,ry'⟩:=Vals.at ry (i:=i) (u:=uy) (by simpa using g2);have ez:z=(x,y):=by
   rw[List.getElem?_zip_eq_some] at e4;obtain⟨f1,f2⟩:=e4;rw[ex] at f1; rw[ey] at f2
   cases f1; cases f2; rfl
  subst ez;have hTl:T≠l:=A5 hT;exact⟨T,rfl,I.hok.fresh (Aw hl (Nat.le_of_succ_le hT)),hTl,h2P T (x,y) hTl ⟨ux,uy,hT,g3,rx',ry',i,by rw[e5,e6]⟩⟩
theorem aBF {a b:AR}{ta:TA}{p p2 pos pos2:Pos}(hc:X.calm=true)(hg1:Gl X "list")(hm1:X.mg "list" = none)(hg2:Gl X "zip")(hm2:X.mg "zip" = none)(ha:PA X [a,b] ta)
  (he:Am [.Call (.Name "zip" p2) [a,b] [] pos2] X.env=[(false,Ah (.Call (.Name "zip" p2) [a,b] [] pos2) X.env)]:=by rfl)
  (he2:Am [a,b] X.env=(false,Ah a X.env)::Am [b] X.env:=by rfl) (hpl2:(Bq pos2 (Am [b] X.env)).any (·.1)=false:=by rfl) :
  PE X (.Call (.Name "list" p) [.Call (.Name "zip" p2) [a,b] [] pos2] [] pos) (tLZ X.K ta):=by
 intro pins s σ H Q I h;refine EG (z6 I hg1 hm1 boot_list ?_ (by decide) (by decide));refine EE (rest:=[]) ?_ he rfl;rw[he];refine Calls.spliced_cons ?_;refine EG (z6 I hg2 hm2 boot_zip ?_ (by decide) (by decide));refine EE (thn (ha pos2 pins s σ H _ I h) fun us s1 ⟨vs,H1,I1,r1,p,q,xs,ys,e,hp,hq,k⟩=>?_) he2 hpl2;subst e
 cases r1 with
 | cons ra rb=>
  cases rb with
  | cons rb rc=>
   cases rc
   cases ra
   cases rb
   obtain⟨ix,rx,px,zx⟩:=I1.list hp;obtain⟨iy,ry,py,zy⟩:=I1.list hq;refine call_zip_2 px.isList py.isList fun h' hz hTI hTO i1 i2 sz kp=>?_;refine Calls.spliced_nil ?_;have lp:p<s1.heap.objs.size:=by obtain⟨o,e,_⟩:=px.isList; exact AT e
   have lq:q<s1.heap.objs.size:=by obtain⟨o,e,_⟩:=py.isList; exact AT e
   have ap:∀{b:AB} (n:Nat),b<s1.heap.objs.size→b≠s1.heap.objs.size+n:=fun n hb=>Ag (Al hb (FV _ _));have ne:∀(m n:Nat),m≠n→s1.heap.objs.size+m≠s1.heap.objs.size+n:=fun m n h e=>h (Nat.add_left_cancel e);have D:DB (s1.heap.objs.size+4) (s1.heap.objs.size+2) (s1.heap.objs.size+3) (s1.heap.objs.size+0) (s1.heap.objs.size+1) p q:=
    ⟨ne _ _ (by decide),ne _ _ (by decide),ne _ _ (by decide),ne _ _ (by decide),ne _ _ (by decide),ne _ _ (by decide),ne _ _ (by decide),ne _ _ (by decide),ne _ _ (by decide),ne _ _ (by decide),ap _ lp,ap _ lp,ap _ lp,ap _ lp,ap _ lq,ap _ lq,ap _ lq,ap _ lq⟩
   have hmn:min ix.toArray.size iy.toArray.size≤sizeLine:=Aw (Ci _ _) (by rw[Ak,←rx.length]; exact zx);refine a3B (I.ok.hd hc) D hz hTI hTO i1 i2 (px.isList.at fun o e=>kp _ o e) (py.isList.at fun o e=>kp _ o e) hmn fun h'' acc c kp2 e1 e2=>?_;have hsz:s1.heap.objs.size≤h'.objs.size:=by rw[sz]; exact FV _ _
   have kp3:∀ b u,s1.heap.get? b=some u→h''.get? b=some u:=fun b u e=>kp2 b u (fun hm=>by
    have lb:=AT e;simp only[AK,B5,or_false] at hm;rcases hm with z|z|z|z
    ·exact ap _ lb z
    ·exact ap _ lb z
    ·exact ap 0 lb z
    ·exact ap _ lb z) (kp b u e)
   show EP X pins σ Q _ { s1 with heap:=h'' };exact a8W (s:=s1) (h0:=h') (N:=0) I1 kp3 rx ry hsz e1 e2 zx k
end
end L2
namespace L2.VS
open PySem PySem.Spec PyProof.Rows
section
variable {P0:AB→Hp→Prop}{K:Fg}
def aM8 (ds es:List D):List D:=(ds.zip es).map fun p=>.tuple [p.1,p.2]
def a3E (ma mb:ME):MO:=fun Γ Q=>ma Γ fun x Γ1=>mb Γ1 fun y Γ2=>match x,y with
 | .list ds,.list es=>Q (.own (aM8 ds es)) Γ2
 | _,_=>False
theorem _root_.L2.Dts.zip {G:Hp}:∀{xs ys:List V} {ds es:List D},Dts G xs ds→Dts G ys es→AX (fun(z:V×V) (e:D×D)=>Dt G z.1 e.1∧Dt G z.2 e.2) (xs.zip ys) (ds.zip es):=by
 intro xs ys ds es h g
 induction ds generalizing xs ys es with
 | nil=>cases h; exact .nil
 | cons x ds ih=>
  cases h with
  | cons a b=>
   cases es with
   | nil=>cases g; exact .nil
   | cons y es=>cases g with|cons c d=>exact .cons ⟨a,c⟩ (ih b d)
open Classical in
theorem aBS {ta tb:TE}{ma mb:ME}(ha:VT P0 ta ma)(hb:VT P0 tb mb):VO P0 (tLZ K (fB ta (fB tb xM))) (a3E ma mb):=by
 intro F Γ σ G H Q Qm r m k;refine ha F Γ σ G H _ _ r m fun d Γ1 x G1 H1 m1 s1 r1 d1=>?_;refine hb F Γ1 σ G1 H1 _ _ r1 m1 fun e Γ2 y G2 H2 m2 s2 r2 d2=>?_;have d1:=Dt.same s2 _ _ d1
 split at m2
 ·rename_i ds0 es0 _
  cases d1 with
  | @lst p xs _ hp rs=>
   cases d2 with
   | @lst q ys _ hq ss=>
    refine⟨p,q,xs,ys,rfl,SqL.of (r2.fr.sub _ _ hp),SqL.of (r2.fr.sub _ _ hq),fun l H3 us hl sm el pr=>?_⟩
    let G3:Hp:=fun b=>if G2 b=none then(if V.ref b∈us then H3 b else none) else G2 b
    have fresh:∀ b,V.ref b∈us→H2 b=none∧b≠l:=by
     intro b hb;have:∀{us:List V} {zs:List (V×V)},AX (fun(v:V) (z:V×V)=>∃ T,v=.ref T∧H2 T=none∧T≠l∧H3 T=some (.tup [z.1,z.2])) us zs→V.ref b∈us→H2 b=none∧b≠l:=by
      intro us zs h
      induction h with
      | nil=>intro h; cases h
      | cons h1 _ ih=>
       intro h;rcases AK.mp h with e|e
       ·obtain⟨T,e1,e2,e3,_⟩:=h1;rw[← e] at e1
        cases e1
        exact⟨e2,e3⟩
       ·exact ih e
     exact this pr hb
    have g:Same G2 G3:=fun b o e=>by
     show(if G2 b=none then _ else _)=_
     rw[if_neg (by rw[e]; intro z; cases z)];exact e
    have sub:Same G3 H3:=fun b o e=>by
     have e:(if G2 b=none then(if V.ref b∈us then H3 b else none) else G2 b)=some o:=e
     split at e
     ·split at e
      ·exact e
      ·cases e
     ·exact sm _ _ (r2.fr.sub _ _ e)
    have off:∀ b,H2 b≠none→G3 b=G2 b:=fun b hb=>by
     show(if G2 b=none then(if V.ref b∈us then H3 b else none) else G2 b)=_
     split
     ·rename_i e
      rw[if_neg fun h=>hb (fresh b h).1,e]
     ·rfl
    have f:Rf F G3 H3:=⟨sub,fun b o e=>by
      obtain⟨o',e'⟩:=r2.fr.dom e;rw[off b (by rw[e']; intro z; cases z)];exact r2.fr.g0 b o e,fun b o e hb=>sm _ _ (r2.fr.h0 b o e hb),F.stab' H2 _ (fun b u e=>by
      obtain⟨o',e'⟩:=r2.fr.dom e;rw[e'];exact sm _ _ e') r2.fr.pn⟩
    have kp:∀ b o,F.H0 b=none→G2 b=none→H2 b=some o→G3 b=none∧H3 b=some o:=fun b o _ e1 e2=>⟨by rw[off b (by rw[e2]; intro z; cases z)]; exact e1,sm _ _ e2⟩;have r3:R F Γ2 σ G3 H3:=r2.keep f g fun b o _ e0 e1 e2=>kp b o e0 e1 e2;have dus:Dts G3 us (aM8 ds0 es0):=by
     have go:∀{us':List V} {zs:List (V×V)} {es:List (D×D)},(∀ v∈us',v∈us)→AX (fun(v:V) (z:V×V)=>∃ T,v=.ref T∧H2 T=none∧T≠l∧H3 T=some (.tup [z.1,z.2])) us' zs→AX (fun(z:V×V) (e:D×D)=>Dt G2 z.1 e.1∧Dt G2 z.2 e.2) zs es→Dts G3 us' (es.map fun p=>.tuple [p.1,p.2]):=by
      intro us' zs es hin h
      induction h generalizing es with
      | nil=>intro h2; cases h2; exact .nil
      | cons h1 _ ih=>
       intro h2
       cases h2 with
       | cons h3 h4=>
        obtain⟨T,rfl,e2,e3,e4⟩:=h1;refine .cons (.tup ?_ (.cons (Dt.same g _ _ h3.1) (.cons (Dt.same g _ _ h3.2) .nil))) (ih (fun v hv=>hin v (AU _ hv)) h4)
        show(if G2 T=none then(if V.ref T∈us then H3 T else none) else G2 T)=_
        rw[if_pos (r2.fr.gfresh e2),if_pos (hin _ mem_cons_self)];exact e4
     exact go (fun _ h=>h) pr (rs.zip ss)
    have hl3:G3 l=none:=by
     show(if G2 l=none then(if V.ref l∈us then H3 l else none) else G2 l)=_
     rw[if_pos (r2.fr.gfresh hl),if_neg fun h=>(fresh l h).2 rfl]
    exact k _ _ _ _ _ m2 ((s1.trans s2).trans g) r3 ⟨l,us,rfl,r2.fr.fresh hl,hl3,el,dus⟩ (Apart.new r2 hl g kp)
 ·exact m2.elim
theorem aEO {ma mb:ME}{Γ:En}{Q:Rv→En→Prop}(h:ma Γ fun x Γ1=>mb Γ1 fun y Γ2=>match x,y with|.list ds,.list es=>Q (.own (aM8 ds es)) Γ2|_,_=>False):a3E ma mb Γ Q:=h
end
end L2.VS
namespace L2
open PySem PySem.Spec PyProof.Rows
section
variable {X:Cx}{pins:List (AB×Obj)}{σ:List (Option V)}{H:Hp}{s:AC}
end
section
variable {X:Cx}
end
end L2
namespace L2.VS
open PySem PySem.Spec PyProof.Rows
section
variable {P0:AB→Hp→Prop}{K:Fg}
end
end L2.VS
namespace L2
open PySem PySem.Spec PyProof.Rows
section
variable {X:Cx}
end
end L2
namespace L2.VS
open PySem PySem.Spec PyProof.Rows
section
variable {P0:AB→Hp→Prop}
end
end L2.VS
namespace L2
open PySem PySem.Spec PyProof.Rows
section
variable {X:Cx}
end
end L2
namespace L2.VS
open PySem PySem.Spec PyProof.Rows
section
variable {P0:AB→Hp→Prop}{K:Fg}
def a3R:List D→Option (List Int)
 | []=>some []
 | .int i::ds=>(a3R ds).map (i::·)
 | _=>none
theorem a5V {G:Hp}:∀{vs:List V} {ds:List D} {ns:List Int},Dts G vs ds→a3R ds=some ns→vs=ns.map V.int
 | _,_,_,.nil,e=>by cases e; rfl
 | _,_,ns,.cons (d:=d) (ds:=ds) a b,e=>by
  cases d with
  | int i=>
   have e':(a3R ds).map (i::·)=some ns:=e
   cases e2:a3R ds with
   | none=>rw[e2] at e'; cases e'
   | some ms=>
    rw[e2] at e'
    cases e'
    cases a
    rw[a5V b e2];rfl
  | _=>cases e
end
section
variable {P0:AB→Hp→Prop}{K:Fg}
def KT (K:Fg)(c:AB)(xs:List V):Prop:=∃(o:Obj) (its:Array AA) (n:Nat),K.lookup c=some o∧o.cls=.type "tuple" ∧ o.data=.seq its n∧its.size≤sizeLine∧Vals xs its.toList
theorem KT.sq {c:AB}{xs:List V}(h:KT K c xs)(H:Hp):SqT K H c xs:=.inr h
def aQM (c:AB)(mr:MA):MA:=fun Γ Q=>mr Γ fun xs Γ2=>Q (.con c::xs) Γ2
theorem aNH {c:AB}{tr:TA}{mr:MA}(hr:VA P0 tr mr):VA P0 (fB (tC (.ref c)) tr) (aQM c mr):=by
 intro F Γ σ G H Q Qm r m k;exact hr F Γ σ G H _ _ r m fun as Γ2 y G2 H2 m2 s2 r2 d2=>k _ _ _ _ _ m2 s2 r2 (.cons rfl d2)
def aCv (i:Nat)(mr:MA):MA:=fun Γ Q=>match Γ[i]? with
 | some (.con c)=>mr Γ fun xs Γ2=>Q (.con c::xs) Γ2
 | _=>False
theorem aID {i:Nat}{tr:TA}{mr:MA}(hr:VA P0 tr mr):VA P0 (fB (a7M i) tr) (aCv i mr):=by
 intro F Γ σ G H Q Qm r m k;unfold aCv at m
 split at m
 ·rename_i c e
  have e1:σ[i]?=some (some (.ref c)):=r.sl i _ e;exact⟨_,e1,hr F Γ σ G H _ _ r m fun as Γ2 y G2 H2 m2 s2 r2 d2=>k _ _ _ _ _ m2 s2 r2 (.cons rfl d2)⟩
 ·exact m.elim
def aM0 (c:AB)(ns:List Int)(i:Nat)(mb:ME):ME:=fun Γ Q=>match Γ[i]? with
 | some (.con p)=>p=c∧mb Γ fun y Γ2=>(match y with
  | .int k=>oQ (atI (ns.map A0) k) fun d=>Q d Γ2
  | _=>False)
 | _=>False
theorem a9K {G:Hp}:∀ ns:List Int,Dts G (ns.map V.int) (ns.map A0)
 | []=>.nil
 | n::ns=>.cons (.int n) (a9K ns)
theorem aJS {c:AB}{ns:List Int}{i:Nat}{tb:TE}{mb:ME}(hK:KT K c (ns.map V.int))(hb:VT P0 tb mb):VT P0 (tOp (rIx K) (a7M i) tb) (aM0 c ns i mb):=by
 intro F Γ σ G H Q Qm r m k;unfold aM0 at m
 split at m
 ·rename_i p e
  obtain⟨rfl,m⟩:=m;have e1:σ[i]?=some (some (.ref p)):=r.sl i _ e;refine⟨_,e1,hb F Γ σ G H _ _ r m fun y Γ2 v G2 H2 m2 s2 r2 d2=>?_⟩
  split at m2
  ·rename_i j
   cases d2
   obtain⟨u,hu,q⟩:=aER m2;have rs:=a9K (G:=G2) ns;obtain⟨n,h1,h2⟩:∃ n,ixN (ns.map A0).length j=some n∧(ns.map A0)[n]?=some u:=by
    unfold atI at hu
    cases e:ixN (ns.map A0).length j with
    | none=>rw[e] at hu; cases hu
    | some n=>rw[e] at hu; exact⟨n,rfl,hu⟩
   obtain⟨v,hv,dv⟩:=Dts.get rs h2;refine .inr (.inl ⟨p,ns.map V.int,j,v,rfl,rfl,hK.sq H2,?_,k _ _ _ _ _ q s2 r2 dv⟩);unfold atI;rw[rs.len,h1];exact hv
  ·exact m2.elim
 ·exact m.elim
section
variable {Γ:En}{i:Nat}{c:AB}{mr:MA}
theorem aOB {Q:List Sl→En→Prop}(h:mr Γ fun xs Γ2=>Q (.con c::xs) Γ2):aQM c mr Γ Q:=h
theorem aQ9 {Q:List Sl→En→Prop}(h0:Γ[i]?=some (.con c))(h:mr Γ fun xs Γ2=>Q (.con c::xs) Γ2):aCv i mr Γ Q:=by
 unfold aCv;rw[h0];exact h
theorem aQW {ns:List Int}{mb:ME}{Q:D→En→Prop}(h0:Γ[i]?=some (.con c))(h:mb Γ fun y Γ2=>match y with|.int k=>oQ (atI (ns.map A0) k) fun d=>Q d Γ2|_=>False):aM0 c ns i mb Γ Q:=by
 unfold aM0;rw[h0];exact⟨rfl,h⟩
end
end
end L2.VS
namespace L2.ST
open PySem PySem.SetTable
def lq (mask:Nat):Nat→Nat×Nat→Nat×Nat
 | 0,x=>x
 | n+1,x=>lq mask n (leap mask x.1 x.2)
theorem aJK (mask:Nat):∀(m n:Nat) (x:Nat×Nat),lq mask (m+n) x=lq mask n (lq mask m x)
 | 0,n,x=>by rw[DY]; rfl
 | m+1,n,x=>by
  rw[Nat.succ_add];show lq mask (m+n) _=lq mask n (lq mask m _);exact aJK mask m n _
theorem aFF (mask:Nat):∀(m:Nat) (x:Nat×Nat),(lq mask m x).2=x.2/32^m
 | 0,x=>by simp[lq]
 | m+1,x=>by
  show(lq mask m (leap mask x.1 x.2)).2=_
  rw[aFF mask m,leap,Nat.div_div_eq_div_mul,Nat.pow_succ,C4]
def lcg (M:Nat):Nat→Nat→Nat
 | 0,i=>i
 | n+1,i=>lcg M n ((i*5+1)%M)
theorem aG1 (mask:Nat):∀(m i:Nat),lq mask m (i,0)=(lcg (mask+1) m i,0)
 | 0,i=>rfl
 | m+1,i=>by
  show lq mask m (leap mask i 0)=(lcg (mask+1) m _,0);rw[show leap mask i 0=((i*5+1)%(mask+1),0) by simp[leap],aG1 mask m]
theorem aS9:∀ i<8,∀ j<8,∃ m,m<8∧lcg 8 m i=j:=by decide +kernel
theorem aPM:∀ i<32,∀ j<32,∃ m,m<32∧lcg 32 m i=j:=by decide +kernel
def Msk (mask:Nat):Prop:=mask=7∨mask=31
theorem cov {mask:Nat}(h:Msk mask){i j:Nat}(hi:i≤mask)(hj:j≤mask):∃ m,m≤mask∧lcg (mask+1) m i=j:=by
 rcases h with rfl|rfl
 ·obtain⟨m,h1,h2⟩:=aS9 i (by omega) j (by omega); exact⟨m,by omega,h2⟩
 ·obtain⟨m,h1,h2⟩:=aPM i (by omega) j (by omega); exact⟨m,by omega,h2⟩
theorem aE0 (h:Int):A4 h<2^64:=by
 unfold A4;have h1:0≤h%(2^64:Int):=CB _ (by decide);have h2:h%(2^64:Int)<2^64:=CA _ (by decide);omega
theorem a8B (mask i p:Nat):(leap mask i p).1≤mask:=DW (mod_lt _ (D3 _))
theorem aMD (mask:Nat):∀(m:Nat) (x:Nat×Nat),x.1≤mask→(lq mask m x).1≤mask
 | 0,_,h=>h
 | m+1,x,_=>aMD mask m _ (a8B ..)
theorem reach {mask:Nat}(hm:Msk mask)(b:Nat)(hb:b<2^64){j:Nat}(hj:j≤mask):∃ m,m≤13+mask∧(lq mask m (b%(mask+1),b)).1=j:=by
 have hp:(lq mask 13 (b%(mask+1),b)).2=0:=by
  rw[aFF];exact FW (Al hb (by decide))
 have hi:(lq mask 13 (b%(mask+1),b)).1≤mask:=aMD mask 13 _ (DW (mod_lt _ (D3 _)));obtain⟨m,hm1,hm2⟩:=cov hm hi hj;refine⟨13+m,by omega,?_⟩;rw[aJK];have e:lq mask 13 (b%(mask+1),b)=((lq mask 13 (b%(mask+1),b)).1,0):=by rw[← hp]
 rw[e,aG1];exact hm2
def adv (t:SetTable):Nat→Be→Be
 | 0,p=>p
 | n+1,p=>adv t n (t.advance p)
theorem lB (t:SetTable):∀(m n:Nat) (p:Be),adv t (m+n) p=adv t n (adv t m p)
 | 0,n,p=>by rw[DY]; rfl
 | m+1,n,p=>by
  rw[Nat.succ_add];show adv t (m+n) _=adv t n (adv t m _);exact lB t m n _
theorem tK (t:SetTable)(p:Be):(t.advance p).dummy=p.dummy:=by
 unfold DG; split<;>rfl
theorem a71 (t:SetTable):∀(n:Nat) (p:Be),(adv t n p).dummy=p.dummy
 | 0,_=>rfl
 | n+1,p=>by show(adv t n _).dummy=_; rw[a71 t n,tK]
theorem aG9 (t:SetTable):∀(m:Nat) (p:Be),p.more=m→∃ n,n≤m+1∧(adv t n p).i=(leap t.mask p.i p.perturb).1∧(adv t n p).perturb=(leap t.mask p.i p.perturb).2∧(adv t n p).j=(adv t n p).i∧(adv t n p).more≤9
 | 0,p,h=>by
  refine⟨1,AN _,?_⟩
  show((t.advance p).i=_)∧((t.advance p).perturb=_)∧((t.advance p).j=(t.advance p).i)∧(t.advance p).more≤9
  unfold DG;rw[if_neg (by omega)];refine⟨rfl,rfl,rfl,?_⟩;show runEnd t.mask _-_≤9;unfold runEnd; split<;>omega
 | m+1,p,h=>by
  have e:t.advance p={ p with j:=p.j+1,more:=p.more-1 }:=by unfold DG; rw[if_pos (by omega)]
  obtain⟨n,h1,h2,h3,h4,h5⟩:=aG9 t m (t.advance p) (by rw[e]; show p.more-1=m; omega);have ei:(t.advance p).i=p.i:=by rw[e]
  have ep:(t.advance p).perturb=p.perturb:=by rw[e]
  rw[ei,ep] at h2 h3;exact⟨n+1,by omega,h2,h3,h4,h5⟩
theorem aAT (t:SetTable):∀(m:Nat) (p:Be),p.more≤9→p.j=p.i→∃ n,n≤10*m∧((adv t n p).i,(adv t n p).perturb)=lq t.mask m (p.i,p.perturb)∧(adv t n p).j=(adv t n p).i
 | 0,p,_,hj=>⟨0,AN _,rfl,hj⟩
 | m+1,p,h,_=>by
  obtain⟨n,h1,h2,h3,h4,h5⟩:=aG9 t p.more p rfl;obtain⟨k,g1,g2,g3⟩:=aAT t m (adv t n p) h5 h4;refine⟨n+k,by omega,?_,?_⟩
  ·rw[lB,g2,h2,h3]; rfl
  ·rw[lB,g3]
theorem a88 (t:SetTable)(hm:Msk t.mask)(h:Int){j:Nat}(hj:j≤t.mask):∃ n,n<10*Bg t.mask∧(adv t n (t.probeStart h)).j=j:=by
 obtain⟨m,h1,h2⟩:=reach hm (A4 h) (aE0 h) hj;obtain⟨n,g1,g2,g3⟩:=aAT t m (t.probeStart h) (by show runEnd t.mask _-_≤9; unfold runEnd; split<;>omega) rfl;refine⟨n,by unfold Bg; omega,?_⟩;rw[g3];have:(adv t n (t.probeStart h)).i=(lq t.mask m (A4 h%(t.mask+1),A4 h)).1:=by
  have:=congrArg Dj g2;exact this
 rw[this,h2]
theorem z8 {t:SetTable}{j i:Nat}(h:t.slot j=.live i):t.place[i]?=some j:=by
 unfold slot at h;dsimp only at h
 split at h
 ·rename_i hc
  cases h
  simpa using hc
 ·split at h<;>cases h
theorem a6X {t:SetTable}(hd:t.dummies=#[])(j:Nat):t.slot j≠.dummy:=by
 intro h;unfold slot at h;dsimp only at h
 split at h
 ·cases h
 ·rw[hd] at h
  split at h
  ·rename_i hc
   simp[has] at hc
  ·cases h
theorem aFJ {t:SetTable}(hd:t.dummies=#[]){j:Nat}(hj:j∉t.place.toList):t.slot j=.empty:=by
 unfold slot;dsimp only;rw[if_neg]
 ·rw[hd,if_neg];simp[has]
 ·intro hc;refine hj ?_;have:t.place[below t.place j]?=some j:=by simpa using hc
  exact CV.mpr (FX this)
theorem aJ8:∀(n:Nat) (l:List Nat),l.length<n→∃ j,j<n∧j∉l
 | 0,l,h=>absurd h (B0 _)
 | n+1,l,h=>by
  by_cases hn:n∈l
  ·have hl:(l.erase n).length=l.length-1:=List.length_erase_of_mem hn;have h0:0<l.length:=List.length_pos_of_mem hn;obtain⟨j,h1,h2⟩:=aJ8 n (l.erase n) (by omega);refine⟨j,by omega,fun hm=>h2 ?_⟩;exact(List.mem_erase_of_ne (by omega)).mpr hm
  ·exact⟨n,by omega,hn⟩
structure Tb (t:SetTable)(n:Nat):Prop where
 dum:t.dummies=#[]
 msk:Msk t.mask
 sz:t.place.size=n
 room:n≤t.mask
theorem Tb.reach {t:SetTable}{n:Nat}(T:Tb t n)(h:Int):∃ k,k<10*Bg t.mask∧t.slot (adv t k (t.probeStart h)).j=.empty:=by
 obtain⟨j,h1,h2⟩:=aJ8 (t.mask+1) t.place.toList (by rw[Af,T.sz]; exact Nat.lt_succ_of_le T.room);obtain⟨k,g1,g2⟩:=a88 t T.msk h (DW h1);exact⟨k,g1,by rw[g2]; exact aFJ T.dum h2⟩
theorem a5H {mask:Nat}(owner:Array (Option Nat)):∀(m fuel i p j:Nat),(lq mask m (i,p)).1=j→owner[j]?=some none→m<fuel→∃ k,layClean.free mask owner fuel i p=some k∧owner[k]?=some none
 | m,0,_,_,_,_,_,hf=>absurd hf (B0 _)
 | m,fuel+1,i,p,j,hj,ho,hf=>by
  unfold layClean.free
  cases hfd:(List.range (runEnd mask i+1-i)).find? fun k=>(owner.getD (i+k) (some 0)).isNone with
  | some k=>
   refine⟨i+k,rfl,?_⟩;have:=List.find?_some hfd;rw[BW] at this
   cases hg:owner[i+k]? with
   | none=>rw[hg] at this; cases this
   | some v=>
    rw[hg] at this
    cases v with
    | none=>rfl
    | some _=>cases this
  | none=>
   dsimp only
   cases m with
   | zero=>
    exfalso;have hz:=DM.mp hfd 0 (A2.mpr (by unfold runEnd; split<;>omega));have e:i=j:=hj;rw[Nat.add_zero,BW,e,ho] at hz;exact hz rfl
   | succ m=>
    exact a5H owner m fuel _ _ j hj ho (by omega)
theorem a1Z:∀(l:List (Option Nat)),(l.filterMap id).length<l.length→∃ j,j<l.length∧l[j]?=some none
 | [],h=>absurd h (B0 _)
 | none::l,_=>⟨0,D3 _,rfl⟩
 | some v::l,h=>by
  obtain⟨j,h1,h2⟩:=a1Z l (by simpa using h);exact⟨j+1,Nat.succ_lt_succ h1,by simpa using h2⟩
theorem a4E (k:Nat):∀(l:List (Option Nat)) (j:Nat),l[j]?=some none→List.Perm ((l.set j (some k)).filterMap id) (l.filterMap id++[k])
 | [],j,h=>by simp at h
 | x::l,0,h=>by
  have:x=none:=by simpa using h
  subst this;show List.Perm (k::l.filterMap id) (l.filterMap id++[k]);exact(List.perm_append_singleton k _).symm
 | none::l,j+1,h=>by
  show List.Perm ((l.set j (some k)).filterMap id) (l.filterMap id++[k]);exact a4E k l j (by simpa using h)
 | some v::l,j+1,h=>by
  show List.Perm (v::(l.set j (some k)).filterMap id) (v::(l.filterMap id++[k]));exact(a4E k l j (by simpa using h)).cons v
def p6 (mask:Nat)(o:Array (Option Nat))(k:Nat):Prop:=o.size=mask+1∧List.Perm (o.toList.filterMap id) (List.range k)
def aQA (mask:Nat)(f:Option (Array (Option Nat)×Nat)→Int→Option (Array (Option Nat)×Nat)):Prop:=∀ o k h,f (some (o,k)) h=(layClean.free mask o (Bg mask) (A4 h%(mask+1)) (A4 h)).map fun q=>(o.setIfInBounds q (some k),k+1)
theorem aAK {mask:Nat}(hm:Msk mask){f:Option (Array (Option Nat)×Nat)→Int→Option (Array (Option Nat)×Nat)}(hf:aQA mask f):∀(hs:List Int) (o:Array (Option Nat)) (k:Nat),p6 mask o k→k+hs.length≤mask →
  ∃ o',hs.foldl f (some (o,k))=some (o',k+hs.length)∧p6 mask o' (k+hs.length)
 | [],o,k,ho,_=>⟨o,rfl,ho⟩
 | h::hs,o,k,ho,hl=>by
  have hl':k+(hs.length+1)≤mask:=hl;obtain⟨j,h1,h2⟩:=a1Z o.toList (by rw[ho.2.length_eq,Bv,Af,ho.1]; omega);rw[Af,ho.1] at h1;obtain⟨m,g1,g2⟩:=reach hm (A4 h) (aE0 h) (DW h1);obtain⟨q,f1,f2⟩:=a5H o m (Bg mask) _ _ j g2 (by rw[← BX]; exact h2) (by unfold Bg; omega);have ho':p6 mask (o.setIfInBounds q (some k)) (k+1):=by
   refine⟨by rw[GI]; exact ho.1,?_⟩;rw[Array.toList_setIfInBounds,EY];exact(a4E k o.toList q (by rw[BX]; exact f2)).trans (ho.2.append_right [k])
  obtain⟨o',e1,e2⟩:=aAK hm hf hs _ (k+1) ho' (by omega);refine⟨o',?_,by rw[An,show k+(hs.length+1)=k+1+hs.length by omega]; exact e2⟩;rw[DN,An,show k+(hs.length+1)=k+1+hs.length by omega,←e1,hf,f1];rfl
theorem aKS {mask:Nat}(hm:Msk mask){f:Option (Array (Option Nat)×Nat)→Int→Option (Array (Option Nat)×Nat)}(hf:aQA mask f){hs:Array Int}{o:Array (Option Nat)}(ho:p6 mask o 0)(hl:hs.size≤mask):∃ o',(hs.foldl f (some (o,0))).map (·.1)=some o'∧p6 mask o' hs.size:=by
 obtain⟨o',e1,e2⟩:=aAK hm hf hs.toList _ 0 ho (by rw[Af]; omega);rw[DY,Af] at e1 e2;exact⟨o',by rw[← Array.foldl_toList,e1]; rfl,e2⟩
theorem aGM {mask:Nat}(hm:Msk mask){hs:Array Int}(hl:hs.size≤mask)(ho:p6 mask (FY (mask+1) none) 0):∃ o',layClean mask hs=some o'∧p6 mask o' hs.size:=by
 unfold layClean;refine aKS hm (fun o k h=>?_) ho hl
 show(layClean.free mask o (Bg mask) (A4 h%(mask+1)) (A4 h)).bind _=_
 cases layClean.free mask o (Bg mask) (A4 h%(mask+1)) (A4 h)<;>rfl
theorem aI5 (o:Array (Option Nat))(n:Nat)(hn:o.size=n):((List.range n).filterMap fun j=>(o.getD j none).map (j,·)).map (·.2)=o.toList.filterMap id:=by
 rw[List.map_filterMap];have e:(fun j=>Option.map (·.2) ((o.getD j none).map (j,·)))=fun j=>o.getD j none:=by
  funext j
  cases o.getD j none<;>rfl
 rw[e];subst hn;have e2:o.toList=(List.range o.size).map fun j=>o.getD j none:=by
  refine Cv fun i=>?_;rw[Aa]
  by_cases h:i<o.size
  ·rw[DP h,BX,A1 h];simp[Array.getD,h]
  ·have h1:(List.range o.size)[i]?=none:=List.getElem?_eq_none (by rw[Bv]; omega);have h2:o.toList[i]?=none:=List.getElem?_eq_none (by rw[Af]; omega);rw[h1,h2];rfl
 conv=>rhs; rw[e2,List.filterMap_map]
 rfl
theorem aDV {mask:Nat}(hm:Msk mask)(finger moves:Nat)(led plain:Bool)(hs:Array Int)(hl:hs.size≤mask) :
  ∃ t order,laid mask finger moves led plain hs=some (t,order)∧Tb t hs.size∧List.Perm order.toList (List.range hs.size):=by
 have ho:p6 mask (FY (mask+1) none) 0:=by
  refine⟨GJ,?_⟩;rw[Array.toList_replicate,List.filterMap_replicate_of_none rfl];exact .rfl
 obtain⟨o',e3,e2⟩:=aGM hm hl ho;have e4:=aI5 o' (mask+1) e2.1;refine⟨_,_,by unfold laid; rw[e3]; rfl,⟨rfl,hm,?_,hl⟩,?_⟩
 ·show(List.map _ _).toArray.size=_
  rw[Ak,AS];have:=congrArg List.length e4;rw[AS,e2.2.length_eq,Bv] at this;exact this
 ·show List.Perm (List.map _ _) _;rw[e4];exact e2.2
end L2.ST
namespace L2.ST
open PySem PySem.SetTable
section
variable {prog:AL}{w:AI}{A:AV}{E:AA→AC→Prop}{s:AC}
variable {Gd:AB→Prop}
theorem Tb.fits {t:SetTable}{n:Nat}(T:Tb t n):t.fits n=true:=by
 simp only[SetTable.fits,SetTable.fill,T.dum,CT,beq_iff_eq,decide_eq_true_eq];refine⟨T.sz,?_⟩;rw[T.sz];exact T.room
theorem Tb.way {t:SetTable}{n:Nat}(T:Tb t n):t.gaveWay=false:=by
 unfold SetTable.gaveWay;rcases T.msk with h|h<;>rw[h]<;>rfl
theorem aEK {n:Nat}{i:Int}{tk:Tok}:Cg n (.int i tk)=pure false:=by
 cases n<;>rfl
theorem items_int {ks:List Int}{vs:List AA}(h:ItemsAre (Ax prog w) ks vs):∀ v∈vs,∃ i tk,v=.int i tk:=by
 induction h with
 | nil=>intro v hv; simp at hv
 | cons h1 _ ih=>
  intro v hv;rcases AK.mp hv with rfl|hv
  ·cases v<;>first|exact⟨_,_,rfl⟩|(exfalso; revert h1; simp[Ax,AA.isInt])
  ·exact ih v hv
theorem aHE {k:List Int}{x:AB}{Q:Bool→AC→Prop}(hk:CG (Ax prog w) s.heap k x)(h:Q false s):AE (AH prog w) A (Cg 8 (.ref x)) Q E s:=by
 have hT:=hk.typeIs;obtain⟨o,items,n,ho,_,hd,hi⟩:=hk;unfold Cg;refine AD (DF hT ?_);dsimp only;refine AD ?_;refine AG ?_;simp only[Bb,Ae,if_false];refine AD (Cb ho hd ?_);dsimp only;refine AD ?_;rw[← D8];refine C8 _ (fun rest r s'=>r.1=none∧s'=s∧∀ v∈rest,∃ i tk,v=Db i tk) _ ?_ ?_ _ _ ⟨rfl,rfl,items_int hi⟩
 ·rintro v rest r s' ⟨hr,rfl,hall⟩;obtain⟨i,tk,rfl⟩:=hall v mem_cons_self;rw[aEK];refine AD (AG ?_);simp only[Ae,if_false];exact AG ⟨rfl,rfl,fun u hu'=>hall u (AU _ hu')⟩
 ·rintro⟨r1,r2⟩ s' ⟨hr,rfl,_⟩
  simp only at hr;subst hr;exact AG h
theorem aB5 {k:List Int}{x:AB}{Q:Bool→AC→Prop}(hk:CG (Ax prog w) s.heap k x)(h:Q true s):AE (AH prog w) A (CH 8 (.ref x)) Q E s:=by
 have hT:=hk.typeIs;obtain⟨o,items,n,ho,_,hd,hi⟩:=hk;unfold CH;refine AD (Cf hT F.slot_tuple_hash.lookup ?_);dsimp only;refine AD (Cb ho hd ?_);refine AD ?_;show AE _ _ (forIn items _ _) _ _ s;rw[← D8];refine C8 _ (fun rest r s'=>r.1=none∧s'=s∧∀ v∈rest,∃ i tk,v=Db i tk) _ ?_ ?_ _ _ ⟨rfl,rfl,items_int hi⟩
 ·rintro v rest r s' ⟨hr,rfl,hall⟩;obtain⟨i,tk,rfl⟩:=hall v mem_cons_self;have e:∀ n,CH n (.int i tk)=pure true:=fun n=>by cases n<;>rfl
  rw[e];refine AD (AG ?_);simp only[Bb,Ae,if_false];exact AG ⟨rfl,rfl,fun u hu'=>hall u (AU _ hu')⟩
 ·rintro⟨r1,r2⟩ s' ⟨hr,rfl,_⟩
  simp only at hr;subst hr;exact AG h
theorem aFQ {h:AF}{a:AB}{o:Obj}{es:Array (Int×AA)}{ep:Nat}{t:SetTable}(ho:h.get? a=some o)(hd:o.data=.set es ep t)(es':Array (Int×AA))(t':SetTable) :
  (h.update a (DH es' t')).get? a=some { o with data:=.set es' (ep+1) t' }:=by
 have:=BV (DH es' t') ho (by rw[putSet_of es' t' hd]; rfl);rw[putSet_of es' t' hd] at this; exact this
theorem u9 {α:Type}(xs:Array α)(p:Nat)(x:α):(SetTable.insertAt xs p x).size=xs.size+1:=by
 rw[← Af,(SetTable.insertAt_perm xs p x).length_eq,Af,FU]
end
end L2.ST
namespace L2.ST
open PySem PySem.SetTable PyProof.Rows
section
variable {prog:AL}{w:AI}{A:AV}{R:Cn→AC→Prop}{I:AB}{fp wr:List AB}{G:Array Dd→Array Dd→Prop}{n:Nat}{P:Nat→AA→Prop}{St:Nat→AC→Prop}
end
section
variable {prog:AL}{w:AI}{A:AV}{E:AA→AC→Prop}{s:AC}
end
end L2.ST
namespace L2
open PySem PySem.Spec PyProof.Rows
def aP2 (a:AB)(n:Nat):HO:=.ext fun h=>∃ o es ep t,h.get? a=some o∧o.ExactSet∧o.data=.set es ep t∧t.fits es.size=true∧es.size=n∧n≤18
section
variable {X:Cx}
def TupsAre (K:Fg)(H:Hp):List V→List (List Int)→Prop
 | [],[]=>True
 | .ref q::xs,k::ks=>SqT K H q (k.map V.int)∧TupsAre K H xs ks
 | _,_=>False
theorem TupsAre.length {K:Fg}{H:Hp}:∀{xs:List V} {ks:List (List Int)},TupsAre K H xs ks→xs.length=ks.length
 := by
  intro xs ks h
  induction xs generalizing ks with
  | nil=>cases ks with
    | nil=>rfl
    | cons k ks=>exact h.elim
  | cons x xs ih=>cases ks with
    | nil=>cases x<;>exact h.elim
    | cons k ks=>
      cases x with
      | ref q=>exact congrArg Nat.succ (ih h.2)
      | _=>exact h.elim
theorem TupsAre.at {K:Fg}{H:Hp}:∀{xs:List V} {ks:List (List Int)},TupsAre K H xs ks→∀{i:Nat} {x:V},xs[i]?=some x→∃ q,x=.ref q∧SqT K H q ((ks.getD i []).map V.int)
 := by
  intro xs ks h i x e
  induction xs generalizing ks i with
  | nil=>cases e
  | cons y xs ih=>cases ks with
    | nil=>cases y<;>exact h.elim
    | cons k ks=>
      cases y with
      | ref q=>
        cases i with
        | zero=>cases e; exact⟨q,rfl,h.1⟩
        | succ i=>
          have q:=ih h.2 (show xs[i]?=some x from e);exact q
      | _=>exact h.elim
theorem aA8:∀{prog:AL} {w:AI} {ks:List Int} {us:List AA},Vals (ks.map V.int) us→ItemsAre (Ax prog w) ks us
 | _,_,[],_,.nil=>.nil
 | _,_,k::ks,_,.cons h t=>by
  obtain⟨tk,rfl⟩:=h;exact .cons (Ew _ _ _ _) (aA8 t)
theorem aG7:∀{xs:List V} {us:List AA},Vals xs us→∀{i:Nat} {u:AA},us[i]?=some u→∃ x,xs[i]?=some x∧RelV x u
 := by
  intro xs us h
  induction h with
  | nil=>intro i u e; cases e
  | @cons _ _ xs us r t ih=>
    intro i u e
    cases i with
    | zero=>cases e; exact⟨_,rfl,r⟩
    | succ i=>
      have q:=ih (show us[i]?=some u from e);exact q
def aAI:List V→Hp→VK→Prop:=fun xs H Q=>∃ p n,xs=[.ref p]∧H p=some (aP2 p n)∧Q (.int (n:Int)) H
theorem a74:CallR X (.builtin "len") aAI:=by
 intro pins s σ H xs us Q I r h;obtain⟨p,n,rfl,hp,q⟩:=h;obtain⟨u,rfl,rx⟩:=vals1 r
 cases rx
 obtain⟨⟨o,es,ep,t,ho,hex,hd,hf,rfl,hn⟩,_,_⟩:=(show ObjOk X.prog X.w H s.heap p (aP2 p n) from I.hok p _ hp);exact call_len_set ho hex hd hf (by omega) ⟨.int es.size,H,I.tok _,⟨_,rfl⟩,q⟩
end
end L2
namespace L2.VS
open PySem PySem.Spec PyProof.Rows
section
variable {P0:AB→Hp→Prop}{K:Fg}
def a1B:List D→Option (List (List Int))
 | []=>some []
 | .tuple es::ds=>match a3R es,a1B ds with
  | some k,some ks=>some (k::ks)
  | _,_=>none
 | _=>none
theorem a5Y {α:Type}(f:α→D)(g:α→List Int):∀(l:List α),(∀ a∈l,∃ es,f a=.tuple es∧a3R es=some (g a))→a1B (l.map f)=some (l.map g)
 | [],_=>rfl
 | a::l,h=>by
  obtain⟨es,e1,e2⟩:=h a mem_cons_self;show a1B (f a::l.map f)=_;rw[e1]
  show(match a3R es,a1B (l.map f) with|some k,some ks=>some (k::ks)|_,_=>none)=_
  rw[e2,a5Y f g l fun b hb=>h b (AU _ hb)];rfl
theorem a79 {G H:Hp}(hs:∀ p o,G p=some o→H p=some o):∀{vs:List V} {ds:List D} {kss:List (List Int)},Dts G vs ds→a1B ds=some kss→TupsAre K H vs kss
 | _,_,_,.nil,e=>by cases e; exact trivial
 | _,_,kss,.cons (d:=d) (ds:=ds) a b,e=>by
  cases d with
  | tuple es=>
   cases a with
   | @tup p xs _ hp rs=>
    have e':(match a3R es,a1B ds with|some k,some ks=>some (k::ks)|_,_=>none)=some kss:=e
    cases e1:a3R es with
    | none=>rw[e1] at e'; cases e'
    | some k=>
     cases e2:a1B ds with
     | none=>rw[e1,e2] at e'; cases e'
     | some ks=>
      rw[e1,e2] at e'
      cases e'
      have:=a5V rs e1;subst this;exact⟨SqT.of (hs _ _ hp),a79 hs b e2⟩
  | _=>cases e
end
section
variable {P0:AB→Hp→Prop}{A:Nat→Bool}
end
end L2.VS
namespace PySem
open Sem (wp)
open AutoSeq1 (wpAny_loadPart')
def DicE (h:AF)(d:AB)(es:Array B8)(ep:Nat):Prop:=∃ o,h.get? d=some o∧o.ExactDict∧o.data=.dict es ep
theorem DicE.up {h h':AF}{d:AB}{es:Array B8}{ep:Nat}(x:DicE h d es ep)(k:∀ o,h.get? d=some o→h'.get? d=some o):DicE h' d es ep:=let ⟨o,e,r⟩:=x; ⟨o,k _ e,r⟩
theorem DicE.ty {s:AC}{d:AB}{es:Array B8}{ep:Nat}(x:DicE s.heap d es ep):s.TypeIs (.ref d) "dict" := let ⟨o,e,c,_⟩:=x; ⟨o,e,c.1⟩
section
variable {prog:AL}{w:AI}{A:AV}{E:AA→AC→Prop}{s:AC}{d it:AB}{es:Array B8}{ep:Nat}
theorem a4Z {Q:AA→AC→Prop}(hd:(d==BP)=false)(x:DicE s.heap d es ep)
  (q:Q (.ref s.heap.objs.size) { s with heap:=s.heap.push { cls:=.type "dict_keyiterator", data:=.fields #[.ref d,.int 0 0,.int es.size 0,.int ep 0] } }):AE (AH prog w) A (pyIter (.ref d)) Q E s:=by
 obtain⟨o,e,c,z⟩:=id x;refine FZ x.ty F.slot_dict_iter (Bm F.slot_dict_iter x.ty F.entry_dict_iter ?g (F.args_dict_iter_1 _)); case g=>
 unfold AM.«dict.__iter__» AM.Dict.dictSlotNone; refine AD (AD (GK x.ty ?_)); show AE _ _ (pure (Ac d)) _ _ s; refine AG ?_;show AE _ _ (GL d >>= _) _ _ s; unfold GL; rw[if_neg (by rw[hd]; exact BZ)];refine AD (AG (AD (Ex e z (AD (Fa e z ?_)))));refine AD (Ca (AG ⟨_,rfl, "dict_keyiterator", _,⟨_,Aq _ rfl,rfl⟩,F.slot_dict_keyiterator_next.lookup,?_⟩)); simpa [Au] using q
theorem a6H {Q:Option AA→AC→Prop}{i:Nat}{e:B8}(hit:s.heap.IsKeyIter it d i es.size ep)(x:DicE s.heap d es ep)(he:es[i]?=some e)
  (q:∀ h',h'.IsKeyIter it d (i+1) es.size ep→Ar it s.heap h'→Q (some e.key) { s with heap:=h' }):AE (AH prog w) A (BJ (.ref it)) Q E s:=by
 obtain⟨o,ho,hc,hd⟩:=id hit;obtain⟨od,hod,-,hdd⟩:=id x;unfold BJ; refine AD (Dl (Dm (name:=DC "__next__") hit.typeIs F.slot_dict_keyiterator_next (Bm F.slot_dict_keyiterator_next hit.typeIs F.entry_dict_keyiterator_next ?g (F.args_dict_keyiterator_next_1 _)))); case g=>
 refine AD (AG (AD (AD ?_)))
 first|refine AD (Ey hit.typeIs (AG (AD (Dp ho hd ?_))))|refine AD (Ez hit.typeIs (AG (AD (Dp ho hd ?_))))
 simp only[show GM "dict_keyiterator" = false by decide,Ae,if_false];show AE _ _ (if (Ac d==BF)=true then _ else _) _ _ s; rw[if_neg (show ¬((Ac d==BF)=true) from BZ)];refine AD (AG (AD (Ex hod hdd ?_))); rw[if_neg (by simp)];refine AD (AG (AD (Fa hod hdd ?_))); rw[if_neg (by simp)];refine AG ?_;simp only[show ¬((i:Int)<0) from by omega,if_false,B7,he];refine AD ?_
 first|refine AD (Ey hit.typeIs (AG (AD (Fb hit.typeIs ?_))))|refine AD (Ez hit.typeIs (AG (AD (Fb hit.typeIs ?_))))
 show AE _ _ (setField (.ref it) 1 (Au ((i:Int)+1)) >>= _) _ _ s; refine AD (EN ho hd (by simp) ?_);have h2:(s.heap.update it (E1 (·.setIfInBounds 1 (Au ((i:Int)+1))))).IsKeyIter it d (i+1) es.size ep:=⟨_,BV _ ho (Fc (Dq hd _)),(Fd ..).trans hc,by rw[Dq hd]; simp[Au]⟩;refine AD (BB (AD (Fb (s:={ s with heap:=s.heap.update it (E1 (·.setIfInBounds 1 (Au ((i:Int)+1)))) }) h2.typeIs ?_)));show AE _ _ (pure e.key) _ _ _; exact AG (AG ⟨_,rfl,AG (q _ h2 (CI ..))⟩)
theorem aAW {Q:Option AA→AC→Prop}(hh:A.handled=none)(hit:s.heap.IsKeyIter it d es.size es.size ep)(x:DicE s.heap d es ep)
  (q:∀ h',AF.ExtBut it s.heap h'→Q none { s with heap:=h' }):AE (AH prog w) A (BJ (.ref it)) Q E s:=by
 obtain⟨o,ho,hc,hd⟩:=id hit;obtain⟨od,hod,-,hdd⟩:=id x;unfold BJ; refine AD (Dl (Dm (name:=DC "__next__") hit.typeIs F.slot_dict_keyiterator_next (Bm F.slot_dict_keyiterator_next hit.typeIs F.entry_dict_keyiterator_next ?g (F.args_dict_keyiterator_next_1 _)))); case g=>
 refine AD (AG (AD (AD ?_)))
 first|refine AD (Ey hit.typeIs (AG (AD (Dp ho hd ?_))))|refine AD (Ez hit.typeIs (AG (AD (Dp ho hd ?_))))
 simp only[show GM "dict_keyiterator" = false by decide,Ae,if_false];show AE _ _ (if (Ac d==BF)=true then _ else _) _ _ s; rw[if_neg (show ¬((Ac d==BF)=true) from BZ)];refine AD (AG (AD (Ex hod hdd ?_))); rw[if_neg (by simp)];refine AD (AG (AD (Fa hod hdd ?_))); rw[if_neg (by simp)];refine AG ?_;simp only[show ¬((es.size:Int)<0) from by omega,if_false,B7,CU (AN _)];refine AD ?_
 first|refine AD (Ey hit.typeIs (AG ?g))|refine AD (Ez hit.typeIs (AG ?g))
 case g=>
 show AE _ _ (setField (.ref it) 0 .none >>= _) _ _ s; refine AD (EN ho hd (by simp) ?_);show AE _ _ (newExc (.type "StopIteration") [] >>= _) _ _ _; refine AD ?_; simp only[newExc,newTuple];refine AD (Ca (AD (m:=E2 _ _) (Fe (a:=BF) (by first|rfl|(simp only[E2]; rfl)) (Ca ?g2 (by size_fits)))) (by size_fits)); case g2=>
 simp only[raiseNew]; refine AD (wpAny_handled ?_); rw[show A.in1.handled=none from hh];refine AD (AG (wpAny_throw ?g3)); case g3=>
 refine AD (DD (T := "StopIteration") (b:=true) ⟨_,Aq _ rfl,rfl⟩ FT (AG (q _ (((CI ..).extBut.push _).push _))))
theorem Walks.dicE (hh:A.handled=none)(I d:AB)(hne:d≠I)(es:Array B8)(ep:Nat) :
  Walks prog w A I [I,d] [I] es.size (fun i v=>∃ e,es[i]?=some e∧v=e.key) (fun i h=>h.IsKeyIter I d i es.size ep∧DicE h d es ep) where
 sub:=fun b hb=>by simp at hb; simp[hb]
 frame:=fun _ _ _ st hk=>⟨st.1.at fun o e=>hk I (by simp) o e,st.2.up fun o e=>hk d (by simp) o e⟩
 item:=fun i s Q E hi st hQ=>by
  refine a6H st.1 st.2 (A1 hi) fun h' t' z=>?_;exact hQ _ h' s.toks ⟨_,A1 hi,rfl⟩ ⟨t',st.2.up fun o e=>z.extBut d o hne e⟩ fun b o hb e=>z.extBut b o (fun h=>hb (by simp[h])) e
 done:=fun s Q E st hQ=>aAW hh st.1 st.2 fun h' z=>hQ h' s.toks fun b o hb e=>z b o (fun h=>hb (by simp[h])) e
 self:=fun _ _ _ _ st hQ=>GN st.1 hQ
theorem aF6 {Q:Bool→AC→Prop}(x:DicE s.heap d es ep)(h:Q false s):AE (AH prog w) A (Ev (.ref d)) Q E s:=by
 unfold Ev;refine AD (Cf x.ty F.slot_dict_len.lookup ?_); generalize hid:("dict.__len__" : String)=id0
 wp_delta
 rw[show splitId id0=some ("dict", "__len__") from by subst hid; decide +kernel]; subst hid;refine AD (DD (T := "dict") (b:=true) x.ty (by rw[Ff]; kernel_rfl) ?_);refine Fh (fun hab=>absurd hab (by decide)) (fun _=>Fh (fun _=>AD (DF x.ty (AG h))) (fun hab=>absurd (by decide +kernel) hab))
theorem a7V {R:Cn→AC→Prop}(hh:A.handled=none)(hd:(d==BP)=false)(x:DicE s.heap d es ep)(hlen:es.size≤2^24)(S:AB)(res:AA)(c₀:Nat)
  (hS:s.heap.get? S=some { cls:=.type "list", data:=.seq #[] c₀ })
  (hR:∀ h' tk acc' c',(∀ b o,b≠S→s.heap.get? b=some o→h'.get? b=some o)→h'.get? S=some { cls:=.type "list", dict:=none,data:=.seq acc' c',slots:=#[] } →
   DI (fun i v=>∃ e,es[i]?=some e∧v=e.key) acc' es.size→R (.ok (.ret res)) { s with heap:=h',toks:=tk }) :
  AE (AH prog w) A.in1 (Ce (.ref S) (.ref d) res)
   (fun fin s'=>match fin with|.done f=>R (.ok f) s'|.again c'=>c'.quiet=true∧Bk (AH prog w) A c' R s') (fun e s'=>R (.error e) s') s:=by
 have hSd:S≠d:=fun e=>by
  obtain⟨o,ho,hc,_⟩:=x;rw[← e,hS] at ho; cases ho;exact absurd (show BG "list" = BG "dict" from hc.1) (by decide)
 have hdlt:d<s.heap.objs.size:=by obtain⟨o,ho,_⟩:=x; exact AT ho
 have hSI:S≠s.heap.objs.size:=Ag (AT hS);have hSf:S∉[s.heap.objs.size,d]:=fun hm=>by
  rcases AK.mp hm with z|z
  ·exact hSI z
  ·exact hSd (mem_singleton.mp z)
 have W:=(Walks.dicE (prog:=prog) (w:=w) (A:=A.in1) hh s.heap.objs.size d (Ag hdlt) es ep).toS;have key:∀(h:AF) (c₁ tk:Nat),h.IsKeyIter s.heap.objs.size d 0 es.size ep→(∀ b o,b≠S→s.heap.get? b=some o→h.get? b=some o) →
   h.get? S=some { cls:=.type "list", data:=.seq #[] c₁ }→Bk (AH prog w) A (.builtin "list.extend.loop" ⟨[.ref S,.ref s.heap.objs.size,res],[]⟩) R { s with heap:=h,toks:=tk }:=by
  intro h c₁ tk hit hk hS₁;refine GO W (by rw[Br]; omega) S hSf res es.size 0 _ #[] c₁ rfl (A8 _) ⟨hit,x.up fun o e=>hk d o (Ne.symm hSd) e⟩ hS₁ (DI.nil _) fun s' acc' c' hm hS' hacc=>?_;rw[Moved.eq_with hm];refine hR s'.heap s'.toks acc' c' (fun b o hb e=>hm.heap b o (fun z=>?_) (hk b o hb e)) hS' hacc;rcases AK.mp z with e'|z
  ·exact hb e'
  ·exact absurd (AT e) (by rw[mem_singleton.mp z]; exact BI _)
 unfold Ce; refine AD (DF x.ty ?_);simp only[show Do (.ref S) (.ref d)=false by simp[Do,hSd],show(BG "dict" == BG "list")=false by decide,show(BG "dict" == BG "tuple")=false by decide,EJ,Ae,if_false];refine AD (a4Z hd x (AD (BB (aF6 (x.up fun o e=>AZ _ e) ?_))));have hit₁:(s.heap.push { cls:=.type "dict_keyiterator", data:=.fields #[.ref d,.int 0 0,.int es.size 0,.int ep 0] }).IsKeyIter s.heap.objs.size d 0 es.size ep:=⟨_,Aq _ rfl,rfl,rfl⟩;have hS₁:=AZ { cls:=.type "dict_keyiterator", data:=.fields #[.ref d,.int 0 0,.int es.size 0,.int ep 0] } hS;refine Fh (fun _=>AD (Cm (AD ?g))) (fun _=>AG ⟨Cr F.plain_extend_loop _,key _ c₀ _ hit₁ (fun b o _ e=>AZ _ e) hS₁⟩); case g=>
 show AE _ _ (Cc S (·.push .none) >>= fun _=>Cc S (·.pop)) _ _ _; refine AD (Cd hS₁ rfl ?_);have hS₂:=BV (Aj (·.push BF)) hS₁ rfl; refine Cd (hz:=by seq_fits) hS₂ rfl ?_;have hS₃:=BV (Aj (·.pop)) hS₂ rfl; refine AG ⟨Cr F.plain_extend_loop _,key _ _ _ ?_ (fun b o hb e=>?_) hS₃⟩
 ·exact hit₁.at fun o e=>(Bj _ _ hSI).trans ((Bj _ _ hSI).trans e)
 ·exact(Bj _ _ (Ne.symm hb)).trans ((Bj _ _ (Ne.symm hb)).trans (AZ _ e))
theorem a0P {R:Cn→AC→Prop}(hh:A.handled=none)(hd:(d==BP)=false)(x:DicE s.heap d es ep)(hlen:es.size≤2^24)(S:AB)(hS:s.heap.get? S=some { cls:=.type "list", data:=.seq #[] })
  (hR:∀ h' tk acc' c',(∀ b o,b≠S→s.heap.get? b=some o→h'.get? b=some o)→h'.get? S=some { cls:=.type "list", dict:=none,data:=.seq acc' c',slots:=#[] } →
   DI (fun i v=>∃ e,es[i]?=some e∧v=e.key) acc' es.size→R (.ok (.ret .none)) { s with heap:=h',toks:=tk }) :
  AE (AH prog w) A.in1 (AM.«list.__init__» ⟨[.ref S,.ref d],[]⟩)
   (fun fin s'=>match fin with|.done f=>R (.ok f) s'|.again c'=>c'.quiet=true∧Bk (AH prog w) A c' R s') (fun e s'=>R (.error e) s') s:=by
 have hSd:S≠d:=fun e=>by
  obtain⟨o,ho,hc,_⟩:=x;rw[← e,hS] at ho; cases ho;exact absurd (show BG "list" = BG "dict" from hc.1) (by decide)
 show AE _ _ (do let old←Eu (.ref S); GG (.ref S) (fun _=>#[]); letGo old.toList.reverse; Ce (.ref S) (.ref d) .none) _ _ s;unfold Eu; refine AD (AD (Cb hS rfl (AG ?_)));show AE _ _ (Cc S (fun _=>#[]) >>= fun _=>letGo (#[]:Array AA).toList.reverse >>= fun _=>Ce (.ref S) (.ref d) .none) _ _ s;have oth:∀ b o,b≠S→s.heap.get? b=some o→(s.heap.update S (Aj (fun _=>(#[]:Array AA)))).get? b=some o:=fun b o hb e=>(Bj _ _ (Ne.symm hb)).trans e;refine AD (Cd hS rfl (AD (wpAny_letGo (a7V hh hd (x.up fun o e=>oth d o (Ne.symm hSd) e) hlen S .none _ (BV (Aj (fun _=>(#[]:Array AA))) hS rfl) fun h' tk acc' c' hk hS' hacc=>?_))));exact hR h' tk acc' c' (fun b o hb e=>hk b o hb (oth b o hb e)) hS' hacc
theorem aCN {Q:AA→AC→Prop}(hh:A.handled=none)(hd:(d==BP)=false)(x:DicE s.heap d es ep)(hlen:es.size≤2^24)
  (hQ:∀ h' tk acc' c',(∀ b o,s.heap.get? b=some o→h'.get? b=some o) →
   h'.get? s.heap.objs.size=some { cls:=.type "list", dict:=none,data:=.seq acc' c',slots:=#[] }→DI (fun i v=>∃ e,es[i]?=some e∧v=e.key) acc' es.size→Q (.ref s.heap.objs.size) { s with heap:=h',toks:=tk }) :
  AE (AH prog w) A (call (.type "list") [.ref d]) Q E s:=by
 refine callType_codes (Q₁:=fun obj s₁=>obj=.ref s.heap.objs.size∧s₁={ s with heap:=s.heap.push { cls:=.type "list", data:=.seq #[] } }) F.called_list (F.typeCall_list_1 _) F.entry_list_init (code_list_new _ ⟨rfl,rfl⟩) fun obj s₁ h₁=>?_;obtain⟨rfl,rfl⟩:=h₁;have hS:(s.heap.push { cls:=.type "list", data:=.seq #[] }).get? s.heap.objs.size=some { cls:=.type "list", data:=.seq #[] }:=Aq _ rfl;refine⟨⟨_,hS,rfl⟩,F.args_list_init_2 _ _,a0P (A:=A.in1) hh hd (x.up fun o e=>AZ _ e) hlen _ hS fun h' tk acc' c' hk hS' hacc=>?_⟩;exact⟨rfl,hQ h' tk acc' c' (fun b o e=>hk b o (Ag (AT e)) (AZ _ e)) hS' hacc⟩
end
section
variable {prog:AL}{w:AI}{K:Type}[DecidableEq K]{knd:HeapKind prog w K}{A:AV}{E:AA→AC→Prop}{s:AC}
theorem a5K {d a:AB}{xs:List (K×AB×AA)}{k:K}{v:AA}{Q:AA→AC→Prop}(hu:knd.room A)(hkey:knd.is s.heap k a)(hm:s.heap.DictOfH knd d xs)(hz:xs.length≤sizeLine)
  (old:∀(j:Nat) (p:AB×AA),xs[j]?=some (k,p)→Q p.2 { s with toks:=s.toks+knd.draws k })
  (new:(∀(j:Nat) (p:AB×AA),xs[j]?≠some (k,p))→∀ h' es ep,(∃ o,h'.get? d=some o∧o.ExactDict∧o.data=.dict es ep∧es.toList=(xs++[(k,a,v)]).map (Eh knd))→Ar d s.heap h'→Q v { s with heap:=h',toks:=s.toks+knd.draws k }) :
  AE (AH prog w) A (Fi d (.ref a) v) Q E s:=by
 obtain⟨o,es,ep,ho,hc,hd,he,his,hn⟩:=hm;unfold Fi; try with_reducible refine BB ?_
 refine AD (knd.pyHash hu hkey (AD (wpAny_dictFind_heap (s:={ s with toks:=s.toks+knd.draws k }) hu hkey ho hd he his hn (fun no=>?_) fun j p hj=>?_)))
 ·refine AD (Cm (AD (wpAny_updateDictKeys (hz:=by have e:=size_of_entries he; omega) (s:={ s with toks:=s.toks+knd.draws k }) ho hd (AG (new no _ _ (ep+1) ⟨_,BV _ ho (Obj.isFreed_of_dict (GP hd _)),hc.mapDictKeys _,GP hd _,?_⟩ (CI ..))))));simp[he,Eh]
 ·refine AD (Ex (s:={ s with toks:=s.toks+knd.draws k }) ho hd ?_); rw[entry_at he j,hj];exact AD (Cm (AG (old j p hj)))
theorem xU {d a:AB}{xs:List (K×AB×AA)}{k:K}{v:AA}{Q:AA→AC→Prop}(hu:knd.room A.in1)(hkey:knd.is s.heap k a)(hds:(d==BP)=false)(hm:s.heap.DictOfH knd d xs)(hz:xs.length≤sizeLine)
  (old:∀(j:Nat) (p:AB×AA),xs[j]?=some (k,p)→Q p.2 { s with toks:=s.toks+knd.draws k })
  (new:(∀(j:Nat) (p:AB×AA),xs[j]?≠some (k,p))→∀ h' es ep,(∃ o,h'.get? d=some o∧o.ExactDict∧o.data=.dict es ep∧es.toList=(xs++[(k,a,v)]).map (Eh knd))→Ar d s.heap h'→Q v { s with heap:=h',toks:=s.toks+knd.draws k }) :
  AE (AH prog w) A (call (.builtin "dict.setdefault") [.ref d,.ref a,v]) Q E s:=by
 refine Bm F.slot_dict_setdefault hm.typeIs F.entry_dict_setdefault ?_ (F.args_dict_setdefault_3 _ _ _);unfold AM.«dict.setdefault» AM.Dict.keyAndDefault; refine AD (AD (GK hm.typeIs ?_));show AE _ _ (pure (d,Ac a,some v)) _ _ s; refine AG ?_;show AE _ _ (if (d==BP)=true then _ else(Fi d (.ref a) v >>= _)) _ _ s; rw[if_neg (by rw[hds]; exact BZ)];exact AD (a5K hu hkey hm hz (fun j p hj=>AG ⟨_,rfl,old j p hj⟩) fun no h' es ep e z=>AG ⟨_,rfl,new no h' es ep e z⟩)
end
end PySem
namespace L2
open PySem PySem.Spec PyProof.Rows
def aBX (x:List Int×AB×AB):B8:=⟨reduceHash (DJ (x.1.map hashInt)),.ref x.2.1,.ref x.2.2⟩
def DicX (d:AB)(xs:List (List Int×AB×AB))(ep:Nat):HO:=.ext fun h=>DicE h d (xs.map aBX).toArray ep
section
variable {P:AL}{w:AI}{H:Hp}{h:AF}{p:AB}{xs:List (List Int×AB×AB)}{ep:Nat}
theorem s8 (ok:HOk P w H h)(e:H p=some (DicX p xs ep)):DicE h p (xs.map aBX).toArray ep:=(ok p _ e).1
theorem aES (x:DicE h p (xs.map aBX).toArray ep):ObjOk P w H h p (DicX p xs ep):=
 ⟨x,let ⟨o,e,_⟩:=x; ⟨o,e⟩,fun _ _ y k=>y.up k⟩
theorem aC0:∀{ks:List Int} {us:List AA},Vals (ks.map V.int) us→ItemsAre (Ax P w) ks us:=by
 intro ks us h
 induction ks generalizing us with
 | nil=>cases h; exact .nil
 | cons k ks ih=>
  cases h with
  | cons r t=>
   obtain⟨tk,rfl⟩:=r;exact .cons (Ew _ _ _ _) (ih t)
theorem xH {ks:List Int}{a:AB}(ok:HOk P w H h)(e:H a=some (.tup (ks.map V.int))):CG (Ax P w) h ks a:=by
 obtain⟨_,its,r,o,h1,h2,n,h3⟩:=(show ObjOk P w H h a (.tup (ks.map V.int)) from ok a _ e);exact⟨o,its.toArray,n,h1,h2,h3,by simpa using aC0 r⟩
theorem aJA:∀ n:Nat,∃ h:AF,h.objs.size=n
 | 0=>⟨{ objs:=#[] },rfl⟩
 | n+1=>let ⟨h,e⟩:=aJA n; ⟨h.push { cls:=.type "dict", data:=.dict #[] },by rw[B6,e]⟩
theorem DicX.inj {ys:List (List Int×AB×AB)}{ep':Nat}(e:DicX p xs ep=DicX p ys ep'):xs.map aBX=ys.map aBX:=by
 obtain⟨h0,hs⟩:=aJA p;unfold DicX at e;have q:=congrFun (HO.ext.inj e) (h0.push { cls:=.type "dict", data:=.dict (xs.map aBX).toArray ep });have g:(h0.push { cls:=.type "dict", data:=.dict (xs.map aBX).toArray ep }).get? p=some { cls:=.type "dict", data:=.dict (xs.map aBX).toArray ep }:=by rw[← hs]; exact Aq _ rfl
 obtain⟨o,h1,h2,h3⟩:=q.mp ⟨_,g,⟨rfl,rfl,rfl⟩,rfl⟩;rw[g] at h1; cases h1;injection h3 with h4 _;exact congrArg E9 h4
end
section
variable {X:Cx}
def aIY:TE:=fun _ H Q=>∀ p,H p=none→(p==BP)=false→Q (.ref p) (upd H p (DicX p [] 0))
theorem aHG {pos:Pos}:PE X (.Dict [] [] pos) aIY:=by
 intro pins s σ H Q I h;have big:BP<s.heap.objs.size:=Nat.lt_trans (by decide) (show Ao<s.heap.objs.size from(I.mod.glob.keeps I.bk).lt);refine wpAny_Dict_empty ⟨.ref s.heap.objs.size,_,I.laid (a:=s.heap.objs.size) (o:=DicX s.heap.objs.size [] 0) (t':=s.toks) (fun _ _ q=>AZ _ q) (AN _)
  (aES ⟨_,Aq _ rfl,⟨rfl,rfl,rfl⟩,rfl⟩),rfl,h _ (I.hok.fresh (AN _)) (beq_eq_false_iff_ne.mpr (Ne.symm (Ag big)))⟩
def aN7:V→List V→Hp→VK→Prop:=fun x vs H Q=>∃ p xs ep b k l,x=.ref p∧vs=[.ref b,.ref l]∧(p==BP)=false∧H p=some (DicX p xs ep)∧(xs.map (·.1)).Nodup ∧
 (∀ y∈xs,H y.2.1=some (.tup (y.1.map V.int)))∧H b=some (.tup (k.map V.int))∧xs.length≤1000 ∧
 (∀(j:Nat) c q,xs[j]?=some (k,c,q)→Q (.ref q) H)∧((∀ y∈xs,y.1≠k)→∀ ep',Q (.ref l) (upd H p (DicX p (xs++[(k,b,l)]) ep')))
theorem aLE (hu:X.A.units+64<Ai):MtM X "dict.setdefault" aN7:=by
 intro pins s σ H x vs v us Q I rx rv h;obtain⟨p,xs,ep,b,k,l,rfl,rfl,hp,e,nd,hk,hb,hz,old,new⟩:=h
 cases rx
 obtain⟨u1,u2,rfl,r1,r2⟩:=rv.two
 cases r1
 cases r2
 obtain⟨o,ho,hc,hd⟩:=s8 I.hok e;have hm:s.heap.DictOfH (EB (Ax X.prog X.w)) p (xs.map fun y=>(y.1,y.2.1,Ac y.2.2)):=by
  refine⟨o,_,ep,ho,hc,hd,by rw[A9]; rfl,fun y hy=>?_,by rw[A9]; exact nd⟩;obtain⟨z,hz,rfl⟩:=Ab.mp hy;exact xH I.hok (hk z hz)
 refine xU (knd:=EB (Ax X.prog X.w)) (show X.A.in1.units<Ai from by show X.A.units+1<Ai; omega) (xH I.hok hb) hp hm (by rw[AS]; exact eU hz) (fun j q hj=>?_) fun no h' es' ep' hx' sb=>?_
 ·rw[Aa] at hj
  cases ej:xs[j]? with
  | none=>rw[ej] at hj; cases hj
  | some y=>
   rw[ej] at hj;obtain⟨y1,y2,y3⟩:=y
   cases hj
   exact⟨.ref y3,H,I.tok _,rfl,old j y2 y3 ej⟩
 ·obtain⟨o',g1,g2,g3,g4⟩:=hx';refine⟨.ref l,_,I.write (x:=p) (e:=p) (by rw[e]; exact Dg) (.inl rfl) (fun c u hc q=>sb.extBut c u hc q) ⟨_,g1⟩ (aES (ep:=ep') ⟨o',g1,g2,?_⟩),rfl,new (fun y hy hyk=>?_) ep'⟩
  ·rw[g3]
   congr 1
   apply toList_inj.mp;rw[g4,Bi,Bi,A9];rfl
  ·obtain⟨j,hj⟩:=List.getElem?_of_mem hy;refine no j (y.2.1,Ac y.2.2) ?_;rw[Aa,hj,←hyk];rfl
def aRT (r:V→List V→Hp→VK→Prop)(to:TE)(t:TA):TE:=fun σ H Q=>to σ H fun x H1=>(∃ p xs ep,x=.ref p∧H1 p=some (DicX p xs ep))∧t σ H1 fun xs H2=>r x xs H2 Q
variable {o e:AR}{es:List AR}{to:TE}{t:TA}{name:Str}{apos cpos:Pos}{id:String}{r:V→List V→Hp→VK→Prop}
theorem aMY (slot:Slot "dict" name id)(hty:typeOf (.builtin id)=pure (.type "method_descriptor"))(hm:MtM X id r)(ho:PE X o to)(ha:PA X (e::es) t)
  (hbase:attributeBase o name X.env (Ah o X.env)=Ah o X.env:=by rfl)
  (hfew:((Bq cpos (Am (e::es) X.env)).all (fun x => !x.1)&&(backToKw cpos (keywordEach [] X.env)).all (fun x=>x.1.isSome)
   && decide ((e::es).length+([]:List EH).length+(if ([]:List EH).isEmpty then 0 else 1)<30))=true:=by rfl)
  (hline:(apos.endLine==cpos.line)=true:=by rfl) (hs:Am (e::es) X.env=(false,Ah e X.env)::Am es X.env:=by rfl) (hplain:(Bq cpos (Am es X.env)).any (·.1)=false:=by rfl) :
  PE X (.Call (.Attribute o name apos) (e::es) [] cpos) (aRT r to t):=by
 intro pins s σ H Q I h;refine F4 hbase hfew hline rfl (thn (ho pins s σ H _ I h) fun v s1 ⟨x,H1,I1,r1,⟨p,xs,n,ex,ep⟩,q1⟩=>?_);subst ex
 cases r1
 have d:=s8 I1.hok ep;have d':=d;obtain⟨ob,h1,h2,h3⟩:=d';refine⟨"dict", id,PySem.F.plainAttrs_dict,slot,hty,d.ty,fun a z=>?_,?_⟩
 ·cases z
  exact⟨ob,h1,h2.2.1⟩
 have hA:=ha cpos pins s1 σ H1 _ I1 q1;rw[hs] at hA ⊢;refine F5 (by show(false||(Bq cpos (Am es X.env)).any (·.1))=false; rw[hplain]<;>rfl) (F6 ?_);exact thn hA fun us s2 ⟨vs,H2,I2,r2,q2⟩=>hm pins s2 σ H2 (.ref p) vs (.ref p) us Q I2 rfl r2 q2
def aIQ:List V→Hp→VK→Prop:=fun vs H Q=>∃ p xs ep,vs=[.ref p]∧(p==BP)=false∧H p=some (DicX p xs ep)∧xs.length≤1000∧∀ l,H l=none→Q (.ref l) (upd H l (.lst (xs.map fun y=>V.ref y.2.1)))
theorem aBP (hc:X.calm=true):CallR X (.type "list") aIQ:=by
 intro pins s σ H xs us Q I r h;obtain⟨p,ys,ep,rfl,hp,e,hz,q⟩:=h;obtain⟨u,rfl,rx⟩:=vals1 r
 cases rx
 have d:=s8 I.hok e;have hsz:(ys.map aBX).toArray.size=ys.length:=by rw[Ak,AS]
 refine aCN (I.ok.hd hc) hp d (by omega) fun h' tk acc' c' kp e' it=>?_;have hl:(ys.map fun y=>V.ref y.2.1).length=acc'.toList.length:=by rw[AS,←hsz,←it.1]; simp
 have hv:Vals (ys.map fun y=>V.ref y.2.1) acc'.toList:=by
  refine a2I hl fun i x w e1 e2=>?_;obtain⟨en,z1,z2⟩:=it.2 i w (by simpa using e2);rw[← BX,Aa] at z1;rw[Aa] at e1
  cases e3:ys[i]? with
  | none=>rw[e3] at e1; cases e1
  | some y=>
   rw[e3] at e1 z1
   cases e1
   cases z1
   exact z2
 exact⟨.ref s.heap.objs.size,_,I.laid kp (AN _) (show ObjOk X.prog X.w _ h' _ (.lst (ys.map fun y=>V.ref y.2.1)) from⟨eU (by rw[AS]; exact hz),acc'.toList,c',hv,by simpa using e'⟩),rfl,q _ (I.hok.fresh (AN _))⟩
end
end L2
namespace L2.VS
open PySem PySem.Spec PyProof.Rows
section
variable {P0:AB→Hp→Prop}{A:Nat→Bool}
def aA3 (k:List Int):D:=.tuple (k.map .int)
theorem aIF {G:Hp}:∀{k:List Int} {vs:List V},Dts G vs (k.map .int)→vs=k.map V.int:=by
 intro k vs h
 induction k generalizing vs with
 | nil=>cases h; rfl
 | cons n k ih=>
  cases h with
  | cons a b=>
   cases a
   rw[ih b]; rfl
theorem aAF {G:Hp}{v:V}{k:List Int}(h:Dt G v (aA3 k)):∃ b,v=.ref b∧G b=some (.tup (k.map V.int)):=by
 cases h with
 | tup hp rs=>rw[aIF rs] at hp; exact⟨_,rfl,hp⟩
theorem a9S {G:Hp}:∀(k:List Int),Dts G (k.map V.int) (k.map .int)
 | []=>.nil
 | n::k=>.cons (.int n) (a9S k)
def DicRel (G H:Hp)(xs:List (List Int×AB×AB))(kds:List (List Int×List D)):Prop:=
 xs.length=kds.length∧∀(j:Nat) x kd,xs[j]?=some x→kds[j]?=some kd→x.1=kd.1∧G x.2.1=some (.tup (x.1.map V.int))∧∃ vs,H x.2.2=some (.lst vs)∧Dts G vs kd.2
theorem DicRel.at {G H:Hp}{xs:List (List Int×AB×AB)}{kds:List (List Int×List D)}(h:DicRel G H xs kds){j:Nat}{x:List Int×AB×AB}(e:xs[j]?=some x):∃ kd,kds[j]?=some kd∧x.1=kd.1∧G x.2.1=some (.tup (x.1.map V.int))∧∃ vs,H x.2.2=some (.lst vs)∧Dts G vs kd.2:=by
 have hj:j<kds.length:=by rw[← h.1]; exact(List.getElem?_eq_some_iff.mp e).1
 exact⟨_,AQ hj,h.2 j x _ e (AQ hj)⟩
theorem DicRel.keys {G H:Hp}{xs:List (List Int×AB×AB)}{kds:List (List Int×List D)}(h:DicRel G H xs kds):xs.map (·.1)=kds.map (·.1):=by
 refine Cv fun j=>?_;rw[Aa,Aa]
 cases e:xs[j]? with
 | none=>
  rw[List.getElem?_eq_none_iff] at e;rw[List.getElem?_eq_none_iff.mpr (by rw[← h.1]; exact e)]; rfl
 | some x=>
  obtain⟨kd,e1,e2,_⟩:=h.at e;rw[e1]; exact congrArg some e2
theorem DicRel.mem {G H:Hp}{xs:List (List Int×AB×AB)}{kds:List (List Int×List D)}(h:DicRel G H xs kds){x:List Int×AB×AB}(hx:x∈xs):G x.2.1=some (.tup (x.1.map V.int))∧∃ vs,H x.2.2=some (.lst vs):=by
 obtain⟨j,e⟩:=List.getElem?_of_mem hx;obtain⟨kd,_,_,e3,vs,e4,_⟩:=h.at e;exact⟨e3,vs,e4⟩
theorem DicRel.go {G H G' H':Hp}{xs:List (List Int×AB×AB)}{kds:List (List Int×List D)}(h:DicRel G H xs kds)(g:Same G G')(k:∀ b∈xs.map (·.2.2),H' b=H b):DicRel G' H' xs kds:=by
 refine⟨h.1,fun j x kd e1 e2=>?_⟩;obtain⟨a,b,vs,c,d⟩:=h.2 j x kd e1 e2;exact⟨a,g _ _ b,vs,(k _ (Ab.mpr ⟨x,BL e1,rfl⟩)).trans c,Dts.same g _ _ d⟩
def a01 (kds:List (List Int×List D)):Bx where
 P v fp G H:=∃ p xs,v=.ref p∧fp=p::xs.map (·.2.2)∧(p==BP)=false∧(∃ ep,H p=some (DicX p xs ep))∧(xs.map (·.1)).Nodup∧(xs.map (·.2.2)).Nodup∧DicRel G H xs kds
 mono g h:=by
  obtain⟨p,xs,h1,h2,h3,h4,h5,h6,h7⟩:=h;exact⟨p,xs,h1,h2,h3,h4,h5,h6,h7.go g fun _ _=>rfl⟩
 loc k h:=by
  obtain⟨p,xs,h1,h2,h3,h4,h5,h6,h7⟩:=h;subst h2;obtain⟨ep,h4⟩:=h4;exact⟨p,xs,h1,rfl,h3,⟨ep,(k p mem_cons_self).trans h4⟩,h5,h6,h7.go (Same.refl _) fun b hb=>k b (AU _ hb)⟩
 dom h b hb:=by
  obtain⟨p,xs,h1,h2,h3,h4,h5,h6,h7⟩:=h;subst h2;rcases AK.mp hb with e|e
  ·rw[e]; obtain⟨ep,h4⟩:=h4; exact⟨_,h4⟩
  ·obtain⟨x,hx,rfl⟩:=Ab.mp e;obtain⟨_,vs,z⟩:=h7.mem hx;exact⟨_,z⟩
 uniq h g:=by
  obtain⟨p,xs,h1,h2,h3,h4,h5,h6,h7⟩:=h;obtain⟨p',xs',g1,g2,g3,g4,g5,g6,g7⟩:=g;rw[h1] at g1; cases g1;obtain⟨ep,h4⟩:=h4;obtain⟨ep',g4⟩:=g4;rw[h4] at g4;have e:=DicX.inj (Az.inj g4);have e2:=congrArg (List.map fun z:B8=>match z.val with|.ref q=>q|_=>0) e;rw[A9,A9] at e2;rw[h2,g2];exact congrArg (p::·) e2
 nt h b hb ys e:=by
  obtain⟨p,xs,h1,h2,h3,h4,h5,h6,h7⟩:=h;subst h2;rcases AK.mp hb with z|z
  ·obtain⟨ep,h4⟩:=h4;rw[z,h4] at e; cases e
  ·obtain⟨x,hx,rfl⟩:=Ab.mp z;obtain⟨_,vs,z⟩:=h7.mem hx;rw[z] at e; cases e
 view:=none
 vok _ h:=by cases h
def aLF:MO:=fun Γ Q=>Q (.box (a01 [])) Γ
theorem aL9:VO P0 aIY aLF:=by
 intro F Γ σ G H Q Qm r m k p hp hs;have hP:(a01 []).P (.ref p) [p] G (upd H p (DicX p [] 0)):=⟨p,[],rfl,rfl,hs,⟨0,bO⟩,CP,CP,rfl,fun j x kd e=>by cases e⟩;refine k _ _ _ _ _ m (Same.refl _) (r.newP hp) ⟨[p],hP,fun b hb=>?_⟩ (Apart.newB r (fun fp h b hb=>?_) (Same.refl _) fun b o _ g e=>⟨g,by rw[aY (bA e hp)]; exact e⟩)
 ·rw[mem_singleton.mp hb]; exact⟨r.fr.fresh hp,r.fr.gfresh hp⟩
 ·rw[(a01 []).uniq h hP] at hb;rw[mem_singleton.mp hb]; exact hp
def aE8 (ma:MO):MO:=fun Γ Q=>ma Γ fun rv Γ1=>∃ kds,rv=.box (a01 kds)∧kds.length≤1000∧Q (.own (kds.map fun kd=>aA3 kd.1)) Γ1
theorem a9M {G H:Hp}:∀{xs:List (List Int×AB×AB)} {kds:List (List Int×List D)},DicRel G H xs kds→Dts G (xs.map fun y=>V.ref y.2.1) (kds.map fun kd=>aA3 kd.1):=by
 intro xs kds h
 induction xs generalizing kds with
 | nil=>
  cases kds with
  | nil=>exact .nil
  | cons a b=>cases h.1
 | cons x xs ih=>
  cases kds with
  | nil=>cases h.1
  | cons a b=>
   obtain⟨e1,e2,_⟩:=h.2 0 x a rfl rfl;refine .cons (.tup e2 ?_) (ih ⟨Nat.succ.inj h.1,fun j y kd f1 f2=>h.2 (j+1) y kd f1 f2⟩);rw[e1]; exact a9S _
theorem aIH {ta:TE}{ma:MO}(ha:VO P0 ta ma):VO P0 (tCB aIQ (fB ta xM)) (aE8 ma):=by
 intro F Γ σ G H Q Qm r m k;refine ha F Γ σ G H _ _ r m fun rv Γ1 x G1 H1 m1 s1 r1 d1 _=>?_;obtain⟨kds,rfl,hl,m1⟩:=m1;obtain⟨fp,⟨p,xs,rfl,h2,h3,⟨ep,h4⟩,h5,h6,h7⟩,_⟩:=d1;refine⟨p,xs,ep,rfl,h3,h4,by rw[h7.1]; exact hl,fun l hl=>?_⟩;obtain⟨a,b,c⟩:=lA r1 hl (a9M h7);exact k _ _ _ _ _ m1 s1 a b c
theorem wY {α:Type}{xs:List α}(h:xs.Nodup){i j:Nat}{hi:i<xs.length}{hj:j<xs.length}(e:xs[i]=xs[j]):i=j:=by
 rcases C3 i j with z|z|z
 ·exact absurd e (CQ.mp h i j hi hj z)
 ·exact z
 ·exact absurd e.symm (CQ.mp h j i hj hi z)
def a7N:List (List Int×List D)→List Int→D→List (List Int×List D)
 | [],k,e=>[(k,[e])]
 | (k',ds)::r,k,e=>if k'=k then(k',ds++[e])::r else(k',ds)::a7N r k e
theorem aHS {k:List Int}{e:D}:∀{kds:List (List Int×List D)},(∀ kd∈kds,kd.1≠k)→a7N kds k e=kds++[(k,[e])]:=by
 intro kds h
 induction kds with
 | nil=>rfl
 | cons a r ih=>
  obtain⟨k',ds⟩:=a;unfold a7N;rw[if_neg (h (k',ds) mem_cons_self),ih fun kd hk=>h kd (AU _ hk)];rfl
theorem aIO {k:List Int}{e:D}{ds:List D}:∀{kds:List (List Int×List D)} {j:Nat},(kds.map (·.1)).Nodup→kds[j]?=some (k,ds)→a7N kds k e=kds.set j (k,ds++[e]):=by
 intro kds j hn h
 induction kds generalizing j with
 | nil=>cases h
 | cons a r ih=>
  obtain⟨k',ds'⟩:=a;rw[BD,BS] at hn;unfold a7N
  cases j with
  | zero=>cases h; rw[if_pos rfl]; rfl
  | succ j=>
   have h':r[j]?=some (k,ds):=h;have hne:k'≠k:=fun z=>hn.1 (Ab.mpr ⟨_,BL h',z.symm⟩);rw[if_neg hne,ih hn.2 h'];rfl
def a7Y (i c a b:Nat):MS:=fun Γ Q=>∃ kds k d1 d2,Γ[i]?=some (.box (a01 kds))∧Γ[c]?=some (.val (aA3 k))∧Γ[a]?=some (.val d1)∧Γ[b]?=some (.val d2)∧kds.length<1000∧(∀ kd∈kds,kd.2.length<1000) ∧
 Q (.nx (Γ.set i (.box (a01 (a7N kds k (.tuple [d1,d2]))))))
theorem aFY {K:Fg}{i c a b:Nat}:VSA P0 A (aGR (tBM K "list" a87 (aRT aN7 (a7M i) (fB (a7M c) (fB (aP4 xM) xM))) (fB (aPP (fB (a7M a) (fB (a7M b) xM))) xM))) (a7Y i c a b):=by
 intro F Γ σ G H E Qm r hm k;obtain⟨kds,kk,d1,d2,e,ec,ea,eb,hlen,hall,hm⟩:=hm;obtain⟨v,fp,e1,⟨p,xs,rfl,rfl,hs,⟨ep,hD⟩,nd,nd2,rel⟩,e3⟩:=r.sl i _ e;obtain⟨vc,c1,c2⟩:=r.sl c _ ec;obtain⟨bk,rfl,hb⟩:=aAF c2;obtain⟨va,a1,a2⟩:=r.sl a _ ea;obtain⟨vb,b1,b2⟩:=r.sl b _ eb;have hkeys:(kds.map (·.1)).Nodup:=by rw[← rel.keys]; exact nd
 have hbH:=r.fr.sub _ _ hb;obtain⟨p1,p2⟩:=e3 p mem_cons_self;refine⟨_,e1,⟨p,xs,ep,rfl,hD⟩,_,c1,eU (by show 0≤1000; decide),fun l hl=>?_⟩;have lp:p≠l:=bA hD hl;refine⟨p,xs,ep,bk,kk,l,rfl,rfl,hs,by rw[aY lp]; exact hD,nd,fun y hy=>?_,by rw[aY (bA hbH hl)]; exact hbH,by rw[rel.1]; exact Bz hlen,fun j c0 q hj=>?_,fun no ep'=>?_⟩
 ·have z:=r.fr.sub _ _ (rel.mem hy).1;rw[aY (bA z hl)]; exact z
 ·obtain⟨⟨k',ds⟩,f1,f2,f3,vs,f4,f5⟩:=rel.at hj
  cases f2
  have hq:q∈xs.map (·.2.2):=Ab.mpr ⟨_,BL hj,rfl⟩;have ql:q≠l:=bA f4 hl;obtain⟨q1,q2⟩:=e3 q (AU _ hq);have hds:ds.length<1000:=hall _ (BL f1);refine⟨.inl ⟨rfl,vs,SqL.of (by rw[aY ql]; exact f4)⟩,_,a1,_,b1,eU (by show 2≤1000; decide),fun t ht=>?_⟩;have tl:t≠l:=fun z=>by rw[z,bO] at ht; cases ht
  have ht0:H t=none:=by rw[aY tl] at ht; exact ht
  have qt:q≠t:=bA f4 ht0;refine⟨q,vs,.ref t,rfl,rfl,by rw[aY qt,aY ql]; exact f4,pC (by rw[f5.len]; exact Bz hds),?_⟩;have r1:=r.new (o:=.tup [va,vb]) ht0;have g1:Same G (upd G t (.tup [va,vb])):=qJ (r.fr.gfresh ht0) _;have gq:upd G t (.tup [va,vb]) q=none:=by rw[aY qt]; exact q2
  have gl:upd G t (.tup [va,vb]) l=none:=by rw[aY (Ne.symm tl)]; exact r.fr.gfresh hl
  have hE:upd (upd (upd H l (.lst [])) t (.tup [va,vb])) q (.lst (vs++[.ref t]))=upd (upd (upd H t (.tup [va,vb])) l (.lst [])) q (.lst (vs++[.ref t])):=by
   funext z
   unfold upd
   by_cases z1:z=q
   ·rw[if_pos z1,if_pos z1]
   ·rw[if_neg z1,if_neg z1]
    by_cases z2:z=t
    ·rw[if_pos z2,if_neg (fun y=>tl (z2.symm.trans y)),if_pos z2]
    ·rw[if_neg z2,if_neg z2]
  rw[hE];refine k _ hm _ _ _ g1 (r1.writeF e ((r1.fr.priv (r.fr.fresh hl) gl).priv q1 gq) fun fp0 hf=>?_) fun _ _=>rfl;obtain⟨v',w1,w2,w3⟩:=hf;rw[e1] at w1; cases w1;have pt:p≠t:=bA hD ht0;have old:∀ z∈p::xs.map (·.2.2),z≠l∧z≠t:=fun z hz=>by
   rcases AK.mp hz with y|y
   ·rw[y]; exact⟨lp,pt⟩
   ·obtain⟨x,hx,rfl⟩:=Ab.mp y;obtain⟨_,vs',y2⟩:=rel.mem hx;exact⟨bA y2 hl,bA y2 ht0⟩
  have hP:(a01 kds).P (.ref p) (p::xs.map (·.2.2)) (upd G t (.tup [va,vb])) (upd H t (.tup [va,vb])):=(a01 kds).loc (fun z hz=>aY (old z hz).2) ((a01 kds).mono g1 ⟨p,xs,rfl,rfl,hs,⟨ep,hD⟩,nd,nd2,rel⟩);have ef:=(a01 kds).uniq w2 hP;subst ef;have pq:p≠q:=aO6 hD f4 (fun z=>nomatch z);refine⟨p::xs.map (·.2.2),⟨.ref p,e1,⟨p,xs,rfl,rfl,hs,⟨ep,by rw[aY pq,aY lp,aY pt]; exact hD⟩,nd,nd2,?_⟩,fun z hz=>w3 z hz⟩,fun z hz ⟨o,ho⟩=>⟨?_,hz⟩⟩
  ·rw[aIO hkeys f1];refine⟨by rw[CO]; exact rel.1,fun j' x' kd' y1 y2=>?_⟩
   by_cases hj':j=j'
   ·subst hj';rw[hj] at y1; cases y1;rw[Bn (List.getElem?_eq_some_iff.mp f1).1] at y2
    cases y2
    exact⟨rfl,by rw[aY (bA (r.fr.sub _ _ f3) ht0)]; exact f3,_,bO,(Dts.same g1 _ _ f5).app (.cons (.tup bO (.cons (Dt.same g1 _ _ a2) (.cons (Dt.same g1 _ _ b2) .nil))) .nil)⟩
   ·rw[Bh hj'] at y2;obtain⟨z1,z2,vs',z3,z4⟩:=rel.2 j' x' kd' y1 y2;have hne:x'.2.2≠q:=fun z=>by
     have n1:(xs.map (·.2.2))[j']?=some q:=by rw[Aa,y1]; exact congrArg some z
     have n2:(xs.map (·.2.2))[j]?=some q:=by rw[Aa,hj]; rfl
     obtain⟨l1,m1⟩:=List.getElem?_eq_some_iff.mp n1;obtain⟨l2,m2⟩:=List.getElem?_eq_some_iff.mp n2;exact hj' (wY nd2 (m2.trans m1.symm))
    exact⟨z1,by rw[aY (bA (r.fr.sub _ _ z2) ht0)]; exact z2,vs',by rw[aY hne,aY (bA z3 hl),aY (bA z3 ht0)]; exact z3,Dts.same g1 _ _ z4⟩
  ·have zq:z≠q:=fun y=>hz (by rw[y]; exact AU _ hq);have zl:z≠l:=fun y=>by
    rw[y,aY (Ne.symm tl),hl] at ho; cases ho
   rw[aY zq,aY zl]
 ·have lt:∀ y∈xs,y.2.2≠l:=fun y hy=>by
   obtain⟨_,vs',y2⟩:=rel.mem hy;exact bA y2 hl
  refine⟨.inl ⟨rfl,[],SqL.of (by rw[aY (Ne.symm lp)]; exact bO)⟩,_,a1,_,b1,eU (by show 2≤1000; decide),fun t ht=>?_⟩;have tp:t≠p:=fun z=>by rw[z,bO] at ht; cases ht
  have tl:t≠l:=fun z=>by rw[z,aY (Ne.symm lp),bO] at ht; cases ht
  have ht0:H t=none:=by rw[aY tp,aY tl] at ht; exact ht
  refine⟨l,[],.ref t,rfl,rfl,by rw[aY (Ne.symm tl),aY (Ne.symm lp)]; exact bO,pC (by decide),?_⟩;have r1:=r.new (o:=.tup [va,vb]) ht0;have g1:Same G (upd G t (.tup [va,vb])):=qJ (r.fr.gfresh ht0) _;have gp:upd G t (.tup [va,vb]) p=none:=by rw[aY (Ne.symm tp)]; exact p2
  have gl:upd G t (.tup [va,vb]) l=none:=by rw[aY (Ne.symm tl)]; exact r.fr.gfresh hl
  have hE:upd (upd (upd (upd H l (.lst [])) p (DicX p (xs++[(kk,bk,l)]) ep')) t (.tup [va,vb])) l (.lst ([]++[.ref t]))=upd (upd (upd H t (.tup [va,vb])) p (DicX p (xs++[(kk,bk,l)]) ep')) l (.lst [.ref t]):=by
   funext z
   unfold upd
   by_cases z1:z=l
   ·subst z1; simp
   ·by_cases z2:z=t
    ·subst z2; simp[tp,tl]
    ·by_cases z3:z=p
     ·subst z3; simp[z1,z2]
     ·simp[z1,z2,z3]
  rw[hE];refine k _ hm _ _ _ g1 (r1.writeF e ((r1.fr.priv p1 gp).priv (r.fr.fresh hl) gl) fun fp0 hf=>?_) fun _ _=>rfl;obtain⟨v',w1,w2,w3⟩:=hf;rw[e1] at w1; cases w1;have hP:(a01 kds).P (.ref p) (p::xs.map (·.2.2)) (upd G t (.tup [va,vb])) (upd H t (.tup [va,vb])):=by
   refine(a01 kds).loc (fun z hz=>aY ?_) ((a01 kds).mono g1 ⟨p,xs,rfl,rfl,hs,⟨ep,hD⟩,nd,nd2,rel⟩);rcases AK.mp hz with y|y
   ·rw[y]; exact Ne.symm tp
   ·obtain⟨x,hx,rfl⟩:=Ab.mp y;obtain⟨_,vs',y2⟩:=rel.mem hx;exact bA y2 ht0
  have ef:=(a01 kds).uniq w2 hP;subst ef;have nok:∀ kd∈kds,kd.1≠kk:=fun kd hk z=>by
   have:kk∈xs.map (·.1):=by rw[rel.keys]; exact Ab.mpr ⟨kd,hk,z⟩
   obtain⟨y,hy,hz⟩:=Ab.mp this;exact no y hy hz
  refine⟨p::(xs++[(kk,bk,l)]).map (·.2.2),⟨.ref p,e1,⟨p,xs++[(kk,bk,l)],rfl,rfl,hs,⟨ep',by rw[aY lp]; exact bO⟩,?_,?_,?_⟩,fun z hz=>?_⟩,fun z hz ⟨o,ho⟩=>⟨?_,fun hc=>?_⟩⟩
  ·rw[Bi,DT];refine⟨nd,BS.mpr ⟨fun z=>(nomatch z),CP⟩,fun x hx y hy z=>?_⟩;obtain⟨x',hx',rfl⟩:=Ab.mp hx;rw[mem_singleton.mp hy] at z;exact no x' hx' z
  ·rw[Bi,DT];refine⟨nd2,BS.mpr ⟨fun z=>(nomatch z),CP⟩,fun x hx y hy z=>?_⟩;obtain⟨x',hx',rfl⟩:=Ab.mp hx;rw[mem_singleton.mp hy] at z;exact lt x' hx' z
  ·rw[aHS nok];refine⟨by rw[BN,BN,rel.1]; rfl,fun j' x' kd' y1 y2=>?_⟩
   by_cases hj:j'<xs.length
   ·rw[Bu hj] at y1;rw[Bu (by rw[← rel.1]; exact hj)] at y2;obtain⟨z1,z2,vs',z3,z4⟩:=rel.2 j' x' kd' y1 y2;have zp:x'.2.2≠p:=Ne.symm (aO6 hD z3 (fun z=>nomatch z));exact⟨z1,by rw[aY (bA (r.fr.sub _ _ z2) ht0)]; exact z2,vs',by rw[aY (bA z3 hl),aY zp,aY (bA z3 ht0)]; exact z3,Dts.same g1 _ _ z4⟩
   ·have hj2:j'-xs.length=0:=by
     have:=(List.getElem?_eq_some_iff.mp y1).1;rw[BN] at this;simp only[An,Ch] at this;omega
    rw[B3 (not_lt.mp hj),hj2] at y1;rw[B3 (by rw[← rel.1]; exact not_lt.mp hj),←rel.1,hj2] at y2
    cases y1
    cases y2
    exact⟨rfl,by rw[aY (bA hbH ht0)]; exact hb,_,bO,.cons (.tup bO (.cons (Dt.same g1 _ _ a2) (.cons (Dt.same g1 _ _ b2) .nil))) .nil⟩
  ·rw[Bi] at hz;rcases AK.mp hz with y|y
   ·exact w3 z (by rw[y]; exact mem_cons_self)
   ·rcases BO.mp y with y|y
    ·exact w3 z (AU _ y)
    ·rw[mem_singleton.mp y]; exact⟨r.fr.fresh hl,gl⟩
  ·have zp:z≠p:=fun y=>hz (by rw[y]; exact mem_cons_self);have zl:z≠l:=fun y=>by
    rw[y,aY (Ne.symm tl),hl] at ho; cases ho
   rw[aY zl,aY zp]
  ·rw[Bi] at hc;rcases AK.mp hc with y|y
   ·exact hz (by rw[y]; exact mem_cons_self)
   ·rcases BO.mp y with y|y
    ·exact hz (AU _ y)
    ·rw[mem_singleton.mp y,aY (Ne.symm tl),hl] at ho; cases ho
theorem aMS {Γ:En}{Q:Rv→En→Prop}(h:Q (.box (a01 [])) Γ):aLF Γ Q:=h
theorem aIK {i c a b:Nat}{Γ:En}{Q:Fl→Prop}{kds:List (List Int×List D)}{k:List Int}{d1 d2:D}(h1:Γ[i]?=some (.box (a01 kds)))(h2:Γ[c]?=some (.val (aA3 k)))(h3:Γ[a]?=some (.val d1))(h4:Γ[b]?=some (.val d2))(h5:kds.length<1000)(h6:∀ kd∈kds,kd.2.length<1000)
  (h:Q (.nx (Γ.set i (.box (a01 (a7N kds k (.tuple [d1,d2]))))))):a7Y i c a b Γ Q:=⟨kds,k,d1,d2,h1,h2,h3,h4,h5,h6,h⟩
theorem aKL {ma:MO}{Γ:En}{Q:Rv→En→Prop}(h:ma Γ fun rv Γ1=>∃ kds,rv=.box (a01 kds)∧kds.length≤1000∧Q (.own (kds.map fun kd=>aA3 kd.1)) Γ1):aE8 ma Γ Q:=h
end
section
variable {P0:AB→Hp→Prop}{ta tb:TE}{ma mb:ME}
end
end L2.VS
namespace L2
open PySem PySem.Spec PyProof.Rows
def Itd (p:AB)(xs:List (List Int×AB×AB))(ep:Nat):It:=
 ⟨fun i H=>H p=some (DicX p xs ep)∧i<xs.length,fun i H x H'=>H'=H∧∃ y,xs[i]?=some y∧x=.ref y.2.1,fun i H=>H p=some (DicX p xs ep)∧i=xs.length⟩
theorem aHP {P:AL}{w:AI}{K:Fg}{tg:AR}(p it:AB)(xs:List (List Int×AB×AB))(ep:Nat):Turn P w K tg (Itd p xs ep) [it] it (fun i h=>h.IsKeyIter it p i xs.length ep) where
 mem:=by simp
 obj:=fun i h st b hb=>by
  have e:b=it:=by simpa using hb
  subst e;obtain⟨o,e,c,d⟩:=st;exact⟨o,e,fun v z=>by rw[d] at z; cases z⟩
 keep:=fun i h h' st k=>st.at fun o e=>k it (by simp) o e
 item:=by
  intro X hP hw hK hc i pins s σ H E I hf st hg;subst hP hw hK;obtain⟨hd,hi⟩:=hg;have d:=s8 I.hok hd;obtain⟨f0,f1,f2,f3,f4,f5⟩:=hf it (by simp);have hsz:(xs.map aBX).toArray.size=xs.length:=by rw[Ak,AS]
  have hx:xs[i]?=some xs[i]:=AQ hi;refine a6H (e:=aBX xs[i]) (by rw[hsz]; exact st) d (by rw[← BX,Aa,hx]; rfl) fun h' st' sb=>?_;rw[hsz] at st';have I1:Inv X pins σ H { s with heap:=h' }:=I.turned (t':=s.toks) (fun b o hb e=>(sb.2 b hb).trans e) f0 f1 f3 f4 f5;obtain⟨o,e,c,z⟩:=id st';exact⟨_,rfl,aIG (s:={ s with heap:=h' }) e c z (by decide) ⟨.ref xs[i].2.1,H,I1,rfl,⟨rfl,_,hx,rfl⟩,st',fun b hb=>(hf b hb).1⟩⟩
 done:=by
  intro X hP hw hK hc i pins s σ H E I hf st hg;subst hP hw hK;obtain⟨hd,hi⟩:=hg;have d:=s8 I.hok hd;obtain⟨f0,f1,f2,f3,f4,f5⟩:=hf it (by simp);have hsz:(xs.map aBX).toArray.size=xs.length:=by rw[Ak,AS]
  exact aAW (I.ok.hd hc) (by rw[hsz]; exact hi▸st) d fun h' eb=>⟨rfl,I.turned (t':=s.toks) (fun b o hb e=>eb b o hb e) f0 f1 f3 f4 f5⟩
 self:=fun _ _ _ _ _ st h=>GN st h
def aRQ (tl:TE):TI:=fun σ H R=>tl σ H fun x H1=>∃ p xs ep,x=.ref p∧(p==BP)=false∧H1 p=some (DicX p xs ep)∧R (Itd p xs ep) H1
theorem aO2 {X:Cx}{tg l:AR}{tl:TE}(hl:PE X l tl):PI X tg l (aRQ tl):=by
 intro pins s σ H R I h;refine thn (hl pins s σ H _ I h) fun v s1 ⟨x,H1,I1,r1,q1⟩=>?_;obtain⟨p,xs,ep,e,hp,hd,q⟩:=q1;subst e
 cases r1
 have hsz:(xs.map aBX).toArray.size=xs.length:=by rw[Ak,AS]
 refine a4Z hp (s8 I1.hok hd) ?_;refine⟨s1.heap.objs.size,[s1.heap.objs.size],_,_,H1,rfl,I1.kept (t':=s1.toks) fun b o e=>AZ _ e,aHP p _ xs ep,⟨_,Aq _ rfl,rfl,by rw[hsz]; rfl⟩,fun b hb=>?_,q⟩;have e:b=s1.heap.objs.size:=by simpa using hb
 subst e;exact I1.fpOk (AN _) (I1.hok.fresh (AN _))
def aRW:R2:=fun x y H Q=>∃(p:AB) (xs:List (List Int×AB×AB)) (ep:Nat) (b:AB) (k:List Int) (j:Nat) (c q:AB),x=.ref p∧y=.ref b∧H p=some (DicX p xs ep)∧(xs.map (·.1)).Nodup∧(∀ y∈xs,H y.2.1=some (.tup (y.1.map V.int)))∧H b=some (.tup (k.map V.int))∧xs[j]?=some (k,c,q)∧Q (.ref q) H
theorem aNO {X:Cx}(hu:X.A.units+64<Ai):IxR X aRW:=by
 intro value slice pins s σ H x y v u Q I rx ry h hs;obtain⟨p,xs,ep,b,k,j,c,q,rfl,rfl,e,nd,hk,hb,hj,hq⟩:=h
 cases rx
 cases ry
 obtain⟨o,ho,hc,hd⟩:=s8 I.hok e;have hm:s.heap.DictOfH (EB (Ax X.prog X.w)) p (xs.map fun y=>(y.1,y.2.1,Ac y.2.2)):=by
  refine⟨o,_,ep,ho,hc,hd,by rw[A9]; rfl,fun y hy=>?_,by rw[A9]; exact nd⟩;obtain⟨z,hz,rfl⟩:=Ab.mp hy;exact xH I.hok (hk z hz)
 have hat:atKey (xs.map fun y=>(y.1,y.2.1,Ac y.2.2)) k=some (c,Ac q):=atKey_of_get (i:=j) (xs:=xs.map fun y=>(y.1,y.2.1,Ac y.2.2)) (by rw[A9]; exact nd) (by rw[Aa,hj]; rfl);exact FH (x:=.ref q) hm.typeIs PySem.F.slot_dict_getitem.lookup
  (wpAny_getItem_heap (knd:=EB (Ax X.prog X.w)) (Q:=fun r s'=>r=.ref q∧EP X pins σ Q r s') (show X.A.in1.units<Ai from by show X.A.units+1<Ai; omega) (xH I.hok hb) hm hat ⟨rfl,.ref q,H,I.tok _,rfl,hq⟩) hs
end L2
namespace L2.VS
open PySem PySem.Spec PyProof.Rows
section
variable {P0:AB→Hp→Prop}{A:Nat→Bool}
def aLK (kds:List (List Int×List D)):Pb where
 P v G:=∃ p xs ep,v=.ref p∧(p==BP)=false∧G p=some (DicX p xs ep)∧(xs.map (·.1)).Nodup∧DicRel G G xs kds
 mono g h:=by
  obtain⟨p,xs,ep,h1,h2,h3,h4,h5⟩:=h;refine⟨p,xs,ep,h1,h2,g _ _ h3,h4,h5.1,fun j x kd e1 e2=>?_⟩;obtain⟨a,b,vs,c,d⟩:=h5.2 j x kd e1 e2;exact⟨a,g _ _ b,vs,g _ _ c,Dts.same g _ _ d⟩
section
variable {F:Fra P0}{Γ:En}{σ:St}{G H:Hp}
theorem R.giveP (r:R F Γ σ G H){v:V}{B:Bx}(h:RvO F G H v (.box B))(ha:Apart F Γ σ G H v (.box B)):∃ G' fp,Same G G'∧R F Γ σ G' H∧B.P v fp G' H∧∀ b∈fp,G' b=H b:=by
 obtain⟨fp,e1,e2⟩:=h;have g:Same G (fun b=>if b∈fp then H b else G b):=fun b o e=>by
  show(if b∈fp then H b else G b)=some o
  rw[if_neg (fun z=>by rw[(e2 b z).2] at e; cases e)];exact e
 refine⟨fun b=>if b∈fp then H b else G b,fp,g,r.keep ⟨fun b o e=>?_,fun b o e=>?_,r.fr.h0,r.fr.pn⟩ g fun q u hq _ eg eh=>⟨?_,eh⟩,B.mono g e1,fun b hb=>if_pos hb⟩
 ·have e:(if b∈fp then H b else G b)=some o:=e
  split at e
  ·exact e
  ·exact r.fr.sub b o e
 ·show(if b∈fp then H b else G b)=_
  rw[if_neg (fun z=>by rw[(e2 b z).1] at e; cases e)];exact r.fr.g0 b o e
 ·obtain⟨i,s,f,a1,a2,a3⟩:=hq
  show(if q∈fp then H q else G q)=none
  rw[if_neg fun z=>ha i s f fp a1 a2 e1 q z a3];exact eg
theorem R.setP (r:R F Γ σ G H){i:Nat}{v:V}{B:Pb}(h:B.P v G):R F (Γ.set i (.pub B)) (σ.set i (some v)) G H:=by
 obtain⟨fps,h1,h2⟩:=r.fps;have lt:∀{m:Nat} {z},(Γ.set i (.pub B))[m]?=some z→m<Γ.length:=fun e=>by
  have:=(List.getElem?_eq_some_iff.mp e).1;simpa using this
 have old:∀{m:Nat} {z},m≠i→(Γ.set i (.pub B))[m]?=some z→Γ[m]?=some z:=fun hm e=>by rw[Bh (Ne.symm hm)] at e; exact e
 refine⟨r.fr,by rw[CO,CO]; exact r.len,fun j=>if j=i then[] else fps j,fun j s e=>?_,fun j k s t ej ek hjk b hb hc=>?_⟩
 ·dsimp only
  by_cases hj:j=i
  ·subst hj;have hi:=lt e;rw[Bn hi] at e;rw[if_pos rfl,Bn (by rw[← r.len]; exact hi)]
   cases e
   exact⟨rfl,v,rfl,h⟩
  ·rw[if_neg hj,Bh (Ne.symm hj)];exact h1 j s (old hj e)
 ·dsimp only at hb hc
  by_cases hj:j=i
  ·rw[if_pos hj] at hb; cases hb
  ·rw[if_neg hj] at hb
   by_cases hk:k=i
   ·rw[if_pos hk] at hc; cases hc
   ·rw[if_neg hk] at hc;exact h2 j k s t (old hj ej) (old hk ek) hjk b hb hc
end
def aQO (i:Nat):MD:=fun Γ Q=>∃ kds,Γ[i]?=some (.pub (aLK kds))∧Q (kds.map fun kd=>aA3 kd.1) Γ
theorem aOU {i:Nat}:VI P0 (aRQ (a7M i)) (aQO i):=by
 intro F Γ σ G H Q Qm r m k;obtain⟨kds,e,m⟩:=m;obtain⟨v,e1,p,xs,ep,rfl,h2,h3,h4,h5⟩:=r.sl i _ e;have hk:=a9M h5;refine⟨_,e1,p,xs,ep,rfl,h2,r.fr.sub _ _ h3,k _ _ _ _ _ m (Same.refl _) r fun F2 Γ2 σ2 G2 H2 s2 r2=>⟨fun j d ed=>?_,?_⟩⟩
 ·obtain⟨u,ev,dv⟩:=Dts.get hk ed;rw[Aa] at ev
  cases ex:xs[j]? with
  | none=>rw[ex] at ev; cases ev
  | some y=>
   rw[ex] at ev
   cases ev
   refine⟨⟨r2.fr.sub _ _ (s2 _ _ h3),(List.getElem?_eq_some_iff.mp ex).1⟩,fun y2 H3 hy=>⟨G2,Same.refl _,?_⟩⟩;obtain⟨rfl,y',hy1,rfl⟩:=hy;rw[ex] at hy1; cases hy1;exact⟨r2,Dt.same s2 _ _ dv⟩
 ·refine⟨r2.fr.sub _ _ (s2 _ _ h3),?_⟩;rw[AS]; exact h5.1.symm
def aKW (i:Nat)(mo:MO):MS:=fun Γ Q=>mo Γ fun rv Γ1=>∃ kds,rv=.box (a01 kds)∧Q (.nx (Γ1.set i (.pub (aLK kds))))
theorem aKO {i:Nat}{t:TE}{m:MO}(h:VO P0 t m)(hA:A i=true:=by rfl):VSA P0 A (aKA t (a68 i)) (aKW i m):=by
 intro F Γ σ G H E Qm r hm k;refine h F Γ σ G H _ _ r hm fun rv Γ1 x G1 H1 m1 s1 r1 d1 a1=>?_;obtain⟨kds,rfl,m1⟩:=m1;obtain⟨G2,fp,s2,r2,⟨p,xs,rfl,rfl,h3,⟨ep,h4⟩,h5,h6,h7⟩,hg⟩:=R.giveP r1 d1 a1;refine k _ m1 _ _ _ (s1.trans s2) (R.setP r2 ⟨p,xs,ep,rfl,h3,(hg p mem_cons_self).trans h4,h5,h7.go (Same.refl _) fun b hb=>hg b (AU _ hb)⟩) (uL hA)
def aP9 (i:Nat)(mk:ME):ME:=fun Γ Q=>∃ kds,Γ[i]?=some (.pub (aLK kds))∧mk Γ fun y Γ1=>∃(k:List Int) (ds:List D) (j:Nat),y=aA3 k∧kds[j]?=some (k,ds)∧Q (.list ds) Γ1
theorem aN9 {i:Nat}{tk:TE}{mk:ME}(hk:VT P0 tk mk):VT P0 (tOp aRW (a7M i) tk) (aP9 i mk):=by
 intro F Γ σ G H Q Qm r m k;obtain⟨kds,e,m⟩:=m;obtain⟨v,e1,hP⟩:=r.sl i _ e;refine⟨_,e1,hk F Γ σ G H _ _ r m fun y Γ1 x G1 H1 m1 s1 r1 d1=>?_⟩;obtain⟨kk,ds,j,rfl,hj,m1⟩:=m1;obtain⟨p,xs,ep,rfl,h2,h3,h4,h5⟩:=(aLK kds).mono s1 hP;obtain⟨b,rfl,hb⟩:=aAF d1;have hlt:j<xs.length:=by rw[h5.1]; exact(List.getElem?_eq_some_iff.mp hj).1
 obtain⟨a1,a2,vs,a3,a4⟩:=h5.2 j _ _ (AQ hlt) hj;have hx:xs[j]?=some (kk,xs[j].2.1,xs[j].2.2):=by
  rw[AQ hlt];exact congrArg some (EM a1 rfl)
 refine⟨p,xs,ep,b,kk,j,_,_,rfl,rfl,r1.fr.sub _ _ h3,h4,fun y hy=>r1.fr.sub _ _ (h5.mem hy).1,r1.fr.sub _ _ hb,hx,?_⟩;exact k _ _ _ _ _ m1 s1 r1 (.lst a3 a4)
theorem aMJ {i:Nat}{mo:MO}{Γ:En}{Q:Fl→Prop}(h:mo Γ fun rv Γ1=>∃ kds,rv=.box (a01 kds)∧Q (.nx (Γ1.set i (.pub (aLK kds))))):aKW i mo Γ Q:=h
theorem aPD {i:Nat}{Γ:En}{Q:List D→En→Prop}{kds:List (List Int×List D)}(h0:Γ[i]?=some (.pub (aLK kds)))(h:Q (kds.map fun kd=>aA3 kd.1) Γ):aQO i Γ Q:=⟨kds,h0,h⟩
theorem aQE {i:Nat}{mk:ME}{Γ:En}{Q:D→En→Prop}{kds:List (List Int×List D)}(h0:Γ[i]?=some (.pub (aLK kds)))(h:mk Γ fun y Γ1=>∃(k:List Int) (ds:List D) (j:Nat),y=aA3 k∧kds[j]?=some (k,ds)∧Q (.list ds) Γ1):aP9 i mk Γ Q:=⟨kds,h0,h⟩
end
end L2.VS
namespace L2
open PySem PySem.Calls PyProof.Rows PySem.W
section
variable {cmp:Nat→Nat→(Bool→AC→Prop)→AC→Prop}
end
section
variable {prog:AL}{w:AI}{A:AV}{E:AA→AC→Prop}{s:AC}{Q:Bool→AC→Prop}
def yJ (p q:Int×Int):Bool:=if p.1=q.1 then decide (p.2<q.2) else decide (p.1<q.1)
theorem aLD {x y:AB}{ox oy:Obj}{n m:Nat}{a b c d:Int}{ta tb tc td:Tok}(hx:s.heap.get? x=some ox)(dx:ox.data=.seq #[.int a ta,.int b tb] n)(hy:s.heap.get? y=some oy)(dy:oy.data=.seq #[.int c tc,.int d td] m)
  (h:Q (yJ (a,b) (c,d)) s):AE (AH prog w) A (keyLt' (tuples' true) (.ref x) (.ref y)) Q E s:=by
 refine kat_lt hx dx hy dy ?_;show KatLex prog w A true _ Q [(.int a ta,.int c tc),(.int b tb,.int d td)] 0 s;refine kat_cons (E8 ?_);unfold yJ at h;dsimp only at h
 by_cases e:a=c
 ·rw[if_pos e] at h;rw[beq_iff_eq.mpr e];refine kat_yes (kat_cons (E8 ?_))
  by_cases f:b=d
  ·rw[beq_iff_eq.mpr f];refine kat_yes (kat_nil ?_);rw[decide_eq_false (by omega)] at h;exact h
  ·rw[beq_eq_false_iff_ne.mpr f];refine kat_no (kat_one _ _ ?_);exact F1 h
 ·rw[if_neg e] at h;rw[beq_eq_false_iff_ne.mpr e];refine kat_no ?_;exact oneLt_int h
end
theorem aDR (h:AF)(L:Nat):∃ h₀:AF,h₀.objs.size≤L∧(∀ b o,h₀.get? b=some o→h.get? b=some o)∧∀ b o,b<L→h.get? b=some o→h₀.get? b=some o:=by
 have sz:(h.objs.extract 0 L).size=min L h.objs.size:=by simp
 have at_:∀ b:Nat,b<L→b<h.objs.size→(h.objs.extract 0 L)[b]?=h.objs[b]?:=fun b h1 h2=>by
  rw[Array.getElem?_extract,if_pos (by omega),DY]
 refine⟨{ h with objs:=h.objs.extract 0 L },by show(h.objs.extract 0 L).size≤L; rw[sz]; exact Ci _ _,fun b o e=>?_,fun b o hb e=>?_⟩
 ·have hb:b<min L h.objs.size:=by rw[← sz]; exact AT e
  have z:=at_ b (Al hb (Ci _ _)) (Al hb (Nat.min_le_right _ _))
  unfold AF.get? at e ⊢;simp only[z] at e;exact e
 ·have z:=at_ b hb (AT e)
  unfold AF.get? at e ⊢;simp only[z];exact e
theorem a6S (h:AF)(L:Nat):∃ news:List (AB×Obj),(∀ p∈news,h.get? p.1=some p.2∧L<p.1)∧∀ b o,L<b→h.get? b=some o→(b,o)∈news:=by
 refine⟨(List.range h.objs.size).filterMap fun b=>if L<b then(h.get? b).map fun o=>(b,o) else none,fun p hp=>?_,fun b o hb e=>?_⟩
 ·obtain⟨b,_,hb⟩:=C0.mp hp
  split at hb
  ·rename_i hl
   cases e:h.get? b with
   | none=>rw[e] at hb; cases hb
   | some o=>rw[e] at hb; cases hb; exact⟨e,hl⟩
  ·cases hb
 ·refine C0.mpr ⟨b,A2.mpr (AT e),?_⟩;rw[if_pos hb,e];rfl
def aM5 (h:AF)(L:AB)(v:AA)(k:Int×Int):Prop:=∃ a o n t u,v=.ref a∧a≠L∧h.get? a=some o∧o.cls=.type "tuple" ∧ o.data=.seq #[.int k.1 t,.int k.2 u] n
theorem aBM {h:AF}{L:AB}{vs:List AA}{ks:List (Int×Int)}(hp:AX (aM5 h L) vs ks):∃ fs,KatTups h vs fs∧fs.length=vs.length∧∀ f∈fs,∃ i t,f=Db i t:=by
 induction hp with
 | nil=>exact⟨[],trivial,rfl,fun _ h=>(nomatch h)⟩
 | @cons v k vs ks r t ih=>
  obtain⟨fs,a1,a2,a3⟩:=ih;obtain⟨a,o,n,t,u,rfl,_,ho,hc,hd⟩:=r;refine⟨.int k.1 t::fs,.cons ho hc hd rfl a1,congrArg Nat.succ a2,fun f hf=>?_⟩;rcases AK.mp hf with e|e
  ·exact⟨_,_,e⟩
  ·exact a3 f e
theorem aJ6 {h:AF}{L:AB}{vs:List AA}{ks:List (Int×Int)}(hp:AX (aM5 h L) vs ks):∀{i:Nat},i<vs.length→aM5 h L (vs.getD i .none) (ks.getD i (0,0)):=by
 induction hp with
 | nil=>intro i hi; cases hi
 | cons r t ih=>
  intro i hi
  cases i with
  | zero=>exact r
  | succ i=>exact ih (DX hi)
section
variable {prog:AL}{w:AI}{A:AV}{E:AA→AC→Prop}{s:AC}
end
end L2
namespace L2
open PySem PySem.Spec PyProof.Rows
theorem ObjOk.there {P:AL}{w:AI}{H:Hp}{h:AF}{a:AB}{o:HO}(x:ObjOk P w H h a o):∃ u,h.get? a=some u:=by
 cases o with
 | lst xs=>obtain⟨_,_,_,_,e⟩:=x; exact⟨_,e⟩
 | tup xs=>obtain⟨_,_,_,o,e,_⟩:=x; exact⟨_,e⟩
 | dK kvs=>obtain⟨_,_,_,_,o,_,_,e,_⟩:=x; exact⟨_,e⟩
 | dT kvs=>obtain⟨_,_,_,_,o,_,_,e,_⟩:=x; exact⟨_,e⟩
 | set S n=>obtain⟨o,_,_,_,e,_⟩:=x; exact⟨_,e⟩
 | ins C dx fs=>obtain⟨_,_,_,e,_⟩:=x; exact⟨_,e⟩
 | own y=>obtain⟨_,e⟩:=x; exact⟨_,e⟩
 | xd fs=>obtain⟨_,⟨_,_,_,e,_⟩,_⟩:=x; exact⟨_,e⟩
 | rng lo hi=>obtain⟨_,_,_,e⟩:=x; exact⟨_,e⟩
 | frz ob u=>obtain⟨e,_⟩:=x; exact⟨_,e⟩
 | tbl ps=>exact⟨_,show h.get? a=some _ from x⟩
 | met f y=>exact⟨_,show h.get? a=some _ from x⟩
 | ext φ=>obtain⟨_,⟨_,e⟩,_⟩:=x; exact⟨_,e⟩
theorem aJI {h:AF}{L:AB}{m m':Mg}(a:h.Ns L m)(b:h.Ns L m'):m=m':=by
 obtain⟨o,es,ep,h1,h2,_,h3⟩:=a;obtain⟨o',es',ep',g1,g2,_,g3⟩:=b;rw[h1] at g1; cases g1;rw[h2] at g2; cases g2
 funext x
 rw[← h3 x,g3 x]
def a2O (H:Hp):List V→List (Int×Int)→Prop:=AX fun v k=>∃ b,v=.ref b∧H b=some (.tup [.int k.1,.int k.2])
section
variable {X:Cx}
end
end L2
namespace L2.VS
open PySem PySem.Spec PyProof.Rows
section
variable {P0:AB→Hp→Prop}{ta:TE}{ma:ME}{K:Fg}
def aH6 (ks:List (Int×Int)):List D:=ks.map fun k=>.tuple [.int k.1,.int k.2]
theorem aHT {G H:Hp}(sub:∀ b o,G b=some o→H b=some o):∀{ks:List (Int×Int)} {vs:List V},Dts G vs (aH6 ks)→a2O H vs ks:=by
 intro ks vs h
 induction ks generalizing vs with
 | nil=>cases h; exact .nil
 | cons k ks ih=>
  cases h with
  | cons a b=>
   refine .cons ?_ (ih b)
   cases a with
   | tup hp rs=>
    cases rs with
    | cons r1 rs=>
     cases rs with
     | cons r2 rs=>
      cases rs
      cases r1
      cases r2
      exact⟨_,rfl,sub _ _ hp⟩
end
end L2.VS
namespace L2
open PySem PySem.Calls PyProof.Rows PySem.W
structure Tot (lt:Nat→Nat→Bool)(n:Nat):Prop where
 total:∀ i j,i<n→j<n→i≠j→lt i j=true∨lt j i=true
 asymm:∀ i j,i<n→j<n→lt i j=true→lt j i=false
 trans:∀ i j k,i<n→j<n→k<n→lt i j=true→lt j k=true→lt i k=true
def Pm (p:Array Nat)(n:Nat):Prop:=p.Perm (List.toArray (List.range n))
theorem Pm.size {p:Array Nat}{n:Nat}(h:Pm p n):p.size=n:=by
 have:=h.size_eq;simpa using this
theorem Pm.lt {p:Array Nat}{n i:Nat}(h:Pm p n)(hi:i<n):p.getD i 0<n:=by
 have hs:=h.size;have hm:p.getD i 0∈p.toList:=by
  rw[BW,A1 (by omega)];exact BL (i:=i) (by rw[BX,A1 (by omega)]; rfl)
 have:=(EA.mp h).mem_iff.mp hm;simpa using this
theorem Pm.inj {p:Array Nat}{n i j:Nat}(h:Pm p n)(hi:i<n)(hj:j<n)(hij:i≠j):p.getD i 0≠p.getD j 0:=by
 have hs:=h.size;have nd:p.toList.Nodup:=(EA.mp h).nodup_iff.mpr (by simpa using List.nodup_range);intro e;rw[BW,BW,A1 (by omega),A1 (by omega)] at e;have e:p[i]'(by omega)=p[j]'(by omega):=e;rw[← D9,←D9] at e;have np:=CQ.mp nd;rcases Nat.lt_or_gt_of_ne hij with c|c
 ·exact np i j (by simpa using(by omega:i<p.size)) (by simpa using(by omega:j<p.size)) c e
 ·exact np j i (by simpa using(by omega:j<p.size)) (by simpa using(by omega:i<p.size)) c e.symm
def Up (lt:Nat→Nat→Bool)(p:Array Nat)(m:Nat):Prop:=∀ i j,i<j→j<m→lt (p.getD i 0) (p.getD j 0)=true
def Dn (lt:Nat→Nat→Bool)(p:Array Nat)(m:Nat):Prop:=∀ i j,i<j→j<m→lt (p.getD j 0) (p.getD i 0)=true
section
variable {cmp:Nat→Nat→(Bool→AC→Prop)→AC→Prop}{lt:Nat→Nat→Bool}{n:Nat}{I:AC→Prop}
def Asks (cmp:Nat→Nat→(Bool→AC→Prop)→AC→Prop)(lt:Nat→Nat→Bool)(n:Nat)(I:AC→Prop):Prop:=
 ∀(i j:Nat) (C:Bool→AC→Prop) (s:AC),i<n→j<n→I s→(∀ s',I s'→C (lt i j) s')→cmp i j C s
theorem aLB {p:Array Nat}{m:Nat}(T:Tot lt n)(hp:Pm p n)(hm:0<m)(hn:m<n)(h:Up lt p m)(h1:lt (p.getD (m-1) 0) (p.getD m 0)=true):Up lt p (m+1):=fun i j hij hj=>by
 by_cases c:j<m
 ·exact h i j hij c
 ·have:j=m:=by omega
  subst this
  by_cases d:i=j-1
  ·rw[d]; exact h1
  ·exact T.trans _ _ _ (hp.lt (by omega)) (hp.lt (by omega)) (hp.lt hn) (h i (j-1) (by omega) (by omega)) h1
theorem aKY {p:Array Nat}{m:Nat}(T:Tot lt n)(hp:Pm p n)(hm:0<m)(hn:m<n)(h:Dn lt p m)(h1:lt (p.getD m 0) (p.getD (m-1) 0)=true):Dn lt p (m+1):=fun i j hij hj=>by
 by_cases c:j<m
 ·exact h i j hij c
 ·have:j=m:=by omega
  subst this
  by_cases d:i=j-1
  ·rw[d]; exact h1
  ·exact T.trans _ _ _ (hp.lt hn) (hp.lt (by omega)) (hp.lt (by omega)) h1 (h i (j-1) (by omega) (by omega))
theorem sO {p:Array Nat}{Q:Nat→AC→Prop}(A:Asks cmp lt n I)(T:Tot lt n)(hp:Pm p n) :
  ∀(f m:Nat) (s:AC),0<m→m+f=n→Up lt p m→I s→(∀ m' s',m≤m'→m'≤n→Up lt p m'→(m'<n→lt (p.getD m' 0) (p.getD (m'-1) 0)=true)→I s'→Q m' s')→(kas_asc p f m).kasWp cmp Q s
 | 0,m,s,_,hn,hu,hi,q=>q m s (AN _) (by omega) hu (fun z=>by omega) hi
 | f+1,m,s,h0,hn,hu,hi,q=>by
  show cmp _ _ _ s;refine A _ _ _ s (hp.lt (by omega)) (hp.lt (by omega)) hi fun s' hi'=>?_
  cases c:lt (p.getD m 0) (p.getD (m-1) 0) with
  | true=>exact q m s' (AN _) (by omega) hu (fun _=>c) hi'
  | false=>
   have h1:=(T.total _ _ (hp.lt (by omega)) (hp.lt (by omega)) (hp.inj (i:=m) (j:=m-1) (by omega) (by omega) (by omega))).resolve_left (by rw[c]; decide);exact sO A T hp f (m+1) s' (by omega) (by omega) (aLB T hp h0 (by omega) hu h1) hi' fun m' s2 g=>q m' s2 (by omega)
theorem wH {p:Array Nat}{Q:Array Nat×Nat×Nat→AC→Prop}(A:Asks cmp lt n I)(T:Tot lt n)(hp:Pm p n) :
  ∀(f m:Nat) (s:AC),0<m→m+f=n→Dn lt p m→I s→(∀ m' s',m≤m'→m'≤n→Dn lt p m'→I s'→Q (p,m',0) s')→(kas_desc f p m 0).kasWp cmp Q s
 | 0,m,s,_,hn,hu,hi,q=>q m s (AN _) (by omega) hu hi
 | f+1,m,s,h0,hn,hu,hi,q=>by
  show cmp _ _ _ s;refine A _ _ _ s (hp.lt (by omega)) (hp.lt (by omega)) hi fun s' hi'=>?_
  cases c:lt (p.getD m 0) (p.getD (m-1) 0) with
  | true=>exact wH A T hp f (m+1) s' (by omega) (by omega) (aKY T hp h0 (by omega) hu c) hi' fun m' s2 g=>q m' s2 (by omega)
  | false=>
   have h1:=(T.total _ _ (hp.lt (by omega)) (hp.lt (by omega)) (hp.inj (i:=m) (j:=m-1) (by omega) (by omega) (by omega))).resolve_left (by rw[c]; decide);show cmp _ _ _ s';refine A _ _ _ s' (hp.lt (by omega)) (hp.lt (by omega)) hi' fun s2 hi2=>?_;rw[h1];exact q m s2 (AN _) (by omega) hu hi2
theorem aJD {p:Array Nat}{m k:Nat}(hm:m≤p.size)(hk:k<m):(kas_rev p 0 m).getD k 0=p.getD (m-1-k) 0:=by
 unfold kas_rev;rw[BW,BW,getElem?_mirror_all hm,if_pos ⟨A8 _,hk⟩,DY]
theorem aIV {p:Array Nat}{m:Nat}(hp:Pm p n):Pm (kas_rev p 0 m) n:=Array.Perm.trans (mirror_perm _ _ _ _) hp
theorem a3V {p:Array Nat}{m:Nat}{Q:Nat×Array Nat→AC→Prop}{s:AC}(A:Asks cmp lt n I)(T:Tot lt n)(hp:Pm p n)(hm:0<m)(hn:m≤n)(hd:Dn lt p m)(hi:I s)
  (q:∀ m' p' s',0<m'→m'≤n→Pm p' n→Up lt p' m'→I s'→Q (m',p') s'):(kas_tail3 m n p).kasWp cmp Q s:=by
 unfold kas_tail3;rw[EO];refine sO A T (aIV hp) (n-m) m s hm (by omega) (fun i j hij hj=>?_) hi fun m' s' g1 g2 g3 _ g5=>q m' _ s' (by omega) g2 (aIV hp) g3 g5;have hs:=hp.size;rw[aJD (by omega) (by omega),aJD (by omega) hj];exact hd _ _ (by omega) (by omega)
theorem a3H {p:Array Nat}{Q:Nat×Array Nat→AC→Prop}{s:AC}(A:Asks cmp lt n I)(T:Tot lt n)(hp:Pm p n)(h1:1≤n)(hi:I s)
  (q:∀ m' p' s',0<m'→m'≤n→Pm p' n→Up lt p' m'→I s'→Q (m',p') s'):(kas_count n p).kasWp cmp Q s:=by
 unfold kas_count;rw[EO];refine sO A T hp (n-1) 1 s (by decide) (by omega) (fun i j hij hj=>by omega) hi fun m s' g1 g2 g3 g4 g5=>?_
 by_cases c:m=n
 ·rw[if_pos (beq_iff_eq.mpr c)];exact q m p s' (by omega) g2 hp g3 g5
 ·rw[if_neg (by rw[beq_iff_eq]; exact c)]
  by_cases d:m>1
  ·rw[if_pos d];show cmp _ _ _ s';refine A _ _ _ s' (hp.lt (by omega)) (hp.lt (by omega)) g5 fun s2 hi2=>?_;rw[g3 0 (m-1) (by omega) (by omega)];exact q m p s2 (by omega) g2 hp g3 hi2
  ·rw[if_neg d];have e:m=1:=by omega
   subst e;have hl:=g4 (by omega);unfold kas_descPart;rw[EO];refine wH A T hp (n-(1+1)) (1+1) s' (by decide) (by omega) (fun i j hij hj=>?_) g5 fun m' s2 k1 k2 k3 k4=>?_
   ·have:i=0:=by omega
    have:j=1:=by omega
    subst i j;exact hl
   ·rw[if_neg (show ¬(p,m',0).2.2>0 from BI _)];exact a3V A T hp (show 0<m' by omega) k2 k3 k4 q
theorem mY {p:Array Nat}{k:Nat}{Q:Nat→AC→Prop}(A:Asks cmp lt n I)(T:Tot lt n)(hp:Pm p n)(hk:k<n)(hu:Up lt p k) :
  ∀(f l r:Nat) (s:AC),l≤r→r≤k→r-l≤f→(∀ i,i<l→lt (p.getD i 0) (p.getD k 0)=true)→(∀ i,r≤i→i<k→lt (p.getD k 0) (p.getD i 0)=true)→I s →
   (∀ l s',l≤k→(∀ i,i<l→lt (p.getD i 0) (p.getD k 0)=true)→(∀ i,l≤i→i<k→lt (p.getD k 0) (p.getD i 0)=true)→I s'→Q l s')→(kas_place p k f l r).kasWp cmp Q s
 | 0,l,r,s,h1,h2,h3,h4,h5,hi,q=>q l s (by omega) h4 (fun i a b=>h5 i (by omega) b) hi
 | f+1,l,r,s,h1,h2,h3,h4,h5,hi,q=>by
  unfold kas_place
  by_cases c:l≥r
  ·rw[if_pos c];exact q l s (by omega) h4 (fun i a b=>h5 i (by omega) b) hi
  ·rw[if_neg c];show cmp _ _ _ s;have hm:(l+r)/2<r∧l≤(l+r)/2:=by omega
   generalize (l+r)/2=m at *;refine A _ _ _ s (hp.lt hk) (hp.lt (by omega)) hi fun s' hi'=>?_
   cases d:lt (p.getD k 0) (p.getD m 0) with
   | true=>
    refine mY A T hp hk hu f l m s' hm.2 (by omega) (by omega) h4 (fun i a b=>?_) hi' q
    by_cases e:i=m
    ·rw[e]; exact d
    ·exact T.trans _ _ _ (hp.lt hk) (hp.lt (by omega)) (hp.lt (by omega)) d (hu m i (by omega) b)
   | false=>
    have d2:=(T.total _ _ (hp.lt hk) (hp.lt (by omega)) (hp.inj (i:=k) (j:=m) hk (by omega) (by omega))).resolve_left (by rw[d]; decide);refine mY A T hp hk hu f (m+1) r s' (by omega) h2 (by omega) (fun i a=>?_) h5 hi' q
    by_cases e:i=m
    ·rw[e]; exact d2
    ·exact T.trans _ _ _ (hp.lt (by omega)) (hp.lt (by omega)) (hp.lt hk) (hu i m (by omega) (by omega)) d2
theorem aJ3 {p:Array Nat}{k l i:Nat}(hk:k<p.size)(hl:l≤k):(bubble p k (k-l)).getD i 0=if i=l then p.getD k 0 else if l<i∧i≤k then p.getD (i-1) 0 else p.getD i 0:=by
 have e:∀(q:Array Nat) (j:Nat),q.getD j 0=q[j]?.getD 0:=fun q j=>BW ..;rw[e,e,e,e,getElem?_bubble hk (k-l) (by omega),show k-(k-l)=l by omega]
 split
 ·rfl
 ·split<;>rfl
theorem zH {Q:Array Nat→AC→Prop}(A:Asks cmp lt n I)(T:Tot lt n) :
  ∀(f k:Nat) (p:Array Nat) (s:AC),k+f=n→Pm p n→Up lt p k→I s→(∀ p' s',Pm p' n→Up lt p' n→I s'→Q p' s')→(kas_bin f p k).kasWp cmp Q s
 | 0,k,p,s,hk,hp,hu,hi,q=>q p s hp (by rw[← show k=n by omega]; exact hu) hi
 | f+1,k,p,s,hk,hp,hu,hi,q=>by
  unfold kas_bin;rw[EO];refine mY A T hp (by omega) hu k 0 k s (A8 _) (AN _) (by omega) (fun i z=>absurd z (B0 _)) (fun i a b=>by omega) hi fun l s' h1 h2 h3 hi'=>?_;have hs:=hp.size;refine zH A T f (k+1) _ s' (by omega) (Array.Perm.trans (bubble_perm _ _ _) hp) (fun i j hij hj=>?_) hi' q;rw[aJ3 (by omega) h1,aJ3 (by omega) h1]
  by_cases c1:i=l
  ·rw[if_pos c1,if_neg (by omega),if_pos (by omega)];exact h3 _ (by omega) (by omega)
  ·rw[if_neg c1]
   by_cases c2:j=l
   ·rw[if_pos c2,if_neg (by omega)];exact h2 i (by omega)
   ·rw[if_neg c2]
    by_cases c3:l<i∧i≤k
    ·rw[if_pos c3,if_pos (by omega)];exact hu _ _ (by omega) (by omega)
    ·rw[if_neg c3]
     by_cases c4:l<j∧j≤k
     ·rw[if_pos c4];exact hu _ _ (by omega) (by omega)
     ·rw[if_neg c4];exact hu _ _ hij (by omega)
theorem wC {Q:Array Nat→AC→Prop}{s:AC}(A:Asks cmp lt n I)(T:Tot lt n)(h1:1≤n)(hi:I s)(q:∀ p' s',Pm p' n→Up lt p' n→I s'→Q p' s'):(kas_sort n).kasWp cmp Q s:=by
 unfold kas_sort;rw[EO];refine a3H A T (Array.Perm.refl _) h1 hi fun m p s' g1 g2 g3 g4 g5=>?_
 by_cases c:m<n
 ·rw[if_pos c]
  show(kas_bin (n-max m 1) p (max m 1)).kasWp cmp Q s'
  rw[show max m 1=m by omega];exact zH A T _ m p s' (by omega) g3 g4 g5 q
 ·rw[if_neg c];exact q p s' g3 (by rw[← show m=n by omega]; exact g4) g5
end
end L2
namespace L2
open PySem PySem.Calls PyProof.Rows PySem.W
section
variable {prog:AL}{w:AI}{A:AV}{E:AA→AC→Prop}{s:AC}
theorem a4L {p q:Int×Int}(h:p≠q):yJ p q=true∨yJ q p=true:=by
 obtain⟨a,b⟩:=p;obtain⟨c,d⟩:=q;unfold yJ
 by_cases e:a=c
 ·have:b≠d:=fun z=>h (by rw[e,z]);rw[if_pos e,if_pos e.symm,decide_eq_true_eq,decide_eq_true_eq];omega
 ·rw[if_neg e,if_neg (Ne.symm e),decide_eq_true_eq,decide_eq_true_eq];omega
theorem prLt_iff {p q:Int×Int}:yJ p q=true↔p.1<q.1∨(p.1=q.1∧p.2<q.2):=by
 unfold yJ
 by_cases e:p.1=q.1
 ·rw[if_pos e,decide_eq_true_eq]; omega
 ·rw[if_neg e,decide_eq_true_eq]; omega
theorem qC {p q:Int×Int}(h:yJ p q=true):yJ q p=false:=by
 rw[Ec];intro g;rw[prLt_iff] at h g;omega
theorem aBT {p q r:Int×Int}(h:yJ p q=true)(g:yJ q r=true):yJ p r=true:=by
 rw[prLt_iff] at h g ⊢;omega
theorem aNF {ks:List (Int×Int)}(nd:ks.Nodup):Tot (fun i j=>yJ (ks.getD i (0,0)) (ks.getD j (0,0))) ks.length where
 total i j hi hj hij:=a4L fun e=>by
  rw[Bs,Bs,AQ hi,AQ hj] at e;exact hij ((EV nd).mp e)
 asymm i j _ _ h:=qC h
 trans i j k _ _ _ h g:=aBT h g
theorem aCG {l L:AB}{m:Mg}{vs:List AA}{ks:List (Int×Int)}{Q:AA→AC→Prop}(hL:s.heap.Ns L m)(hl:s.heap.IsList l vs.toArray)(h2:2≤vs.length)(h64:vs.length<64)(hp:AX (aM5 s.heap L) vs ks)(nd:ks.Nodup)
  (q:∀(is:List Nat) (D:AB) (h':AF) (c:Nat),is.Perm (List.range vs.length)→(is.map fun i=>ks.getD i (0,0)).Pairwise (fun a b=>yJ a b=true)→s.heap.get? D=none→D≠L→(∀ b o,b≠L→s.heap.get? b=some o→h'.get? b=some o)→h'.Ns L m→h'.get? D=some (listOf (is.map fun i=>vs.getD i .none).toArray c)→Q (.ref D) { s with heap:=h' }) :
  AE (AH prog w) A (call (.builtin "sorted") [.ref l]) Q E s:=by
 obtain⟨h₀,z1,z2,z3⟩:=aDR s.heap L;obtain⟨news,n1,n2⟩:=a6S s.heap L;have F:Fr h₀ L s.heap m:=⟨hL,z2,z1⟩;have N:News h₀ L s.heap news:=fun p hp=>⟨(n1 p hp).1,A5 (n1 p hp).2,by
  cases e:h₀.get? p.1 with
  | none=>rfl
  | some o=>exact absurd (Al (AT e) z1) (not_lt.mpr (Bz (n1 p hp).2))⟩
 have all:∀{h':AF},Fr h₀ L h' m→News h₀ L h' news→∀ b o,b≠L→s.heap.get? b=some o→h'.get? b=some o:=fun F' N' b o hb e=>by
  rcases C3 b L with y|y|y
  ·exact F'.keep b o (z3 b o y e)
  ·exact absurd y hb
  ·exact(N' _ (n2 b o y e)).1
 refine kat_sorted F N hl h2 h64 fun D e1 h' F' N' fresh=>?_;have N2:News h₀ L h' news:=fun p hp=>N' p (AU _ hp);have keep:=all F' N2;have hd:=N' _ mem_cons_self;have hD:s.heap.get? D=none:=by
  cases e:s.heap.get? D with
  | none=>rfl
  | some o=>
   rcases C3 D L with y|y|y
   ·have:=z3 D o y e;rw[hd.2.2] at this; cases this
   ·exact absurd y hd.2.1
   ·exact absurd (fresh _ (n2 D o y e)) (BI _)
 have hp':AX (aM5 h' L) vs ks:=AX.mapP hp fun v k ⟨a,o,n,t,u,r1,r2,r3,r4,r5⟩=>⟨a,o,n,t,u,r1,r2,keep a o r2 r3,r4,r5⟩;have hlen:vs.length=ks.length:=hp.length;obtain⟨fs,f1,f2,f3⟩:=aBM hp';refine kat_kind (T:=.type "int") (s:={ s with heap:=h' }) f1 (by rw[f2]; omega) (fun v hv=>?_) rfl ?_
 ·obtain⟨i,t,rfl⟩:=f3 v hv;exact Looks.of_pure rfl
 show KasT.kasWp (kas_ask prog w A.in1.in1 (tuples' true) vs) (kas_sort vs.length) _ _;refine wC (I:=fun s'=>s'={ s with heap:=h' }) (lt:=fun i j=>yJ (ks.getD i (0,0)) (ks.getD j (0,0))) (fun i j C s' h0 h1 hi k=>?_) (hlen▸aNF nd) (by omega) rfl fun p s' hpm hup hs'=>?_
 ·subst hi;obtain⟨a,o,n,t,u,ra,_,r3,_,r5⟩:=aJ6 hp' h0;obtain⟨a',o',n',t',u',ra',_,r3',_,r5'⟩:=aJ6 hp' h1;unfold kas_ask;rw[ra,ra'];exact aLD r3 r5 r3' r5' (k _ rfl)
 ·subst hs';refine KasFin.intro F' N' (.head fun p hp=>Ag (fresh p hp)) fun h2' c F2 N3=>?_;refine q p.toList D h2' c (by simpa using EA.mp hpm) ?_ hD hd.2.1 (all F2 fun p hp=>N3 p (AU _ hp)) F2.ns (N3 _ mem_cons_self).1;have hsz:=hpm.size;rw[CQ];intro i j hi hj hij;rw[AS,Af,hsz] at hi hj;have:=hup i j hij hj;rw[BW,BW,A1 (by omega),A1 (by omega)] at this;rw[List.getElem_map,List.getElem_map,D9,D9];exact this
theorem a9L {a:AB}{vs:List AA}{n:Nat}{P:PySem.Fin→AC→Prop}(h1:vs.length≤1)(ho:s.heap.get? a=some (As "list" vs.toArray n))
  (k:∀ h' c,(∀ b o,b≠a→s.heap.get? b=some o→h'.get? b=some o)→h'.get? a=some (As "list" vs.toArray c)→P (.done (.ret .none)) { s with heap:=h' }):AE (AH prog w) A (AM.«list.sort» ⟨[.ref a],[]⟩) P E s:=by
 have hsz:vs.toArray.size=vs.length:=rfl;obtain⟨e1,ho1⟩:∃ e1,(s.heap.update a (Aj fun _=>(#[]:Array AA))).get? a=some (As "list" #[] e1):=⟨_,get?_update_seq ho fun _=>#[]⟩;have s1:=CI s.heap a (Aj fun _=>(#[]:Array AA));have ho2:(((s.heap.update a (Aj fun _=>(#[]:Array AA))).push (As "tuple" vs.toArray 0)).push (As "list" #[] 0)).get? a=some (As "list" #[] e1):=AZ _ (AZ _ ho1);rw[list_sort_plain];refine AD (listItems_at ho rfl (AD (listUpdate_at ho rfl ?_ (by rw[hsz,Br]; omega) (A8 _))));refine AD (seqEpoch_at ho1 rfl (AD (wpAny_newTuple ?_ (by rw[Br]; show vs.toArray.toList.length≤_; rw[show vs.toArray.toList.length=vs.length from rfl]; omega))));refine AD (Fj (BB ?_) (A8 _));show AE (AH prog w) A _ P E { s with heap:=((s.heap.update a (Aj fun _=>(#[]:Array AA))).push (As "tuple" vs.toArray 0)).push (As "list" #[] 0) };dsimp only;have h12:vs.toArray.size<2:=by rw[hsz]; omega
 rw[if_pos h12,if_pos h12];refine AD (AG (AD (AG ?_)));dsimp only;have ea:(arrOf (SortSt.mk' general' (vs.toArray.zip vs.toArray) #[] 7 none)).map (·.2)=vs.toArray:=by
  show(vs.toArray.zip vs.toArray).map (·.2)=vs.toArray
  match vs,h1 with
  | [],_=>simp
  | [v],_=>simp
 rw[ea];have s2:=CI (((s.heap.update a (Aj fun _=>(#[]:Array AA))).push (As "tuple" vs.toArray 0)).push (As "list" #[] 0)) a (Aj fun _=>vs.toArray);obtain⟨c2,hc2⟩:∃ c2,((((s.heap.update a (Aj fun _=>(#[]:Array AA))).push (As "tuple" vs.toArray 0)).push (As "list" #[] 0)).update a (Aj fun _=>vs.toArray)).get? a=some (As "list" vs.toArray c2):=⟨_,get?_update_seq ho2 fun _=>vs.toArray⟩;refine AD (seqEpoch_at ho2 rfl (AD (listUpdate_at ho2 rfl ?_ (A8 _) (by rw[hsz,Br]; omega))));rw[if_neg (by simp)];refine AG (k _ c2 (fun b o hb e=>?_) hc2);exact(s2.2 b hb).trans (AZ _ (AZ _ ((s1.2 b hb).trans e)))
theorem aBZ {l:AB}{vs:List AA}{Q:AA→AC→Prop}(h1:vs.length≤1)(hl:s.heap.IsList l vs.toArray)
  (q:∀(D:AB) (h':AF) (c:Nat),s.heap.objs.size≤D→(∀ b o,s.heap.get? b=some o→h'.get? b=some o)→h'.get? D=some (listOf vs.toArray c)→Q (.ref D) { s with heap:=h' }) :
  AE (AH prog w) A (call (.builtin "sorted") [.ref l]) Q E s:=by
 refine GQ kind_sorted plain_sorted entry_sorted (args_sorted1 _) ?_;unfold AM.«sorted»; refine AD (m:=checkCount "sorted" 1 1 _) (AG ?_);refine AD (collect_list (vs:=vs) hl ?_ (by rw[Br]; omega));refine AD (Fj ?_ (by rw[Br]; omega));have kU:∀ b o,s.heap.get? b=some o→((s.heap.push (As "list" #[] 0)).update s.heap.objs.size (Aj fun x=>x++vs.toArray)).get? b=some o:=fun b o e=>by
  rw[AF.get?_update_ne _ _ _ _ (Ag (AT e))];exact AZ _ e
 have zU:s.heap.objs.size≤((s.heap.push (As "list" #[] 0)).update s.heap.objs.size (Aj fun x=>x++vs.toArray)).objs.size:=by
  rw[DZ,B6];exact Nat.le_succ _
 show AE _ _ _ _ _ { s with heap:=((s.heap.push (As "list" #[] 0)).update s.heap.objs.size (Aj fun x=>x++vs.toArray)).push (As "list" vs.toArray 0) };dsimp only;generalize (s.heap.push (As "list" #[] 0)).update s.heap.objs.size (Aj fun x=>x++vs.toArray)=U at *;have hoL:(U.push (As "list" vs.toArray 0)).get? U.objs.size=some (As "list" vs.toArray 0):=Aq _ rfl;refine AD (BB (Bm slot_list_sort ⟨_,hoL,rfl⟩ entry_list_sort ?body (args_list_sort _)))
 case body=>
  refine a9L (s:={ s with heap:=U.push (As "list" vs.toArray 0) }) h1 hoL fun h' c kp hd=>⟨_,rfl,AG ⟨_,rfl,q _ h' c zU (fun b o e=>kp b o ?_ (AZ _ (kU b o e))) hd⟩⟩;exact Ag (Al (AT e) zU)
end
end L2
namespace L2
open PySem PySem.Spec PyProof.Rows
def aJY (K:Fg):List V→Hp→VK→Prop:=fun xs H Q=>∃ l qs ks,xs=[.ref l]∧SqL K H l qs∧a2O H qs ks∧2≤qs.length∧qs.length<64∧ks.Nodup ∧
 ∀(is:List Nat) p,is.Perm (List.range qs.length)→(is.map fun i=>ks.getD i (0,0)).Pairwise (fun a b=>yJ a b=true)→H p=none→Q (.ref p) (upd H p (.lst (is.map fun i=>qs.getD i .non)))
def aIX (K:Fg):List V→Hp→VK→Prop:=fun xs H Q=>∃ l qs,xs=[.ref l]∧SqL K H l qs∧qs.length≤1∧∀ p,H p=none→Q (.ref p) (upd H p (.lst qs))
theorem aFP {qs:List V}{its:List AA}(h:AX RelV qs its):∀{is:List Nat},(∀ i∈is,i<qs.length)→AX RelV (is.map fun i=>qs.getD i .non) (is.map fun i=>its.getD i .none):=by
 have at_:∀ i,i<qs.length→RelV (qs.getD i .non) (its.getD i .none):=by
  induction h with
  | nil=>intro i hi; cases hi
  | cons r t ih=>
   intro i hi
   cases i with
   | zero=>exact r
   | succ i=>exact ih i (DX hi)
 intro is hm
 induction is with
 | nil=>exact .nil
 | cons i is ih=>exact .cons (at_ i (hm i mem_cons_self)) (ih fun j hj=>hm j (AU _ hj))
section
variable {X:Cx}
theorem aCJ:CallR X (.builtin "sorted") (aIX X.K):=by
 intro pins s σ H xs us Q I r h;obtain⟨l,qs,rfl,hq,h1,q⟩:=h;obtain⟨u,rfl,rx⟩:=vals1 r
 cases rx
 obtain⟨its,rv,pl,hz⟩:=I.list hq;have hlen:qs.length=its.length:=rv.length;refine aBZ (by omega) pl.isList fun D h' c hD kp hd=>?_;exact⟨.ref D,_,I.laid (t':=s.toks) kp hD (show ObjOk X.prog X.w _ h' D (.lst qs) from⟨hz,its,c,rv,hd⟩),rfl,q D (I.hok.fresh hD)⟩
theorem aBG:CallR X (.builtin "sorted") (aJY X.K):=by
 intro pins s σ H xs us Q I r h;obtain⟨l,qs,ks,rfl,hq,hp,h2,h64,nd,q⟩:=h;obtain⟨u,rfl,rx⟩:=vals1 r
 cases rx
 obtain⟨its,rv,pl,hz⟩:=I.list hq;have hlen:qs.length=its.length:=rv.length;obtain⟨m,hn,_⟩:=id I.loc;have hpr:AX (aM5 s.heap X.env.locals) its ks:=by
  clear h2 h64 hz hlen hq nd;unfold a2O at hp;clear pl q
  induction hp generalizing its with
  | nil=>cases rv; exact .nil
  | @cons v k qs ks a t ih=>
   cases rv with
   | cons b c=>
    refine .cons ?_ (ih _ c);obtain⟨bk,rfl,hb⟩:=a
    cases b
    obtain⟨_,items,ri,o,h1,h2,n,h3⟩:=(show ObjOk X.prog X.w H s.heap bk (.tup [.int k.1,.int k.2]) from I.hok bk _ hb);obtain⟨u1,u2,rfl,r1,r2⟩:=ri.two;obtain⟨t1,rfl⟩:=r1;obtain⟨t2,rfl⟩:=r2;exact⟨bk,o,n,t1,t2,rfl,(fun z=>by rw[z,I.free] at hb; cases hb),h1,h2,h3⟩
 refine aCG hn pl.isList (by omega) (by omega) hpr nd fun is D h' c his hup hD hDL keep hn' hd=>?_;have his2:is.Perm (List.range qs.length):=hlen▸his;have hmem:∀ i∈is,i<qs.length:=fun i hi=>A2.mp (his2.mem_iff.mp hi);have rv2:=aFP rv hmem;have hil:(is.map fun i=>qs.getD i .non).length=qs.length:=by rw[AS,his2.length_eq,Bv]
 have HD:H D=none:=by
  cases e:H D with
  | none=>rfl
  | some o=>
   obtain⟨u,hu⟩:=(I.hok D o e).there;rw[hD] at hu; cases hu
 have noL:∀ b o,H b=some o→b≠X.env.locals:=fun b o e z=>by rw[z,I.free] at e; cases e
 have neD:∀ b o,H b=some o→b≠D:=fun b o e z=>by rw[z,HD] at e; cases e
 have hok:HOk X.prog X.w (upd H D (.lst (is.map fun i=>qs.getD i .non))) h':=fun b o e=>by
  by_cases hb:b=D
  ·subst hb;rw[bO] at e
   cases e
   exact⟨by rw[hil]; exact hz,_,c,rv2,hd⟩
  ·rw[aY hb] at e;refine(I.hok b o e).stay (fun b' u hb' hu=>keep b' u ?_ hu) (fun b' z=>by rw[aY (neD _ _ z)]; exact z) fun b' xs z=>by rw[aY (neD _ _ z)]; exact z
   rcases hb' with z|z
   ·rw[z]; exact noL _ _ e
   ·exact noL _ _ z
 have I':Inv X pins σ (upd H D (.lst (is.map fun i=>qs.getD i .non))) { s with heap:=h',gens:=s.gens,drawn:=s.drawn,toks:=s.toks }:=I.step (ch:=[]) (fun _ z=>nomatch z) (fun b o hb _ _ e _=>keep b o hb e) (fun b o hb _ _ e _=>⟨o.slots,keep b o hb e⟩)
  (fun b o _ e n=>by rw[aY (fun z=>by rw[z,hD] at e; cases e)]; exact n)
  (fun b o _ e=>by
   by_cases hb:b=X.env.locals
   ·subst hb;obtain⟨o',_,_,h1,_⟩:=hn';exact⟨o',h1⟩
   ·exact⟨o,keep b o hb e⟩)
  (fun b xs z=>by rw[aY (neD _ _ z)]; exact z) (fun b o u z=>by rw[aY (neD _ _ z)]; exact z) (fun b ps z=>⟨#[],by rw[aY (neD _ _ z)]; simpa using z⟩)
  (fun m' hm=>aJI hn hm▸hn') hok I.bare
 exact⟨.ref D,_,I',rfl,q is D his2 hup HD⟩
def aJU (K:Fg):List V→Hp→VK→Prop:=fun xs H Q=>aJY K xs H Q∨aIX K xs H Q
theorem a1X:CallR X (.builtin "sorted") (aJU X.K):=CallR.or aBG aCJ
end
def aGJ (ks:List (Int×Int)):List (Int×Int):=ks.mergeSort fun a b => !yJ b a
theorem a5I (ks:List (Int×Int)):(aGJ ks).Perm ks:=List.mergeSort_perm _ _
theorem aL5 {a b:Int×Int}(h:yJ a b=true):a≠b:=fun e=>by
 rw[e,prLt_iff] at h;omega
theorem aLW {ks:List (Int×Int)}(nd:ks.Nodup):(aGJ ks).Pairwise fun a b=>yJ a b=true:=by
 have h1:(aGJ ks).Pairwise fun a b=>(!yJ b a)=true:=by
  refine List.pairwise_mergeSort (fun a b c h g=>?_) (fun a b=>?_) ks
  ·simp only[Bool.not_eq_true',←Ed,prLt_iff] at h g ⊢;omega
  ·by_cases e:a=b
   ·subst e;have:yJ a a=false:=by rw[← Ed,prLt_iff]; omega
    rw[this]; rfl
   ·rcases a4L e with h|h
    ·rw[qC h]; rfl
    ·rw[qC h]; simp
 have h2:(aGJ ks).Nodup:=(a5I ks).nodup_iff.mpr nd;refine(h1.and h2).imp fun{a b} h=>?_;exact(a4L h.2).resolve_right (by simpa using h.1)
theorem a3N {xs ks:List (Int×Int)}(hp:xs.Perm ks)(hu:xs.Pairwise fun a b=>yJ a b=true):aGJ ks=xs:=by
 have nx:xs.Nodup:=hu.imp fun h=>aL5 h;have nd:ks.Nodup:=hp.nodup_iff.mp nx;refine List.Perm.eq_of_pairwise (le:=fun a b=>yJ a b=true) (fun a b _ _ h g=>?_) (aLW nd) hu ((a5I ks).trans hp.symm);rw[qC h] at g
 cases g
end L2
namespace L2.VS
open PySem PySem.Spec PyProof.Rows
section
variable {P0:AB→Hp→Prop}{ta:TE}{ma:ME}{K:Fg}
theorem aI0 {G:Hp}{qs:List V}{ks:List (Int×Int)}(h:Dts G qs (aH6 ks)){is:List Nat}(hm:∀ i∈is,i<qs.length):Dts G (is.map fun i=>qs.getD i .non) (aH6 (is.map fun i=>ks.getD i (0,0))):=by
 have at_:∀ i,i<qs.length→Dt G (qs.getD i .non) (.tuple [.int (ks.getD i (0,0)).1,.int (ks.getD i (0,0)).2]):=by
  clear hm
  induction ks generalizing qs with
  | nil=>cases h; intro i hi; cases hi
  | cons k ks ih=>
   cases h with
   | cons a b=>
    intro i hi
    cases i with
    | zero=>exact a
    | succ i=>exact ih b i (DX hi)
 induction is with
 | nil=>exact .nil
 | cons i is ih=>exact .cons (at_ i (hm i mem_cons_self)) (ih fun j hj=>hm j (AU _ hj))
def a9O (ma:ME):MO:=fun Γ Q=>ma Γ fun x Γ1=>∃ ks:List (Int×Int),x=.list (aH6 ks)∧ks.length<64∧ks.Nodup∧Q (.own (aH6 (aGJ ks))) Γ1
theorem a9C (ha:VT P0 ta ma):VO P0 (tCB (aJU K) (fB ta xM)) (a9O ma):=by
 intro F Γ σ G H Q Qm r m k;refine ha F Γ σ G H _ _ r m fun x Γ1 v G1 H1 m1 s1 r1 d1=>?_;obtain⟨ks,rfl,h64,nd,m1⟩:=m1
 cases d1 with
 | @lst p qs _ hp rs=>
  have hl:qs.length=ks.length:=by rw[rs.len]; unfold aH6; rw[AS]
  by_cases h1:2≤ks.length
  ·refine .inl ⟨p,qs,ks,rfl,SqL.of (r1.fr.sub _ _ hp),aHT (fun b o e=>r1.fr.sub b o e) rs,by omega,by omega,nd,fun is l his hup hl2=>?_⟩;have hmem:∀ i∈is,i<qs.length:=fun i hi=>A2.mp (his.mem_iff.mp hi);obtain⟨a,b,c⟩:=lA r1 hl2 (aI0 rs hmem);have e:aGJ ks=is.map fun i=>ks.getD i (0,0):=by
    refine a3N ?_ hup;have e1:((List.range qs.length).map fun i=>ks.getD i (0,0))=ks:=by
     refine Cv fun i=>?_;rw[Aa,hl]
     by_cases hi:i<ks.length
     ·simp[hi]
     ·simp[hi]
    have:=his.map fun i=>ks.getD i (0,0);rw[e1] at this;exact this
   rw[e] at m1;exact k _ _ _ _ _ m1 s1 a b c
  ·refine .inr ⟨p,qs,rfl,SqL.of (r1.fr.sub _ _ hp),by omega,fun l hl2=>?_⟩;obtain⟨a,b,c⟩:=lA r1 hl2 rs;have e:aGJ ks=ks:=a3N (List.Perm.refl _) (by
    match ks,h1 with
    | [],_=>exact .nil
    | [x],_=>exact List.pairwise_singleton _ _
    | x::y::r,h=>exact absurd (show 2≤(x::y::r).length from by simp) h)
   rw[e] at m1;exact k _ _ _ _ _ m1 s1 a b c
theorem aKP {ma:ME}{Γ:En}{Q:Rv→En→Prop}(h:ma Γ fun x Γ1=>∃ ks:List (Int×Int),x=.list (aH6 ks)∧ks.length<64∧ks.Nodup∧Q (.own (aH6 (aGJ ks))) Γ1):a9O ma Γ Q:=h
end
end L2.VS
namespace L2
open PySem PySem.Spec PyProof.Rows
section
variable {X:Cx}
end
end L2
namespace L2.VS
open PySem PySem.Spec PyProof.Rows
section
variable {P0:AB→Hp→Prop}{ta tb:TE}{ma mb:ME}{K:Fg}
end
section
variable {P0:AB→Hp→Prop}
theorem xZ {G:Hp}:∀{ns:List Int} {vs:List V},Dts G vs (ns.map .int)→vs=ns.map V.int
 | [],_,h=>by cases h; rfl
 | n::ns,_,h=>by
  cases h with
  | cons h1 h2=>
   cases h1
   rw[xZ h2];rfl
end
end L2.VS
namespace L2
open PySem PySem.Calls PyProof.Rows PySem.W
abbrev NK2:=(Int×Int)×(Int×Int)
def nk0:NK2:=((0,0),(0,0))
def aCL (p q:NK2):Bool:=decide ((p.1.1<q.1.1∨p.1.1=q.1.1∧p.1.2<q.1.2)∨(p.1.1=q.1.1∧p.1.2=q.1.2)∧(p.2.1<q.2.1∨p.2.1=q.2.1∧p.2.2<q.2.2))
theorem xJ {p q:NK2}:aCL p q=true↔(p.1.1<q.1.1∨p.1.1=q.1.1∧p.1.2<q.1.2)∨(p.1.1=q.1.1∧p.1.2=q.1.2)∧(p.2.1<q.2.1∨p.2.1=q.2.1∧p.2.2<q.2.2):=decide_eq_true_iff
theorem aB7 {p q:NK2}(h:aCL p q=true):aCL q p=false:=by
 rw[Ec];intro g;rw[xJ] at h g;omega
theorem aBI {p q r:NK2}(h:aCL p q=true)(g:aCL q r=true):aCL p r=true:=by
 rw[xJ] at h g ⊢;omega
theorem aHU {p q:NK2}(h:p≠q):aCL p q=true∨aCL q p=true:=by
 rw[xJ,xJ];obtain⟨⟨a,b⟩,c,d⟩:=p;obtain⟨⟨e,f⟩,g,i⟩:=q;have:¬(a=e∧b=f∧c=g∧d=i):=fun⟨h1,h2,h3,h4⟩=>h (by rw[h1,h2,h3,h4]);dsimp only;omega
theorem aM7 {ks:List NK2}(nd:ks.Nodup):Tot (fun i j=>aCL (ks.getD i nk0) (ks.getD j nk0)) ks.length where
 total i j hi hj hij:=aHU fun e=>by
  rw[Bs,Bs,AQ hi,AQ hj] at e;exact hij ((EV nd).mp e)
 asymm i j _ _ h:=aB7 h
 trans i j k _ _ _ h g:=aBI h g
def TupI (h:AF)(k:Int×Int)(x:AB):Prop:=∃ o n t u,h.get? x=some o∧o.cls=.type "tuple" ∧ o.data=.seq #[.int k.1 t,.int k.2 u] n
theorem TupI.key {prog:AL}{w:AI}{h:AF}{k:Int×Int}{x:AB}(hx:TupI h k x):CG (Ax prog w) h [k.1,k.2] x:=by
 obtain⟨o,n,t,u,h1,h2,h3⟩:=hx;exact⟨o,_,n,h1,h2,h3,.cons (Ew _ _ _ _) (.cons (Ew _ _ _ _) .nil)⟩
theorem aS7 (a b:Int×Int):HT.lexLt [a.1,a.2] [b.1,b.2]=decide (a.1<b.1∨a.1=b.1∧a.2<b.2):=by
 rw[HT.lexLt_cons,HT.lexLt_cons,HT.lexLt_nil_nil]
 by_cases h:a.1=b.1
 ·rw[if_pos h]
  by_cases h2:a.2=b.2
  ·rw[if_pos h2];exact(decide_eq_false (by omega)).symm
  ·rw[if_neg h2];exact decide_eq_decide.mpr (by omega)
 ·rw[if_neg h];exact decide_eq_decide.mpr (by omega)
def NpAt (h:AF)(L:AB)(v:AA)(k:NK2):Prop:=∃ a o n x y,v=.ref a∧a≠L∧h.get? a=some o∧o.cls=.type "tuple" ∧ o.data=.seq #[.ref x,.ref y] n∧x≠L∧y≠L∧TupI h k.1 x∧TupI h k.2 y
theorem NpAt.go {h h':AF}{L:AB}{v:AA}{k:NK2}(keep:∀ b o,b≠L→h.get? b=some o→h'.get? b=some o)(z:NpAt h L v k):NpAt h' L v k:=by
 obtain⟨a,o,n,x,y,r1,r2,r3,r4,r5,r6,r7,⟨o1,n1,t1,u1,a1,a2,a3⟩,o2,n2,t2,u2,b1,b2,b3⟩:=z;exact⟨a,o,n,x,y,r1,r2,keep a o r2 r3,r4,r5,r6,r7,⟨o1,n1,t1,u1,keep _ _ r6 a1,a2,a3⟩,o2,n2,t2,u2,keep _ _ r7 b1,b2,b3⟩
section
variable {prog:AL}{w:AI}{A:AV}{E:AA→AC→Prop}{s:AC}{Q:Bool→AC→Prop}
theorem aK1 {a b:AB}{k l:Int×Int}(ta:TupI s.heap k a)(tb:TupI s.heap l b)(hu:A.units<Ai)(h:Q (decide (k.1<l.1∨k.1=l.1∧k.2<l.2)) s):AE (AH prog w) A (oneLt' false (.ref a) (.ref b)) Q E s:=by
 obtain⟨o,n,t,u,h1,h2,h3⟩:=ta;obtain⟨o',n',t',u',h1',h2',h3'⟩:=tb;refine kat_one _ _ (HT.lt_tupInts (ns:=[k.1,k.2]) (ms:=[l.1,l.2]) ⟨o,h1,h2,n,h3⟩ ⟨o',h1',h2',n',h3'⟩ (intsAre_of (.cons ⟨t,rfl⟩ (.cons ⟨u,rfl⟩ .nil))) (intsAre_of (.cons ⟨t',rfl⟩ (.cons ⟨u',rfl⟩ .nil))) hu ?_);show Q (HT.lexLt [k.1,k.2] [l.1,l.2]) s;rw[aS7];exact h
theorem aPF {x y:AB}{ox oy:Obj}{n m:Nat}{a b c d:AB}{p q:NK2}(hx:s.heap.get? x=some ox)(dx:ox.data=.seq #[.ref a,.ref b] n)(hy:s.heap.get? y=some oy)(dy:oy.data=.seq #[.ref c,.ref d] m)
  (ta:TupI s.heap p.1 a) (tb:TupI s.heap p.2 b) (tc:TupI s.heap q.1 c) (td:TupI s.heap q.2 d) (hu:A.units<Ai)
  (h:Q (aCL p q) s):AE (AH prog w) A (keyLt' (tuples' false) (.ref x) (.ref y)) Q E s:=by
 refine kat_lt hx dx hy dy ?_;show KatLex prog w A false _ Q [(.ref a,.ref c),(.ref b,.ref d)] 0 s;refine kat_cons (E3 hu ta.key tc.key ?_);obtain⟨⟨p1,p2⟩,p3,p4⟩:=p;obtain⟨⟨q1,q2⟩,q3,q4⟩:=q;dsimp only at ta tb tc td ⊢;unfold aCL at h;dsimp only at h
 by_cases e:[p1,p2]=[q1,q2]
 ·rw[decide_eq_true e];injection e with e1 e2;injection e2 with e2 _;refine kat_yes (kat_cons (E3 hu tb.key td.key ?_));dsimp only
  by_cases f:[p3,p4]=[q3,q4]
  ·rw[decide_eq_true f];injection f with f1 f2;injection f2 with f2 _;refine kat_yes (kat_nil ?_);rw[decide_eq_false (by omega)] at h;exact h
  ·rw[decide_eq_false f];refine kat_no (aK1 tb td hu ?_);rw[decide_eq_decide.mpr (show _↔(p3<q3∨p3=q3∧p4<q4) by omega)] at h;exact h
 ·rw[decide_eq_false e];have e':¬(p1=q1∧p2=q2):=fun⟨h1,h2⟩=>e (by rw[h1,h2]);refine kat_no (aK1 ta tc hu ?_);rw[decide_eq_decide.mpr (show _↔(p1<q1∨p1=q1∧p2<q2) by omega)] at h;exact h
end
section
variable {prog:AL}{w:AI}{A:AV}{E:AA→AC→Prop}{s:AC}
theorem aCH {h:AF}{L:AB}{vs:List AA}{ks:List NK2}(hp:AX (NpAt h L) vs ks):∃ fs,KatTups h vs fs∧fs.length=vs.length∧∀ f∈fs,Looks (AH prog w) h (typeOf f) (.type "tuple"):=by
 induction hp with
 | nil=>exact⟨[],trivial,rfl,fun _ h=>(nomatch h)⟩
 | @cons v k vs ks r t ih=>
  obtain⟨fs,a1,a2,a3⟩:=ih;obtain⟨a,o,n,x,y,rfl,_,ho,hc,hd,_,_,⟨o',_,_,_,h1,h2,_⟩,_⟩:=r;refine⟨.ref x::fs,.cons ho hc hd rfl a1,congrArg Nat.succ a2,fun f hf=>?_⟩;rcases AK.mp hf with e|e
  ·rw[e];exact h2▸(show Looks (AH prog w) h (typeOf (.ref x)) o'.cls from(Looks.ld h1).andThen .now)
  ·exact a3 f e
theorem aJJ {h:AF}{L:AB}{vs:List AA}{ks:List NK2}(hp:AX (NpAt h L) vs ks):∀{i:Nat},i<vs.length→NpAt h L (vs.getD i .none) (ks.getD i nk0):=by
 induction hp with
 | nil=>intro i hi; cases hi
 | cons r t ih=>
  intro i hi
  cases i with
  | zero=>exact r
  | succ i=>exact ih (DX hi)
end
end L2
namespace L2
open PySem PySem.Spec PyProof.Rows
def pU (H:Hp):List V→List NK2→Prop:=AX fun v k=>∃ b x y,v=.ref b∧H b=some (.tup [.ref x,.ref y])∧H x=some (.tup [.int k.1.1,.int k.1.2])∧H y=some (.tup [.int k.2.1,.int k.2.2])
theorem a2Z {P:AL}{w:AI}{H:Hp}{h:AF}{k:Int×Int}{x:AB}(ok:HOk P w H h)(e:H x=some (.tup [.int k.1,.int k.2])):TupI h k x:=by
 obtain⟨_,items,ri,o,h1,h2,n,h3⟩:=(show ObjOk P w H h x (.tup [.int k.1,.int k.2]) from ok x _ e);obtain⟨u1,u2,rfl,r1,r2⟩:=ri.two;obtain⟨t1,rfl⟩:=r1;obtain⟨t2,rfl⟩:=r2;exact⟨o,n,t1,t2,h1,h2,h3⟩
section
variable {X:Cx}
end
end L2
namespace L2.VS
open PySem PySem.Spec PyProof.Rows
section
variable {P0:AB→Hp→Prop}{ta:TE}{ma:ME}{K:Fg}
def npD (k:NK2):D:=.tuple [.tuple [.int k.1.1,.int k.1.2],.tuple [.int k.2.1,.int k.2.2]]
def aE1 (ks:List NK2):List D:=ks.map npD
theorem aFW {G H:Hp}(sub:∀ b o,G b=some o→H b=some o):∀{ks:List NK2} {vs:List V},Dts G vs (aE1 ks)→pU H vs ks:=by
 intro ks vs h
 induction ks generalizing vs with
 | nil=>cases h; exact .nil
 | cons k ks ih=>
  cases h with
  | cons a b=>
   refine .cons ?_ (ih b)
   cases a with
   | tup h1 r1=>
    cases r1 with
    | cons a1 r1=>
     cases r1 with
     | cons a2 r2=>
      cases r2
      cases a1 with
      | tup h2 r2=>
       cases a2 with
       | tup h3 r3=>
        have z2:=xZ (ns:=[k.1.1,k.1.2]) r2;have z3:=xZ (ns:=[k.2.1,k.2.2]) r3;subst z2 z3;exact⟨_,_,_,rfl,sub _ _ h1,sub _ _ h2,sub _ _ h3⟩
end
end L2.VS
namespace L2
open PySem PySem.Spec PyProof.Rows
namespace ST
open SetTable
def tm (mask:Nat):SetTable:={ mask:=mask,place:=#[],dummies:=#[],finger:=0,led:=false,moves:=0,plain:=true }
theorem aK3 (t:SetTable):∀(n:Nat) (p:Be),adv t n p=adv (tm t.mask) n p
 | 0,_=>rfl
 | n+1,p=>aK3 t n (t.advance p)
def pj (mask:Nat)(h:Int)(n:Nat):Nat:=(adv (tm mask) n ((tm mask).probeStart h)).j
theorem aSG (t:SetTable)(h:Int)(n:Nat):(adv t n (t.probeStart h)).j=pj t.mask h n:=by rw[aK3]; rfl
def Up (xs:Array Nat):Prop:=xs.toList.Pairwise (·<·)
theorem a2X {xs:Array Nat}(up:Up xs)(j:Nat):∀(fuel lo hi:Nat),hi-lo≤fuel→lo≤hi→hi≤xs.size→(∀ i (h:i<xs.size),i<lo→xs[i]<j)→(∀ i (h:i<xs.size),hi≤i→j≤xs[i]) →
  (∀ i (h:i<xs.size),i<below.go xs j fuel lo hi→xs[i]<j)∧∀ i (h:i<xs.size),below.go xs j fuel lo hi≤i→j≤xs[i]
 | 0,lo,hi,hf,hl,hs,h1,h2=>by
  have:lo=hi:=by omega
  subst this;exact⟨h1,h2⟩
 | fuel+1,lo,hi,hf,hl,hs,h1,h2=>by
  unfold below.go
  by_cases c:lo<hi
  ·rw[if_pos c];dsimp only;have hm:(lo+hi)/2<xs.size:=by omega
   have e:xs.getD ((lo+hi)/2) j=xs[(lo+hi)/2]:=by rw[BW,A1 hm]; rfl
   have mono:∀ a b (ha:a<xs.size) (hb:b<xs.size),a<b→xs[a]<xs[b]:=fun a b ha hb hab=>by
    have:=CQ.mp up a b (by rw[Af]; exact ha) (by rw[Af]; exact hb) hab;simpa using this
   rw[e]
   by_cases d:xs[(lo+hi)/2]<j
   ·rw[if_pos d];refine a2X up j fuel _ _ (by omega) (by omega) hs (fun i h hi'=>?_) h2
    by_cases q:i=(lo+hi)/2
    ·subst q; exact d
    ·exact Nat.lt_trans (mono i _ h hm (by omega)) d
   ·rw[if_neg d];refine a2X up j fuel _ _ (by omega) (by omega) (by omega) h1 fun i h hi'=>?_
    by_cases q:i=(lo+hi)/2
    ·subst q; omega
    ·have:=mono _ i hm h (by omega);omega
  ·rw[if_neg c];have:lo=hi:=by omega
   subst this;exact⟨h1,h2⟩
theorem qK {xs:Array Nat}(up:Up xs)(j:Nat):(∀ i (h:i<xs.size),i<below xs j→xs[i]<j)∧∀ i (h:i<xs.size),below xs j≤i→j≤xs[i]:=
 a2X up j xs.size 0 xs.size (by omega) (A8 _) (AN _) (fun i h hi=>absurd hi (B0 _)) fun i h hi=>absurd h (by omega)
theorem aFL {xs:Array Nat}(up:Up xs){j:Nat}(h:j∈xs):xs[below xs j]?=some j:=by
 obtain⟨i,hi,e⟩:=Array.mem_iff_getElem.mp h;obtain⟨h1,h2⟩:=qK up j;have mono:∀ a b (ha:a<xs.size) (hb:b<xs.size),a<b→xs[a]<xs[b]:=fun a b ha hb hab=>by
  have:=CQ.mp up a b (by rw[Af]; exact ha) (by rw[Af]; exact hb) hab;simpa using this
 have a1:below xs j≤i:=Classical.byContradiction fun c=>by
  have:=h1 i hi (by omega);omega
 have a2:i≤below xs j:=Classical.byContradiction fun c=>by
  have hb:below xs j<xs.size:=by omega
  have:=h2 _ hb (AN _);have:=mono _ _ hb hi (by omega);omega
 have e2:below xs j=i:=by omega
 rw[e2,A1 hi,e]
theorem aL8 {t:SetTable}(up:Up t.place){j:Nat}(h:j∈t.place):∃ i,t.slot j=.live i∧t.place[i]?=some j:=by
 have e:=aFL up h;refine⟨below t.place j,?_,e⟩;unfold slot;dsimp only;rw[if_pos (by rw[e]; exact beq_self_eq_true _)]
theorem a9V {t:SetTable}(up:Up t.place){j:Nat}(h:t.slot j=.empty):j∉t.place:=fun hm=>by
 obtain⟨i,e,_⟩:=aL8 up hm;rw[e] at h
 cases h
theorem slot_mem {t:SetTable}{j i:Nat}(h:t.slot j=.live i):j∈t.place:=FX (z8 h)
def At {α:Type}(pl:Array Nat)(es:Array α)(j:Nat)(e:α):Prop:=∃ i:Nat,pl[i]?=some j∧es[i]?=some e
structure Way (mask:Nat)(pl:Array Nat)(es:Array (Int×AA)):Prop where
 up:Up pl
 sz:pl.size=es.size
 way:∀ j e,At pl es j e→∃ n,pj mask e.1 n=j∧∀ m,m<n→pj mask e.1 m∈pl
theorem gF {α:Type}(xs:Array α)(p:Nat)(x:α)(hp:p≤xs.size):(B2 xs p x).toList=xs.toList.take p++x::xs.toList.drop p:=by
 rw[SetTable.toList_insertAt]
theorem vU {α:Type}{xs:Array α}{p:Nat}{x:α}(hp:p≤xs.size)(i:Nat):(B2 xs p x)[i]?=if i<p then xs[i]? else if i=p then some x else xs[i-1]?:=by
 rw[← BX,gF xs p x hp];have ll:(xs.toList.take p).length=p:=by rw[Bw,Af]; omega
 by_cases h:i<p
 ·rw[if_pos h,Bu (by omega),List.getElem?_take,if_pos h,BX]
 ·rw[if_neg h,B3 (by omega),ll]
  by_cases e:i=p
  ·subst e;rw[if_pos rfl,sub_self];rfl
  ·rw[if_neg e];obtain⟨k,rfl⟩:∃ k,i=p+1+k:=⟨i-p-1,by omega⟩;rw[show p+1+k-p=k+1 by omega,DO,List.getElem?_drop,show p+1+k-1=p+k by omega,BX]
theorem aD2 {α:Type}{pl:Array Nat}{es:Array α}{p j:Nat}{x:α}(hp:p≤pl.size)(hs:pl.size=es.size){j':Nat}{e':α}(h:At (B2 pl p j) (B2 es p x) j' e'):(j'=j∧e'=x)∨At pl es j' e':=by
 obtain⟨i,h1,h2⟩:=h;rw[vU hp] at h1;rw[vU (by omega)] at h2
 by_cases c:i<p
 ·rw[if_pos c] at h1 h2;exact .inr ⟨i,h1,h2⟩
 ·rw[if_neg c] at h1 h2
  by_cases e:i=p
  ·rw[if_pos e] at h1 h2;exact .inl ⟨(Az.inj h1).symm,(Az.inj h2).symm⟩
  ·rw[if_neg e] at h1 h2;exact .inr ⟨i-1,h1,h2⟩
theorem xF {xs:Array Nat}(j:Nat):below xs j≤xs.size:=by
 have go:∀(fuel lo hi:Nat),lo≤xs.size→hi≤xs.size→below.go xs j fuel lo hi≤xs.size:=by
  intro fuel
  induction fuel with
  | zero=>intro lo hi h1 h2; exact h1
  | succ fuel ih=>
   intro lo hi h1 h2;unfold below.go
   by_cases c:lo<hi
   ·rw[if_pos c];dsimp only
    split
    ·exact ih _ _ (by omega) h2
    ·exact ih _ _ h1 (by omega)
   ·rw[if_neg c];exact h1
 exact go _ _ _ (A8 _) (AN _)
theorem a1I {xs:Array Nat}{p j y:Nat}(hp:p≤xs.size):y∈B2 xs p j↔y=j∨y∈xs:=by
 rw[← CV,gF xs p j hp,BO,AK,←CV]
 conv=>rhs; rw[← List.take_append_drop p xs.toList,BO]
 constructor
 ·rintro(h|h|h)
  ·exact .inr (.inl h)
  ·exact .inl h
  ·exact .inr (.inr h)
 ·rintro(h|h|h)
  ·exact .inr (.inl h)
  ·exact .inl h
  ·exact .inr (.inr h)
theorem aDL {xs:Array Nat}(up:Up xs){j:Nat}(h:j∉xs):Up (B2 xs (below xs j) j):=by
 have hp:=xF (xs:=xs) j;obtain⟨h1,h2⟩:=qK up j;unfold Up;rw[gF xs _ j hp];have up':(xs.toList.take (below xs j)++xs.toList.drop (below xs j)).Pairwise (·<·):=by rw[List.take_append_drop]; exact up
 obtain⟨u1,u2,u3⟩:=C1.mp up';have ne:∀ y∈xs.toList,y≠j:=fun y hy e=>h (by rw[← e]; exact CV.mp hy);refine C1.mpr ⟨u1,BU.mpr ⟨fun y hy=>?_,u2⟩,fun a ha b hb=>?_⟩
 ·obtain⟨i,hi,e⟩:=Dy.mp hy;rw[List.getElem_drop] at e;rw[DQ,Af] at hi;have:=h2 (below xs j+i) (by omega) (by omega);have e':xs[below xs j+i]=y:=by simpa using e
  have:=ne y (List.mem_of_mem_drop hy);omega
 ·have ha':a<j:=by
   obtain⟨i,hi,e⟩:=Dy.mp ha;rw[List.getElem_take] at e;rw[Bw,Af] at hi;have:=h1 i (by omega) (by omega);have e':xs[i]=a:=by simpa using e
   omega
  rcases AK.mp hb with rfl|hb
  ·exact ha'
  ·exact u3 a ha b hb
theorem Way.put {mask:Nat}{pl:Array Nat}{es:Array (Int×AA)}(W:Way mask pl es){h:Int}{x:AA}{j n:Nat}(hj:j∉pl)(hn:pj mask h n=j)(hm:∀ m,m<n→pj mask h m∈pl) :
  Way mask (B2 pl (below pl j) j) (B2 es (below pl j) (h,x)):=by
 have hp:=xF (xs:=pl) j;refine⟨aDL W.up hj,?_,fun j' e' ha=>?_⟩
 ·rw[← Af,gF _ _ _ hp,←Af,gF _ _ _ (by rw[← W.sz]; exact hp)];have:=W.sz;simp only[BN,An,Bw,DQ,Af];omega
 ·rcases aD2 hp W.sz ha with⟨rfl,rfl⟩|ha
  ·exact⟨n,hn,fun m h=>(a1I hp).mpr (.inr (hm m h))⟩
  ·obtain⟨n',h1,h2⟩:=W.way j' e' ha;exact⟨n',h1,fun m h=>(a1I hp).mpr (.inr (h2 m h))⟩
theorem Way.meets {mask:Nat}{pl:Array Nat}{es:Array (Int×AA)}(W:Way mask pl es){j:Nat}{e:Int×AA}(ha:At pl es j e){n:Nat}(hn:pj mask e.1 n∉pl):∃ m,m<n∧pj mask e.1 m=j:=by
 obtain⟨m,h1,h2⟩:=W.way j e ha;refine⟨m,Classical.byContradiction fun c=>?_,h1⟩
 by_cases q:n=m
 ·subst q;rw[h1] at hn;obtain⟨i,hi,_⟩:=ha;exact hn (FX hi)
 ·exact hn (h2 n (by omega))
end ST
end L2
namespace L2
open PySem PySem.Spec PyProof.Rows
namespace ST
open SetTable
theorem a91 (mask:Nat):∀(m:Nat) (p:Be),m≤p.more→adv (tm mask) m p={ p with j:=p.j+m,more:=p.more-m }
 | 0,p,_=>rfl
 | m+1,p,h=>by
  show adv (tm mask) m ((tm mask).advance p)=_;have e:(tm mask).advance p={ p with j:=p.j+1,more:=p.more-1 }:=by unfold DG; rw[if_pos (by omega)]
  rw[e,a91 mask m _ (by show m≤p.more-1; omega)];show Be.mk _ _ _ _ _=Be.mk _ _ _ _ _;rw[show p.j+1+m=p.j+(m+1) by omega,show p.more-1-m=p.more-(m+1) by omega]
def st (mask i q:Nat):Be:=⟨i,runEnd mask i-i,i,q,none⟩
theorem a97 (mask i q:Nat):adv (tm mask) ((st mask i q).more+1) (st mask i q)=st mask (leap mask i q).1 (leap mask i q).2:=by
 rw[lB,a91 mask _ _ (AN _)]
 show(tm mask).advance _=_
 unfold DG;rw[if_neg (by show ¬(st mask i q).more-(st mask i q).more>0; omega)];rfl
theorem a95 {mask:Nat}(owner:Array (Option Nat)):∀(fuel i q j:Nat),layClean.free mask owner fuel i q=some j→∃ n,(adv (tm mask) n (st mask i q)).j=j∧owner.getD j (some 0)=none∧∀ m,m<n→owner.getD (adv (tm mask) m (st mask i q)).j (some 0)≠none
 | 0,_,_,_,h=>nomatch h
 | fuel+1,i,q,j,h=>by
  have hr:runEnd mask i+1-i=(st mask i q).more+1:=by
   show _=runEnd mask i-i+1;unfold runEnd
   split<;>omega
  have at_:∀ m,m≤(st mask i q).more→(adv (tm mask) m (st mask i q)).j=i+m:=fun m hm=>by rw[a91 mask m _ hm]; rfl
  unfold layClean.free at h;rw[hr] at h
  cases e:(List.range ((st mask i q).more+1)).find? fun k=>(owner.getD (i+k) (some 0)).isNone with
  | some k=>
   rw[e] at h
   cases h
   obtain⟨h1,h2⟩:=List.find?_eq_some_iff_append.mp e;obtain⟨as,bs,h3,h4⟩:=h2;have hk:k∈List.range ((st mask i q).more+1):=List.mem_of_find?_eq_some e;have hk':=A2.mp hk;have hlen:as.length=k:=by
    have:=congrArg (fun l=>l[as.length]?) h3;rw[B3 (AN _),sub_self] at this;have hl:as.length<(st mask i q).more+1:=by
     have:=congrArg List.length h3;rw[Bv,BN,An] at this;omega
    rw[DP hl] at this;exact Az.inj this
   refine⟨k,at_ k (by omega),by simpa using h1,fun m hm=>?_⟩;rw[at_ m (by omega)];have hmem:m∈as:=by
    have:=congrArg (fun l=>l[m]?) h3;rw[Bu (by omega),DP (by omega)] at this;exact BL this.symm
   intro e0;have:=h4 m hmem;rw[e0] at this
   cases this
  | none=>
   rw[e] at h;have hn:=DM.mp e;obtain⟨n,g1,g2,g3⟩:=a95 owner fuel _ _ j h;refine⟨(st mask i q).more+1+n,by rw[lB,a97]; exact g1,g2,fun m hm=>?_⟩
   by_cases c:m<(st mask i q).more+1
   ·rw[at_ m (by omega)];intro e0;have:=hn m (A2.mpr c);rw[e0] at this;exact this rfl
   ·obtain⟨k,rfl⟩:∃ k,m=(st mask i q).more+1+k:=⟨m-((st mask i q).more+1),by omega⟩;rw[lB,a97];exact g3 k (by omega)
def OW (mask:Nat)(hs:List Int)(o:Array (Option Nat)):Prop:=∀ j k:Nat,o[j]?=some (some k)→∃ h,hs[k]?=some h∧∃ n,pj mask h n=j∧∀ m,m<n→∃ k',o[pj mask h m]?=some (some k')
theorem getD_none {o:Array (Option Nat)}{j:Nat}(h:o.getD j (some 0)=none):o[j]?=some none:=by
 rw[BW] at h
 cases e:o[j]? with
 | none=>rw[e] at h; cases h
 | some x=>rw[e] at h; rw[show x=none from h]
theorem aEX {mask:Nat}{f:Option (Array (Option Nat)×Nat)→Int→Option (Array (Option Nat)×Nat)}(hL:aQA mask f)(hN:∀ h,f none h=none):∀(hs done:List Int) (o o':Array (Option Nat)) (n:Nat),OW mask done o→o.size=mask+1 →
  hs.foldl f (some (o,done.length))=some (o',n)→OW mask (done++hs) o'∧o'.size=mask+1
 | [],done,o,o',n,hw,hz,h=>by
  cases h
  rw[CK];exact⟨hw,hz⟩
 | h::hs,done,o,o',n,hw,hz,he=>by
  rw[DN] at he
  cases hf:layClean.free mask o (Bg mask) (A4 h%(mask+1)) (A4 h) with
  | none=>
   exfalso;have nn:∀(l:List Int),l.foldl f none=none:=fun l=>by
    induction l with
    | nil=>rfl
    | cons a l ih=>rw[DN,hN]; exact ih
   have this:=he;rw[hL,hf,Option.map_none] at this;rw[nn] at this
   cases this
  | some j=>
   obtain⟨q,f1,f2,f3⟩:=a95 o _ _ _ j hf;have f2':=getD_none f2;have hj:j<o.size:=(EQ.mp f2').1;have eP:st mask (A4 h%(mask+1)) (A4 h)=(tm mask).probeStart h:=rfl;rw[eP] at f1 f3;have occ:∀ m,m<q→∃ k',o[pj mask h m]?=some (some k'):=fun m hm=>by
    have:=f3 m hm;rw[show(adv (tm mask) m ((tm mask).probeStart h)).j=pj mask h m from rfl,BW] at this
    cases e:o[pj mask h m]? with
    | some x=>
     rw[e] at this
     cases x with
     | none=>exact absurd rfl this
     | some k=>exact⟨k,rfl⟩
    | none=>
     exfalso;have hb:pj mask h m<o.size:=by
      rw[hz];have le:∀(p:Be),p.j+p.more≤mask→p.i≤mask→∀ n,(adv (tm mask) n p).j+(adv (tm mask) n p).more≤mask:=fun p h1 h2 n=>by
       induction n generalizing p with
       | zero=>exact h1
       | succ n ih=>
        refine ih ((tm mask).advance p) ?_ ?_
        ·unfold DG
         by_cases c:p.more>0
         ·rw[if_pos c];show p.j+1+(p.more-1)≤mask;omega
         ·rw[if_neg c];have:=a8B mask p.i p.perturb
          show(leap mask p.i p.perturb).1+(runEnd mask (leap mask p.i p.perturb).1-(leap mask p.i p.perturb).1)≤mask
          unfold runEnd
          split<;>omega
        ·unfold DG
         by_cases c:p.more>0
         ·rw[if_pos c];exact h2
         ·rw[if_neg c];exact a8B mask p.i p.perturb
      have b0:A4 h%(mask+1)≤mask:=DW (mod_lt _ (D3 _));have:=le ((tm mask).probeStart h) (by
       show A4 h%(mask+1)+(runEnd mask (A4 h%(mask+1))-A4 h%(mask+1))≤mask;unfold runEnd
       split<;>omega) b0 m
      show(adv (tm mask) m ((tm mask).probeStart h)).j<mask+1
      omega
     rw[A1 hb] at e
     cases e
   have get':∀ i,(o.setIfInBounds j (some done.length))[i]?=if i=j then some (some done.length) else o[i]?:=fun i=>by
    rw[Array.getElem?_setIfInBounds]
    by_cases c:j=i
    ·rw[if_pos c,if_pos c.symm,if_pos hj]
    ·rw[if_neg c,if_neg (fun e=>c e.symm)]
   have keep:∀ i k':Nat,o[i]?=some (some k')→∃ k'',(o.setIfInBounds j (some done.length))[i]?=some (some k''):=fun i k' hi=>by
    rw[get' i]
    by_cases c:i=j
    ·exact⟨_,if_pos c⟩
    ·exact⟨k',by rw[if_neg c]; exact hi⟩
   have hw':OW mask (done++[h]) (o.setIfInBounds j (some done.length)):=fun i k hi=>by
    rw[get' i] at hi
    by_cases c:i=j
    ·rw[if_pos c] at hi
     cases hi
     refine⟨h,by rw[B3 (AN _),sub_self]; rfl,q,by rw[c]; exact f1,fun m hm=>?_⟩;obtain⟨k',hk'⟩:=occ m hm;exact keep _ k' hk'
    ·rw[if_neg c] at hi;obtain⟨h',e1,n',e2,e3⟩:=hw i k hi;have kl:k<done.length:=(List.getElem?_eq_some_iff.mp e1).1;refine⟨h',by rw[Bu kl]; exact e1,n',e2,fun m hm=>?_⟩;obtain⟨k',hk'⟩:=e3 m hm;exact keep _ k' hk'
   have he':hs.foldl f (some (o.setIfInBounds j (some done.length),(done++[h]).length))=some (o',n):=by
    rw[← he,hL,hf,BN,Cz];rfl
   have r:=aEX hL hN hs (done++[h]) _ o' n hw' (by rw[GI]; exact hz) he';rwa[DL,List.singleton_append] at r
theorem filterMap_get {α β:Type}{f:α→Option β}:∀{l:List α},(∀ x∈l,∃ y,f x=some y)→∀ i:Nat,(l.filterMap f)[i]?=l[i]?.bind f
 | [],_,i=>rfl
 | x::l,h,i=>by
  obtain⟨y,hy⟩:=h x mem_cons_self;rw[List.filterMap_cons_some hy]
  cases i with
  | zero=>show some y=f x; exact hy.symm
  | succ i=>
   rw[DO,DO];exact filterMap_get (fun z hz=>h z (AU _ hz)) i
theorem aH5 {mask finger moves:Nat}{led plain:Bool}{es:Array (Int×AA)}{t:SetTable}{order:Array Nat}(h:laid mask finger moves led plain (es.map (·.1))=some (t,order)):Way mask t.place (order.filterMap (es[·]?)):=by
 unfold laid at h
 cases hc:layClean mask (es.map (·.1)) with
 | none=>rw[hc] at h; cases h
 | some o=>
  rw[hc] at h;have h:some (({ mask,place:=(((List.range (mask+1)).filterMap fun j=>(o.getD j none).map (j,·)).map (·.1)).toArray,dummies:=#[],finger,led,moves,plain }:SetTable),(((List.range (mask+1)).filterMap fun j=>(o.getD j none).map (j,·)).map (·.2)).toArray)=some (t,order):=h
  cases h
  dsimp only;unfold layClean at hc;rw[← Array.foldl_toList] at hc;obtain⟨⟨o1,n⟩,hf,ho⟩:=C5.mp hc;have ho:o1=o:=ho;subst ho;have ow0:OW mask [] (FY (mask+1) none):=fun j k hj=>by
   rw[Array.getElem?_replicate] at hj
   split at hj<;>cases hj
  obtain⟨ow,oz⟩:=aEX (fun o k h=>by show(layClean.free mask o (Bg mask) (A4 h%(mask+1)) (A4 h)).bind _=_; cases layClean.free mask o (Bg mask) (A4 h%(mask+1)) (A4 h)<;>rfl) (fun _=>rfl) (es.map (·.1)).toList [] _ o1 n ow0 GJ hf;rw[By] at ow;generalize hL:(List.range (mask+1)).filterMap (fun j=>(o1.getD j none).map (j,·))=live;have inL:∀ j k,(j,k)∈live→o1[j]?=some (some k):=fun j k hm=>by
   rw[← hL] at hm;obtain⟨j',_,e⟩:=C0.mp hm;obtain⟨k',e1,e2⟩:=C5.mp e
   cases e2
   rw[BW] at e1
   cases c:o1[j]? with
   | none=>rw[c] at e1; cases e1
   | some x=>rw[c] at e1; rw[show x=some k from e1]
  have toL:∀ j k,o1[j]?=some (some k)→(j,k)∈live:=fun j k hj=>by
   rw[← hL];have hb:j<o1.size:=(EQ.mp hj).1;exact C0.mpr ⟨j,A2.mpr (by omega),by rw[BW,hj]; rfl⟩
  have kes:∀ j k,o1[j]?=some (some k)→∃ e,es[k]?=some e:=fun j k hj=>by
   obtain⟨h,e1,_⟩:=ow j k hj;rw[BX,Array.getElem?_map] at e1
   cases c:es[k]? with
   | none=>rw[c] at e1; cases e1
   | some e=>exact⟨e,c⟩
  have e':∀ i:Nat,(Array.filterMap (fun x=>es[x]?) (live.map (·.2)).toArray)[i]?=(live[i]?).bind fun p=>es[p.2]?:=fun i=>by
   rw[← BX,Ee,filterMap_get (fun k hk=>by
    obtain⟨⟨j,k'⟩,hm,rfl⟩:=Ab.mp hk;exact kes j k' (inL j k' hm)) i,Aa]
   cases live[i]?<;>rfl
  have up:(live.map (·.1)).Pairwise (·<·):=by
   rw[← hL];refine C2.mpr (List.Pairwise.filterMap _ (fun a b hab x hx y hy=>?_) List.pairwise_lt_range);obtain⟨_,_,e1⟩:=C5.mp hx;obtain⟨_,_,e2⟩:=C5.mp hy;rw[← e1,←e2];exact hab
  refine⟨up,?_,fun j e ha=>?_⟩
  ·have h1:(Array.filterMap (fun x=>es[x]?) (live.map (·.2)).toArray).toList.length=live.length:=by
    rw[Ee];have:∀ l:List Nat,(∀ x∈l,∃ y,es[x]?=some y)→(l.filterMap fun x=>es[x]?).length=l.length:=fun l=>by
     induction l with
     | nil=>intro _; rfl
     | cons x l ih=>
      intro hx;obtain⟨y,hy⟩:=hx x mem_cons_self;rw[List.filterMap_cons_some hy,An,An,ih fun z hz=>hx z (AU _ hz)]
    rw[this _ (fun k hk=>by
     obtain⟨⟨j,k'⟩,hm,rfl⟩:=Ab.mp hk;exact kes j k' (inL j k' hm)),AS]
   rw[Af] at h1;rw[h1,Ak,AS]
  ·obtain⟨i,h1,h2⟩:=ha;rw[List.getElem?_toArray,Aa] at h1;rw[e' i] at h2
   cases c:live[i]? with
   | none=>rw[c] at h1; cases h1
   | some p=>
    rw[c] at h1 h2;obtain⟨j',k⟩:=p
    cases h1
    have hm:=inL j' k (BL c);obtain⟨hh,e1,n',e2,e3⟩:=ow j' k hm;have e1':hh=e.1:=by
     rw[BX,Array.getElem?_map,show es[k]?=some e from h2] at e1;exact(Az.inj e1).symm
    subst e1';refine⟨n',e2,fun m hm'=>?_⟩;obtain⟨k',hk'⟩:=e3 m hm';refine Array.mem_def.mpr (Ab.mpr ⟨(_,k'),toL _ k' hk',rfl⟩)
end ST
end L2
namespace L2.ST
open PySem PySem.SetTable
structure KK (prog:AL)(w:AI)(κ:Type) where
 At:(AB→Prop)→AF→κ→AB→Prop
 hash:κ→Int
 cost:κ→Nat
 gd:∀{Gd h k x},At Gd h k x→Gd x
 seq:∀{Gd h k x},At Gd h k x→∃ o items n,h.get? x=some o∧o.data=.seq items n
 pres:∀{Gd h h' k x},(∀ b o items n,Gd b→h.get? b=some o→o.data=.seq items n→h'.get? b=some o)→At Gd h k x→At Gd h' k x
 weak:∀{Gd Gd' h k x},(∀ b,Gd b→Gd' b)→At Gd h k x→At Gd' h k x
 inj:∀{Gd Gd' h k k' x},At Gd h k x→At Gd' h k' x→k=k'
 quiet:∀{Gd A k x} {E:AA→AC→Prop} {s:AC} {Q:Bool→AC→Prop},At Gd s.heap k x→Q true s→AE (AH prog w) A (Dr 8 (.ref x)) Q E s
 cls:∀{Gd A k x} {E:AA→AC→Prop} {s:AC} {Q:Bool→AC→Prop},At Gd s.heap k x→Q false s→AE (AH prog w) A (Cg 8 (.ref x)) Q E s
 byv:∀{Gd A k x} {E:AA→AC→Prop} {s:AC} {Q:Bool→AC→Prop},At Gd s.heap k x→Q true s→AE (AH prog w) A (CH 8 (.ref x)) Q E s
 eqb:∀{Gd Gd' k k' x y} {A:AV} {E:AA→AC→Prop} {s:AC} {Q:Bool→AC→Prop},A.units+8<Ai→At Gd s.heap k x→At Gd' s.heap k' y→(∀ b:Bool,(b=true↔k=k')→Q b s)→AE (AH prog w) A (eqBool (.ref x) (.ref y)) Q E s
 hsh:∀{Gd k x} {A:AV} {E:AA→AC→Prop} {s:AC} {Q:Int→AC→Prop},A.units+8<Ai→At Gd s.heap k x→Q (hash k) { s with toks:=s.toks+cost k }→AE (AH prog w) A (pyHash (.ref x)) Q E s
section
variable {prog:AL}{w:AI}{A:AV}{E:AA→AC→Prop}{s:AC}{κ:Type}{kk:KK prog w κ}
def KeyX (kk:KK prog w κ)(Gd:AB→Prop)(h:AF)(k:κ)(e:Int×AA):Prop:=e.1=kk.hash k∧∃ b,e.2=.ref b∧kk.At Gd h k b
variable {Gd:AB→Prop}
theorem aAU {t:SetTable}(hd:t.dummies=#[])(hashAt:Nat→Int)(h:Int):∀(n fuel:Nat) (p:Be),p.dummy=none→t.slot (adv t n p).j=.empty→n<fuel →
  (∃ m,m≤n∧t.slot (adv t m p).j=.empty∧probe.go t hashAt h fuel p=some (.empty (adv t m p).j none)∧∀ q,q<m→∃ i,t.slot (adv t q p).j=.live i∧hashAt i≠h) ∨
  (∃ i m,m+1≤n∧t.slot (adv t m p).j=.live i∧probe.go t hashAt h fuel p=some (.candidate (adv t m p).j i (adv t (m+1) p))∧hashAt i=h∧∀ q,q<m→∃ i,t.slot (adv t q p).j=.live i∧hashAt i≠h)
 | n,0,_,_,_,hf=>absurd hf (B0 _)
 | n,fuel+1,p,hp,he,hf=>by
  unfold probe.go
  cases hs:t.slot p.j with
  | empty=>exact .inl ⟨0,A8 _,hs,by show some (Met.empty p.j p.dummy)=_; rw[hp]; rfl,fun q hq=>absurd hq (B0 _)⟩
  | dummy=>exact absurd hs (a6X hd _)
  | live i=>
   dsimp only
   cases n with
   | zero=>exact nomatch hs.symm.trans he
   | succ n=>
    by_cases hh:hashAt i=h
    ·rw[if_pos (by simpa using hh)];exact .inr ⟨i,0,by omega,hs,rfl,hh,fun q hq=>absurd hq (B0 _)⟩
    ·rw[if_neg (by simpa using hh)];have ih:=aAU hd hashAt h n fuel (t.advance p) (by rw[tK]; exact hp) he (by omega);rcases ih with⟨m,a,b,c,d⟩|⟨i',m,a,b,c,d,e⟩
     ·refine .inl ⟨m+1,by omega,b,c,fun q hq=>?_⟩
      cases q with
      | zero=>exact⟨i,hs,hh⟩
      | succ q=>exact d q (by omega)
     ·refine .inr ⟨i',m+1,by omega,b,c,d,fun q hq=>?_⟩
      cases q with
      | zero=>exact⟨i,hs,hh⟩
      | succ q=>exact e q (by omega)
theorem aII {k:κ}{x:AB}{Q:Bool→AC→Prop}(hk:kk.At Gd s.heap k x)(l:List AA)(hl:∀ v∈l,∃ k b,v=.ref b∧kk.At Gd s.heap k b)(h:Q false s) :
  AE (AH prog w) A (searchCouldBeSeen (.ref x) l) Q E s:=by
 unfold searchCouldBeSeen;refine AD ?_;refine C8 _ (fun rest r s'=>r.1=none∧s'=s∧∀ v∈rest,∃ k b,v=.ref b∧kk.At Gd s.heap k b) _ ?_ ?_ _ _ ⟨rfl,rfl,hl⟩
 ·rintro v rest r s' ⟨hr,rfl,hall⟩;obtain⟨k',b,rfl,hb⟩:=hall v mem_cons_self;have hr':∀ u∈rest,∃ k b,u=.ref b∧kk.At Gd s'.heap k b:=fun u hu'=>hall u (AU _ hu');dsimp only
  split
  ·exact AG ⟨rfl,rfl,hr'⟩
  ·refine AD (kk.quiet hk ?_);simp only[Bb,Ae,if_false];refine AD (kk.quiet hb ?_);simp only[Bb,Ae,if_false];refine AD (kk.cls hk ?_);simp only[Ae,if_false];refine AD (kk.cls hb ?_);simp only[Ae,if_false];exact AG ⟨rfl,rfl,hr'⟩
 ·rintro⟨r1,r2⟩ s' ⟨hr,rfl,_⟩
  simp only at hr;subst hr;exact AG h
theorem KeyX.inj {h:AF}{k k':κ}{e:Int×AA}(h1:KeyX kk Gd h k e)(h2:KeyX kk Gd h k' e):k=k':=by
 obtain⟨_,b,e1,a1⟩:=h1;obtain⟨_,b',e2,a2⟩:=h2;rw[e1] at e2
 cases e2
 exact kk.inj a1 a2
theorem aO0 {xs:Array Nat}(up:Up xs){i i' j:Nat}(h:xs[i]?=some j)(h':xs[i']?=some j):i=i':=by
 obtain⟨h1,e1⟩:=EQ.mp h;obtain⟨h2,e2⟩:=EQ.mp h';have mono:∀ a b (ha:a<xs.size) (hb:b<xs.size),a<b→xs[a]<xs[b]:=fun a b ha hb hab=>by
  have:=CQ.mp up a b (by rw[Af]; exact ha) (by rw[Af]; exact hb) hab;simpa using this
 rcases C3 i i' with c|c|c
 ·have:=mono i i' h1 h2 c; omega
 ·exact c
 ·have:=mono i' i h2 h1 c; omega
theorem aFD {es:Array (Int×AA)}{i:Nat}{e:Int×AA}(h:es[i]?=some e):(es[i]?.map (·.1)).getD 0=e.1:=by rw[h]; rfl
theorem a1Y {a x:AB}{o:Obj}{es:Array (Int×AA)}{ep:Nat}{t:SetTable}{k:κ}{Q:SetFound→AC→Prop}(ho:s.heap.get? a=some o)(hd:o.data=.set es ep t)
  (T:Tb t es.size) (W:Way t.mask t.place es) (hx:kk.At Gd s.heap k x) (hes:∀ e∈es.toList,∃ k,KeyX kk Gd s.heap k e) (hu:A.units+8<Ai)
  (hfree:∀ n,pj t.mask (kk.hash k) n∉t.place→(∀ m,m<n→pj t.mask (kk.hash k) m∈t.place)→(∀ e∈es.toList,¬KeyX kk Gd s.heap k e)→Q (.free (pj t.mask (kk.hash k) n) false) s)
  (hthere:(∃ e∈es.toList,KeyX kk Gd s.heap k e)→Q (.there none) s) :
  ∀(n fuel i0:Nat) (st:Option Be),st.getD (t.probeStart (kk.hash k))=adv t i0 (t.probeStart (kk.hash k)) →
   (∀ q,q<i0→∃ i e,t.slot (pj t.mask (kk.hash k) q)=.live i∧es[i]?=some e∧¬KeyX kk Gd s.heap k e) →
   t.slot (adv t n (adv t i0 (t.probeStart (kk.hash k)))).j=.empty→n<fuel→n<10*Bg t.mask →
   AE (AH prog w) A (Fk a (.ref x) (kk.hash k) true fuel st) Q E s
 | n,0,i0,st,_,_,_,hf,_=>absurd hf (B0 _)
 | n,fuel+1,i0,st,hst,hbe,he,hf,hn=>by
  have hdm:(adv t i0 (t.probeStart (kk.hash k))).dummy=none:=by rw[a71]; rfl
  have at_:∀ m,(adv t m (adv t i0 (t.probeStart (kk.hash k)))).j=pj t.mask (kk.hash k) (i0+m):=fun m=>by rw[← lB,aSG]
  have live_e:∀ j i,t.slot j=.live i→∃ e,es[i]?=some e∧e∈es.toList:=fun j i h=>by
   have hpl:=z8 h;have hi:i<es.size:=by
    have:=(EQ.mp hpl).1;rw[T.sz] at this; exact this
   exact⟨es[i],A1 hi,CV.mpr (Array.getElem_mem hi)⟩
  have other:∀ m,(∀ q,q<m→∃ i,t.slot (adv t q (adv t i0 (t.probeStart (kk.hash k)))).j=.live i∧(es[i]?.map (·.1)).getD 0≠kk.hash k)→∀ q,q<i0+m→∃ i e,t.slot (pj t.mask (kk.hash k) q)=.live i∧es[i]?=some e∧¬KeyX kk Gd s.heap k e:=fun m hm q hq=>by
   by_cases c:q<i0
   ·exact hbe q c
   ·obtain⟨q',rfl⟩:∃ q',q=i0+q':=⟨q-i0,by omega⟩;obtain⟨i,h1,h2⟩:=hm q' (by omega);rw[at_] at h1;obtain⟨e,e1,_⟩:=live_e _ i h1;rw[aFD e1] at h2;exact⟨i,e,h1,e1,fun hk=>h2 hk.1⟩
  unfold Fk;refine AD (CJ ho hd T.fits ?_);dsimp only;rw[T.way];simp only[Ae,if_false];rw[hst];have gs:=aAU T.dum (fun i=>(es[i]?.map (·.1)).getD 0) (kk.hash k) n (10*Bg t.mask) (adv t i0 (t.probeStart (kk.hash k))) hdm he hn;rcases gs with⟨m,a0,a1,a2,a3⟩|⟨i,m,a0,a1,a2,a4,a3⟩
  ·split
   ·rename_i met hgo
    have hgo':some met=some (Met.empty (adv t m (adv t i0 (t.probeStart (kk.hash k)))).j none):=hgo.symm.trans a2
    cases hgo'
    rw[at_] at a1 ⊢;have hall:=other m a3;refine AG (hfree (i0+m) (a9V W.up a1) (fun q hq=>?_) fun e hem hke=>?_)
    ·obtain⟨i,e,h1,_,_⟩:=hall q hq;exact slot_mem h1
    ·obtain⟨i1,hi1,ei1⟩:=Dy.mp hem;have hi1':i1<es.size:=by rw[← Af]; exact hi1
     have e1:es[i1]?=some e:=by rw[A1 hi1']; exact congrArg some (by simpa using ei1)
     have hpi:i1<t.place.size:=by rw[T.sz]; exact hi1'
     have hat:At t.place es t.place[i1] e:=⟨i1,A1 hpi,e1⟩;obtain⟨m',hm',ej⟩:=W.meets hat (n:=i0+m) (by rw[hke.1]; exact a9V W.up a1);rw[hke.1] at ej;obtain⟨i,e',h1,h2,h3⟩:=hall m' hm';have hpl:=z8 h1;rw[ej] at hpl;have:i=i1:=aO0 W.up hpl (A1 hpi);subst this;rw[e1] at h2
     cases h2
     exact h3 hke
   ·rename_i hgo
    exact(hgo _ a2).elim
  ·split
   ·rename_i met hgo
    have hgo':some met=some (Met.candidate (adv t m (adv t i0 (t.probeStart (kk.hash k)))).j i (adv t (m+1) (adv t i0 (t.probeStart (kk.hash k))))):=hgo.symm.trans a2
    cases hgo'
    dsimp only;obtain⟨e,hei,hmem⟩:=live_e _ i a1;obtain⟨k',hk1,b,hb,hkb⟩:=hes e hmem;have next:k'≠k→AE (AH prog w) A (Fk a (.ref x) (kk.hash k) true fuel (some (adv t (m+1) (adv t i0 (t.probeStart (kk.hash k)))))) Q E s:=fun hkk=>by
     refine a1Y ho hd T W hx hes hu hfree hthere (n-(m+1)) fuel (i0+(m+1)) _ ?_ ?_ ?_ (by omega) (by omega)
     ·show adv t (m+1) (adv t i0 _)=_;rw[← lB]
     ·intro q hq
      by_cases c:q<i0+m
      ·exact other m a3 q c
      ·have:q=i0+m:=by omega
       subst this;rw[at_] at a1;exact⟨i,e,a1,hei,fun hke=>hkk (KeyX.inj ⟨hk1,b,hb,hkb⟩ hke)⟩
     ·rw[← lB,show i0+(m+1)+(n-(m+1))=i0+n by omega,lB];exact he
    have comp:∀{Q':Bool→AC→Prop},(∀ bb:Bool,(bb=true↔k'=k)→Q' bb s)→AE (AH prog w) A (eqBool e.2 (.ref x)) Q' E s:=fun h=>by
     rw[hb];exact kk.eqb hu hkb hx h
    split
    ·refine AD (aII (Gd:=Gd) hx _ (fun v hv'=>?_) ?_)
     ·obtain⟨e',he',rfl⟩:=Ab.mp hv';obtain⟨k2,_,b2,hb2,h2⟩:=hes e' (by have:=CV.mp he'; exact CV.mpr (Array.mem_filter.mp this).1);exact⟨k2,b2,hb2,h2⟩
     ·simp only[Ae,if_false];rw[hei];dsimp only;refine AD (BB ?_);refine comp fun bb hbb=>?_;refine AD (CJ ho hd T.fits ?_);dsimp only
      by_cases hkk:k'=k
      ·rw[hbb.mpr hkk];simp only[Bool.and_self,if_true];exact AG (hthere ⟨e,hmem,by rw[← hkk]; exact⟨hk1,b,hb,hkb⟩⟩)
      ·have hbf:bb=false:=by
        cases bb with
        | false=>rfl
        | true=>exact absurd (hbb.mp rfl) hkk
       rw[hbf];simp only[Bool.and_false,Ae,if_false];have hsm:t.sameMemory t.moves t.mask=some true:=by simp[sameMemory]
       rw[hsm];dsimp only;simp only[if_true];rw[a1];dsimp only;rw[hei];dsimp only;rw[hb];refine AD (GR ?_);refine AD (AG ?_);simp only[if_true];exact next hkk
    ·rw[hei];dsimp only;refine AD (BB ?_);refine comp fun bb hbb=>?_;refine AD (CJ ho hd T.fits ?_);dsimp only
     by_cases hkk:k'=k
     ·rw[hbb.mpr hkk];simp only[Bool.and_self,if_true];exact AG (hthere ⟨e,hmem,by rw[← hkk]; exact⟨hk1,b,hb,hkb⟩⟩)
     ·have hbf:bb=false:=by
       cases bb with
       | false=>rfl
       | true=>exact absurd (hbb.mp rfl) hkk
      rw[hbf];simp only[Bool.and_false,Ae,if_false];have hsm:t.sameMemory t.moves t.mask=some true:=by simp[sameMemory]
      rw[hsm];dsimp only;simp only[if_true];rw[a1];dsimp only;rw[hei];dsimp only;rw[hb];refine AD (GR ?_);refine AD (AG ?_);simp only[if_true];exact next hkk
   ·rename_i hgo
    exact(hgo _ a2).elim
theorem aE3 {a:AB}{o:Obj}{es:Array (Int×AA)}{ep:Nat}{t:SetTable}{Q:Unit→AC→Prop}(ho:s.heap.get? a=some o)(hd:o.data=.set es ep t)(T:Tb t es.size)(hn:es.size=5)
  (h:∀ es' t',List.Perm es'.toList es.toList→Tb t' es'.size→t'.mask=31→t'.led=t.led∧t'.plain=t.plain→Way 31 t'.place es'→Q () { s with heap:=s.heap.update a (DH es' t') }) :
  AE (AH prog w) A (setRelay a (SetTable.grown es.size)) Q E s:=by
 unfold setRelay;rw[hn];refine AD (CJ ho hd T.fits ?_);dsimp only;have e1:SetTable.sizeAbove (SetTable.grown 5)=32:=by decide
 have e0:¬(32>sizeLine):=by rw[Br]; decide
 obtain⟨t',order,l1,l2,l3⟩:=aDV (mask:=31) (.inr rfl) t.finger (t.movedTo 31) t.led t.plain (es.map (·.1)) (by rw[size_map,hn]; decide);have e2:t.relaid (es.map (·.1)) (SetTable.grown 5)=some (t',order):=by
  unfold relaid;rw[e1];exact l1
 rw[e1,if_neg e0,e2];have hm:t'.mask=31:=by
  unfold laid at l1
  cases hc:layClean 31 (es.map (·.1)) with
  | none=>rw[hc] at l1; cases l1
  | some ow=>rw[hc] at l1; cases l1; rfl
 have hl:t'.led=t.led∧t'.plain=t.plain:=by
  unfold laid at l1
  cases hc:layClean 31 (es.map (·.1)) with
  | none=>rw[hc] at l1; cases l1
  | some ow=>rw[hc] at l1; cases l1; exact⟨rfl,rfl⟩
 rw[size_map] at l2 l3;have hp:List.Perm (order.filterMap (es[·]?)).toList es.toList:=by
  rw[Ee];exact(l3.filterMap _).trans (by rw[filterMap_getElem?_range])
 have hz:(order.filterMap (es[·]?)).size=es.size:=by rw[← Af,hp.length_eq,Af]
 refine AD ?_;show AE _ _ (ite _ _ _) _ _ _;simp only[hz,bne_self_eq_false,Ae,if_false];refine AG ?_;refine wpAny_storeSet_of ho hd (h _ _ hp (by rw[hz]; exact l2) hm hl (aH5 l1)) ?_;rw[hz,hn,Br];decide
def SetX (kk:KK prog w κ)(Gd:AB→Prop)(h:AF)(a:AB)(ks:List κ)(n:Nat):Prop:=
 ∃ o es ep t,h.get? a=some o∧o.ExactSet∧o.data=.set es ep t∧Tb t es.size∧(t.mask=7→es.size≤4)∧(es.size≤n∧t.led=(!w.params.followText "set-order")∧t.plain=true)∧Way t.mask t.place es∧(∀ e∈es.toList,∃ k∈ks,KeyX kk Gd h k e)∧(∀ k∈ks,∃ e∈es.toList,KeyX kk Gd h k e)∧es.toList.Pairwise fun e e'=>∀ k,¬(KeyX kk Gd h k e∧KeyX kk Gd h k e')
theorem KeyX.keep {h h':AF}{a:AB}{o:Obj}{es:Array (Int×AA)}{ep:Nat}{t:SetTable}{k:κ}{e:Int×AA}(ho:h.get? a=some o)(hd:o.data=.set es ep t)(hs:Ar a h h')(hk:KeyX kk Gd h k e):KeyX kk Gd h' k e:=by
 obtain⟨h1,b,h2,h3⟩:=hk;refine⟨h1,b,h2,kk.pres (fun c oc items n _ hc hdc=>?_) h3⟩;have hne:c≠a:=by
  rintro rfl;rw[ho] at hc
  cases hc
  rw[hd] at hdc
  cases hdc
 exact(hs.2 c hne).trans hc
theorem KeyX.back {h h':AF}{a:AB}{o:Obj}{es:Array (Int×AA)}{ep:Nat}{t:SetTable}{k k0:κ}{e:Int×AA}(ho:h.get? a=some o)(hd:o.data=.set es ep t)(hs:Ar a h h')(h0:KeyX kk Gd h k0 e)(hk:KeyX kk Gd h' k e):KeyX kk Gd h k e:=by
 rw[KeyX.inj hk (h0.keep ho hd hs)];exact h0
theorem aBE {a x:AB}{k:κ}{ks:List κ}{n:Nat}{Q:Bool→AC→Prop}(hS:SetX kk Gd s.heap a ks n)(hx:kk.At Gd s.heap k x)(hu:A.units+8<Ai)(hn:n+1≤18)
  (h:∀(b:Bool) h' tk,s.toks≤tk→Ar a s.heap h'→SetX kk Gd h' a (k::ks) (n+1)→Q b { s with heap:=h',toks:=tk }) :
  AE (AH prog w) A (setAdd a (.ref x)) Q E s:=by
 unfold setAdd;refine BB ?_;refine AD (kk.hsh hu hx ?_);have htk:s.toks≤s.toks+kk.cost k:=FV _ _;generalize s.toks+kk.cost k=tk at htk ⊢;obtain⟨o,es,ep,t,ho,hex,hd,T,h7,⟨hle,hld,hpl⟩,W,hes,hks,hpw⟩:=hS;have hes':∀ e∈es.toList,∃ k,KeyX kk Gd s.heap k e:=fun e he=>let ⟨k,_,z⟩:=hes e he; ⟨k,z⟩;unfold setAddHashed setAddHashedIn;refine BB (AD (CJ (s:={ s with toks:=tk }) ho hd T.fits ?_));dsimp only;rw[show byScan (.ref x) es=false from rfl];simp only[Ae,if_false];refine AD ?_;unfold setSearch;obtain⟨q,q1,q2⟩:=T.reach (kk.hash k);have hq:10*Bg t.mask≤460:=by unfold Bg; rcases T.msk with e|e<;>omega
 refine a1Y (s:={ s with toks:=tk }) (Gd:=Gd) ho hd T W hx hes' hu (fun j hj1 hj2 hnew=>?_) (fun hth=>?_) q 100000 0 none rfl (fun q hq=>absurd hq (B0 _)) q2 (by omega) q1
 ·generalize hjj:pj t.mask (kk.hash k) j=jj at hj1;refine AD (CJ (s:={ s with toks:=tk }) ho hd T.fits ?_);dsimp only;have W1:∀ x',Way t.mask (B2 t.place (below t.place jj) jj) (B2 es (below t.place jj) (kk.hash k,x')):=fun x'=>W.put hj1 hjj hj2;have hend:∀(t1:SetTable),t1.place=B2 t.place (below t.place jj) jj→t1.place.size=es.size+1→t1.dummies=#[]→t1.mask=t.mask→t1.led=t.led→t1.plain=t.plain→AE (AH prog w) A (do
    storeSet a (SetTable.insertAt es (below t.place jj) (kk.hash k,Ac x)) t1
    if (!false&&t1.tooFull)=true then do
     setRelay a (SetTable.grown (es.size+1))
     pure true
    else pure true) Q E { s with toks:=tk }:=by
   intro t1 z0 z1 z2 z3 z4 z5;have hz:(SetTable.insertAt es (below t.place jj) (kk.hash k,Ac x)).size=es.size+1:=u9 ..;have hpm:List.Perm (SetTable.insertAt es (below t.place jj) (kk.hash k,Ac x)).toList (es.toList++[(kk.hash k,Ac x)]):=by
    have:=SetTable.insertAt_perm es (below t.place jj) (kk.hash k,Ac x);rwa[Array.toList_push] at this
   have W2:Way t1.mask t1.place (SetTable.insertAt es (below t.place jj) (kk.hash k,Ac x)):=by rw[z0,z3]; exact W1 _
   generalize SetTable.insertAt es (below t.place jj) (kk.hash k,Ac x)=es1 at hz hpm W2;have T1:Tb t1 es1.size:=by
    refine⟨z2,z3▸T.msk,by rw[z1,hz],?_⟩;rw[z3,hz];rcases T.msk with e|e
    ·have:=h7 e; omega
    ·omega
   refine AD (wpAny_storeSet_of (s:={ s with toks:=tk }) ho hd ?_ (by rw[hz,Br]; omega));have hg:=aFQ ho hd es1 t1;have hsb:=CI s.heap a (DH es1 t1);have kx:KeyX kk Gd s.heap k (kk.hash k,Ac x):=⟨rfl,x,rfl,hx⟩;have hall:∀ e∈es1.toList,∃ k'∈k::ks,KeyX kk Gd s.heap k' e:=by
    intro e he;rcases BO.mp (hpm.mem_iff.mp he) with he|he
    ·obtain⟨k',h1,h2⟩:=hes e he;exact⟨k',AU _ h1,h2⟩
    ·rw[mem_singleton] at he; subst he; exact⟨k,mem_cons_self,kx⟩
   have hks1:∀ k'∈k::ks,∃ e∈es1.toList,KeyX kk Gd s.heap k' e:=by
    intro k' hk';rcases AK.mp hk' with rfl|hk'
    ·exact⟨_,hpm.mem_iff.mpr (Bo _ (mem_singleton.mpr rfl)),kx⟩
    ·obtain⟨e,he,z⟩:=hks k' hk';exact⟨e,hpm.mem_iff.mpr (Dx _ he),z⟩
   have sym:∀{hh:AF} {e e':Int×AA},(∀ k,¬(KeyX kk Gd hh k e∧KeyX kk Gd hh k e'))→∀ k,¬(KeyX kk Gd hh k e'∧KeyX kk Gd hh k e):=fun h k hk=>h k ⟨hk.2,hk.1⟩;have hpw1:es1.toList.Pairwise fun e e'=>∀ k,¬(KeyX kk Gd s.heap k e∧KeyX kk Gd s.heap k e'):=by
    refine(hpm.pairwise_iff sym).mpr (C1.mpr ⟨hpw,List.pairwise_singleton _ _,fun e he e' he' k' hk'=>?_⟩);rw[mem_singleton] at he';subst he';have:=KeyX.inj hk'.2 kx;subst this;exact hnew e he hk'.1
   by_cases hf:t1.tooFull=true
   ·rw[if_pos (by rw[hf]; rfl)];have h5:es1.size=5:=by
     simp only[SetTable.tooFull,SetTable.fill,z2,decide_eq_true_eq,ge_iff_le] at hf;rw[z1,z3] at hf;simp at hf;rcases T.msk with e|e
     ·have:=h7 e; rw[e] at hf; omega
     ·rw[e] at hf; omega
    rw[← hz];refine AD (aE3 (s:={ s with heap:=s.heap.update a (DH es1 t1),toks:=tk }) hg rfl T1 h5 fun es2 t2 p2 T2 m2 l2 W3=>?_);have hsb2:=hsb.trans (CI (s.heap.update a (DH es1 t1)) a (DH es2 t2));have hz2:es2.size=es1.size:=by rw[← Af,p2.length_eq,Af]
    refine AG (h true _ tk htk hsb2 ⟨_,es2,_,t2,aFQ hg rfl es2 t2,hex,rfl,T2,fun e=>absurd (m2.symm.trans e) (by decide),⟨by omega,(l2.1.trans z4).trans hld,(l2.2.trans z5).trans hpl⟩,by rw[m2]; exact W3,fun e he=>?_,fun k' hk'=>?_,?_⟩)
    ·obtain⟨k',h1,z⟩:=hall e (p2.mem_iff.mp he);exact⟨k',h1,z.keep ho hd hsb2⟩
    ·obtain⟨e,he,z⟩:=hks1 k' hk';exact⟨e,p2.mem_iff.mpr he,z.keep ho hd hsb2⟩
    ·refine(p2.pairwise_iff sym).mpr (hpw1.imp_of_mem fun{e e'} he he' hne k' hk'=>?_);obtain⟨k1,_,y1⟩:=hall e he;obtain⟨k2,_,y2⟩:=hall e' he';exact hne k' ⟨KeyX.back ho hd hsb2 y1 hk'.1,KeyX.back ho hd hsb2 y2 hk'.2⟩
   ·rw[if_neg (by simpa using hf)];refine AG (h true _ tk htk hsb ⟨_,es1,_,t1,hg,hex,rfl,T1,fun e=>?_,⟨by omega,z4.trans hld,z5.trans hpl⟩,W2,fun e he=>?_,fun k' hk'=>?_,?_⟩)
    ·simp only[SetTable.tooFull,SetTable.fill,z2,decide_eq_true_eq,ge_iff_le] at hf;rw[z1,e] at hf;simp at hf;omega
    ·obtain⟨k',h1,z⟩:=hall e he;exact⟨k',h1,z.keep ho hd hsb⟩
    ·obtain⟨e,he,z⟩:=hks1 k' hk';exact⟨e,he,z.keep ho hd hsb⟩
    ·refine hpw1.imp_of_mem fun{e e'} he he' hne k' hk'=>?_;obtain⟨k1,_,y1⟩:=hall e he;obtain⟨k2,_,y2⟩:=hall e' he';exact hne k' ⟨KeyX.back ho hd hsb y1 hk'.1,KeyX.back ho hd hsb y2 hk'.2⟩
  have p0:(t.put jj).1.place=B2 t.place (below t.place jj) jj:=rfl;have p1:(t.put jj).1.place.size=es.size+1:=by
   show(SetTable.insertAt _ _ _).size=_
   rw[u9,T.sz]
  have p2:(t.put jj).1.dummies=#[]:=by
   show(if has t.dummies jj=true then _ else _)=_
   rw[T.dum,if_neg (by simp[has])]
  have p3:(t.put jj).1.mask=t.mask:=rfl
  split
  ·refine AD (kk.byv (s:={ s with toks:=tk }) hx ?_);simp only[if_true];exact hend { (t.put jj).1 with plain:=(t.put jj).1.plain } p0 p1 p2 p3 rfl rfl
  ·refine AD (AG ?_);simp only[if_true];exact hend _ p0 p1 p2 p3 rfl rfl
 ·refine AG (h false s.heap tk htk (Ar.refl a s.heap) ⟨o,es,ep,t,ho,hex,hd,T,h7,⟨by omega,hld,hpl⟩,W,fun e he=>?_,fun k' hk'=>?_,hpw⟩)
  ·obtain⟨k',h1,z⟩:=hes e he;exact⟨k',AU _ h1,z⟩
  ·rcases AK.mp hk' with rfl|hk'
   ·exact hth
   ·exact hks k' hk'
end
end L2.ST
namespace L2.ST
open PySem PySem.SetTable PyProof.Rows
section
variable {prog:AL}{w:AI}{A:AV}{E:AA→AC→Prop}{s:AC}
theorem a2W (a:AA){Q₁:AA→AC→Prop}
  (h:Q₁ (.ref s.heap.objs.size) { s with heap:=s.heap.push { cls:=.type "set", dict:=none,data:=.set #[] 0 (.fresh 0 0 (!w.params.followText "set-order")) } }) :
  Bk (AH prog w) A (.call (.builtin "set.__new__") ⟨[.type "set", a],[]⟩) (wants Q₁ E) s:=by
 refine codeAny_of_tree ?_;show AE _ A.in1 (do checkBuiltinCall "set.__new__" ⟨[.type "set", a],[]⟩; again (.builtin "set.__new__" ⟨[.type "set", a],[]⟩)) _ _ s;refine AD (Fe (F.newCall_set_1 a) (AG ⟨Cr F.plain_set_new _,Cq F.entry_set_new ?_⟩));rw[DE F.plain_set_new _];unfold AM.«set.__new__» AM.Frozenset.newClass;have hsub:=sub_set_self;obtain⟨hp,g,d,tk,os⟩:=s;dsimp only
 wp_walk
 refine E4 (AG ?_);dsimp only;simp only[newObj];refine AD (wpAny_alloc (AG ?_));exact AG h
end
section
variable {prog:AL}{w:AI}{κ:Type}{kk:KK prog w κ}
theorem KeyX.inj2 {Gd Gd':AB→Prop}{h:AF}{k k':κ}{e:Int×AA}(h1:KeyX kk Gd h k e)(h2:KeyX kk Gd' h k' e):k=k':=by
 obtain⟨_,b,e1,a1⟩:=h1;obtain⟨_,b',e2,a2⟩:=h2;rw[e1] at e2
 cases e2
 exact kk.inj a1 a2
theorem SetX.pres {Gd:AB→Prop}{h h':AF}{a:AB}{ks:List κ}{n:Nat}(S:SetX kk Gd h a ks n)(ha:∀ o,h.get? a=some o→h'.get? a=some o)
  (hg:∀ b o,Gd b→h.get? b=some o→h'.get? b=some o):SetX kk Gd h' a ks n:=by
 obtain⟨o,es,ep,t,ho,hex,hd,T,h7,hle,W,hes,hks,hpw⟩:=S;have hk:∀{k e},KeyX kk Gd h k e→KeyX kk Gd h' k e:=fun⟨h1,b,h2,h3⟩=>⟨h1,b,h2,kk.pres (fun c o _ _ hc e _=>hg c o hc e) h3⟩;refine⟨o,es,ep,t,ha o ho,hex,hd,T,h7,hle,W,fun e he=>let ⟨k,m,z⟩:=hes e he; ⟨k,m,hk z⟩,fun k' hk'=>let ⟨e,he,z⟩:=hks k' hk'; ⟨e,he,hk z⟩,hpw.imp_of_mem fun{e e'} he he' hne k hk'=>?_⟩;obtain⟨k1,_,y1⟩:=hes e he;obtain⟨k2,_,y2⟩:=hes e' he';refine hne k ⟨?_,?_⟩
 ·rw[KeyX.inj hk'.1 (hk y1)]; exact y1
 ·rw[KeyX.inj hk'.2 (hk y2)]; exact y2
theorem SetX.weak {Gd Gd':AB→Prop}{h:AF}{a:AB}{ks:List κ}{n:Nat}(S:SetX kk Gd h a ks n)(hg:∀ b,Gd b→Gd' b):SetX kk Gd' h a ks n:=by
 obtain⟨o,es,ep,t,ho,hex,hd,T,h7,hle,W,hes,hks,hpw⟩:=S;have hk:∀{k e},KeyX kk Gd h k e→KeyX kk Gd' h k e:=fun⟨h1,b,h2,h3⟩=>⟨h1,b,h2,kk.weak hg h3⟩;refine⟨o,es,ep,t,ho,hex,hd,T,h7,hle,W,fun e he=>let ⟨k,m,z⟩:=hes e he; ⟨k,m,hk z⟩,fun k' hk'=>let ⟨e,he,z⟩:=hks k' hk'; ⟨e,he,hk z⟩,hpw.imp_of_mem fun{e e'} he he' hne k hk'=>?_⟩;obtain⟨k1,_,y1⟩:=hes e he;obtain⟨k2,_,y2⟩:=hes e' he';refine hne k ⟨?_,?_⟩
 ·rw[KeyX.inj2 hk'.1 y1]; exact y1
 ·rw[KeyX.inj2 hk'.2 y2]; exact y2
def a85 (val:Nat→κ):Nat→List κ
 | 0=>[]
 | i+1=>val i::a85 val i
theorem mem_seenX (val:Nat→κ)(k:κ):∀ n:Nat,k∈a85 val n↔∃ i,i<n∧val i=k
 | 0=>⟨fun h=>(nomatch h),fun⟨i,h,_⟩=>absurd h (B0 _)⟩
 | n+1=>by
  show k∈val n::a85 val n↔_;rw[AK,mem_seenX val k n];constructor
  ·rintro(h|⟨i,h1,h2⟩)
   ·exact⟨n,by omega,h.symm⟩
   ·exact⟨i,by omega,h2⟩
  ·rintro⟨i,h1,h2⟩
   by_cases c:i=n
   ·subst c; exact .inl h2.symm
   ·exact .inr ⟨i,by omega,h2⟩
end
section
variable {prog:AL}{w:AI}{A:AV}{R:Cn→AC→Prop}{I:AB}{fp wr:List AB}{G:Array Dd→Array Dd→Prop}{n:Nat}{P:Nat→AA→Prop}{St:Nat→AC→Prop}
theorem aPI {κ:Type}{kk:KK prog w κ}(W:WalksS prog w A.in1 I fp wr G n P St)(S:AB)(hSf:S∉fp)(val:Nat→κ)(h0:AF)
  (hval:∀ i v,P i v→∃ b,v=.ref b∧kk.At (fun b=>b∉S::wr) h0 (val i) b) (hu:A.in1.units+8<Ai) (hb:n≤18) :
  ∀(k i:Nat) (s:AC),n-i=k→i≤n→St i s→(∀ b o,b∉S::wr→h0.get? b=some o→s.heap.get? b=some o) →
   SetX kk (fun b=>b∉S::wr) s.heap S (a85 val i) i →
   (∀ s',Moved (S::wr) G s s'→SetX kk (fun b=>b∉S::wr) s'.heap S (a85 val n) n→R (.ok (.ret .none)) s') →
   Bk (AH prog w) A (.builtin "set.update.loop" ⟨[.ref S,.ref I],[]⟩) R s:=by
 have hSw:S∉wr:=fun h=>hSf (W.sub _ h);have hsub:∀ b∈wr,b∈S::wr:=fun b hb=>AU _ hb;have hnw:∀ b,b∉S::wr→b∉wr:=fun b hb h=>hb (hsub b h);intro k
 induction k with
 | zero=>
  intro i s hk hi hst hag hS hR;have hin:i=n:=by omega
  subst hin;refine Cq GS ?_;rw[DE Fn _];show AE _ A.in1 (BJ (.ref I) >>= _) _ _ s;refine AD (W.done s _ _ hst fun s' hm=>?_);show AE _ A.in1 (ret BF) _ _ s';exact AG (hR s' (hm.mono hsub) (hS.pres (fun o=>hm.heap S o hSw) fun b o hb=>hm.heap b o (hnw b hb)))
 | succ k ih=>
  intro i s hk hi hst hag hS hR;have hlt:i<n:=by omega
  refine Cq GS ?_;rw[DE Fn _];show AE _ A.in1 (BJ (.ref I) >>= _) _ _ s;refine AD (W.item i s _ _ hlt hst fun v s' hP hst' hm=>?_);obtain⟨b,rfl,hkb⟩:=hval i v hP;have hag':∀ b o,b∉S::wr→h0.get? b=some o→s'.heap.get? b=some o:=fun b o hb e=>hm.heap b o (hnw b hb) (hag b o hb e);have hS':=hS.pres (h':=s'.heap) (fun o=>hm.heap S o hSw) fun b o hb=>hm.heap b o (hnw b hb);have hkb':kk.At (fun b=>b∉S::wr) s'.heap (val i) b:=kk.pres (fun c o _ _ hc e _=>hag' c o hc e) hkb;show AE _ A.in1 (ED [Ac b] (setAdd S (.ref b)) >>= _) _ _ s';refine AD (BB ?_);refine aBE hS' hkb' hu (by omega) fun bb h' tk htk hsb hS2=>?_;refine AG ⟨Cr Fn _,ih (i+1) _ (by omega) hlt (W.frame _ s' _ _ hst' htk fun b hb o e=>?_) (fun b o hb e=>?_) hS2 fun s'' hm'' hS''=>?_⟩
  ·rw[hsb.2 b (fun h:b=S=>hSf (by rw[← h]; exact hb))]; exact e
  ·show h'.get? b=some o;rw[hsb.2 b (fun h:b=S=>hb (by rw[h]; exact mem_cons_self))]; exact hag' b o hb e
  ·refine hR s'' (Moved.trans W.gtrans ((hm.mono hsub).then_heap htk fun b o hb e=>?_) hm'') hS'';rw[hsb.2 b (fun h:b=S=>hb (by rw[h]; exact mem_cons_self))]; exact e
end
section
variable {prog:AL}{w:AI}{A:AV}{E:AA→AC→Prop}{s:AC}
set_option maxRecDepth 100000 in
set_option maxHeartbeats 3200000 in
theorem call_setX {κ:Type}{kk:KK prog w κ}{l:AB}{items:Array AA}{val:Nat→κ}{Q:AA→AC→Prop}
  (hh:A.handled=none) (hu:A.units+64<Ai) (hl:s.heap.IsList l items) (hi:∀ i v,items[i]?=some v→∃ b,v=.ref b∧kk.At (fun b=>b<s.heap.objs.size) s.heap (val i) b) (hb:items.size≤18)
  (h:∀(h':AF) (tk:Nat),SetX kk (fun _=>True) h' s.heap.objs.size (a85 val items.size) items.size →
   (∀ b o,b<s.heap.objs.size→s.heap.get? b=some o→h'.get? b=some o)→Q (.ref s.heap.objs.size) { s with heap:=h',toks:=tk }) :
  AE (AH prog w) A (call (.type "set") [.ref l]) Q E s:=by
 obtain⟨c,tl,hmro⟩:=F.called_set.mro;have hmade:=F.called_set.made;have hsub:=F.called_set.sub;refine wpAny_call (codeAny_of_tree ?_);show AE _ _ (callAny (.type "set") _) _ _ _;refine AG ⟨Code.quiet_builtin _ (by decide +kernel),Cq F.entry_type_call ?_⟩;rw[AV.under_plain (weight_type_call_type "set" [.ref l] []) rfl];have h1:=F.called_set.notType;have h2:=F.called_set.canCreate;have hct:=F.typeCall_set_1 (.ref l)
 repeat (any_goals (first|assumption|wp_step))
 refine EF (a2W (.ref l) (E:=E) (Q₁:=fun obj s₁=>∃ led:Bool,led=(!w.params.followText "set-order")∧obj=.ref s.heap.objs.size∧s₁={ s with heap:=s.heap.push { cls:=.type "set", dict:=none,data:=.set #[] 0 (.fresh 0 0 led) } }) ⟨_,rfl,rfl,rfl⟩) fun r s₁ hr=>?_
 cases r with
 | error e=>exact hr
 | ok fl=>
  cases fl with
  | ret obj=>
   obtain⟨led,hled,rfl,rfl⟩:=hr;have hS:(s.heap.push { cls:=.type "set", dict:=none,data:=.set #[] 0 (.fresh 0 0 led) }).get? s.heap.objs.size=some { cls:=.type "set", dict:=none,data:=.set #[] 0 (.fresh 0 0 led) }:=Aq _ rfl;have hT:Fo { s with heap:=s.heap.push { cls:=.type "set", dict:=none,data:=.set #[] 0 (.fresh 0 0 led) } } (.ref s.heap.objs.size) "set" := ⟨_,hS,rfl⟩;have hli:=F.called_set.init.lookup;have hbi:=F.called_set.init.bind (.ref s.heap.objs.size)
   repeat (any_goals (first|assumption|wp_step))
   refine EF (codeAny_call_builtin (R:=wants (fun r s₂=>r=.none∧∃ h' tk,s₂={ s with heap:=h',toks:=tk } ∧
     SetX kk (fun _=>True) h' s.heap.objs.size (a85 val items.size) items.size ∧
     (∀ b o,b<s.heap.objs.size→s.heap.get? b=some o→h'.get? b=some o)) E) F.called_set.init.plain F.entry_set_init (check_set_init_1 hT ?_)) fun r₂ s₂ hr₂=>?_
   ·obtain⟨ol,hol,hcl,nl,hdl⟩:=hl;obtain⟨ocls,odict,odata,oslots⟩:=ol;simp only at hcl hdl;subst hcl; subst hdl;have hol':(s.heap.push { cls:=.type "set", dict:=none,data:=.set #[] 0 (.fresh 0 0 led) }).get? l=some { cls:=.type "list", dict:=odict,data:=.seq items nl,slots:=oslots }:=AZ _ hol;have hsls:=F.sub_list_set;have hslf:=F.sub_list_frozenset;have hne:(BG "list" == BG "dict")=false:=by decide
    have hl1:(s.heap.push { cls:=.type "set", dict:=none,data:=.set #[] 0 (.fresh 0 0 led) }).IsList l items:=⟨_,hol',rfl,nl,rfl⟩;unfold AM.«set.__init__» noKeywords AM.Frozenset.updateFrom;generalize hPI:pyIter=PI
    wp_walk
    subst hPI;refine wpAny_pyIter_list hl1 ?_;refine AD (wpAny_runValue ?_);have hlS:l<s.heap.objs.size:=AT hol;have hh3:A.in1.in1.in1.handled=none:=by simp[hh]
    have hneI:l≠(s.heap.push { cls:=.type "set", dict:=none,data:=.set #[] 0 (.fresh 0 0 led) }).objs.size:=by
     rw[B6]; exact Ag (Ba hlS)
    have hSf:s.heap.objs.size∉[(s.heap.push { cls:=.type "set", dict:=none,data:=.set #[] 0 (.fresh 0 0 led) }).objs.size,l]:=by
     rw[B6]; simp only[AK,mem_singleton,B5,or_false,not_or];exact⟨Ag (D1 _),A5 hlS⟩
    have hW:=(Walks.list (prog:=prog) (w:=w) hh3 (s.heap.push { cls:=.type "set", dict:=none,data:=.set #[] 0 (.fresh 0 0 led) }).objs.size l hneI items).toS;refine aPI (kk:=kk) hW s.heap.objs.size
     hSf val s.heap (fun i v hv=>?hval) (by show A.units+1+1+1+8<Ai; omega) hb (items.size-0) 0 _ (by omega) (A8 _)
     ⟨⟨_,Aq _ rfl,rfl,rfl⟩,(hl1.push _)⟩ (fun b o _ e=>AZ _ (AZ _ e)) ?hS0 ?hR
    case hval=>
     obtain⟨b,e,hk⟩:=hi i v hv;refine⟨b,e,kk.weak (fun b hlt=>?_) hk⟩;rw[B6];simp only[AK,mem_singleton,B5,or_false,not_or];exact⟨Ag hlt,Ag (Ba hlt)⟩
    case hS0=>
     have hget:((s.heap.push { cls:=.type "set", dict:=none,data:=.set #[] 0 (.fresh 0 0 led) }).push { cls:=.type "list_iterator", data:=.fields #[.ref l,.int 0 0] }).get? s.heap.objs.size
       = some { cls:=.type "set", dict:=none,data:=.set #[] 0 (.fresh 0 0 led) }:=AZ _ hS
     exact⟨_,#[],0,_,hget,⟨rfl,rfl,rfl⟩,rfl,⟨rfl,.inl rfl,rfl,A8 _⟩,fun _=>A8 _,⟨A8 _,hled,rfl⟩,⟨List.Pairwise.nil,rfl,fun j e ⟨i,h1,_⟩=>by cases h1⟩,fun e he=>by simp at he,(fun k hk=>by cases hk),List.Pairwise.nil⟩
    case hR=>
     intro s' hm hS';obtain⟨h',g',d',tk',os'⟩:=s';have eg:g'=s.gens:=hm.gens;have ed:d'=s.drawn:=hm.drawn;have eo:os'=s.os:=hm.os;subst eg; subst ed; subst eo;show AE _ _ _ _ _ _;refine AG ?_;show AE _ _ (ret BF) _ _ _;refine AG ⟨rfl,h',tk',rfl,?_,fun b o hb e=>?_⟩
     ·exact hS'.weak fun _ _=>trivial
     have hb1:b≠s.heap.objs.size:=Ag hb;have hb2:b≠(s.heap.push { cls:=.type "set", dict:=none,data:=.set #[] 0 (.fresh 0 0 led) }).objs.size:=by
      rw[B6]; exact Ag (Ba hb)
     exact hm.heap b o (by simp only[AK,mem_singleton,B5,or_false,not_or]; exact⟨hb1,hb2⟩) (AZ _ (AZ _ e))
   ·cases r₂ with
    | error e=>exact hr₂
    | ok fl₂=>
     cases fl₂ with
     | ret r=>
      obtain⟨rfl,h',tk,rfl,hS',hk'⟩:=hr₂
      repeat (any_goals (first|assumption|wp_step))
      exact h _ _ hS' hk'
     | _=>exact hr₂.elim
  | _=>exact hr.elim
end
end L2.ST
namespace L2.ST
open PySem PySem.SetTable
section
variable {prog:AL}{w:AI}
def kInt (prog:AL)(w:AI):KK prog w (List Int) where
 At:=fun Gd h k x=>Gd x∧CG (Ax prog w) h k x
 hash:=DK (Ax prog w)
 cost:=fun k=>k.length+1
 gd:=fun h=>h.1
 seq:=fun⟨_,o,items,n,ho,_,hd,_⟩=>⟨o,items,n,ho,hd⟩
 pres:=fun hp ⟨hg,o,items,n,ho,hc,hd,hi⟩=>⟨hg,o,items,n,hp _ o items n hg ho hd,hc,hd,hi⟩
 weak:=fun hw h=>⟨hw _ h.1,h.2⟩
 inj:=fun h h'=>h.2.inj h'.2
 quiet:=fun h q=>wpAny_eqIsQuiet_tuple h.2 q
 cls:=fun h q=>aHE h.2 q
 byv:=fun h q=>aB5 h.2 q
 eqb:=fun hu h h' q=>E3 (by omega) h.2 h'.2 (q _ decide_eq_true_iff)
 hsh:=fun hu h q=>wpAny_pyHash_tuple (by omega) h.2 q
end
def ManyX {κ:Type}(ks:List κ)(n:Nat):Prop:=∃ us:List κ,us.Nodup∧(∀ u,u∈us↔u∈ks)∧us.length=n
theorem aG2 {κ:Type}{R:κ→Int×AA→Prop}(inj:∀ k k' e,R k e→R k' e→k=k'):∀{l:List (Int×AA)} {ks:List κ},(∀ e∈l,∃ k∈ks,R k e)→(l.Pairwise fun e e'=>∀ k,¬(R k e∧R k e'))→∃ us:List κ,us.Nodup∧us.length=l.length∧(∀ u∈us,∃ e∈l,R u e)∧(∀ u∈us,u∈ks)∧∀ e∈l,∃ u∈us,R u e
 | [],ks,_,_=>⟨[],List.Pairwise.nil,rfl,fun _ h=>absurd h B5,fun _ h=>absurd h B5,fun _ h=>absurd h B5⟩
 | e::l,ks,h,hp=>by
  obtain⟨h1,h2⟩:=BU.mp hp;obtain⟨us,n1,n2,n3,n4,n5⟩:=aG2 inj (fun e' he'=>h e' (AU _ he')) h2;obtain⟨k,hk,hr⟩:=h e mem_cons_self;refine⟨k::us,BS.mpr ⟨fun hm=>?_,n1⟩,by rw[An,An,n2],fun u hu=>?_,fun u hu=>?_,fun e' he'=>?_⟩
  ·obtain⟨e',he',hr'⟩:=n3 k hm;exact h1 e' he' k ⟨hr,hr'⟩
  ·rcases AK.mp hu with rfl|hu
   ·exact⟨e,mem_cons_self,hr⟩
   ·obtain⟨e',he',hr'⟩:=n3 u hu;exact⟨e',AU _ he',hr'⟩
  ·rcases AK.mp hu with rfl|hu
   ·exact hk
   ·exact n4 u hu
  ·rcases AK.mp he' with rfl|he'
   ·exact⟨k,mem_cons_self,hr⟩
   ·obtain⟨u,hu,hr'⟩:=n5 e' he';exact⟨u,AU _ hu,hr'⟩
theorem SetX.many {prog:AL}{w:AI}{κ:Type}{kk:KK prog w κ}{Gd:AB→Prop}{h:AF}{a:AB}{ks:List κ}{n:Nat}(S:SetX kk Gd h a ks n):∃ o es ep t,h.get? a=some o∧o.ExactSet∧o.data=.set es ep t∧t.fits es.size=true∧ManyX ks es.size∧es.size≤n:=by
 obtain⟨o,es,ep,t,ho,hex,hd,T,h7,hle,W,hes,hks,hpw⟩:=S;obtain⟨us,n1,n2,n3,n4,n5⟩:=aG2 (R:=fun k e=>KeyX kk Gd h k e) (fun k k' e h1 h2=>KeyX.inj h1 h2) hes hpw;refine⟨o,es,ep,t,ho,hex,hd,T.fits,⟨us,n1,fun u=>⟨n4 u,fun hu=>?_⟩,by rw[n2,Af]⟩,hle.1⟩;obtain⟨e,he,hk⟩:=hks u hu;obtain⟨u',hu',hk'⟩:=n5 e he;rw[KeyX.inj hk hk'];exact hu'
end L2.ST
namespace L2
open PySem PySem.Spec PyProof.Rows
section
variable {X:Cx}
def aOJ (K:Fg):List V→Hp→VK→Prop:=fun xs H Q=>∃ p qs kss,xs=[.ref p]∧SqL K H p qs∧TupsAre K H qs kss∧kss.length≤18∧∀(l:AB) (n:Nat),H l=none→ST.ManyX kss n→Q (.ref l) (upd H l (aP2 l n))
theorem aCW (hc:X.calm=true)(hu:X.A.units+64<Ai):CallR X (.type "set") (aOJ X.K):=by
 intro pins s σ H xs us Q I r h;obtain⟨p,qs,kss,rfl,hq,ht,hn,q⟩:=h;obtain⟨u,rfl,rx⟩:=vals1 r
 cases rx
 obtain⟨its,r',pl,hz⟩:=I.list hq;have hlen:its.length=kss.length:=by rw[← r'.length,ht.length]
 refine ST.call_setX (kk:=ST.kInt X.prog X.w) (val:=fun i=>kss.getD i []) (I.ok.hd hc) hu pl.isList (fun i v hv=>?_) (by rw[Ak,hlen]; exact hn) fun h' tk hs kp=>?_
 ·rw[List.getElem?_toArray] at hv;obtain⟨x,h1,h2⟩:=aG7 r' hv;obtain⟨b,rfl,hb⟩:=ht.at h1
  cases h2
  obtain⟨its2,r2,⟨o,e1,e2,n,e3⟩,_⟩:=I.tuple hb;exact⟨b,rfl,AT e1,o,_,n,e1,e2,e3,by simpa using aA8 r2⟩
 ·have esz:its.toArray.size=kss.length:=by rw[Ak,hlen]
  rw[esz] at hs;obtain⟨o,es,ep,t,ho,hex,hd,hf,hm,hle⟩:=hs.many;refine⟨.ref s.heap.objs.size,_,I.laid (fun b o e=>kp b o (AT e) e) (AN _) (show ObjOk X.prog X.w _ h' _ (aP2 s.heap.objs.size es.size) from ?_),rfl,q _ _ (I.hok.fresh (AN _)) ?_⟩
  ·refine⟨⟨o,es,ep,t,ho,hex,hd,hf,rfl,by omega⟩,⟨o,ho⟩,?_⟩;rintro h1 h2 ⟨o',es',ep',t',a1,a2⟩ kp';exact⟨o',es',ep',t',kp' _ a1,a2⟩
  ·obtain⟨us,n1,n2,n3⟩:=hm;refine⟨us,n1,fun u=>(n2 u).trans ((ST.mem_seenX _ u _).trans ⟨fun⟨i,hi,e⟩=>?_,fun hu'=>?_⟩),n3⟩
   ·rw[← e];show kss.getD i []∈kss;rw[Bs,AQ hi];exact B9 hi
   ·obtain⟨i,hi,e⟩:=Dy.mp hu';exact⟨i,hi,by show kss.getD i []=u; rw[Bs,AQ hi,e]; rfl⟩
end
end L2
namespace L2.VS
open PySem PySem.Spec PyProof.Rows
section
variable {P0:AB→Hp→Prop}{K:Fg}
def a2S (ma:ME):ME:=fun Γ Q=>ma Γ fun x Γ1=>match x with
 | .list ds=>(match a1B ds with
  | some kss=>kss.length≤18∧∀ n,ST.ManyX kss n→Q (.int (n:Int)) Γ1
  | none=>False)
 | _=>False
theorem aBK {ta:TE}{ma:ME}(ha:VT P0 ta ma):VT P0 (tCB aAI (fB (tCB (aOJ K) (fB ta xM)) xM)) (a2S ma):=by
 intro F Γ σ G H Q Qm r m k;refine ha F Γ σ G H _ _ r m fun d Γ1 x G1 H1 m1 s1 r1 d1=>?_
 split at m1
 ·split at m1
  ·rename_i kss hkss
   cases d1 with
   | @lst p xs _ hp rs=>
    refine⟨p,xs,kss,rfl,SqL.of (r1.fr.sub _ _ hp),a79 (fun q o e=>r1.fr.sub _ _ e) rs hkss,m1.1,fun l n hl hn=>?_⟩;exact⟨l,n,rfl,bO,k _ _ _ _ _ (m1.2 n hn) s1 (r1.newP hl) (.int _)⟩
  ·exact m1.elim
 ·exact m1.elim
theorem aCZ {ma:ME}{Γ:En}{Q:D→En→Prop}(h:ma Γ fun x Γ1=>match x with|.list ds=>(match a1B ds with|some kss=>kss.length≤18∧∀ n,ST.ManyX kss n→Q (.int (n:Int)) Γ1|none=>False)|_=>False):a2S ma Γ Q:=h
end
end L2.VS
namespace L2.ST
open PySem PySem.SetTable
section
variable {prog:AL}{w:AI}{A:AV}{E:AA→AC→Prop}{s:AC}
theorem each {γ:Type}{items:Array AA}{c:γ}{f:AA→Option Bool×γ→Sem (ForInStep (Option Bool×γ))}{R:Option Bool×γ→AC→Prop}(hf:∀ v∈items.toList,∀ Q:ForInStep (Option Bool×γ)→AC→Prop,Q (.yield (none,c)) s→AE (AH prog w) A (f v (none,c)) Q E s)(h:R (none,c) s):AE (AH prog w) A (forIn items (none,c) f) R E s:=by
 rw[← D8];refine C8 _ (fun l r z=>r=(none,c)∧z=s∧∀ v∈l,v∈items.toList) _ (fun v l r z hi=>?_) (fun r z hi=>?_) _ _ ⟨rfl,rfl,fun _ z=>z⟩
 ·obtain⟨rfl,rfl,m⟩:=hi;exact hf v (m v mem_cons_self) _ ⟨rfl,rfl,fun u z=>m u (AU v z)⟩
 ·obtain⟨rfl,rfl,_⟩:=hi;exact h
section
variable {a:AB}{o:Obj}{items:Array AA}{m n:Nat}{Q:Bool→AC→Prop}(ho:s.heap.get? a=some o)(hd:o.data=.seq items m)(hT:s.TypeIs (.ref a) "tuple")
include ho hd hT
theorem aK0 (hv:∀ v∈items.toList,∀ Q:Bool→AC→Prop,Q true s→AE (AH prog w) A (Dr n v) Q E s)(h:Q true s):AE (AH prog w) A (Dr (n+1) (.ref a)) Q E s:=by
 unfold Dr;refine AD (Cf hT F.slot_tuple_eq.lookup ?_);refine AD (m:=isInstance (.ref a) (.type "tuple")) (DD hT GT ?_);exact AD (Cb ho hd (AD (each (fun v z Q q=>AD (hv v z _ (AG q))) (AG h))))
theorem aRR (hv:∀ v∈items.toList,∀ Q:Bool→AC→Prop,Q false s→AE (AH prog w) A (Cg n v) Q E s)(h:Q false s):AE (AH prog w) A (Cg (n+1) (.ref a)) Q E s:=by
 unfold Cg;refine AD (DF hT ?_);refine AD (AG (a:=true) ?_);exact AD (Cb ho hd (AD (each (fun v z Q q=>AD (hv v z _ (AG q))) (AG h))))
theorem aRP (hv:∀ v∈items.toList,∀ Q:Bool→AC→Prop,Q true s→AE (AH prog w) A (CH n v) Q E s)(h:Q true s):AE (AH prog w) A (CH (n+1) (.ref a)) Q E s:=by
 unfold CH;refine AD (Cf hT F.slot_tuple_hash.lookup ?_);exact AD (Cb ho hd (AD (each (fun v z Q q=>AD (hv v z _ (AG q))) (AG h))))
end
theorem aN0 {k:List Int}{a:AB}{Q:Bool→AC→Prop}(n:Nat)(hk:CG (Ax prog w) s.heap k a)(h:Q true s):AE (AH prog w) A (Dr (n+1) (.ref a)) Q E s:=
 have⟨_,_,_,ho,_,hd,hi⟩:=hk
 aK0 ho hd hk.typeIs (fun v z Q q=>by rw[eqIsQuiet_byValue _ (hi.byValue v z)]; exact AG q) h
theorem aSE {k:List Int}{x:AB}{Q:Bool→AC→Prop}(n:Nat)(hk:CG (Ax prog w) s.heap k x)(h:Q false s):AE (AH prog w) A (Cg (n+1) (.ref x)) Q E s:=
 have⟨_,_,_,ho,_,hd,hi⟩:=hk
 aRR ho hd hk.typeIs (fun v z Q q=>by obtain⟨i,tk,rfl⟩:=items_int hi v z; rw[aEK]; exact AG q) h
theorem aSX {k:List Int}{x:AB}{Q:Bool→AC→Prop}(n:Nat)(hk:CG (Ax prog w) s.heap k x)(h:Q true s):AE (AH prog w) A (CH (n+1) (.ref x)) Q E s:=
 have⟨_,_,_,ho,_,hd,hi⟩:=hk
 aRP ho hd hk.typeIs (fun v z Q q=>by obtain⟨i,tk,rfl⟩:=items_int hi v z; rw[show CH n (.int i tk)=pure true by cases n<;>rfl]; exact AG q) h
inductive PartsT (prog:AL) (w:AI) (Gd:AB→Prop) (h:AF):List (List Int)→List AA→Prop
 | nil:PartsT prog w Gd h [] []
 | cons {k:List Int} {b:AB} {ks:List (List Int)} {vs:List AA}:Gd b→CG (Ax prog w) h k b→PartsT prog w Gd h ks vs→PartsT prog w Gd h (k::ks) (.ref b::vs)
def IsTupT (prog:AL)(w:AI)(Gd:AB→Prop)(h:AF)(ks:List (List Int))(a:AB):Prop:=Gd a∧∃ o items n,h.get? a=some o∧o.cls=.type "tuple" ∧ o.data=.seq items n∧PartsT prog w Gd h ks items.toList
theorem PartsT.inj {Gd Gd':AB→Prop}{h:AF}{x y:List (List Int)}{vs:List AA}(hx:PartsT prog w Gd h x vs)(hy:PartsT prog w Gd' h y vs):x=y:=by
 induction hx generalizing y with
 | nil=>cases hy; rfl
 | cons _ h1 _ ih=>
  cases hy with
  | cons _ h2 t2=>rw[h1.inj h2,ih t2]
theorem PartsT.all {Gd:AB→Prop}{h:AF}{x:List (List Int)}{vs:List AA}(hx:PartsT prog w Gd h x vs):∀ v∈vs,∃ k b,v=.ref b∧CG (Ax prog w) h k b:=by
 induction hx with
 | nil=>intro v hv; cases hv
 | cons _ h1 _ ih=>
  intro v hv;rcases AK.mp hv with rfl|hv
  ·exact⟨_,_,rfl,h1⟩
  ·exact ih v hv
theorem PartsT.pres {Gd:AB→Prop}{h h':AF}(hp:∀ b o items n,Gd b→h.get? b=some o→o.data=.seq items n→h'.get? b=some o){x:List (List Int)}{vs:List AA}(hx:PartsT prog w Gd h x vs):PartsT prog w Gd h' x vs:=by
 induction hx with
 | nil=>exact .nil
 | cons g h1 _ ih=>
  obtain⟨o,items,n,ho,hc,hd,hi⟩:=h1;exact .cons g ⟨o,items,n,hp _ o items n g ho hd,hc,hd,hi⟩ ih
theorem PartsT.weak {Gd Gd':AB→Prop}{h:AF}(hp:∀ b,Gd b→Gd' b){x:List (List Int)}{vs:List AA}(hx:PartsT prog w Gd h x vs):PartsT prog w Gd' h x vs:=by
 induction hx with
 | nil=>exact .nil
 | cons g h1 _ ih=>exact .cons (hp _ g) h1 ih
theorem IsTupT.typeIs {Gd:AB→Prop}{ks:List (List Int)}{a:AB}(x:IsTupT prog w Gd s.heap ks a):s.TypeIs (.ref a) "tuple" := let ⟨_,o,_,_,ho,hc,_⟩:=x; ⟨o,ho,hc⟩
theorem IsTupT.inj {Gd Gd':AB→Prop}{h:AF}{a:AB}{x y:List (List Int)}(hx:IsTupT prog w Gd h x a)(hy:IsTupT prog w Gd' h y a):x=y:=by
 obtain⟨_,o,items,n,ho,_,hd,hi⟩:=hx;obtain⟨_,o',items',n',ho',_,hd',hi'⟩:=hy;obtain rfl:o=o':=Az.inj (ho.symm.trans ho');rw[hd] at hd';injection hd' with h1 _;subst h1;exact hi.inj hi'
variable {Gd Gd':AB→Prop}
theorem aOR {ks:List (List Int)}{a:AB}{Q:Bool→AC→Prop}(hk:IsTupT prog w Gd s.heap ks a)(h:Q true s):AE (AH prog w) A (Dr 8 (.ref a)) Q E s:=
 have⟨_,_,_,_,ho,_,hd,hi⟩:=hk
 aK0 ho hd hk.typeIs (fun v z Q q=>by obtain⟨k,b,rfl,hb⟩:=hi.all v z; exact aN0 6 hb q) h
theorem aSL {ks:List (List Int)}{x:AB}{Q:Bool→AC→Prop}(hk:IsTupT prog w Gd s.heap ks x)(h:Q false s):AE (AH prog w) A (Cg 8 (.ref x)) Q E s:=
 have⟨_,_,_,_,ho,_,hd,hi⟩:=hk
 aRR ho hd hk.typeIs (fun v z Q q=>by obtain⟨k,b,rfl,hb⟩:=hi.all v z; exact aSE 6 hb q) h
theorem aSM {ks:List (List Int)}{x:AB}{Q:Bool→AC→Prop}(hk:IsTupT prog w Gd s.heap ks x)(h:Q true s):AE (AH prog w) A (CH 8 (.ref x)) Q E s:=
 have⟨_,_,_,_,ho,_,hd,hi⟩:=hk
 aRP ho hd hk.typeIs (fun v z Q q=>by obtain⟨k,b,rfl,hb⟩:=hi.all v z; exact aSX 6 hb q) h
def aLL (prog:AL)(w:AI)(ks:List (List Int)):Int:=reduceHash (DJ (ks.map (DK (Ax prog w))))
def wX:List (List Int)→Nat
 | []=>0
 | k::ks=>(k.length+1)+wX ks
theorem aGA (a b:List (List Int)):wX (a++b)=wX a+wX b:=by
 induction a with
 | nil=>simp[wX]
 | cons k a ih=>simp only[List.cons_append,wX,ih]; omega
theorem aSJ {ks:List (List Int)}{a:AB}{Q:Int→AC→Prop}(hu:A.units+8<Ai)(hk:IsTupT prog w Gd s.heap ks a)(h:Q (aLL prog w ks) { s with toks:=s.toks+(wX ks+1) }) :
  AE (AH prog w) A (pyHash (.ref a)) Q E s:=by
 have hT:=hk.typeIs;obtain⟨_,o,items,n,ho,_,hd,hi⟩:=hk;unfold pyHash
 first|unfold pyHashByItsType|skip
 first|refine AD (wpAny_cRoomFor_or (.inr (by omega)) ?_)|skip
 refine AD (Cf hT F.slot_tuple_hash.lookup ?_);show AE _ _ (if (some (AA.builtin "tuple.__hash__")==some BF)=true then _ else _) Q E s;rw[if_neg (by rw[beq_builtin_none]; exact BZ)];refine AD (Cf hT F.slot_tuple_hash.lookup ?_);show AE _ _ (callSpecialIfBoundUnlessNone? (.ref a) "__hash__" _ >>= _) Q E s;refine AD (wpAny_callSpecialIfBoundUnlessNone?_slot hT F.slot_tuple_hash (Bm F.slot_tuple_hash hT F.entry_tuple_hash ?_ (F.args_tuple_hash_1 _)));show AE _ _ (AM.Tuple.tupleItemsOf (.ref a) >>= _) _ _ s;refine AD (Fp ho hd ?_);refine AD ?_;rw[← D8];refine C8 _
  (fun rest (b:Array Int) s'=>∃ done left,ks=done++left∧PartsT prog w Gd s.heap left rest∧b.toList=done.map (DK (Ax prog w))∧s'={ s with toks:=s.toks+wX done })
  _ ?_ ?_ _ _ ⟨[],ks,rfl,hi,rfl,rfl⟩
 ·rintro x rest b s' ⟨done,left,rfl,hl,hb,rfl⟩
  cases hl with
  | @cons k c ks' _ _ h1 hl'=>
   refine AD (wpAny_pyHash_tuple (show A.units+1<Ai by omega) h1 ?_);have e:s.toks+wX done+(k.length+1)=s.toks+wX (done++[k]):=by rw[aGA]; simp only[wX]; omega
   first
    | exact AG ⟨done++[k],ks',by simp,hl',by simp[hb],by simp only[e]⟩
    | exact AD (AG (AG ⟨done++[k],ks',by simp,hl',by simp[hb],by simp only[e]⟩))
 ·rintro b s' ⟨done,left,rfl,hl,hb,rfl⟩
  cases hl
  rw[CK] at h;show AE _ _ (retInt (DJ b.toList)) _ _ _;rw[hb];refine wpAny_ret_mkInt ?_;show AE _ _ (if (decide (-(2:Int)^63≤DJ (done.map (DK (Ax prog w))))&&decide (DJ (done.map (DK (Ax prog w)))<2^63))=true then _ else _) Q E _;unfold aLL reduceHash at h
  by_cases hr:(decide (-(2:Int)^63≤DJ (done.map (DK (Ax prog w))))&&decide (DJ (done.map (DK (Ax prog w)))<2^63))=true
  ·rw[if_pos hr];rw[if_pos hr] at h;exact AG (by simpa [Nat.add_assoc] using h)
  ·rw[if_neg hr];rw[if_neg hr] at h;exact AD (Cm (AG (by simpa [Nat.add_assoc] using h)))
theorem aH7 {x y:List (List Int)}{a b:AB}{P:Fin→AC→Prop}(hu:A.units<Ai)(hx:IsTupT prog w Gd s.heap x a)(hy:IsTupT prog w Gd' s.heap y b)(h:P (.done (.ret (.bool (decide (x=y))))) s) :
  AE (AH prog w) A (AM.«tuple.__eq__» ⟨[.ref a,.ref b],[]⟩) P E s:=by
 have hTb:=hy.typeIs;obtain⟨_,oa,xs,na,hoa,_,hda,hia⟩:=hx;obtain⟨_,ob,ys,nb,hob,_,hdb,hib⟩:=hy;show AE _ _ (isInstance (.ref b) (.type "tuple") >>= _) _ _ s;refine AD (DD hTb GT ?_);simp only[Bb,Ae,if_false];refine AD (Fp hoa hda ?_);refine AD (Fp hob hdb ?_);refine AD ?_;refine C8 _
  (fun rest r s'=>r.1=none∧s'=s∧∃ x' y' xs' ys',rest=List.zip xs' ys'∧PartsT prog w Gd s.heap x' xs'∧PartsT prog w Gd' s.heap y' ys'∧decide (x'=y')=decide (x=y)∧(xs'.length==ys'.length)=(xs.size==ys.size))
  _ ?_ ?_ _ _ ⟨rfl,rfl,x,y,xs.toList,ys.toList,rfl,hia,hib,rfl,by simp⟩
 ·rintro⟨u,v⟩ rest r s' ⟨hr,rfl,x',y',xs',ys',hz,hx',hy',hdec,hlen⟩
  cases hx' with
  | nil=>simp at hz
  | @cons k1 u' x'' xs'' _ h1 hx''=>
   cases hy' with
   | nil=>simp at hz
   | @cons k2 v' y'' ys'' _ h2 hy''=>
    simp only[EZ,List.cons.injEq,E5] at hz;obtain⟨⟨rfl,rfl⟩,rfl⟩:=hz;refine AD (E3 hu h1 h2 ?_)
    by_cases hk:k1=k2
    ·subst hk;rw[decide_eq_true rfl];simp only[Bb,Ae,if_false];refine AG ⟨rfl,rfl,x'',y'',xs'',ys'',rfl,hx'',hy'',?_,by simpa using hlen⟩;rw[← hdec]
     by_cases hxy:x''=y''
     ·simp[hxy]
     ·simp[hxy]
    ·rw[decide_eq_false hk];simp only[EL,if_true];have hf:decide (x=y)=false:=by rw[← hdec]; simp[hk]
     rw[hf] at h;exact AD (AG (AG (AG h)))
 ·rintro⟨r1,r2⟩ s' ⟨hr,rfl,x',y',xs',ys',hz,hx',hy',hdec,hlen⟩
  simp only at hr;subst hr;refine AG ?_;have hfin:(xs.size==ys.size)=decide (x=y):=by
   rw[← hdec,←hlen]
   cases hx' with
   | nil=>
    cases hy' with
    | nil=>simp
    | cons _ _ _=>simp
   | cons _ _ _=>
    cases hy' with
    | nil=>simp
    | cons _ _ _=>simp at hz
  show P (.done (.ret (.bool (xs.size==ys.size)))) s';rw[hfin]; exact h
theorem aSY {x y:List (List Int)}{a b:AB}{Q:Bool→AC→Prop}(hu:A.units+8<Ai)(hx:IsTupT prog w Gd s.heap x a)(hy:IsTupT prog w Gd' s.heap y b)(h:Q (decide (x=y)) s) :
  AE (AH prog w) A (eqBool (.ref a) (.ref b)) Q E s:=by
 unfold eqBool
 try with_reducible refine BB ?_
 show AE _ _ (if (Ac a==Ac b)=true then _ else _) Q E s
 by_cases hab:(Ac a==Ac b)=true
 ·rw[if_pos hab];have e:a=b:=by have:=eq_of_beq hab; injection this
  subst e;obtain rfl:=hx.inj hy;exact AD (Cm (AG (by simpa using h)))
 ·rw[if_neg hab];exact AD (wpAny_richCompare_same_room (op:=.Eq) hx.typeIs hy.typeIs F.slot_tuple_eq
   (Bm F.slot_tuple_eq hx.typeIs F.entry_tuple_eq (aH7 (show A.units+1<Ai by omega) hx hy ⟨_,rfl,(fun e=>nomatch e),C6 h⟩) (F.args_tuple_eq_2 _ _)) (by omega))
def kTup (prog:AL)(w:AI):KK prog w (List (List Int)) where
 At:=IsTupT prog w
 hash:=aLL prog w
 cost:=fun k=>wX k+1
 gd:=fun h=>h.1
 seq:=fun⟨_,o,items,n,ho,_,hd,_⟩=>⟨o,items,n,ho,hd⟩
 pres:=fun hp ⟨hg,o,items,n,ho,hc,hd,hi⟩=>⟨hg,o,items,n,hp _ o items n hg ho hd,hc,hd,hi.pres hp⟩
 weak:=fun hw ⟨hg,o,items,n,ho,hc,hd,hi⟩=>⟨hw _ hg,o,items,n,ho,hc,hd,hi.weak hw⟩
 inj:=fun h h'=>h.inj h'
 quiet:=fun h q=>aOR h q
 cls:=fun h q=>aSL h q
 byv:=fun h q=>aSM h q
 eqb:=fun hu h h' q=>aSY hu h h' (q _ decide_eq_true_iff)
 hsh:=fun hu h q=>aSJ hu h q
end
end L2.ST
namespace L2.ST
open PySem PySem.SetTable
theorem a2F {α:Type}:∀(l:List α) (i:Nat) (h:i<l.length),List.Perm (l[i]::l.eraseIdx i) l
 | _::_,0,_=>List.Perm.refl _
 | x::l,i+1,h=>(List.Perm.swap x _ _).trans ((a2F l i (DX h)).cons x)
theorem a6C {α:Type}(next:Nat→Nat):∀(fuel k:Nat) (left:List α) (out:Array α),left.length=fuel→(Cs.go next fuel k left out).toList.Perm (out.toList++left)
 | 0,k,left,out,h=>by
  rw[List.length_eq_zero_iff.mp h,CK];exact List.Perm.refl _
 | fuel+1,k,left,out,h=>by
  unfold Cs.go;have hl:next k%left.length<left.length:=mod_lt _ (by omega)
  rw[AQ hl];dsimp only;refine(a6C next fuel (k+1) _ _ (by rw[List.length_eraseIdx_of_lt hl]; omega)).trans ?_;rw[Array.toList_push,DL];exact List.Perm.append_left _ (a2F left _ hl)
theorem a4C {α:Type}(next:Nat→Nat)(xs:Array α):(Cs next xs).toList.Perm xs.toList:=by
 have:=a6C next xs.size 0 xs.toList #[] (by simp)
 simpa [Cs] using this
end L2.ST
namespace L2.ST
open PySem PySem.SetTable
theorem a0Y:entryFor table "set.__iter__" = some AM.«frozenset.__iter__»:=
 entryFor_alias (id' := "frozenset.__iter__") (by kernel_rfl) rfl (by decide +kernel) (by kernel_rfl)
theorem a9F:Manifest.owners.lookup (String.ofList ['r','o','t','a','r','e','t','i','_','t','e','s'].reverse)=some Manifest.sig_set_iterator:=by kernel_rfl
theorem slot_si_next:Slot "set_iterator" "__next__" "set_iterator.__next__" :=
 .of (owner := "set_iterator") (n := "__next__") (by rw[Ep,Er]; kernel_rfl) (by decide +kernel) (by decide +kernel) (by decide +kernel)
  (by first|exact .inl (by decide +kernel)|exact .inr (by decide +kernel)) (by rw[Ff]; kernel_rfl)
theorem u5:entryFor table "set_iterator.__next__" = some AM.«set_iterator.__next__»:=entryFor_of_tree (by kernel_rfl)
theorem wA (a:AA):argsOk "set_iterator.__next__" ⟨[a],[]⟩:=by
 unfold argsOk; rw[signature?_of (id := "set_iterator.__next__") (n:=['_','_','t','x','e','n','_','_']) (o:=['r','o','t','a','r','e','t','i','_','t','e','s']) (by kernel_rfl) a9F]; kernel_rfl
section
variable {prog:AL}{w:AI}{A:AV}{E:AA→AC→Prop}{s:AC}
def a8A (a:AB)(slot i n ep:Nat):Obj:={ cls:=.type "set_iterator", data:=.fields #[.int slot 0,.int i 0,.ref a,.int n 0,.int ep 0] }
theorem aBJ {a:AB}{o:Obj}{es:Array (Int×AA)}{ep:Nat}{t:SetTable}{Q:AA→AC→Prop}(ho:s.heap.get? a=some o)(hex:o.ExactSet)(hd:o.data=.set es ep t)(hf:t.fits es.size=true)(hp:t.plain=true)
  (hQ:Q (.ref s.heap.objs.size) { s with heap:=s.heap.push (a8A a 0 0 es.size ep) }):AE (AH prog w) A (pyIter (.ref a)) Q E s:=by
 have hT:s.TypeIs (.ref a) "set" := ⟨o,ho,hex.1⟩;refine FZ hT F.slot_set_iter (Bm F.slot_set_iter hT a0Y ?_ (F.args_set_iter_1 _));unfold AM.«frozenset.__iter__» AM.Frozenset.slot0 slotArgs;simp only[EW,Bb,Ae,↓reduceIte,bind_assoc,Ch,bne_self_eq_false];unfold AM.Frozenset.addrOf AM.Frozenset.sizeOf;refine AD (AG ?_)
 try dsimp only
 refine AD (AG ?_);refine AD (AD (Fq ho hd hf (AG ?_)));have hdr:∀{Q':Bool→AC→Prop},Q' false s→AE (AH prog w) A.in1 (setDrawn a) Q' E s:=fun h=>by
  unfold setDrawn;refine AD (CJ ho hd hf ?_);dsimp only;unfold setsByText;refine AD (AD (E4 (AG ?_)));refine AG ?_;have e:∀ b:Bool,(!b&&(!t.plain&&decide (es.size>1)))=false:=fun b=>by rw[hp]; simp
  exact(e _)▸h
 refine AD (hdr ?_);simp only[Ae,if_false];refine AD (AG ?_);unfold setEpoch;refine AD (AD (CJ ho hd hf (AG ?_)));exact AD (Ca (AG ⟨_,rfl, "set_iterator", _,⟨_,Aq _ rfl,rfl⟩,slot_si_next.lookup,hQ⟩))
end
end L2.ST
namespace L2.ST
open PySem PySem.SetTable
theorem aBR {xs:Array Nat}(up:Up xs){i:Nat}(h:i<xs.size):below xs (xs[i]+1)=i+1:=by
 obtain⟨h1,h2⟩:=qK up (xs[i]+1);have mono:∀ a b (ha:a<xs.size) (hb:b<xs.size),a<b→xs[a]<xs[b]:=fun a b ha hb hab=>by
  have:=CQ.mp up a b (by rw[Af]; exact ha) (by rw[Af]; exact hb) hab;simpa using this
 rcases C3 (below xs (xs[i]+1)) (i+1) with c|c|c
 ·have:=h2 i h (by omega); omega
 ·exact c
 ·by_cases hb:i+1<xs.size
  ·have a1:=h1 (i+1) hb c;have a2:=mono i (i+1) h hb (by omega);omega
  ·exact absurd (xF (xs:=xs) (xs[i]+1)) (by omega)
section
variable {prog:AL}{w:AI}{A:AV}{E:AA→AC→Prop}{s:AC}
def lW (w:AI)(a:AB)(ep:Nat)(es:Array (Int×AA)):Array (Int×AA):=if w.params.followText "set-order" = true then Cs (w.params.setOrder a ep) es else es
theorem a4Y (a:AB)(ep:Nat)(es:Array (Int×AA)):(lW w a ep es).toList.Perm es.toList:=by
 unfold lW
 split
 ·exact a4C _ _
 ·exact List.Perm.refl _
theorem a5U {Q:Bool→AC→Prop}(h:Q (w.params.followText "set-order") s):AE (AH prog w) A setsByText Q E s:=by
 unfold setsByText;exact AD (E4 (AG h))
theorem a1U {a:AB}{o:Obj}{es:Array (Int×AA)}{ep slot i:Nat}{t:SetTable}{Q:Option (AA×Nat)→AC→Prop}(ho:s.heap.get? a=some o)(hd:o.data=.set es ep t)(hf:t.fits es.size=true)
  (hl:t.led = !w.params.followText "set-order") (hp:t.plain=true) (up:Up t.place) (sz:t.place.size=es.size) (hs:w.params.followText "set-order" = false→below t.place slot=i)
  (h1:∀ x slot',(lW w a ep es)[i]?=some x→(w.params.followText "set-order" = false→below t.place slot'=i+1)→Q (some (x.2,slot')) s)
  (h2:(lW w a ep es)[i]?=none→Q none s):AE (AH prog w) A (setNext a slot i ep) Q E s:=by
 unfold setNext;refine AD (CJ ho hd hf ?_);dsimp only;refine AD (a5U ?_)
 cases hb:w.params.followText "set-order" with
 | true=>
  simp only[if_true,bne_self_eq_false,Ae,if_false];unfold lW at h1 h2;rw[if_pos hb] at h1 h2;unfold setWalk;refine AD (AD (CJ ho hd hf ?_));dsimp only;refine AD (a5U ?_);rw[hb];simp only[if_true];refine AD (E4 (AG ?_));refine AG ?_
  cases hx:(Cs (w.params.setOrder a ep) es)[i]? with
  | none=>exact(show Q (((Cs (w.params.setOrder a ep) es)[i]?).map fun e=>(e.2,slot)) s by rw[hx]; exact h2 hx)
  | some x=>exact(show Q (((Cs (w.params.setOrder a ep) es)[i]?).map fun e=>(e.2,slot)) s by rw[hx]; exact h1 x slot hx fun z=>by rw[hb] at z; cases z)
 | false=>
  simp only[Ae,if_false];unfold lW at h1 h2;rw[if_neg (by rw[hb]; exact BZ)] at h1 h2;show AE _ _ (if (!t.plain&&decide (es.size>1))=true then _ else _) _ _ _;rw[hp];simp only[Bb,FC,Ae,if_false];show AE _ _ ((if (!t.led && !es.isEmpty)=true then unsupported "set:maker-not-led" else pure ()) >>= _) _ _ _;rw[hl,hb];simp only[EL,Bb,FC,Ae,if_false];refine AD (AG ?_);refine AG ?_;rw[hs hb]
  by_cases hi:i<es.size
  ·have hi':i<t.place.size:=by rw[sz]; exact hi
   rw[A1 hi,A1 hi'];exact h1 es[i] _ (A1 hi) fun _=>aBR up hi'
  ·rw[CU (by omega)];exact h2 (CU (by omega))
end
end L2.ST
namespace L2.ST
open PySem PySem.SetTable
section
variable {prog:AL}{w:AI}{A:AV}{E:AA→AC→Prop}{s:AC}
def IsSI (h:AF)(it a:AB)(slot i n ep:Nat):Prop:=∃ o,h.get? it=some o∧o.cls=.type "set_iterator" ∧ o.data=.fields #[.int slot 0,.int i 0,.ref a,.int n 0,.int ep 0]
structure WSet (w:AI)(h:AF)(a:AB)(es:Array (Int×AA))(ep:Nat)(t:SetTable):Prop where
 there:∃ o,h.get? a=some o∧o.ExactSet∧o.data=.set es ep t
 fits:t.fits es.size=true
 led:t.led = !w.params.followText "set-order"
 plain:t.plain=true
 up:Up t.place
 sz:t.place.size=es.size
theorem xX (a:AB)(ep:Nat)(es:Array (Int×AA)):(lW w a ep es).size=es.size:=by
 rw[← Af,(a4Y a ep es).length_eq,Af]
theorem a8S {it a:AB}{es:Array (Int×AA)}{ep slot i:Nat}{t:SetTable}{Q:Option AA→AC→Prop}(hit:IsSI s.heap it a slot i es.size ep)(W:WSet w s.heap a es ep t)(hs:w.params.followText "set-order" = false→below t.place slot=i)(hi:i<es.size)
  (hQ:∀ x slot' h',(lW w a ep es)[i]?=some x→IsSI h' it a slot' (i+1) es.size ep→(w.params.followText "set-order" = false→below t.place slot'=i+1)→Ar it s.heap h'→Q (some x.2) { s with heap:=h' }) :
  AE (AH prog w) A (BJ (.ref it)) Q E s:=by
 obtain⟨o,ho,hc,hd⟩:=id hit;obtain⟨oa,hoa,hex,hda⟩:=W.there;have hT:s.TypeIs (.ref it) "set_iterator" := ⟨o,ho,hc⟩;unfold BJ;refine AD (Dl (Dm (name:=DC "__next__") hT slot_si_next (Bm slot_si_next hT u5 ?_ (wA _))));unfold AM.«set_iterator.__next__» slotArgs;simp only[EW,Bb,Ae,↓reduceIte,bind_assoc,Ch,bne_self_eq_false];refine AD (AG ?_);refine AD (Dp ho hd ?_);dsimp only;refine AD (Fq hoa hda W.fits ?_);simp only[bne_self_eq_false,Ae,if_false];simp only[B7];refine AD (a1U hoa hda W.fits W.led W.plain W.up W.sz hs (fun x slot' hx hs'=>?_) fun hx=>?_)
 ·dsimp only;refine AD (EN ho hd (by simp) ?_);have g1:=BV (E1 (·.setIfInBounds 0 (Au slot'))) ho (Fc (Dq hd _));have d1:=Dq hd (·.setIfInBounds 0 (Au slot'));refine AD (EN g1 d1 (by simp) ?_);have g2:=BV (E1 (·.setIfInBounds 1 (Au ((i:Int)+1)))) g1 (Fc (Dq d1 _));refine AG ⟨_,rfl,AG (hQ x slot' _ hx ⟨_,g2,(Fd ..).trans ((Fd ..).trans hc),?_⟩ hs' ((CI ..).trans (CI ..)))⟩;rw[Dq d1];simp[Au]
 ·rw[A1 (by rw[xX]; exact hi)] at hx
  cases hx
theorem aCB {it a:AB}{es:Array (Int×AA)}{ep slot:Nat}{t:SetTable}{Q:Option AA→AC→Prop}(hh:A.handled=none)(hit:IsSI s.heap it a slot es.size es.size ep)(W:WSet w s.heap a es ep t)(hs:w.params.followText "set-order" = false→below t.place slot=es.size)
  (hQ:∀ h',AF.ExtBut it s.heap h'→Q none { s with heap:=h' }) :
  AE (AH prog w) A (BJ (.ref it)) Q E s:=by
 obtain⟨o,ho,hc,hd⟩:=id hit;obtain⟨oa,hoa,hex,hda⟩:=W.there;have hT:s.TypeIs (.ref it) "set_iterator" := ⟨o,ho,hc⟩;unfold BJ;refine AD (Dl (Dm (name:=DC "__next__") hT slot_si_next (Bm slot_si_next hT u5 ?_ (wA _))));unfold AM.«set_iterator.__next__» slotArgs;simp only[EW,Bb,Ae,↓reduceIte,bind_assoc,Ch,bne_self_eq_false];refine AD (AG ?_);refine AD (Dp ho hd ?_);dsimp only;refine AD (Fq hoa hda W.fits ?_);simp only[bne_self_eq_false,Ae,if_false];simp only[B7];refine AD (a1U hoa hda W.fits W.led W.plain W.up W.sz hs (fun x slot' hx hs'=>?_) fun hx=>?_)
 ·rw[CU (by rw[xX]; exact AN _)] at hx
  cases hx
 ·dsimp only;refine AD (EN ho hd (by simp) ?_);show AE _ _ (newExc (.type "StopIteration") [] >>= _) _ _ _;refine AD ?_;simp only[newExc,newTuple];refine AD (Ca ?_ (by size_fits));refine AD (m:=E2 _ _) (Fe (a:=BF) (by first|rfl|(simp only[E2]; rfl)) ?_);refine Ca ?_ (by size_fits);simp only[raiseNew];refine AD (wpAny_handled ?_);rw[show A.in1.handled=none from hh];refine AD (AG (wpAny_throw ?_));refine AD (DD (T := "StopIteration") (b:=true) ⟨_,Aq _ rfl,rfl⟩ FT ?_);exact AG (hQ _ (((CI ..).extBut.push _).push _))
end
end L2.ST
namespace L2.ST
open PySem PySem.SetTable
theorem vQ:Slot "set_iterator" "__iter__" "set_iterator.__iter__" :=
 .of (owner := "set_iterator") (n := "__iter__") (by rw[Ep,Er]; kernel_rfl) (by decide +kernel) (by decide +kernel) (by decide +kernel)
  (by first|exact .inl (by decide +kernel)|exact .inr (by decide +kernel)) (by rw[Ff]; kernel_rfl)
theorem a3Q:entryFor table "set_iterator.__iter__" = some AM.«dict_keyiterator.__iter__»:=
 entryFor_alias (id' := "dict_keyiterator.__iter__") (by kernel_rfl) rfl (by decide +kernel) (by kernel_rfl)
theorem a6U (a:AA):argsOk "set_iterator.__iter__" ⟨[a],[]⟩:=by
 unfold argsOk; rw[signature?_of (id := "set_iterator.__iter__") (n:=['_','_','r','e','t','i','_','_']) (o:=['r','o','t','a','r','e','t','i','_','t','e','s']) (by kernel_rfl) a9F]; kernel_rfl
section
variable {prog:AL}{w:AI}{A:AV}{E:AA→AC→Prop}{s:AC}
theorem WSet.at {h h':AF}{a:AB}{es:Array (Int×AA)}{ep:Nat}{t:SetTable}(W:WSet w h a es ep t)(k:∀ o,h.get? a=some o→h'.get? a=some o):WSet w h' a es ep t:=
 let ⟨o,h1,h2⟩:=W.there
 ⟨⟨o,k o h1,h2⟩,W.fits,W.led,W.plain,W.up,W.sz⟩
theorem IsSI.at {h h':AF}{it a:AB}{slot i n ep:Nat}(S:IsSI h it a slot i n ep)(k:∀ o,h.get? it=some o→h'.get? it=some o):IsSI h' it a slot i n ep:=
 let ⟨o,h1,h2⟩:=S
 ⟨o,k o h1,h2⟩
theorem aKV (hh:A.handled=none)(I a:AB)(hne:a≠I)(es:Array (Int×AA))(ep:Nat)(t:SetTable) :
  WalksS prog w A I [I,a] [I] (fun a b=>b=a) es.size (fun i v=>∃ x,(lW w a ep es)[i]?=some x∧v=x.2)
   (fun i s=>(∃ slot,IsSI s.heap I a slot i es.size ep∧(w.params.followText "set-order" = false→below t.place slot=i))∧WSet w s.heap a es ep t) where
 sub:=fun b hb=>by simp at hb; simp[hb]
 grefl:=fun _=>rfl
 gtrans:=fun _ _ _ h1 h2=>h2.trans h1
 frame:=fun i s h' _ st _ hk=>let ⟨⟨sl,z1,z2⟩,z3⟩:=st; ⟨⟨sl,z1.at fun o e=>hk I (by simp) o e,z2⟩,z3.at fun o e=>hk a (by simp) o e⟩
 item:=fun i s Q E hi st hQ=>by
  obtain⟨⟨sl,z1,z2⟩,z3⟩:=st;refine a8S z1 z3 z2 hi fun x sl' h' hx hit' hs' hsb=>?_;exact hQ _ _ ⟨x,hx,rfl⟩ ⟨⟨sl',hit',hs'⟩,z3.at fun o e=>(hsb.2 a hne).trans e⟩ ⟨fun b o hb e=>(hsb.2 b (fun h=>hb (by simp[h]))).trans e,rfl,rfl,rfl,AN _⟩
 done:=fun s Q E st hQ=>by
  obtain⟨⟨sl,z1,z2⟩,z3⟩:=st;exact aCB hh z1 z3 z2 fun h' he=>hQ _ ⟨fun b o hb e=>he b o (fun h=>hb (by simp[h])) e,rfl,rfl,rfl,AN _⟩
 self:=fun i s Q E st hQ=>by
  obtain⟨⟨sl,z1,z2⟩,z3⟩:=st;obtain⟨o,ho,hc,hd⟩:=z1;have hT:s.TypeIs (.ref I) "set_iterator" := ⟨o,ho,hc⟩;refine FZ hT vQ (Bm vQ hT a3Q ?_ (a6U _));show AE _ _ (ret (.ref I)) _ _ s;exact AG ⟨_,rfl, "set_iterator", _,hT,slot_si_next.lookup,hQ⟩
end
end L2.ST
namespace L2.ST
open PySem PySem.SetTable
theorem aC1 {xs:Array Nat}(up:Up xs):below xs 0=0:=by
 by_cases h:0<below xs 0
 ·have hl:=xF (xs:=xs) 0;have:=(qK up 0).1 0 (by omega) h;omega
 ·omega
section
variable {prog:AL}{w:AI}{A:AV}{E:AA→AC→Prop}{s:AC}
theorem collect_set {a:AB}{es:Array (Int×AA)}{ep:Nat}{t:SetTable}{Q:List AA→AC→Prop}(hh:A.handled=none)(W:WSet w s.heap a es ep t)(hn:es.size≤sizeLine)
  (hQ:∀ s' acc,Moved [] (fun a b=>b=a) s s'→DI (fun i v=>∃ x,(lW w a ep es)[i]?=some x∧v=x.2) acc es.size→Q acc.toList s'):AE (AH prog w) A (collect (.ref a)) Q E s:=by
 obtain⟨oa,hoa,hex,hda⟩:=W.there;have hlt:a<s.heap.objs.size:=AT hoa;unfold collect;refine AD (wpAny_runValue (Cq F.entry_proto_collect ?_));rw[DE F.plain_proto_collect _];show AE _ A.in1 (newList [] >>= fun l=>again (.builtin "list.__iadd__" ⟨[l,.ref a],[]⟩)) _ _ s;refine AD (Ca ?_);refine AG ⟨Cr F.plain_list_iadd _,Cq F.entry_list_iadd ?_⟩;rw[DE F.plain_list_iadd _];have ha1:(s.heap.push { cls:=.type "list", data:=.seq ([]:List AA).toArray }).get? a=some oa:=AZ _ hoa;have hS₁:(s.heap.push { cls:=.type "list", data:=.seq ([]:List AA).toArray }).get? s.heap.objs.size=some { cls:=.type "list", data:=.seq ([]:List AA).toArray }:=Aq _ rfl;have hT:Fo { s with heap:=s.heap.push { cls:=.type "list", data:=.seq ([]:List AA).toArray } } (.ref a) "set" := ⟨oa,ha1,hex.1⟩;show AE _ A.in1 (Ce (.ref s.heap.objs.size) (.ref a) (.ref s.heap.objs.size)) _ _ _;unfold Ce;refine AD (DF hT ?_);have h1:Do (.ref s.heap.objs.size) (.ref a)=false:=by simp[Do,A5 hlt]
 have h2:(BG "set" == BG "list")=false:=by decide
 have h3:(BG "set" == BG "tuple")=false:=by decide
 simp only[h1,h2,h3,EJ,Ae,if_false];refine AD (aBJ ha1 hex hda W.fits W.plain ?_);generalize hI:(s.heap.push { cls:=.type "list", data:=.seq ([]:List AA).toArray }).objs.size=I;have eI:I=s.heap.objs.size+1:=by rw[← hI,B6]
 have hT2:Fo { s with heap:=(s.heap.push { cls:=.type "list", data:=.seq ([]:List AA).toArray }).push (a8A a 0 0 es.size ep) } (.ref a) "set" := ⟨oa,AZ _ ha1,hex.1⟩;refine AD (BB ?_);unfold Ev;refine AD (Cf hT2 F.slot_set_len.lookup ?_);generalize hid:("set.__len__" : String)=id0;dsimp only;rw[show splitId id0=some ("set", "__len__") from by subst hid; decide +kernel];subst hid;dsimp only;refine AD (DD (b:=true) hT2 sub_set_self ?_);simp only[Bb,Ae,if_false];rw[if_pos (by decide +kernel)];refine AD (DF hT2 ?_);dsimp only;refine AG ?_;rw[if_pos (by decide +kernel)];show AE _ A.in1 (rule "list.extend.makes-room" >>= fun _=>GH (.ref s.heap.objs.size) >>= fun _=>
  again (.builtin "list.extend.loop" ⟨[.ref s.heap.objs.size,.ref I,.ref s.heap.objs.size],[]⟩)) _ _ _
 refine AD (Cm ?_);have hS₀:((s.heap.push { cls:=.type "list", data:=.seq ([]:List AA).toArray }).push (a8A a 0 0 es.size ep)).get? s.heap.objs.size=some { cls:=.type "list", data:=.seq ([]:List AA).toArray }:=AZ _ hS₁;have hI₀:((s.heap.push { cls:=.type "list", data:=.seq ([]:List AA).toArray }).push (a8A a 0 0 es.size ep)).get? I=some (a8A a 0 0 es.size ep):=by rw[← hI]; exact Aq _ rfl
 have keep₀:∀ b o,s.heap.get? b=some o→((s.heap.push { cls:=.type "list", data:=.seq ([]:List AA).toArray }).push (a8A a 0 0 es.size ep)).get? b=some o:=fun b o e=>AZ _ (AZ _ e);generalize ((s.heap.push { cls:=.type "list", data:=.seq ([]:List AA).toArray }).push (a8A a 0 0 es.size ep))=hp at hS₀ hI₀ keep₀;refine AD ?_;show AE _ A.in1 (Cc s.heap.objs.size (·.push .none) >>= fun _=>Cc s.heap.objs.size (·.pop)) _ _ _;refine AD (Cd hS₀ rfl ?_);have hS₂:=BV (Aj (·.push BF)) hS₀ rfl;refine Cd hS₂ rfl ?_;have hS₃:=BV (Aj (·.pop)) hS₂ rfl;have oth:∀ b o,b≠s.heap.objs.size→hp.get? b=some o→((hp.update s.heap.objs.size (Aj (·.push BF))).update s.heap.objs.size (Aj (·.pop))).get? b=some o:=
  fun b o hb e=>(Bj _ _ (Ne.symm hb)).trans ((Bj _ _ (Ne.symm hb)).trans e)
 have hSf:s.heap.objs.size∉[I,a]:=by
  simp only[AK,B5,or_false,not_or];exact⟨by rw[eI]; exact Ag (D1 _),A5 hlt⟩
 have hh1:A.in1.handled=none:=hh;have hne:a≠I:=by rw[eI]; exact Ag (Ba hlt)
 have hIS:I≠s.heap.objs.size:=by rw[eI]; exact Nat.succ_ne_self _
 refine AG ⟨Cr F.plain_extend_loop _,GO (aKV (prog:=prog) (w:=w) hh1 I a hne es ep t) hn _ hSf _ es.size 0 _ _ _ rfl (A8 _)
  ⟨⟨0,⟨_,oth _ _ hIS hI₀,rfl,rfl⟩,fun _=>aC1 W.up⟩,W.at fun o e=>oth _ _ (Ag hlt) (keep₀ _ _ e)⟩ hS₃ (DI.nil _) fun s' acc' c' hm hS' hacc=>?_⟩
 show AE _ A (load s.heap.objs.size >>= _) _ _ s';refine AD (wpAny_load hS' ?_);refine AG (hQ s' acc' ⟨fun b o _ e=>hm.heap b o ?_ (oth b o (Ag (AT e)) (keep₀ b o e)),hm.gens,hm.drawn,hm.os,hm.toks⟩ hacc);have hb:=AT e;simp only[AK,B5,or_false,not_or];exact⟨Ag hb,by rw[eI]; exact Ag (Ba hb)⟩
end
end L2.ST
namespace L2.ST
open PySem PySem.SetTable
theorem SetX.wset {prog:AL}{w:AI}{κ:Type}{kk:KK prog w κ}{Gd:AB→Prop}{h:AF}{a:AB}{ks:List κ}{n:Nat}(S:SetX kk Gd h a ks n) :
  ∃ es ep t,WSet w h a es ep t∧es.size≤n∧(∀ e∈es.toList,∃ k∈ks,KeyX kk Gd h k e)∧(∀ k∈ks,∃ e∈es.toList,KeyX kk Gd h k e)∧es.toList.Pairwise fun e e'=>∀ k,¬(KeyX kk Gd h k e∧KeyX kk Gd h k e'):=by
 obtain⟨o,es,ep,t,ho,hex,hd,T,h7,⟨hle,hld,hpl⟩,W,hes,hks,hpw⟩:=S;exact⟨es,ep,t,⟨⟨o,ho,hex,hd⟩,T.fits,hld,hpl,W.up,T.sz⟩,hle,hes,hks,hpw⟩
theorem gathered {w:AI}{a:AB}{ep:Nat}{es:Array (Int×AA)}{acc:Array AA}(h:DI (fun i v=>∃ x,(lW w a ep es)[i]?=some x∧v=x.2) acc es.size):acc.toList.Perm (es.toList.map (·.2)):=by
 have e:acc.toList=(lW w a ep es).toList.map (·.2):=by
  apply Cv;intro i;rw[Aa,BX,BX]
  by_cases hi:i<acc.size
  ·obtain⟨x,h1,h2⟩:=h.2 i acc[i] (A1 hi);rw[A1 hi,h1,h2];rfl
  ·have hi2:¬i<(lW w a ep es).size:=by rw[xX,←h.1]; exact hi
   rw[CU (by omega),CU (by omega)];rfl
 rw[e];exact(a4Y a ep es).map _
end L2.ST
namespace L2
open PySem PySem.Calls PyProof.Rows PySem.W
theorem NpAt.goT {h h':AF}{L:AB}{v:AA}{k:NK2}(keep:∀ b o,b≠L→o.cls=.type "tuple" → h.get? b=some o→h'.get? b=some o)(z:NpAt h L v k):NpAt h' L v k:=by
 obtain⟨a,o,n,x,y,r1,r2,r3,r4,r5,r6,r7,⟨o1,n1,t1,u1,a1,a2,a3⟩,o2,n2,t2,u2,b1,b2,b3⟩:=z;exact⟨a,o,n,x,y,r1,r2,keep a o r2 r4 r3,r4,r5,r6,r7,⟨o1,n1,t1,u1,keep _ _ r6 a2 a1,a2,a3⟩,o2,n2,t2,u2,keep _ _ r7 b2 b1,b2,b3⟩
theorem sI {α β:Type}{R:α→β→Prop}{xs xs':List α}(p:xs'.Perm xs):∀{ys:List β},AX R xs ys→∃ ys',AX R xs' ys'∧ys'.Perm ys:=by
 induction p with
 | nil=>intro ys h; exact⟨ys,h,.refl _⟩
 | cons x _ ih=>
  intro ys h
  cases h with
  | cons a b=>
   obtain⟨ys',h1,h2⟩:=ih b;exact⟨_::ys',.cons a h1,h2.cons _⟩
 | swap x y l=>
  intro ys h
  cases h with
  | cons a b=>
   cases b with
   | cons b c=>exact⟨_,.cons b (.cons a c),.swap _ _ _⟩
 | trans _ _ ih1 ih2=>
  intro ys h;obtain⟨y1,a1,a2⟩:=ih2 h;obtain⟨y2,b1,b2⟩:=ih1 a1;exact⟨y2,b1,b2.trans a2⟩
section
variable {prog:AL}{w:AI}{A:AV}{E:AA→AC→Prop}{s:AC}
theorem aE5 {D L:AB}{m:Mg}{vs:List AA}{ks:List NK2}{n:Nat}{P:PySem.Fin→AC→Prop}(hu:A.units+60<Ai)(hL:s.heap.Ns L m)(ho:s.heap.get? D=some (As "list" vs.toArray n))(hDL:L<D)(h2:2≤vs.length)(h64:vs.length<64)(hp:AX (NpAt s.heap L) vs ks)(nd:ks.Nodup)
  (q:∀(is:List Nat) (h':AF) (c:Nat),is.Perm (List.range vs.length)→(∀ b o,b≠L→b≠D→s.heap.get? b=some o→h'.get? b=some o)→h'.Ns L m→h'.get? D=some (listOf (is.map fun i=>vs.getD i .none).toArray c)→P (.done (.ret .none)) { s with heap:=h' }) :
  AE (AH prog w) A (AM.«list.sort» ⟨[.ref D],[]⟩) P E s:=by
 obtain⟨h₀,z1,z2,z3⟩:=aDR s.heap L;obtain⟨news,n1,n2⟩:=a6S s.heap L;have F:Fr h₀ L s.heap m:=⟨hL,z2,z1⟩;have out:∀ b,L<b→h₀.get? b=none:=fun b hb=>by
  cases e:h₀.get? b with
  | none=>rfl
  | some o=>exact absurd (Al (AT e) z1) (not_lt.mpr (Bz hb))
 have N:News h₀ L s.heap (news.filter fun p=>p.1 != D):=fun p hp=>by
  have hp:=(Ap.mp hp).1;exact⟨(n1 p hp).1,A5 (n1 p hp).2,out _ (n1 p hp).2⟩
 have nD:∀ p∈news.filter (fun p=>p.1 != D),p.1≠D:=fun p hp=>by simpa using(Ap.mp hp).2
 have all:∀{h':AF},Fr h₀ L h' m→News h₀ L h' (news.filter fun p=>p.1 != D)→∀ b o,b≠L→b≠D→s.heap.get? b=some o→h'.get? b=some o:=fun F' N' b o hb hd e=>by
  rcases C3 b L with y|y|y
  ·exact F'.keep b o (z3 b o y e)
  ·exact absurd y hb
  ·exact(N' _ (Ap.mpr ⟨n2 b o y e,by simpa using hd⟩)).1
 refine kat_list_sort F N ho (A5 hDL) (out D hDL) nD h2 h64 fun e1 h' F' N'=>?_;have N2:News h₀ L h' (news.filter fun p=>p.1 != D):=fun p hp=>N' p (AU _ hp);have keep:=all F' N2;have hp':AX (NpAt h' L) vs ks:=AX.mapP hp fun v k h=>h.goT fun b o hb hc e=>keep b o hb (fun z=>by
  rw[z,ho] at e
  cases e
  exact absurd (BG.inj hc) (by decide)) e
 have hlen:vs.length=ks.length:=hp.length;obtain⟨fs,f1,f2,f3⟩:=aCH (prog:=prog) (w:=w) hp';refine kat_kind (T:=.type "tuple") (s:={ s with heap:=h' }) f1 (by rw[f2]; omega) (fun v hv=>f3 v hv) rfl ?_;show KasT.kasWp (kas_ask prog w A (tuples' false) vs) (kas_sort vs.length) _ _;refine wC (I:=fun s'=>s'={ s with heap:=h' }) (lt:=fun i j=>aCL (ks.getD i nk0) (ks.getD j nk0)) (fun i j C s' h0 h1 hi k=>?_) (hlen▸aM7 nd) (by omega) rfl fun p s' hpm hup hs'=>?_
 ·subst hi;obtain⟨a,o,n,x,y,ra,_,r3,_,r5,_,_,tx,ty⟩:=aJJ hp' h0;obtain⟨a',o',n',x',y',ra',_,r3',_,r5',_,_,tx',ty'⟩:=aJJ hp' h1;unfold kas_ask;rw[ra,ra'];exact aPF (s:={ s with heap:=h' }) r3 r5 r3' r5' tx ty tx' ty' (by omega) (k _ rfl)
 ·subst hs';refine KasFin.intro F' N' (.head nD) fun h2' c F2 N3=>?_;exact q p.toList h2' c (by simpa using EA.mp hpm) (all F2 fun p hp=>N3 p (AU _ hp)) F2.ns (N3 _ mem_cons_self).1
theorem aCM {h h':AF}{L:AB}{m:Mg}(k:∀ b o,h.get? b=some o→h'.get? b=some o)(n:h.Ns L m):h'.Ns L m:=
 let ⟨o,es,ep,e,r⟩:=n
 ⟨o,es,ep,k _ _ e,r⟩
theorem aC2 {a L:AB}{m:Mg}{es:Array (Int×AA)}{ep:Nat}{t:SetTable}{ks:List NK2}{Q:AA→AC→Prop}(hh:A.handled=none)(hu:A.units+64<Ai)(hL:s.heap.Ns L m)(W:ST.WSet w s.heap a es ep t)(h64:es.size<64)(hp:AX (NpAt s.heap L) (es.toList.map (·.2)) ks)(nd:ks.Nodup)
  (q:∀(vs:List AA) (D:AB) (h':AF) (c tk:Nat),vs.Perm (es.toList.map (·.2))→s.heap.get? D=none→D≠L→(∀ b o,b≠L→s.heap.get? b=some o→h'.get? b=some o)→h'.Ns L m→h'.get? D=some (listOf vs.toArray c)→Q (.ref D) { s with heap:=h',toks:=tk }) :
  AE (AH prog w) A (call (.builtin "sorted") [.ref a]) Q E s:=by
 refine GQ kind_sorted plain_sorted entry_sorted (args_sorted1 _) ?_;unfold AM.«sorted»;refine AD (m:=checkCount "sorted" 1 1 _) (AG ?_);refine AD (ST.collect_set (by exact hh) W (by rw[Br]; omega) fun s' acc hm hacc=>?_);have hperm:=ST.gathered hacc;obtain⟨h1,g1,d1,t1,o1⟩:=s';have eg:g1=s.gens:=hm.gens;have ed:d1=s.drawn:=hm.drawn;have eo:o1=s.os:=hm.os;subst eg ed eo;have k1:∀ b o,s.heap.get? b=some o→h1.get? b=some o:=fun b o e=>hm.heap b o (fun z=>nomatch z) e;have hlen:acc.toList.length=es.size:=by rw[hperm.length_eq,AS,Af]
 obtain⟨ks',p1,p2⟩:=sI hperm hp;have nd':ks'.Nodup:=p2.nodup_iff.mpr nd;have hL1:h1.Ns L m:=aCM k1 hL;have p1':AX (NpAt h1 L) acc.toList ks':=AX.mapP p1 fun v k h=>h.go fun b o _ e=>k1 b o e;generalize acc.toList=vs at *;have isn:s.heap.get? h1.objs.size=none:=by
  cases e:s.heap.get? h1.objs.size with
  | none=>rfl
  | some o=>exact absurd (AT (k1 _ _ e)) (BI _)
 refine AD (Fj ?_ (by rw[Br]; omega));have hoL:(h1.push (As "list" vs.toArray 0)).get? h1.objs.size=some (As "list" vs.toArray 0):=Aq _ rfl;have k2:∀ b o,h1.get? b=some o→(h1.push (As "list" vs.toArray 0)).get? b=some o:=fun b o e=>AZ _ e;show AE _ _ _ _ _ { s with heap:=h1.push (As "list" vs.toArray 0),toks:=t1 };dsimp only;refine AD (BB (Bm slot_list_sort ⟨_,hoL,rfl⟩ entry_list_sort ?body (args_list_sort _)))
 case body=>
  by_cases hc:vs.length≤1
  ·refine a9L (s:={ s with heap:=h1.push (As "list" vs.toArray 0),toks:=t1 }) hc hoL fun h' c kp hd=>⟨_,rfl,AG ⟨_,rfl,q vs _ h' c t1 hperm isn (A5 hL1.lt) (fun b o hb e=>kp b o ?_ (k2 b o (k1 b o e))) ?_ hd⟩⟩
   ·exact Ag (AT (k1 b o e))
   ·obtain⟨o,es,ep,e,r⟩:=hL1;exact⟨o,es,ep,kp _ _ (Ag (AT e)) (k2 _ _ e),r⟩
  ·refine aE5 (s:={ s with heap:=h1.push (As "list" vs.toArray 0),toks:=t1 }) (by show A.units+1+1+60<Ai; omega) (aCM k2 hL1) hoL hL1.lt (by omega) (by omega) (AX.mapP p1' fun v k h=>h.go fun b o _ e=>k2 b o e) nd' fun is h' c hi kp hn hd=>⟨_,rfl,AG ⟨_,rfl,q _ _ h' c t1 ?_ isn (A5 hL1.lt) (fun b o hb e=>kp b o hb ?_ (k2 b o (k1 b o e))) hn hd⟩⟩
   ·have e1:((List.range vs.length).map fun i=>vs.getD i BF)=vs:=by
     refine Cv fun i=>?_;rw[Aa]
     by_cases hi:i<vs.length
     ·simp[hi]
     ·simp[hi]
    have:=hi.map fun i=>vs.getD i BF;rw[e1] at this;exact this.trans hperm
   ·exact Ag (AT (k1 b o e))
end
end L2
namespace L2.ST
open PySem PySem.SetTable
def KK.on {prog:AL}{w:AI}{κ:Type}(kk:KK prog w κ)(L:AB→Prop):KK prog w κ where
 At Gd h k x:=L x∧kk.At Gd h k x
 hash:=kk.hash
 cost:=kk.cost
 gd z:=kk.gd z.2
 seq z:=kk.seq z.2
 pres p z:=⟨z.1,kk.pres p z.2⟩
 weak p z:=⟨z.1,kk.weak p z.2⟩
 inj a b:=kk.inj a.2 b.2
 quiet a:=kk.quiet a.2
 cls a:=kk.cls a.2
 byv a:=kk.byv a.2
 eqb u a b:=kk.eqb u a.2 b.2
 hsh u a:=kk.hsh u a.2
end L2.ST
namespace L2
open PySem PySem.Spec PyProof.Rows
def kT (k:NK2):List (List Int):=[[k.1.1,k.1.2],[k.2.1,k.2.2]]
theorem aOG {k l:NK2}(h:kT k=kT l):k=l:=by
 obtain⟨⟨a,b⟩,c,d⟩:=k;obtain⟨⟨e,f⟩,g,i⟩:=l;unfold kT at h;simp at h;obtain⟨⟨h1,h2⟩,h3,h4⟩:=h;rw[h1,h2,h3,h4]
def NpOne (H:Hp)(v:V)(k:NK2):Prop:=∃ b x y,v=.ref b∧H b=some (.tup [.ref x,.ref y])∧H x=some (.tup [.int k.1.1,.int k.1.2])∧H y=some (.tup [.int k.2.1,.int k.2.2])
theorem NpOne.one {H:Hp}{v:V}{k l:NK2}(h:NpOne H v k)(g:NpOne H v l):k=l:=by
 obtain⟨b,x,y,rfl,h1,h2,h3⟩:=h;obtain⟨b',x',y',e,g1,g2,g3⟩:=g
 cases e
 rw[h1] at g1;injection g1 with g1;injection g1 with g1;injection g1 with e1 e2;injection e2 with e2 _
 cases e1
 cases e2
 rw[h2] at g2;rw[h3] at g3;injection g2 with g2;injection g2 with g2;injection g2 with e1 e2;injection e2 with e2 _;injection g3 with g3;injection g3 with g3;injection g3 with e3 e4;injection e4 with e4 _;injection e1 with e1;injection e2 with e2;injection e3 with e3;injection e4 with e4;obtain⟨⟨_,_⟩,_,_⟩:=k;obtain⟨⟨_,_⟩,_,_⟩:=l;dsimp only at e1 e2 e3 e4;subst e1 e2 e3 e4;rfl
theorem a5B {α β:Type}{R:α→β→Prop}:∀{xs:List α},(∀ x∈xs,∃ y,R x y)→∃ ys,AX R xs ys
 | [],_=>⟨[],.nil⟩
 | x::xs,h=>
  let ⟨y,hy⟩:=h x mem_cons_self
  let ⟨ys,hs⟩:=a5B fun z hz=>h z (AU _ hz)
  ⟨y::ys,.cons hy hs⟩
theorem a2U {α β:Type}{R:α→β→Prop}{xs:List α}{ys:List β}(h:AX R xs ys):∀ y∈ys,∃ x∈xs,R x y:=by
 induction h with
 | nil=>intro y hy; cases hy
 | cons a _ ih=>
  intro y hy;rcases AK.mp hy with rfl|hy
  ·exact⟨_,mem_cons_self,a⟩
  ·obtain⟨x,h1,h2⟩:=ih y hy;exact⟨x,AU _ h1,h2⟩
theorem aH8 {α β:Type}{R:α→β→Prop}{xs:List α}{ys:List β}(h:AX R xs ys):∀ x∈xs,∃ y∈ys,R x y:=by
 induction h with
 | nil=>intro y hy; cases hy
 | cons a _ ih=>
  intro y hy;rcases AK.mp hy with rfl|hy
  ·exact⟨_,mem_cons_self,a⟩
  ·obtain⟨x,h1,h2⟩:=ih y hy;exact⟨x,AU _ h1,h2⟩
theorem aG3 {α β:Type}{R:α→β→Prop}{S:α→α→Prop}{T:β→β→Prop}(st:∀ x x' y y',R x y→R x' y'→S x x'→T y y'){xs:List α}{ys:List β}(h:AX R xs ys):xs.Pairwise S→ys.Pairwise T:=by
 induction h with
 | nil=>intro _; exact .nil
 | @cons x y _ _ a b ih=>
  intro p;obtain⟨p1,p2⟩:=BU.mp p;refine BU.mpr ⟨fun y' hy'=>?_,ih p2⟩;obtain⟨x',h1,h2⟩:=a2U b y' hy';exact st x x' y y' a h2 (p1 x' h1)
def aOK (w:AI)(a:AB)(vs:List AA):HO:=.ext fun h=>∃ es ep t,ST.WSet w h a es ep t∧es.toList.map (·.2)=vs
def aON (K:Fg)(w:AI):List V→Hp→VK→Prop:=fun xs H Q=>∃ p qs ks,xs=[.ref p]∧SqL K H p qs∧pU H qs ks∧ks.length≤18 ∧
 ∀(l:AB) (bs:List AB) (ks':List NK2),H l=none→ks'.Nodup→(∀ k,k∈ks'↔k∈ks)→bs.length≤18→(∀ b∈bs,V.ref b∈qs)→pU H (bs.map .ref) ks'→Q (.ref l) (upd H l (aOK w l (bs.map .ref)))
def aJ7 (w:AI):List V→Hp→VK→Prop:=fun xs H Q=>∃ p bs ks,xs=[.ref p]∧H p=some (aOK w p (List.map Ac bs))∧pU H (bs.map .ref) ks∧ks.Nodup∧bs.length≤18 ∧
 ∀(l:AB) (bs':List AB),bs'.Perm bs→H l=none→Q (.ref l) (upd H l (.lst (bs'.map .ref)))
section
variable {X:Cx}
theorem aNK {pins:List (AB×Obj)}{s:AC}{σ:List (Option V)}{H:Hp}(I:Inv X pins σ H s){qs:List V}{its:List AA}{ks:List NK2}(hp:pU H qs ks)(rv:AX RelV qs its):AX (NpAt s.heap X.env.locals) its ks:=by
 unfold pU at hp
 induction hp generalizing its with
 | nil=>cases rv; exact .nil
 | @cons v k qs ks a t ih=>
  cases rv with
  | cons b c=>
   refine .cons ?_ (ih c);obtain⟨bk,x,y,rfl,hb,hx,hy⟩:=a
   cases b
   obtain⟨_,items,ri,o,h1,h2,n,h3⟩:=(show ObjOk X.prog X.w H s.heap bk (.tup [.ref x,.ref y]) from I.hok bk _ hb);obtain⟨u1,u2,rfl,r1,r2⟩:=ri.two
   cases r1
   cases r2
   exact⟨bk,o,n,x,y,rfl,(fun z=>by rw[z,I.free] at hb; cases hb),h1,h2,h3,(fun z=>by rw[z,I.free] at hx; cases hx),(fun z=>by rw[z,I.free] at hy; cases hy),a2Z I.hok hx,a2Z I.hok hy⟩
theorem aIU {pins:List (AB×Obj)}{s:AC}{σ:List (Option V)}{H:Hp}(I:Inv X pins σ H s){b:AB}{k:NK2}(h:NpOne H (.ref b) k):(ST.kTup X.prog X.w).At (fun b=>b<s.heap.objs.size) s.heap (kT k) b:=by
 obtain⟨bk,x,y,e,hb,hx,hy⟩:=h
 cases e
 obtain⟨_,items,ri,o,h1,h2,n,h3⟩:=(show ObjOk X.prog X.w H s.heap b (.tup [.ref x,.ref y]) from I.hok b _ hb);obtain⟨u1,u2,rfl,r1,r2⟩:=ri.two
 cases r1
 cases r2
 have kx:=(a2Z (k:=k.1) I.hok hx).key (prog:=X.prog) (w:=X.w);have ky:=(a2Z (k:=k.2) I.hok hy).key (prog:=X.prog) (w:=X.w);refine⟨AT h1,o,_,n,h1,h2,h3,?_⟩;refine .cons ?_ kx (.cons ?_ ky .nil)
 ·obtain⟨o,_,_,e,_⟩:=kx; exact AT e
 ·obtain⟨o,_,_,e,_⟩:=ky; exact AT e
theorem aFG {H:Hp}{qs:List V}{ks:List NK2}(h:pU H qs ks):∀{i:Nat} {q:V},qs[i]?=some q→∃ k,ks[i]?=some k∧NpOne H q k:=by
 unfold pU at h
 induction h with
 | nil=>intro i q e; cases e
 | @cons v k qs ks a t ih=>
  intro i q e
  cases i with
  | zero=>cases e; exact⟨k,rfl,a⟩
  | succ i=>exact ih e
theorem aDO (hc:X.calm=true)(hu:X.A.units+64<Ai):CallR X (.type "set") (aON X.K X.w):=by
 intro pins s σ H xs us Q I r h;obtain⟨p,qs,ks,rfl,hq,ht,hn,q⟩:=h;obtain⟨u,rfl,rx⟩:=vals1 r
 cases rx
 obtain⟨its,r',pl,hz⟩:=I.list hq;have hql:qs.length=ks.length:=AX.length ht;have hlen:its.length=ks.length:=by rw[← r'.length,hql]
 have vat:∀ i k,ks[i]?=some k→kT (ks.getD i nk0)=kT k:=fun i k e=>by rw[Bs,e]; rfl
 refine ST.call_setX (kk:=(ST.kTup X.prog X.w).on fun b=>V.ref b∈qs) (val:=fun i=>kT (ks.getD i nk0)) (I.ok.hd hc) hu pl.isList (fun i v hv=>?_) (by rw[Ak,hlen]; exact hn) fun h' tk hs kp=>?_
 ·rw[List.getElem?_toArray] at hv;obtain⟨x,h1,h2⟩:=aG7 r' hv;obtain⟨k,k1,k2⟩:=aFG ht h1;obtain⟨b,hb⟩:∃ b,x=.ref b:=let ⟨b,_,_,e,_⟩:=k2; ⟨b,e⟩;subst hb
  cases h2
  refine⟨b,rfl,BL h1,?_⟩
  show(ST.kTup X.prog X.w).At _ _ (kT (ks.getD i nk0)) b
  rw[vat i k k1];exact aIU I k2
 ·have esz:its.toArray.size=ks.length:=by rw[Ak,hlen]
  rw[esz] at hs;obtain⟨es,ep,t,W,hle,hes,hks,hpw⟩:=hs.wset;have key:∀ e∈es.toList,∃ y:AB×NK2,(e.2=.ref y.1∧V.ref y.1∈qs∧y.2∈ks∧NpOne H (.ref y.1) y.2)∧ST.KeyX ((ST.kTup X.prog X.w).on fun b=>V.ref b∈qs) (fun _=>True) h' (kT y.2) e:=fun e he=>by
   obtain⟨k,_,k1,b,k2,k3,k4⟩:=hes e he;obtain⟨i,hi⟩:=List.mem_iff_getElem?.mp k3;obtain⟨l,l1,l2⟩:=aFG ht hi;have z:(ST.kTup X.prog X.w).At (fun b=>b<s.heap.objs.size) h' (kT l) b:=(ST.kTup X.prog X.w).pres (fun c o _ _ hc e _=>kp c o hc e) (aIU I l2);have ek:k=kT l:=(ST.kTup X.prog X.w).inj k4 z;subst ek;exact⟨(b,l),⟨k2,k3,BL l1,l2⟩,k1,b,k2,k3,k4⟩
  obtain⟨ys,hy⟩:=a5B key;have ysl:ys.length=es.size:=by rw[← hy.length,Af]
  have ev:es.toList.map (·.2)=(ys.map (·.1)).map Ac:=by
   clear ysl key hpw hks hes W;generalize es.toList=el at hy
   induction hy with
   | nil=>rfl
   | cons a _ ih=>rw[BD,BD,BD,ih,a.1.1]
  refine⟨.ref s.heap.objs.size,_,I.laid (fun b o e=>kp b o (AT e) e) (AN _) (show ObjOk X.prog X.w _ h' _ (aOK X.w s.heap.objs.size ((ys.map (·.1)).map Ac)) from ?_),rfl,q _ (ys.map (·.1)) (ys.map (·.2)) (I.hok.fresh (AN _)) ?_ (fun k=>⟨fun hk=>?_,fun hk=>?_⟩) (by rw[AS,ysl]; omega) (fun b hb=>?_) ?_⟩
  ·refine⟨⟨es,ep,t,W,ev⟩,?_,?_⟩
   ·obtain⟨o,ho,_⟩:=W.there;exact⟨o,ho⟩
   ·rintro h1 h2 ⟨es',ep',t',a1,a2⟩ kp';exact⟨es',ep',t',a1.at kp',a2⟩
  ·rw[List.Nodup,C2];refine aG3 (fun e e' y y' a b n z=>?_) hy hpw;exact n (kT y.2) ⟨a.2,by rw[z]; exact b.2⟩
  ·obtain⟨y,hy1,rfl⟩:=Ab.mp hk;obtain⟨e,_,h1,_⟩:=a2U hy y hy1;exact h1.2.2.1
  ·obtain⟨i,hi⟩:=List.mem_iff_getElem?.mp hk;have hi':i<ks.length:=(List.getElem?_eq_some_iff.mp hi).1;obtain⟨e,he,hk2⟩:=hks (kT k) ((ST.mem_seenX _ _ _).mpr ⟨i,hi',vat i k hi⟩);obtain⟨y,hy1,_,hy2⟩:=aH8 hy e he;have:=aOG (ST.KeyX.inj hk2 hy2);rw[this];exact Dz hy1
  ·obtain⟨y,hy1,rfl⟩:=Ab.mp hb;obtain⟨e,_,h1,_⟩:=a2U hy y hy1;exact h1.2.1
  ·clear ysl ev key hpw hks hes W;generalize es.toList=el at hy
   induction hy with
   | nil=>exact .nil
   | cons a _ ih=>exact .cons a.1.2.2.2 ih
theorem aDX {vs:List AA}{bs:List AB}(h:vs.Perm (bs.map Ac)):∃ bs',vs=List.map Ac bs'∧bs'.Perm bs:=by
 have h1:AX (fun(v:AA) (b:AB)=>v=.ref b) (bs.map Ac) bs:=by
  clear h
  induction bs with
  | nil=>exact .nil
  | cons b bs ih=>exact .cons rfl ih
 obtain⟨bs',h2,h3⟩:=sI h h1;refine⟨bs',?_,h3⟩;clear h3 h h1
 induction h2 with
 | nil=>rfl
 | cons a _ ih=>rw[BD,a,ih]
theorem aB8 (hc:X.calm=true)(hu:X.A.units+64<Ai):CallR X (.builtin "sorted") (aJ7 X.w):=by
 intro pins s σ H xs us Q I r h;obtain⟨p,bs,ks,rfl,hp,ht,nd,hn,q⟩:=h;obtain⟨u,rfl,rx⟩:=vals1 r
 cases rx
 obtain⟨⟨es,ep,t,W,ev⟩,_,_⟩:=(show ObjOk X.prog X.w H s.heap p (aOK X.w p (List.map Ac bs)) from I.hok p _ hp);obtain⟨m,hL,_⟩:=id I.loc;have rel:∀ bs:List AB,AX RelV (bs.map V.ref) (bs.map Ac):=fun bs=>by
  induction bs with
  | nil=>exact .nil
  | cons b bs ih=>exact .cons rfl ih
 have hpr:AX (NpAt s.heap X.env.locals) (es.toList.map (·.2)) ks:=by rw[ev]; exact aNK I ht (rel bs)
 have esz:es.size=bs.length:=by rw[← Af,←AS (f:=fun x:Int×AA=>x.2),ev,AS]
 refine aC2 (I.ok.hd hc) hu hL W (by omega) hpr nd fun vs D h' c tk hperm hD hDL keep hn' hd=>?_;obtain⟨bs',e',hb'⟩:=aDX (ev▸hperm);subst e';have hil:(bs'.map V.ref).length≤18:=by rw[AS,hb'.length_eq]; exact hn
 have HD:H D=none:=by
  cases e:H D with
  | none=>rfl
  | some o=>
   obtain⟨u,hu⟩:=(I.hok D o e).there;rw[hD] at hu; cases hu
 have noL:∀ b o,H b=some o→b≠X.env.locals:=fun b o e z=>by rw[z,I.free] at e; cases e
 have neD:∀ b o,H b=some o→b≠D:=fun b o e z=>by rw[z,HD] at e; cases e
 have hok:HOk X.prog X.w (upd H D (.lst (bs'.map V.ref))) h':=fun b o e=>by
  by_cases hb:b=D
  ·subst hb;rw[bO] at e
   cases e
   exact⟨by rw[Br]; omega,_,c,rel bs',hd⟩
  ·rw[aY hb] at e;refine(I.hok b o e).stay (fun b' u hb' hu=>keep b' u ?_ hu) (fun b' z=>by rw[aY (neD _ _ z)]; exact z) fun b' xs z=>by rw[aY (neD _ _ z)]; exact z
   rcases hb' with z|z
   ·rw[z]; exact noL _ _ e
   ·exact noL _ _ z
 have I':Inv X pins σ (upd H D (.lst (bs'.map V.ref))) { s with heap:=h',gens:=s.gens,drawn:=s.drawn,toks:=tk }:=I.step (ch:=[]) (fun _ z=>nomatch z) (fun b o hb _ _ e _=>keep b o hb e) (fun b o hb _ _ e _=>⟨o.slots,keep b o hb e⟩)
  (fun b o _ e n=>by rw[aY (fun z=>by rw[z,hD] at e; cases e)]; exact n)
  (fun b o _ e=>by
   by_cases hb:b=X.env.locals
   ·subst hb;obtain⟨o',_,_,h1,_⟩:=hn';exact⟨o',h1⟩
   ·exact⟨o,keep b o hb e⟩)
  (fun b xs z=>by rw[aY (neD _ _ z)]; exact z) (fun b o u z=>by rw[aY (neD _ _ z)]; exact z) (fun b ps z=>⟨#[],by rw[aY (neD _ _ z)]; simpa using z⟩)
  (fun m' hm=>aJI hL hm▸hn') hok I.bare
 exact⟨.ref D,_,I',rfl,q D bs' hb' HD⟩
end
end L2
namespace L2.VS
open PySem PySem.Spec PyProof.Rows
section
variable {P0:AB→Hp→Prop}{ta:TE}{ma:ME}{K:Fg}{w:AI}
theorem aP7 {G:Hp}:∀{ks:List NK2} {vs:List V},Dts G vs (aE1 ks)→∀ v∈vs,∃ k,Dt G v (npD k):=by
 intro ks
 induction ks with
 | nil=>intro vs h v hv; cases h; cases hv
 | cons k ks ih=>
  intro vs h v hv
  cases h with
  | cons a b=>
   rcases AK.mp hv with rfl|hv
   ·exact⟨k,a⟩
   ·exact ih b v hv
theorem aNV {G H:Hp}(sub:∀ b o,G b=some o→H b=some o){qs:List V}{ks:List NK2}(rs:Dts G qs (aE1 ks)):∀{bs:List AB} {ks':List NK2},pU H (bs.map .ref) ks'→(∀ b∈bs,V.ref b∈qs)→Dts G (bs.map .ref) (aE1 ks'):=by
 intro bs
 induction bs with
 | nil=>intro ks' h _; cases h; exact .nil
 | cons b bs ih=>
  intro ks' h hm
  cases h with
  | @cons _ k _ ks' a t=>
   refine .cons ?_ (ih t fun b' hb'=>hm b' (AU _ hb'));obtain⟨k2,d2⟩:=aP7 rs _ (hm b mem_cons_self);have h2:pU H [V.ref b] [k2]:=aFW sub (ks:=[k2]) (.cons d2 .nil)
   cases h2 with
   | cons a2 _=>
    have:k=k2:=NpOne.one a a2;rw[this];exact d2
def a2K (ma:ME):MO:=fun Γ Q=>ma Γ fun x Γ1=>∃ ks:List NK2,x=.list (aE1 ks)∧ks.length≤18∧∀ ks':List NK2,(∀ k,k∈ks'↔k∈ks)→ks'.length≤18→Q (.own (aE1 ks')) Γ1
theorem aBH (ha:VT P0 ta ma):VO P0 (tCB (aJ7 w) (fB (tCB (aON K w) (fB ta xM)) xM)) (a2K ma):=by
 intro F Γ σ G H Q Qm r m k;refine ha F Γ σ G H _ _ r m fun x Γ1 v G1 H1 m1 s1 r1 d1=>?_;obtain⟨ks,rfl,h18,m1⟩:=m1
 cases d1 with
 | @lst p qs _ hp rs=>
  refine⟨p,qs,ks,rfl,SqL.of (r1.fr.sub _ _ hp),aFW (fun b o e=>r1.fr.sub b o e) rs,h18,fun l bs ks' hl nd' hm hb18 hqs hnp=>?_⟩;have ne:∀ b o,H1 b=some o→b≠l:=fun b o e z=>by rw[z,hl] at e; cases e
  have hnp2:pU (upd H1 l (aOK w l (bs.map Ac))) (bs.map .ref) ks':=AX.mapP hnp fun v k ⟨b,x,y,e,h1,h2,h3⟩=>⟨b,x,y,e,by rw[aY (ne _ _ h1)]; exact h1,by rw[aY (ne _ _ h2)]; exact h2,by rw[aY (ne _ _ h3)]; exact h3⟩;refine⟨l,bs,ks',rfl,bO,hnp2,nd',hb18,fun l2 bs' hperm hl2=>?_⟩;have pm:(bs'.map V.ref).Perm (bs.map V.ref):=hperm.map _;obtain⟨ks2,p1,p2⟩:=sI pm hnp;have d2:Dts G1 (bs'.map .ref) (aE1 ks2):=aNV (fun b o e=>r1.fr.sub b o e) rs p1 fun b hb=>hqs b (hperm.mem_iff.mp hb);obtain⟨a,b,c⟩:=lA (r1.newP hl) hl2 d2;exact k _ _ _ _ _ (m1 ks2 (fun k=>(p2.mem_iff).trans (hm k)) (by rw[p2.length_eq,←AX.length hnp,AS]; exact hb18)) s1 a b c
theorem aFR {ma:ME}{Γ:En}{Q:Rv→En→Prop}(h:ma Γ fun x Γ1=>∃ ks:List NK2,x=.list (aE1 ks)∧ks.length≤18∧∀ ks':List NK2,(∀ k,k∈ks'↔k∈ks)→ks'.length≤18→Q (.own (aE1 ks')) Γ1):a2K ma Γ Q:=h
end
end L2.VS
namespace My
open PySem PySem.Spec PyProof.Rows L2 L2.VS LT
def top (i:Nat):AO:=PySem.Challenge.pw_leadtimes_k47_whole_mirrored_in_time.main.body.getD i (.Pass ⟨0,0,0,0⟩)
set_option hygiene false in
local macro_rules|`(tactic| walk_at "vn")=>`(tactic| dsimp only[List.set_cons_zero,List.set_cons_succ,List.set_nil,Rv.sl,Rv.d,nbQ,List.replicate,List.cons_append,By,a86,BD,map_nil])
set_option hygiene false in
local macro_rules|`(tactic| walk_at "v1")=>`(tactic| first
 | (with_reducible first
  | apply aPN|apply aQ6|apply aQ5|apply aPL|apply aSV|apply aPV
  | refine aQ7 (by with_unfolding_all rfl) ?_
  | apply i_c|apply aPE|apply aNE|apply aN5
  | refine aMP (by with_unfolding_all rfl) ?_
  | apply aNM|apply aPZ|apply aMO|apply aQ4|apply aQ2|apply aSO|apply aSF|apply i_I|apply i_U|apply aSB|apply aS5
  | apply aPH|apply aSU|apply aQT|apply aN6|apply aMM|apply aP8|apply aMT|apply aQX|apply aPJ|apply aQD|apply aO5|apply aQV
  | apply aR2|apply aQG|apply aPT|apply aOO|apply aO8|apply aSS
  | refine aSQ (by with_unfolding_all rfl) ?_
  | apply aIB|apply aL4|apply aQS|apply aR0|apply aSD|apply aOF|apply aKD|apply aHJ|apply aR5|apply aQB|apply aQ1|apply aR4|apply aSA
  | refine aGY (by with_unfolding_all rfl) ?_
  | refine i_clear (by with_unfolding_all rfl) ?_
  | refine aNW (by with_unfolding_all rfl) ?_
  | refine i_pubS0 (by with_unfolding_all rfl) ?_
  | refine aOS (by with_unfolding_all rfl) ?_
  | refine i_moveV (by with_unfolding_all rfl) ?_
  | apply cO (aLO _)|apply cO (aLX _)|apply cO (aIM _)|apply cO (aIA _)
  | apply a4U|apply a5C
  | refine isT (by with_unfolding_all rfl) ?_
  | refine isF (by with_unfolding_all rfl) ?_
  | refine isNT (by with_unfolding_all rfl) ?_
  | refine isNF (by with_unfolding_all rfl) ?_
  | apply aQ8|apply aPQ
  | refine A7 rfl ?_
  | refine A7 (GB (by with_unfolding_all rfl)) ?_
  | refine A7 (aOY (by assumption) (by assumption)) ?_
  | (refine A7 (good_int _) (A7 (good_int _) ?_); rw[aDN])
  | (refine A7 (qL _) (A7 (qL _) ?_); rw[a8H])
  | (refine A7 (good_line _) (A7 (good_line _) ?_); rw[eqv_line])
  | (refine A7 (good_bool _) (A7 (good_bool _) ?_); rw[aGT]))
 | dsimp only[Rv.d,Rv.sl,nbQ,Bb,EL,isN,yF])
set_option hygiene false in
local macro_rules|`(tactic| walk_at "vs")=>`(tactic| repeat (walk_at "v1"))
set_option hygiene false in
local macro_rules|`(tactic| walk_at "w1")=>`(tactic| first
 | walk_at "v1"
 | with_reducible apply aMX
 | with_reducible refine aHC (by with_unfolding_all rfl) ?_
 | with_reducible apply aMQ
 | with_reducible apply aKC
 | with_reducible refine aQ0 (by with_unfolding_all rfl) ?_
 | with_reducible apply aCR
 | with_reducible apply aEO
 | with_reducible apply aMS
 | with_reducible apply aKL
 | with_reducible apply aMJ
 | with_reducible refine aPD (by with_unfolding_all rfl) ?_
 | with_reducible refine aQE (by with_unfolding_all rfl) ?_
 | with_reducible apply aKP
 | with_reducible apply aOB
 | with_reducible refine aQ9 (by with_unfolding_all rfl) ?_
 | with_reducible refine aQW (by with_unfolding_all rfl) ?_)
set_option hygiene false in
local macro_rules|`(tactic| walk_at "ws")=>`(tactic| repeat (walk_at "w1"))
def bN:Fm:=aHV
def uT:MS:=
 (dH (cN (aGN (aOZ "int" (aN 0)) (aBV (aOZ "bool" (aN 0))))))
def jC:Fm:=mFn 0 uT
def iC:MS:=
 (dH (cN (aN 2)))
def iH:MS:=
 (cF (eE 4 (cN (aPC (aN 2) (aN 3))))
  (cF (eE 2 (cN (aN 3)))
  (eE 3 (cN (aN 4)))))
def fV:MS:=
 (cF (eE 2 (cN (aMI (aN 0))))
  (cF (eE 3 (cN (aMI (aN 1))))
  (cF (zY (eX (mNe (aN 3) (mC (.int 0))))
  iH)
  iC)))
def dZ:Fm:=mFn 3 fV
def qY:MS:=
 (dH (cN (mW (bG (aEQ (aN 0) (aN 2)) (bG (aEQ (aN 1) (aN 2)) eF)))))
def rF:MS:=
 (cF (eE 2 (cN (bZ (aZ 2 dZ (bB (aN 0) (bB (aN 1) bY))))))
  (cF (mIf (eX (mLt (aN 1) (mC (.int 0))))
  (eE 2 (cN (aLZ (aN 2))))
  mNx)
  qY))
def sS:MS:=
 (cF (mIf (mOr (aFN (eX (bZ (aZ 1 jC (bB (aN 0) bY))))) (mOr (aFN (eX (bZ (aZ 1 jC (bB (aN 1) bY))))) (eX (mEq (aN 1) (mC (.int 0))))))
  aIZ
  mNx)
  rF)
def eQ:Fm:=mFn 1 sS
def a3F:MS:=
 (dH (aZ 2 eQ (bB (aGF (mH (mIx (aN 0) (mC (.int 0))) (mIx (aN 1) (mC (.int 1)))) (mH (mIx (aN 1) (mC (.int 0))) (mIx (aN 0) (mC (.int 1))))) (bB (mH (mIx (aN 0) (mC (.int 1))) (mIx (aN 1) (mC (.int 1)))) bY))))
def tG:Fm:=mFn 0 a3F
def jN:MS:=
 (dH (aZ 2 eQ (bB (a4R (mH (mIx (aN 0) (mC (.int 0))) (mIx (aN 1) (mC (.int 1)))) (mH (mIx (aN 1) (mC (.int 0))) (mIx (aN 0) (mC (.int 1))))) (bB (mH (mIx (aN 0) (mC (.int 1))) (mIx (aN 1) (mC (.int 1)))) bY))))
def cU:Fm:=mFn 0 jN
def oN:MS:=
 (dH (aZ 2 eQ (bB (mH (mIx (aN 0) (mC (.int 0))) (mIx (aN 1) (mC (.int 0)))) (bB (mH (mIx (aN 0) (mC (.int 1))) (mIx (aN 1) (mC (.int 1)))) bY))))
def jX:Fm:=mFn 0 oN
def nZ:MS:=
 (dH (aZ 2 eQ (bB (mH (mIx (aN 0) (mC (.int 0))) (mIx (aN 1) (mC (.int 1)))) (bB (mH (mIx (aN 0) (mC (.int 1))) (mIx (aN 1) (mC (.int 0)))) bY))))
def j7:Fm:=mFn 0 nZ
def yE:MS:=
 (dH (cN (mLt (mH (mIx (aN 0) (mC (.int 0))) (mIx (aN 1) (mC (.int 1)))) (mH (mIx (aN 1) (mC (.int 0))) (mIx (aN 0) (mC (.int 1)))))))
def cJ:Fm:=mFn 0 yE
def a0E:MS:=
 (dH (a1C 1))
def rR:MS:=
 (uK 1 (aN 3) (aN 2))
def a08:MS:=
 (aM1 3 aSZ (mC (.int 1)))
def yM:MS:=
 (cF (eE 3 (cN (aHW (xG (aN 1)))))
  (cF (zY (a7K (aJM (eX (mGt (aN 3) (mC (.int 0)))) (eX (bZ (aZ 2 cJ (bB (aN 2) (bB (mIx (aN 1) (a4R (aN 3) (mC (.int 1)))) bY)))))))
  a08)
  rR))
def a4A:MS:=
 (cF (eE 1 (a4S eF))
  (cF (a4T (a7S (aN 0)) (gN 2)
  yM)
  a0E))
def tE:Fm:=mFn 3 a4A
def vI:MS:=
 (dH (aZ 2 tG (bB (mIx (aN 0) (mC (.int 0))) (bB (bZ (aZ 2 jX (bB (mIx (aN 0) (mC (.int 1))) (bB (aN 1) bY)))) bY))))
def jA:Fm:=mFn 0 vI
def vV:MS:=
 (cF (eE 2 (cN (bZ (aZ 2 cU (bB (mIx (aN 1) (mC (.int 0))) (bB (mIx (aN 0) (mC (.int 0))) bY))))))
  (cF (eE 3 (cN (bZ (aZ 2 cU (bB (mIx (aN 0) (mC (.int 1))) (bB (mIx (aN 1) (mC (.int 1))) bY))))))
  (dH (cN (mW (bG (mC (.str "at")) (bG (bZ (aZ 2 j7 (bB (aN 2) (bB (aN 3) bY)))) eF)))))))
def zA:MS:=
 (cF (mIf (eX (mEq (mIx (aN 0) (mC (.int 1))) (mIx (aN 1) (mC (.int 1)))))
  (dH (aP6 (eX (mEq (mIx (aN 0) (mC (.int 0))) (mIx (aN 1) (mC (.int 0))))) (cN (mW (bG (mC (.str "always")) eF))) (cN (mW (bG (mC (.str "never")) eF)))))
  mNx)
  vV)
def mO:Fm:=mFn 2 zA
def sU:MS:=
 (dH (cN (aGN (bZ (aZ 1 jC (bB (aN 1) bY))) (aFV (fun i j=>decide (i≤j)) (fun i j=>decide (i<j)) (mC (.int 0)) (aN 1) (xG (aN 0))))))
def jG:Fm:=mFn 0 sU
def uH:MS:=
 (dH (cN (mW (bG (bZ (aZ 2 jA (bB (mIx (aN 0) (aN 1)) (bB (aN 2) bY)))) (bG (mIx (mIx (aN 0) (aN 1)) (mC (.int 1))) (bG (aN 1) eF))))))
def jB:Fm:=mFn 0 uH
def lU:MS:=
 (dH (cN (mLt (mIx (aN 0) (mC (.int 2))) (mIx (aN 1) (mC (.int 2))))))
def mL:MS:=
 (cF (mIf (eX (mNe (mIx (aN 0) (mC (.int 1))) (mIx (aN 1) (mC (.int 1)))))
  (dH (aZ 2 cJ (bB (mIx (aN 1) (mC (.int 1))) (bB (mIx (aN 0) (mC (.int 1))) bY))))
  mNx)
  lU)
def lG:MS:=
 (cF (mIf (eX (mNe (mIx (aN 0) (mC (.int 0))) (mIx (aN 1) (mC (.int 0)))))
  (dH (aZ 2 cJ (bB (mIx (aN 1) (mC (.int 0))) (bB (mIx (aN 0) (mC (.int 0))) bY))))
  mNx)
  mL)
def dN:Fm:=mFn 0 lG
def vO:MS:=
 (dH (aZ 2 dN (bB (bZ (aZ 3 jB (bB (aN 0) (bB (aN 1) (bB (aN 3) bY))))) (bB (bZ (aZ 3 jB (bB (aN 0) (bB (aN 2) (bB (aN 3) bY))))) bY))))
def qG:Fm:=mFn 0 vO
def jJ:MS:=
 (dH (aZ 2 cJ (bB (mIx (aN 1) (mC (.int 0))) (bB (mIx (aN 0) (mC (.int 0))) bY))))
def iV:MS:=
 (cF (mIf (eX (mNe (mIx (aN 0) (mC (.int 1))) (mIx (aN 1) (mC (.int 1)))))
  (dH (aZ 2 cJ (bB (mIx (aN 0) (mC (.int 1))) (bB (mIx (aN 1) (mC (.int 1))) bY))))
  mNx)
  jJ)
def fJ:Fm:=mFn 0 iV
def mG:MS:=
 (dH (cN (aN 1)))
def mV:MS:=
 (mIf (eX (bZ (aZ 2 fJ (bB (mIx (aN 0) (aN 2)) (bB (mIx (aN 0) (aN 1)) bY)))))
  (eE 1 (cN (aN 2)))
  mNx)
def lC:MS:=
 (cF (eE 1 (cN (mC (.int 0))))
  (cF (a4T (aHN (bG (mC (.int 1)) (bG (xG (aN 0)) eF))) (gN 2)
  mV)
  mG))
def gW:Fm:=mFn 2 lC
def mR:MS:=
 (dH (aZ 4 qG (bB (aN 0) (bB (aN 1) (bB (mIx (aN 3) (mC (.int 0))) (bB (aN 2) bY))))))
def lN:MS:=
 (cF (mIf (eX (mNe (aN 2) (mIx (aN 3) (mC (.int 1)))))
  (dH (aZ 2 cJ (bB (aN 2) (bB (mIx (aN 3) (mC (.int 1))) bY))))
  mNx)
  mR)
def gY:Fm:=mFn 0 lN
def o6:MS:=
 (dH (cN (aN 2)))
def o8:MS:=
 (mIf (eX (bZ (aZ 2 cJ (bB (mIx (mIx (aN 0) (aN 1)) (mC (.int 1))) (bB (mIx (mIx (aN 0) (aN 3)) (mC (.int 1))) bY)))))
  (cF (eE 4 (cN (mIx (bZ (aZ 2 mO (bB (mIx (aN 0) (aN 1)) (bB (mIx (aN 0) (aN 3)) bY)))) (mC (.int 1)))))
  (mIf (mOr (eX (aM6 (aN 2))) (eX (bZ (aZ 4 gY (bB (aN 0) (bB (aN 3) (bB (aN 4) (bB (aN 2) bY))))))))
  (eE 2 (cN (mW (bG (aN 3) (bG (aN 4) eF)))))
  mNx))
  mNx)
def nQ:MS:=
 (cF (eE 2 (cN (mC .none)))
  (cF (a4T (z9 (bG (xG (aN 0)) eF)) (gN 3)
  o8)
  o6))
def j4:Fm:=mFn 3 nQ
def oO:MS:=
 (dH (a1C 1))
def p8:MS:=
 (cF (nT 1 (aN 2))
  (eE 2 (cN (bZ (aZ 2 j4 (bB (aN 0) (bB (mIx (aN 2) (mC (.int 0))) bY)))))))
def vY:MS:=
 (cF (eE 1 (a4S eF))
  (cF (eE 2 (cN (mW (bG (bZ (aZ 1 gW (bB (aN 0) bY))) (bG (mC .none) eF)))))
  (cF (zY (eX (aFM (aN 2)))
  p8)
  oO)))
def zO:MS:=
 (cF (mIf (eX (mEq (xG (aN 0)) (mC (.int 0))))
  (dH (a4S eF))
  mNx)
  vY)
def pR:Fm:=mFn 2 zO
def oA:MS:=
 (aBB 3 (dH (wK 1 [] (a7S (aN 3)) (gN 0) v6 (mIx (aN 0) (mC (.int 2))))))
def iU:MS:=
 (uK 3 (aN 6) (aN 5))
def oF:MS:=
 (aM1 6 aSW (mC (.int 1)))
def o7:MS:=
 (cF (eE 5 (cN (bZ (aZ 3 jB (bB (aN 0) (bB (aN 4) (bB (aN 2) bY)))))))
  (cF (eE 6 (cN (mC (.int 0))))
  (cF (zY (a7K (aJM (eX (mLt (aN 6) (xG (aN 3)))) (eX (bZ (aZ 2 dN (bB (mIx (aN 3) (aN 6)) (bB (aN 5) bY)))))))
  oF)
  iU)))
def nM:MS:=
 (cF (eE 3 (a4S eF))
  (cF (a4T (a7S (aN 1)) (gN 4)
  o7)
  oA))
def j5:Fm:=mFn 4 nM
def uN:MS:=
 (dH (aZ 3 j5 (bB (aN 0) (bB (bZ (a2V (xG (aN 0)))) (bB (aN 1) bY)))))
def eV:Fm:=mFn 0 uN
def pF:MS:=
 (dH (a3E (aN 0) (bZ (aP3 (aN 0) (pSo (mC (.int 1))) pNo))))
def kO:Fm:=mFn 0 pF
def wG:MS:=
 (dH (cN (aN 2)))
def w5:MS:=
 (cF (eE 5 (cN (bZ (aZ 2 cU (bB (bZ (aZ 2 jA (bB (mIx (aN 0) (aN 3)) (bB (aN 1) bY)))) (bB (bZ (aZ 2 jA (bB (mIx (aN 0) (aN 4)) (bB (aN 1) bY)))) bY))))))
  (mIf (mOr (eX (aM6 (aN 2))) (eX (bZ (aZ 2 cJ (bB (aN 5) (bB (mIx (aN 2) (mC (.int 2))) bY))))))
  (eE 2 (cN (mW (bG (aN 3) (bG (aN 4) (bG (aN 5) eF))))))
  mNx))
def yO:MS:=
 (cF (eE 2 (cN (mC .none)))
  (cF (a4T (a7S (bZ (aZ 1 kO (bB (bZ (aZ 2 eV (bB (aN 0) (bB (aN 1) bY)))) bY)))) (gT 2 (o9 (gN 3) (o9 (gN 4) a8N)))
  w5)
  wG))
def pG:Fm:=mFn 4 yO
def oJ:MS:=
 (dH (a1C 1))
def oH:MS:=
 (mIf (eX (bZ (aZ 2 cJ (bB (mIx (mIx (aN 0) (aN 2)) (mC (.int 1))) (bB (mIx (mIx (aN 0) (aN 3)) (mC (.int 1))) bY)))))
  (cF (eE 4 (cN (mIx (bZ (aZ 2 mO (bB (mIx (aN 0) (aN 2)) (bB (mIx (aN 0) (aN 3)) bY)))) (mC (.int 1)))))
  (a7Y 1 4 2 3))
  mNx)
def oG:MS:=
 (a4T (z9 (bG (xG (aN 0)) eF)) (gN 3)
  oH)
def mZ:MS:=
 (cF (eE 1 aLF)
  (cF (a4T (z9 (bG (xG (aN 0)) eF)) (gN 2)
  oG)
  oJ))
def gA:Fm:=mFn 4 mZ
def xY:MS:=
 (cF (aKW 3 (aZ 1 gA (bB (aN 0) bY)))
  (cF (eE 4 (cN (bZ (wK 1 [1,2] (aQO 3) (gN 0) (aJM (eX (bZ (aZ 2 cJ (bB (aN 1) (bB (aN 0) bY))))) (aFN (eX (bZ (aZ 2 cJ (bB (aN 2) (bB (aN 0) bY))))))) (aN 0)))))
  (dH (wK 1 [3] (a7S (bZ (aZ 1 tE (bB (aN 4) bY)))) (gN 0) v6 (mW (bG (aN 0) (bG (bZ (a9O (aP9 1 (aN 0)))) eF)))))))
def pZ:Fm:=mFn 3 xY
def kI:MS:=
 (dH (aPY (bZ (a4S (bG (bZ (aZ 2 cU (bB (mIx (aN 1) (mC (.int 0))) (bB (mW (bG (mC (.int 1)) (bG (mC (.int 1)) eF))) bY)))) eF))) (aN 1)))
def jE:MS:=
 (cF (eE 1 (cN (bZ (aZ 1 tE (bB (bZ (aE8 (aZ 1 gA (bB (aN 0) bY)))) bY)))))
  (cF (mIf (eX (mEq (aN 1) (bZ (a4S eF))))
  (dH (a4S (bG (mW (bG (mC (.int 0)) (bG (mC (.int 1)) eF))) eF)))
  mNx)
  kI))
def fW:Fm:=mFn 1 jE
def uA:MS:=
 (dH (a1C 3))
def tD:MS:=
 (cF (eE 5 (cN (mIx (bZ (aZ 2 eV (bB (aN 0) (bB (aN 4) bY)))) (aN 1))))
  (mIf (a7K (eX (mNe (aN 5) (mIx (mIx (aN 3) (aLZ (mC (.int 1)))) (mC (.int 0))))))
  (nT 3 (mW (bG (aN 5) (bG (aN 4) eF))))
  mNx))
def tZ:MS:=
 (cF (eE 2 (cN (bZ (aZ 1 fW (bB (aN 0) bY)))))
  (cF (eE 3 (a4S (bG (mW (bG (mIx (bZ (aZ 2 eV (bB (aN 0) (bB (mIx (aN 2) (mC (.int 0))) bY)))) (aN 1)) (bG (mC .none) eF))) eF)))
  (cF (a4T (a7S (bZ (aP3 (aN 2) (pSo (mC (.int 1))) pNo))) (gN 4)
  tD)
  uA)))
def v8:MS:=
 (cF (mIf (eX (mGe (aN 1) (xG (aN 0))))
  (dH (a4S eF))
  mNx)
  tZ)
def lV:Fm:=mFn 4 v8
def lH (c:AB):MS:=
 (dH (aZ 2 eQ (bB (mH (mIx (aN 0) (mC (.int 0))) (aM0 c [0,1] 1 (mC (.int 0)))) (bB (mH (mIx (aN 0) (mC (.int 1))) (aM0 c [0,1] 1 (mC (.int 1)))) bY))))
def gZ (c:AB):Fm:=mFn 0 (lH c)
def pI (c:AB):MS:=
 (dH (aZ 2 tG (bB (mIx (aN 0) (mC (.int 0))) (bB (bZ (aZ 2 (gZ c) (bB (mIx (aN 0) (mC (.int 1))) (aCv 1 bY)))) bY))))
def jV (c:AB):Fm:=mFn 0 (pI c)
def pH (c:AB):MS:=
 (dH (cN (mW (bG (bZ (aZ 2 (jV c) (bB (mIx (aN 0) (aN 1)) (aCv 2 bY)))) (bG (mIx (mIx (aN 0) (aN 1)) (mC (.int 1))) (bG (aN 1) eF))))))
def iK (c:AB):Fm:=mFn 0 (pH c)
def pX (c:AB):MS:=
 (dH (aZ 2 dN (bB (bZ (aZ 3 (iK c) (bB (aN 0) (bB (aN 1) (aCv 3 bY))))) (bB (bZ (aZ 3 (iK c) (bB (aN 0) (bB (aN 2) (aCv 3 bY))))) bY))))
def jZ (c:AB):Fm:=mFn 0 (pX c)
def lR (c:AB):MS:=
 (dH (cN (mW (bG (mC (.str "until")) (bG (mIx (aN 3) (mC (.int 1))) eF)))))
def mF (c:AB):MS:=
 (cF (mIf (eX (bZ (aZ 2 cJ (bB (mIx (mIx (aN 0) (aN 2)) (mC (.int 1))) (bB (mIx (mIx (aN 0) (aN 1)) (mC (.int 1))) bY)))))
  (dH (cN (mW (bG (mC (.str "from")) (bG (mIx (aN 3) (mC (.int 1))) eF)))))
  mNx)
  (lR c))
def lM (c:AB):MS:=
 (cF (eE 3 (cN (bZ (aZ 2 mO (bB (mIx (aN 0) (aN 1)) (bB (mIx (aN 0) (aN 2)) bY))))))
  (cF (mIf (eX (mNe (mIx (aN 3) (mC (.int 0))) (mC (.str "at"))))
  (dH (aP6 (eX (bZ (aZ 4 (jZ c) (bB (aN 0) (bB (aN 1) (bB (aN 2) (aQM c bY))))))) (cN (mW (bG (mC (.str "always")) eF))) (cN (mW (bG (mC (.str "never")) eF)))))
  mNx)
  (mF c)))
def kY (c:AB):Fm:=mFn 1 (lM c)
def fQ:Fm:=fun as Q=>∀ c,kY c as Q
def jY:MS:=
 (dH (cN (mC (.bool false))))
def cX:MS:=
 (cF (mIf (eX (mEq (aN 2) (mW (bG (mC (.str "until")) (bG (mC (.str "from")) eF)))))
  (dH (cN (aBV (bZ (aZ 2 cJ (bB (mIx (aN 0) (mC (.int 1))) (bB (mIx (aN 1) (mC (.int 1))) bY)))))))
  mNx)
  jY)
def dC:MS:=
 (cF (mIf (eX (mEq (aN 2) (mW (bG (mC (.str "from")) (bG (mC (.str "until")) eF)))))
  (dH (cN (aBV (bZ (aZ 2 cJ (bB (mIx (aN 1) (mC (.int 1))) (bB (mIx (aN 0) (mC (.int 1))) bY)))))))
  mNx)
  cX)
def jM:MS:=
 (cF (eE 2 (cN (mW (bG (mIx (aN 0) (mC (.int 0))) (bG (mIx (aN 1) (mC (.int 0))) eF)))))
  (cF (mIf (eX (mIn false (mC (.str "always")) (aN 2)))
  (dH (cN (mC (.bool true))))
  mNx)
  dC))
def eH:Fm:=mFn 1 jM
def u6:MS:=
 (dH (aZ 2 eH (bB (bZ (aZ 3 fQ (bB (aN 0) (bB (aN 2) (bB (aN 1) bY))))) (bB (bZ (aZ 3 fQ (bB (aN 0) (bB (aN 3) (bB (aN 1) bY))))) bY))))
def uX:MS:=
 (cF (mIf (mOr (aFN (eX (bZ (aZ 2 jG (bB (aN 0) (bB (aN 2) bY)))))) (mOr (aFN (eX (bZ (aZ 2 jG (bB (aN 0) (bB (aN 3) bY)))))) (eX (mIn false (aN 1) (mW (bG (aN 2) (bG (aN 3) eF)))))))
  (dH (cN (mC (.bool false))))
  mNx)
  u6)
def qF:Fm:=mFn 0 uX
def a2E:MS:=
 (dH (cN (mC .none)))
def a1Q:MS:=
 (mIf (eX (bZ (aZ 2 eH (bB (mIx (aN 4) (aN 5)) (bB (mIx (aN 4) (aN 6)) bY)))))
  (dH (cN (mW (bG (mIx (aN 2) (aN 5)) (bG (mIx (aN 2) (aN 6)) eF)))))
  mNx)
def a1W:MS:=
 (a4T (aHN (bG (aN 5) (bG (xG (aN 2)) eF))) (gN 6)
  a1Q)
def a80:MS:=
 (cF (eE 2 (cN (bZ (wK 1 [1] (z9 (bG (xG (aN 0)) eF)) (gN 0) (eX (mNe (aN 0) (aN 1))) (aN 0)))))
  (cF (eE 4 (cN (bZ (wK 1 [0,1] (a7S (aN 2)) (gN 0) v6 (bZ (aZ 3 fQ (bB (aN 1) (bB (aN 0) (bB (aN 2) bY)))))))))
  (cF (a4T (z9 (bG (xG (aN 2)) eF)) (gN 5)
  a1W)
  a2E)))
def zL:Fm:=mFn 5 a80
def pL:MS:=
 (dH (cN (mW (bG (aEQ (aN 0) (aN 2)) (bG (aEQ (aN 1) (aN 2)) eF)))))
def pD:MS:=
 (aM4 2 3 (bG (aN 3) (bG (aPC (aN 2) (aN 3)) eF)))
def pO:MS:=
 (cF (eE 2 (cN (aMI (aN 0))))
  (cF (eE 3 (cN (aN 1)))
  (cF (zY (eX (mGt (aN 3) (mC (.int 0))))
  pD)
  pL)))
def cR:Fm:=mFn 2 pO
def pM:MS:=
 (cF (eE 3 (cN (aGF (mH (bZ (aZ 2 bN (qX 0 (bB (mC (.int 1000000000)) bY)))) (mC (.int 1000000000))) (bZ (aZ 2 bN (qX 0 (bB (mC (.int 1000000000)) bY)))))))
  (dH (aZ 2 cR (bB (mH (aN 3) (mIx (bZ (a4S (bG (mC (.int 1)) (bG (aLZ (mC (.int 1))) eF)))) (bZ (aZ 2 bN (qX 0 (bB (mC (.int 2)) bY)))))) (bB (aGF (mC (.int 1)) (bZ (aZ 2 bN (qX 0 (bB (mC (.int 999999)) bY))))) bY)))))
def pP:MS:=
 (cF (mIf (eX (mLt (aN 2) (mC (.int 6))))
  (dH (aZ 2 cR (bB (a4R (bZ (aZ 2 bN (qX 0 (bB (mC (.int 2001)) bY)))) (mC (.int 1000))) (bB (aGF (mC (.int 1)) (bZ (aZ 2 bN (qX 0 (bB (mC (.int 999)) bY))))) bY))))
  mNx)
  pM)
def pQ:MS:=
 (cF (mIf (eX (mEq (aN 2) (mC (.int 3))))
  (dH (aZ 2 cR (bB (a4R (bZ (aZ 2 bN (qX 0 (bB (mC (.int 13)) bY)))) (mC (.int 6))) (bB (aGF (mC (.int 1)) (bZ (aZ 2 bN (qX 0 (bB (mC (.int 3)) bY))))) bY))))
  mNx)
  pP)
def oR:MS:=
 (cF (eE 2 (cN (bZ (aZ 2 bN (qX 0 (bB (mIx (bZ (a4S (bG (mC (.int 4)) (bG (mC (.int 7)) eF)))) (aKG (aN 1))) bY))))))
  (cF (mIf (eX (mLt (aN 2) (mC (.int 3))))
  (dH (cN (mW (bG (a4R (bZ (aZ 2 bN (qX 0 (bB (mC (.int 7)) bY)))) (mC (.int 3))) (bG (mC (.int 1)) eF)))))
  mNx)
  pQ))
def iG:Fm:=mFn 2 oR
def nF:MS:=
 (cF (eE 3 (cN (a4R (mH (mH (mIx (aN 1) (mC (.int 0))) (mIx (aN 2) (mC (.int 1)))) (mIx (aN 0) (mC (.int 1)))) (mH (mH (mIx (aN 2) (mC (.int 0))) (mIx (aN 0) (mC (.int 0)))) (mIx (aN 1) (mC (.int 1)))))))
  (dH (cN (mW (bG (bZ (aZ 2 cR (bB (aN 3) (bB (mH (mH (mIx (aN 1) (mC (.int 1))) (mIx (aN 2) (mC (.int 1)))) (mIx (aN 0) (mC (.int 1)))) bY)))) (bG (aN 2) eF))))))
def j9:Fm:=mFn 1 nF
def uO:MS:=
 (cF (aPW (aN 0) (gT 2 (o9 (gN 2) (o9 (gN 3) a8N))))
  (cF (eE 4 (cN (mH (mH (mIx (aN 2) (mC (.int 0))) (mIx (aN 3) (mC (.int 1)))) (mIx (aN 1) (mC (.int 1))))))
  (cF (eE 4 (cN (aGF (aN 4) (mH (mH (mIx (aN 3) (mC (.int 0))) (mIx (aN 1) (mC (.int 0)))) (mIx (aN 2) (mC (.int 1)))))))
  (dH (aZ 2 cR (bB (aN 4) (bB (mH (mH (mIx (aN 2) (mC (.int 1))) (mIx (aN 3) (mC (.int 1)))) (mIx (aN 1) (mC (.int 1)))) bY)))))))
def lY:Fm:=mFn 3 uO
def rA:MS:=
 (dH (a1C 3))
def fC:MS:=
 (nT 3 (aN 5))
def lF:MS:=
 (eE 5 (cN (mIx (bZ (a4S (bG (aN 7) (bG (mW (bG (mIx (aN 5) (mC (.int 0))) (bG (mIx (aN 7) (mC (.int 1))) eF))) (bG (aN 9) (bG (aN 9) eF)))))) (aN 6))))
def rB:MS:=
 (cF (eE 5 (cN (mW (bG (bZ (aZ 2 iG (qX 0 (bB (aN 2) bY)))) (bG (bZ (aZ 2 iG (qX 0 (bB (aN 2) bY)))) eF)))))
  (cF (eE 6 (cN (bZ (aZ 2 bN (qX 0 (bB (mC (.int 8)) bY))))))
  (cF (mIf (aJM (eX (mGt (aN 4) (mC (.int 0)))) (eX (mLt (aN 6) (mC (.int 4)))))
  (cF (eE 7 (cN (aHW (mIx (aN 3) (bZ (aZ 2 bN (qX 0 (bB (aN 4) bY))))))))
  (cF (eE 8 (cN (mW (bG (a4R (bZ (aZ 2 bN (qX 0 (bB (mC (.int 7)) bY)))) (mC (.int 3))) (bG (mC (.int 1)) eF)))))
  (cF (eE 9 (cN (mW (bG (mIx (aN 7) (mC (.int 0))) (bG (mW (bG (a4R (bZ (aZ 2 bN (qX 0 (bB (mC (.int 7)) bY)))) (mC (.int 3))) (bG (mC (.int 1)) eF))) eF)))))
  (cF (mIf (aFN (eX (aN 2)))
  (eE 9 (cN (bZ (aZ 3 j9 (bB (aN 8) (bB (bZ (aZ 2 lY (bB (aN 7) (bB (aN 8) bY)))) (bB (mIx (aN 5) (mC (.int 1))) bY)))))))
  mNx)
  lF))))
  mNx)
  fC)))
def rO:MS:=
 (cF (eE 2 (cN (mEq (bZ (aZ 2 bN (qX 0 (bB (mC (.int 3)) bY)))) (mC (.int 2)))))
  (cF (eE 3 (a4S eF))
  (cF (a4T (z9 (bG (bZ (aZ 2 bN (qX 0 (bB (aGF (aN 1) (mC (.int 1))) bY)))) eF)) (gN 4)
  rB)
  rA)))
def nJ:Fm:=mFn 8 rO
def uQ:MS:=
 (dH (cN (mLt (mH (mIx (aN 0) (mC (.int 0))) (mIx (aN 1) (mC (.int 1)))) (mH (mIx (aN 1) (mC (.int 0))) (mIx (aN 0) (mC (.int 1)))))))
def qP:Fm:=mFn 0 uQ
def oM:MS:=
 (dH (aZ 2 cR (bB (aN 5) (bB (aN 6) bY))))
def vP:MS:=
 (cF (eE 5 (cN (mH (mH (a4R (mH (mIx (mIx (aN 4) (mC (.int 0))) (mC (.int 0))) (mIx (mIx (aN 3) (mC (.int 0))) (mC (.int 1)))) (mH (mIx (mIx (aN 3) (mC (.int 0))) (mC (.int 0))) (mIx (mIx (aN 4) (mC (.int 0))) (mC (.int 1))))) (mIx (mIx (aN 3) (mC (.int 1))) (mC (.int 1)))) (mIx (mIx (aN 4) (mC (.int 1))) (mC (.int 1))))))
  (cF (eE 6 (cN (mH (mH (a4R (mH (mIx (mIx (aN 3) (mC (.int 1))) (mC (.int 0))) (mIx (mIx (aN 4) (mC (.int 1))) (mC (.int 1)))) (mH (mIx (mIx (aN 4) (mC (.int 1))) (mC (.int 0))) (mIx (mIx (aN 3) (mC (.int 1))) (mC (.int 1))))) (mIx (mIx (aN 3) (mC (.int 0))) (mC (.int 1)))) (mIx (mIx (aN 4) (mC (.int 0))) (mC (.int 1))))))
  (cF (mIf (eX (mLt (aN 6) (mC (.int 0))))
  (aM4 5 6 (bG (a4R (mC (.int 0)) (aN 5)) (bG (a4R (mC (.int 0)) (aN 6)) eF)))
  mNx)
  oM)))
def zM:MS:=
 (cF (aM4 3 4 (bG (mIx (aN 0) (aN 1)) (bG (mIx (aN 0) (aN 2)) eF)))
  (cF (mIf (eX (mEq (mIx (aN 3) (mC (.int 1))) (mIx (aN 4) (mC (.int 1)))))
  (dH (cN (mC .none)))
  mNx)
  vP))
def sX:Fm:=mFn 4 zM
def tY:MS:=
 (dH (aZ 2 cR (bB (a4R (bZ (aZ 2 bN (qX 0 (bB (mC (.int 41)) bY)))) (mC (.int 20))) (bB (aGF (mC (.int 1)) (bZ (aZ 2 bN (qX 0 (bB (mC (.int 6)) bY))))) bY))))
def mX:MS:=
 (cF (mIf (eX (mEq (aN 2) (mC (.int 7))))
  (dH (cN (mW (bG (mH (mH (bZ (aZ 2 bN (qX 0 (bB (mC (.int 1000000000)) bY)))) (mIx (bZ (a4S (bG (mC (.int 1)) (bG (aLZ (mC (.int 1))) eF)))) (bZ (aZ 2 bN (qX 0 (bB (mC (.int 2)) bY)))))) (mC (.int 1000000))) (bG (mC (.int 1)) eF)))))
  mNx)
  tY)
def uP:MS:=
 (cF (eE 2 (cN (bZ (aZ 2 bN (qX 0 (bB (mC (.int 8)) bY))))))
  (cF (mIf (aJM (eX (mLt (aN 2) (mC (.int 4)))) (eX (mGt (xG (aN 1)) (mC (.int 1)))))
  (cF (eE 3 (cN (bZ (aZ 2 bN (qX 0 (bB (xG (aN 1)) bY))))))
  (cF (eE 4 (cN (bZ (aZ 2 bN (qX 0 (bB (xG (aN 1)) bY))))))
  (cF (eE 5 (cN (bZ (aZ 3 sX (bB (aN 1) (bB (aN 3) (bB (aN 4) bY)))))))
  (mIf (eX (aFM (aN 5)))
  (dH (cN (aN 5)))
  mNx))))
  mNx)
  mX))
def mD:Fm:=mFn 4 uP
def rP:MS:=
 (dH (cN (mW (bG (a4R (mC (.int 0)) (mIx (aN 0) (mC (.int 0)))) (bG (mIx (aN 0) (mC (.int 1))) eF)))))
def cP:Fm:=mFn 0 rP
def fO:MS:=
 (dH (a1C 1))
def fM:MS:=
 (nT 1 (mW (bG (mIx (mIx (aN 0) (a4R (a4R (xG (aN 0)) (mC (.int 1))) (aN 2))) (mC (.int 0))) (bG (aN 3) eF))))
def jH:MS:=
 (cF (eE 3 (cN (mC .none)))
  (cF (mIf (eX (mGt (aN 2) (mC (.int 0))))
  (eE 3 (cN (bZ (aZ 1 cP (bB (mIx (mIx (aN 0) (a4R (xG (aN 0)) (aN 2))) (mC (.int 1))) bY)))))
  mNx)
  fM))
def fL:MS:=
 (cF (eE 1 (a4S eF))
  (cF (a4T (z9 (bG (xG (aN 0)) eF)) (gN 2)
  jH)
  fO))
def cI:Fm:=mFn 3 fL
def rK:MS:=
 (cF (eE 2 (cN (bZ (a2K (aN 0)))))
  (cF (eE 3 (cN (bZ (wK 1 [1] (a7S (aN 2)) (gN 0) v6 (bZ (aZ 2 lY (bB (aN 0) (bB (aN 1) bY))))))))
  (dH (cN (mLt (a2S (aN 3)) (xG (aN 3)))))))
def nA:Fm:=mFn 3 rK
def dW:MS:=
 (cF (eE 10 (cN (bZ (aZ 3 pZ (bB (aN 1) (bB (bZ (aZ 1 cP (bB (aN 3) bY))) (bB (bZ (aZ 1 cP (bB (aN 2) bY))) bY)))))))
  (aBB 6 (dH (cN (mEq (bZ (wK 1 [2] (a7S (aN 10)) (gN 0) (eX (mNe (mIx (aN 0) (mC (.int 0))) (bZ (aZ 1 cP (bB (aN 1) bY))))) (aN 0))) (aN 6))))))
def gJ:MS:=
 (nT 6 (mW (bG (bZ (aZ 1 cP (bB (aN 7) bY))) (bG (bZ (a9O (bZ (wK 2 [] (a7S (aN 8)) (gT 2 (o9 (gN 0) (o9 (gN 1) a8N))) v6 (mW (bG (aN 1) (bG (aN 0) eF))))))) eF))))
def fP:MS:=
 (cF (eE 4 (cN (bZ (wK 1 [3] (a7S (bZ (aZ 3 pZ (bB (aN 0) (bB (aN 2) (bB (aN 3) bY)))))) (gN 0) (eX (mNe (mIx (aN 0) (mC (.int 0))) (aN 1))) (aN 0)))))
  (cF (eE 6 (a4S eF))
  (cF (a4T (a7S (bZ (aLJ (aN 4) (aLZ (mC (.int 1)))))) (gT 2 (o9 (gN 7) (o9 (gN 8) a8N)))
  gJ)
  dW)))
def dM:Fm:=mFn 7 fP
def a2G:MS:=
 (dH (cN (mC (.bool true))))
def aA1:MS:=
 (mIf (eX (mNe (bZ (aZ 2 pG (bB (aN 3) (bB (bZ (aZ 1 cP (bB (aN 11) bY))) bY)))) (bZ (aZ 2 pG (bB (aN 2) (bB (aN 11) bY))))))
  (dH (cN (mC (.bool false))))
  mNx)
def aAN:MS:=
 (mIf (aFN (eX (bZ (aZ 2 nA (bB (aN 2) (bB (aN 11) bY))))))
  (cF (mIf (eX (mNe (bZ (aZ 2 eV (bB (aN 3) (bB (bZ (aZ 1 cP (bB (aN 11) bY))) bY)))) (bZ (aZ 2 eV (bB (aN 2) (bB (aN 11) bY))))))
  (dH (cN (mC (.bool false))))
  mNx)
  aA1)
  mNx)
def aB1:MS:=
 (cF (a4T (aQU (mW (bG (aN 9) (bG (aN 10) eF)))) (gN 11)
  aAN)
  a2G)
def a4B:MS:=
 (cF (mIf (aFN (eX (bZ (aZ 4 dM (bB (aN 2) (bB (aN 3) (bB (aN 9) (bB (aN 10) bY))))))))
  (dH (cN (mC (.bool false))))
  mNx)
  aB1)
def a4G:MS:=
 (cF (eE 9 (cN (bZ (aZ 2 mD (qX 1 (bB (aN 2) bY))))))
  (cF (eE 10 (cN (bZ (aZ 2 mD (qX 1 (bB (aN 2) bY))))))
  (cF (mIf (eX (bZ (aZ 2 qP (bB (aN 10) (bB (aN 9) bY)))))
  (aM4 9 10 (bG (aN 10) (bG (aN 9) eF)))
  mNx)
  a4B)))
def a3M:MS:=
 (mIf (aJM (eX (aFM (aN 8))) (aFN (eX (bZ (aZ 4 qF (bB (aN 3) (bB (aN 7) (bB (mIx (aN 8) (mC (.int 0))) (bB (mIx (aN 8) (mC (.int 1))) bY)))))))))
  (dH (cN (mC (.bool false))))
  mNx)
def aB0:MS:=
 (cF (eE 8 (cN (bZ (aZ 2 zL (bB (aN 2) (bB (aN 7) bY))))))
  (cF (mIf (eX (mNe (aM6 (aN 8)) (aM6 (bZ (aZ 2 zL (bB (aN 3) (bB (aN 7) bY)))))))
  (dH (cN (mC (.bool false))))
  mNx)
  a3M))
def a2P:MS:=
 (cF (a4T (z9 (bG (xG (aN 2)) eF)) (gN 7)
  aB0)
  a4G)
def aAO:MS:=
 (cF (eE 7 (cN (bZ (aZ 2 bN (qX 1 (bB (aGF (xG (aN 2)) (mC (.int 1))) bY))))))
  (mIf (eX (mNe (bZ (aZ 2 lV (bB (aN 3) (bB (aN 7) bY)))) (bZ (aZ 1 cI (bB (bZ (aZ 2 lV (bB (aN 2) (bB (aN 7) bY)))) bY)))))
  (dH (cN (mC (.bool false))))
  mNx))
def aA4:MS:=
 (cF (a4T (z9 (bG (mC (.int 2)) eF)) (gN 6)
  aAO)
  a2P)
def aC3:MS:=
 (cF (eE 2 (cN (bZ (aZ 2 nJ (qX 1 (bB (mC (.int 6)) bY))))))
  (cF (eE 3 (cN (bZ (wK 2 [] (a7S (aN 2)) (gT 2 (o9 (gN 0) (o9 (gN 1) a8N))) v6 (mW (bG (aN 0) (bG (bZ (aZ 1 cP (bB (aN 1) bY))) eF)))))))
  (cF (mIf (eX (mNe (bZ (aZ 1 pR (bB (aN 3) bY))) (bZ (aZ 1 cI (bB (bZ (aZ 1 pR (bB (aN 2) bY))) bY)))))
  (dH (cN (mC (.bool false))))
  mNx)
  aA4)))
local macro_rules|`(tactic| walk_at "rd1")=>`(tactic| first
 | refine⟨_,rfl,?_⟩
 | refine⟨_,_,rfl,rfl,?_⟩
 | refine A7 rfl ?_
 | refine A7 (aGC rfl) ?_
 | refine⟨_,_,_,_,rfl,rfl,SqT.of (by assumption),rfl,?_⟩
 | refine⟨_,_,_,_,rfl,rfl,SqL.of (by assumption),rfl,?_⟩
 | refine⟨_,_,_,_,rfl,rfl,SqL.of bO,rfl,?_⟩
 | refine⟨_,_,_,_,rfl,rfl,(by assumption),rfl,?_⟩
 | refine⟨_,_,_,_,rfl,rfl,bO,rfl,?_⟩
 | refine⟨_,_,by assumption,by assumption,qL _,qL _,?_⟩
 | refine⟨_,_,by assumption,by assumption,good_line _,good_line _,?_⟩
 | refine A7 (aOY (by assumption) (by assumption)) ?_
 | refine A7 (.inl (by decide)) ?_
 | refine A7 (aI3 (by decide) (by decide)) ?_
 | refine A7 (.inr (by decide)) ?_
 | refine⟨_,_,rfl,.inl (by assumption),?_⟩
 | refine⟨_,_,rfl,.inr (SqT.of (by assumption)),?_⟩
 | refine A7 (by assumption) ?_
 | refine A7 ⟨by decide,by decide⟩ ?_
 | refine A7 ⟨by decide,by decide,by decide⟩ ?_
 | refine A7 (show(0:Int)<_ by decide) ?_
 | refine A7 (by decide) ?_
 | refine⟨_,_,rfl,?_⟩)
local macro_rules|`(tactic| walk_at "rd")=>`(tactic| repeat walk_at "rd1")
section
variable (P0:AB→Hp→Prop)(P:AL)(w:AI)(K:Fg)(mg:Mg)(base:AF)
abbrev tM:Prop:=Cal P w K mg base 1 "greatest_divisor" ["one", "other"] (spM P0 2 dZ)
abbrev a1M:Prop:=Cal P w K mg base 1 "is_whole" ["thing"] (spM P0 1 jC)
abbrev jP:Prop:=Cal P w K mg base 2 "number_of" ["top", "bottom"] (spM P0 2 eQ)
abbrev fD:Prop:=Cal P w K mg base 1 "is_less" ["a", "b"] (spM P0 2 cJ)
abbrev aA6:Prop:=Cal P w K mg base 3 "sum_of" ["a", "b"] (spM P0 2 tG)
abbrev a5S:Prop:=Cal P w K mg base 3 "product_of" ["a", "b"] (spM P0 2 jX)
abbrev a3O:Prop:=Cal P w K mg base 3 "quotient_of" ["a", "b"] (spM P0 2 j7)
abbrev jF:Prop:=Cal P w K mg base 3 "difference_of" ["a", "b"] (spM P0 2 cU)
abbrev a1K:Prop:=Cal P w K mg base 4 "place_at" ["line", "time"] (spM P0 2 jA)
abbrev kW:Prop:=Cal P w K mg base 2 "stands_ahead" ["one", "other"] (spM P0 2 dN)
abbrev a1S:Prop:=Cal P w K mg base 5 "standing" ["lines", "runner", "time"] (spM P0 3 jB)
abbrev wL:Prop:=Cal P w K mg base 2 "leads_at_first" ["one", "other"] (spM P0 2 fJ)
abbrev aC6:Prop:=Cal P w K mg base 6 "is_ahead" ["lines", "one", "other", "time"] (spM P0 4 qG)
abbrev a0Z:Prop:=Cal P w K mg base 7 "comes_sooner" ["lines", "runner", "time", "told"] (spM P0 4 gY)
abbrev xR:Prop:=Cal P w K mg base 4 "meeting" ["one", "other"] (spM P0 2 mO)
abbrev a3J:Prop:=Cal P w K mg base 8 "next_leader" ["lines", "leader"] (spM P0 2 j4)
abbrev a0H:Prop:=Cal P w K mg base 3 "first_leader" ["lines"] (spM P0 1 gW)
abbrev a2R:Prop:=Cal P w K mg base 6 "order_among" ["lines", "runners", "time"] (spM P0 3 j5)
abbrev a6Q:Prop:=Cal P w K mg base 1 "neighbours" ["order"] (spM P0 1 kO)
abbrev a1T:Prop:=Cal P w K mg base 7 "order_at" ["lines", "time"] (spM P0 2 eV)
abbrev aAS:Prop:=Cal P w K mg base 2 "rising" ["numbers"] (spM P0 1 tE)
abbrev uD:Prop:=Cal P w K mg base 5 "all_changes" ["lines"] (spM P0 1 gA)
abbrev zB:Prop:=Cal P w K mg base 6 "stretch_times" ["lines"] (spM P0 1 fW)
abbrev a0N (c:AB):Prop:=Cal P w K mg base 3 "product_of" ["a", "b"] (spM P0 2 (gZ c))
abbrev a73 (c:AB):Prop:=Cal P w K mg base 4 "place_at" ["line", "time"] (spM P0 2 (jV c))
abbrev a5W (c:AB):Prop:=Cal P w K mg base 5 "standing" ["lines", "runner", "time"] (spM P0 3 (iK c))
abbrev a5O (c:AB):Prop:=Cal P w K mg base 6 "is_ahead" ["lines", "one", "other", "time"] (spM P0 4 (jZ c))
abbrev q9:Prop:=Cal P w K mg base 2 "are_all_times" ["some", "others"] (spM P0 2 eH)
abbrev wD:Prop:=Cal P w K mg base 7 "when_ahead" ["lines", "one", "runner"] (spM P0 3 fQ)
abbrev a7T:Prop:=Cal P w K mg base 2 "is_runner" ["lines", "thing"] (spM P0 2 jG)
abbrev gD:Prop:=Cal P w K mg base 1 "_law_lowest" ["_law_top", "_law_bottom"] (spM P0 2 cR)
abbrev rH:Prop:=Cal P w K mg base 1 "_law_take" ["_law_pen", "_law_many"] (spM P0 2 bN)
abbrev a0M:Prop:=Cal P w K mg base 2 "_law_through" ["_law_time_here", "_law_place", "_law_slope"] (spM P0 3 j9)
abbrev zR:Prop:=Cal P w K mg base 2 "_law_spot" ["_law_line", "_law_time_here"] (spM P0 2 lY)
abbrev a4P:Prop:=Cal P w K mg base 2 "_law_number" ["_law_pen", "_law_wide"] (spM P0 2 iG)
abbrev aCC:Prop:=Cal P w K mg base 2 "_law_met" ["_law_lines_here", "_law_one", "_law_other"] (spM P0 3 sX)
abbrev wJ:Prop:=Cal P w K mg base 1 "_law_below" ["_law_number_here"] (spM P0 1 cP)
abbrev aEH:Prop:=Cal P w K mg base 6 "changes" ["lines", "low", "high"] (spM P0 3 pZ)
end
theorem scM {N ps:List Str}{sc:BH}(a:sc.kind=.function:=by rfl)(b:sc.isCoroutine=false:=by rfl)(c:sc.isGenerator=false:=by rfl)(d:N.Nodup:=by decide +kernel)(e:N.take ps.length=ps:=by rfl)(f:∀ x∈ps,sc.names.lookup x=some .local∨sc.names.lookup x=some .cell:=by decide +kernel)(g:∀ y∈sc.names,y.2≠.free:=by decide +kernel):FnScope N ps sc:=⟨a,b,c,d,e,f,g⟩
set_option hygiene false in
local macro_rules|`(tactic| walk_at "lc")=>`(tactic| first|exact DA rfl|exact Or.inr rfl)
section
variable {P0:AB→Hp→Prop}{P:AL}{w:AI}{K:Fg}{mg:Mg}{base:AF}{f:AB}{fd:BR}
abbrev qT:AO:=top 43
theorem sc_law_take:FnScope ["_law_pen", "_law_many", "_law_cell", "_law_digit"] ["_law_pen", "_law_many"] (aW qT):=scM
theorem a82  (F:Fun K "_law_take" "_law_take" qT f fd)(B:Bl K mg) :
  FnOk P w K mg base CX0 1 f fd ["_law_pen", "_law_many"] (aEN K):=by
 refine F.ok sc_law_take (fun vs H Q E h=>?_) (fun cdv A outer s H vs Q E hr h=>?_)
 ·obtain⟨pen,a,ns,m,rfl,⟨z,k,hz,hk,hp,hS⟩,hm,hm2,q⟩:=h;rfl
 have hu:=hr.units;obtain⟨pen,a,ns,m,rfl,⟨z,k,hz,hk,hp,hS⟩,hm,hm2,q⟩:=h;refine⟨_,(aJ (cV (bL aQK (aR ix_list (pv 0) aD (fun _ _=>rfl)) aD (bV _)) (aJ (aB2 (bT jT (aR ix_list (pv 0) aD (fun _ _=>rfl)) aD) (aF5 (pv 0) aD set_list))
   (aJ (bJ (i:=2) sc_law_take.nd rfl (DA rfl) aD)
   (aJ (cV (bL aCE (bR bF rfl B.len_ Ay (aA (aR ix_list (pv 0) aD (fun _ _=>rfl)) aC)) aD (bV _)) (aM (bJ (i:=2) sc_law_take.nd rfl (DA rfl) (aR ix_list (aR ix_list (pv 0) aD (fun _ _=>rfl)) (bT t6 (aR ix_list (pv 0) aD (fun _ _=>rfl)) (bR bF rfl B.len_ Ay (aA (aR ix_list (pv 0) aD (fun _ _=>rfl)) aC))) (fun _ _=>rfl)))) bU)
   (aM (cV (PW.pt (a03 (bL uU (aR ix_list (pv 0) aD (fun _ _=>rfl)) (bR bF rfl B.len_ Ay (aA (aR ix_list (pv 0) aD (fun _ _=>rfl)) aC)) (bV _)) (rQ (bL aMV (bR sW rfl B.abs_ ER (aA (pv 2) aC)) (uI (v:=1000000000000000000) (by decide) ⟨by decide,by decide,by decide⟩) (bV _))))) (aM (aB2 (bR sW rfl B.abs_ ER (aA (pv 2) aC)) (aF5 (pv 0) aD set_list))) (aJ (bJ (i:=2) sc_law_take.nd rfl (DA rfl) (bT t6 (bT aDY (bT jT (bT jT (bT t6 (pv 2) aD) (bT aDY aD (aR ix_list (pv 0) aD (fun _ _=>rfl)))) aD) aD) aD))
   (aM (bC (bT t6 (bT aDE (bT t6 (bT aDY (pv 2) (bT jT (bT jT (bT t6 (pv 2) aD) (aR ix_list (pv 0) aD (fun _ _=>rfl))) aD)) aD) aD) (pv 1)))))))))) bU)
   (aJ (bJ (i:=3) sc_law_take.nd rfl (DA rfl) (bT t6 (aR ix_list (pv 0) aD (fun _ _=>rfl)) (pv 1)))
   (aJ (aB2 (bT aDE (aR ix_list (pv 0) aD (fun _ _=>rfl)) (pv 1)) (aF5 (pv 0) aD set_list))
   (aM (bC (pv 3)))))),?_⟩
 have hl:(ns.map V.int).length=ns.length:=AS _;have hS3:∀ o,SqL K (upd H pen o) a (ns.map V.int):=fun o=>aK9 hp hS (fZ o);have fin:∀(z k:Int) (H2:Hp),0≤z→0≤k→H2 pen=some (.lst [.int z,.int k,.ref a])→SqL K H2 a (ns.map V.int)→SameX pen H H2→Q (.int (z%m)) (upd H2 pen (.lst [.int (z/m),.int k,.ref a])):=fun z k H2 hz hk hp2 hS2 hX=>
  q _ _ (CB _ (by omega)) (CA _ hm) ⟨z/m,k,Int.ediv_nonneg hz (by omega),hk,bO,aK9 hp2 hS2 (fZ _)⟩ (hX.trans (fZ _))
 walk_at "rd";refine fU (fun e=>?_) (fun e=>?_)
 ·have e0:z=0:=aD5 e;subst e0;have hS4:=hS3 (.lst [.int 0,.int (k+1),.ref a]);walk_at "rd";refine fU (fun e1=>?a) (fun e1=>?b)
  case' a=>
   have e1':0<(ns.length:Int):=by
    rw[hl] at e1;exact e1
   have h1:=CB (k+1) (b:=(ns.length:Int)) (by omega);have h2:=CA (k+1) e1';obtain⟨j,hj⟩:∃ j:Nat,(k+1)%(ns.length:Int)=(j:Int):=⟨((k+1)%(ns.length:Int)).toNat,by omega⟩;have hi:j<ns.length:=by omega
   have hv:atI (ns.map V.int) ((k+1)%((ns.map V.int).length:Int))=some (.int ns[j]):=by
    rw[hl,hj];refine aEJ ?_;rw[Aa,AQ hi];rfl
   have hpos:0<((ns.map V.int).length:Int):=by rw[hl]; exact e1'
   walk_at "rd";refine⟨_,_,_,_,rfl,rfl,hS4,hv,?_⟩
  case' b=>
   have e2:¬k+1<((ns.map V.int).length:Int):=fun c=>e1 (by omega);walk_at "rd";refine aL2 e2 ?_;walk_at "rd";exact q _ _ (CB _ (by omega)) (CA _ hm) ⟨0,k+1,by omega,by omega,bO,hS4⟩ (fZ _)
  case' a=>
   walk_at "rd";refine fU (fun e2=>?_) (fun e2=>?_)
   ·walk_at "rd";refine fU (fun e3=>?_) (fun e3=>?_)
    ·have hcd:∀ z,aQF z m:=fun z=>⟨hm,hm2⟩;walk_at "rd";refine A7 (hcd _) ?_;walk_at "rd";exact fin _ (k+1) _ (aAD _) (by omega) bO (aK9 bO hS4 (fZ _)) ((fZ _).trans (fZ _))
    ·walk_at "rd";exact q _ _ (CB _ (by omega)) (CA _ hm) ⟨0,k+1,by omega,by omega,bO,hS4⟩ (fZ _)
   ·walk_at "rd";exact q _ _ (CB _ (by omega)) (CA _ hm) ⟨0,k+1,by omega,by omega,bO,hS4⟩ (fZ _)
 ·have hcd:aQF z m:=⟨hm,hm2⟩;walk_at "rd";exact fin z k H hz hk hp hS (SameX.refl _ _)
theorem a6L {a:AB}{ns:List Int}  (F:Fun K "_law_take" "_law_take" qT f fd)(B:Bl K mg) :
  FnOk P w K mg base CX0 1 f fd ["_law_pen", "_law_many"] (spM (fX K a ns) 2 bN):=(a82 F B).imp aI2
abbrev vN:AO:=top 4
theorem a90:FnScope ["thing"] ["thing"] (aW vN):=scM
theorem a8T  (F:Fun K "is_whole" "is_whole" vN f fd)(B:Bl K mg)(Kt:Kit K) :
  FnOk P w K mg base CX0 1 f fd ["thing"] (spM P0 1 jC):=
 F.okV a90 rfl rfl fun cdv A outer s H E hr=>
 have hu:=hr.units
 ⟨_,(aM (bC (aJ2 (bR aAG rfl B.isinstance_ boot_isinstance (aA (pv 0) (aA (aCQ (v:=.ty "int") rfl B.int_ boot_int rfl) aC))) (aJP (aD8 (bR aAG rfl B.isinstance_ boot_isinstance (aA (pv 0) (aA (aCQ (v:=.ty "bool") rfl B.bool_ boot_bool rfl) aC)))))))),
  ((bD (aX (aJ1 (aJV Kt (by decide) aB) (aCS (aJV Kt (by decide) aB))))):VS P0 _ uT)⟩
abbrev g8:AO:=top 5
theorem sc_greatest_divisor:FnScope ["one", "other", "divisor", "rest", "left_over"] ["one", "other"] (aW g8):=scM
theorem rT  (F:Fun K "greatest_divisor" "greatest_divisor" g8 f fd)(B:Bl K mg)(Kt:Kit K) :
  FnOk P w K mg base CX0 1 f fd ["one", "other"] (spM P0 2 dZ):=
 F.okV sc_greatest_divisor rfl rfl fun cdv A outer s H E hr=>
 have hu:=hr.units
 ⟨_,(aJ (bJ (i:=2) sc_greatest_divisor.nd rfl (by walk_at "lc") (bR sW rfl B.abs_ ER (aA (pv 0) aC)))
   (aJ (bJ (i:=3) sc_greatest_divisor.nd rfl (by walk_at "lc") (bR sW rfl B.abs_ ER (aA (pv 1) aC)))
   (aJ (uB BC (bL (jO hu) (pv 3) aD (bV _)) (aJ (bJ (i:=4) sc_greatest_divisor.nd rfl (by walk_at "lc") (bT t6 (pv 2) (pv 3)))
   (aJ (bJ (i:=2) sc_greatest_divisor.nd rfl (by walk_at "lc") (pv 3))
   (aM (bJ (i:=3) sc_greatest_divisor.nd rfl (by walk_at "lc") (pv 4))))))
   (aM (bC (pv 2)))))),
  ((aV (bI (aX (aE6 aB)))
   (aV (bI (aX (aE6 aB)))
   (aV (t8 (bQ (rM aB aH)) (aV (bI (aX (aJR aB aB)))
   (aV (bI (aX aB))
   (bI (aX aB)))))
   (bD (aX aB))))):VS P0 _ fV)⟩
abbrev sH:AO:=top 6
theorem sc_number_of:FnScope ["top", "bottom", "divisor"] ["top", "bottom"] (aW sH):=scM
theorem a6A  (F:Fun K "number_of" "number_of" sH f fd)(B:Bl K mg)(Kt:Kit K)
  (cc:tM P0 P w K mg base)
  (am:a1M P0 P w K mg base) :
  FnOk P w K mg base CX0 2 f fd ["top", "bottom"] (spM P0 2 eQ):=
 F.okV sc_number_of rfl rfl fun cdv A outer s H E hr=>
 have hu:=hr.units
 ⟨_,(aJ (cV (PW.pt (aBW (sV (fG (aG am hr rfl (aA (pv 0) aC)))) (aBW (sV (fG (aG am hr rfl (aA (pv 1) aC)))) (aAB (bL (oE hu) (pv 1) aD (bV _)))))) (aM aIP) bU)
   (aJ (bJ (i:=2) sc_number_of.nd rfl (by walk_at "lc") (aG cc hr rfl (aA (pv 0) (aA (pv 1) aC))))
   (aJ (cV (bL uU (pv 1) aD (bV _)) (aM (bJ (i:=2) sc_number_of.nd rfl (by walk_at "lc") (aF8 a6I (pv 2)))) bU)
   (aM (bC (cD (aA (bT xK (pv 0) (pv 2)) (aA (bT xK (pv 1) (pv 2)) aC)))))))),
  ((aV (dD (a1F (nR (lD (aQ (aL (aF aB aP))))) (a1F (nR (lD (aQ (aL (aF aB aP))))) (bQ (wU aB aH)))) aHM dF)
   (aV (bI (aX (aQ (aL (aF aB (aF aB aP))))))
   (aV (dD (bQ (a02 aB aH)) (bI (aX (a6N aB))) dF)
   (bD (aX (cH (aO (a2L aB aB) (aO (a2L aB aB) bK)))))))):VS P0 _ sS)⟩
abbrev a4K:AO:=top 7
theorem aEB:FnScope ["a", "b"] ["a", "b"] (aW a4K):=scM
theorem aDD  (F:Fun K "sum_of" "sum_of" a4K f fd)(B:Bl K mg)(Kt:Kit K)
  (ae:jP P0 P w K mg base) :
  FnOk P w K mg base CX0 3 f fd ["a", "b"] (spM P0 2 tG):=
 F.okV aEB rfl rfl fun cdv A outer s H E hr=>
 have hu:=hr.units
 ⟨_,(aM (bC (aG ae hr rfl (aA (bT jT (bT bW (aR aK (pv 0) aD (fun _ _=>rfl)) (aR aK (pv 1) aD (fun _ _=>rfl))) (bT bW (aR aK (pv 1) aD (fun _ _=>rfl)) (aR aK (pv 0) aD (fun _ _=>rfl)))) (aA (bT bW (aR aK (pv 0) aD (fun _ _=>rfl)) (aR aK (pv 1) aD (fun _ _=>rfl))) aC))))),
  ((bD (aL (aF (tH (cC (aU aB aH) (aU aB aH)) (cC (aU aB aH) (aU aB aH))) (aF (cC (aU aB aH) (aU aB aH)) aP)))):VS P0 _ a3F)⟩
abbrev jK:AO:=top 8
theorem wM:FnScope ["a", "b"] ["a", "b"] (aW jK):=scM
theorem wW  (F:Fun K "difference_of" "difference_of" jK f fd)(B:Bl K mg)(Kt:Kit K)
  (ae:jP P0 P w K mg base) :
  FnOk P w K mg base CX0 3 f fd ["a", "b"] (spM P0 2 cU):=
 F.okV wM rfl rfl fun cdv A outer s H E hr=>
 have hu:=hr.units
 ⟨_,(aM (bC (aG ae hr rfl (aA (bT iB (bT bW (aR aK (pv 0) aD (fun _ _=>rfl)) (aR aK (pv 1) aD (fun _ _=>rfl))) (bT bW (aR aK (pv 1) aD (fun _ _=>rfl)) (aR aK (pv 0) aD (fun _ _=>rfl)))) (aA (bT bW (aR aK (pv 0) aD (fun _ _=>rfl)) (aR aK (pv 1) aD (fun _ _=>rfl))) aC))))),
  ((bD (aL (aF (iJ (cC (aU aB aH) (aU aB aH)) (cC (aU aB aH) (aU aB aH))) (aF (cC (aU aB aH) (aU aB aH)) aP)))):VS P0 _ jN)⟩
abbrev kJ:AO:=top 9
theorem uE:FnScope ["a", "b"] ["a", "b"] (aW kJ):=scM
theorem a2T  (F:Fun K "product_of" "product_of" kJ f fd)(B:Bl K mg)(Kt:Kit K)
  (ae:jP P0 P w K mg base) :
  FnOk P w K mg base CX0 3 f fd ["a", "b"] (spM P0 2 jX):=
 F.okV uE rfl rfl fun cdv A outer s H E hr=>
 have hu:=hr.units
 ⟨_,(aM (bC (aG ae hr rfl (aA (bT bW (aR aK (pv 0) aD (fun _ _=>rfl)) (aR aK (pv 1) aD (fun _ _=>rfl))) (aA (bT bW (aR aK (pv 0) aD (fun _ _=>rfl)) (aR aK (pv 1) aD (fun _ _=>rfl))) aC))))),
  ((bD (aL (aF (cC (aU aB aH) (aU aB aH)) (aF (cC (aU aB aH) (aU aB aH)) aP)))):VS P0 _ oN)⟩
abbrev nC:AO:=top 10
theorem a0I:FnScope ["a", "b"] ["a", "b"] (aW nC):=scM
theorem a0R  (F:Fun K "quotient_of" "quotient_of" nC f fd)(B:Bl K mg)(Kt:Kit K)
  (ae:jP P0 P w K mg base) :
  FnOk P w K mg base CX0 3 f fd ["a", "b"] (spM P0 2 j7):=
 F.okV a0I rfl rfl fun cdv A outer s H E hr=>
 have hu:=hr.units
 ⟨_,(aM (bC (aG ae hr rfl (aA (bT bW (aR aK (pv 0) aD (fun _ _=>rfl)) (aR aK (pv 1) aD (fun _ _=>rfl))) (aA (bT bW (aR aK (pv 0) aD (fun _ _=>rfl)) (aR aK (pv 1) aD (fun _ _=>rfl))) aC))))),
  ((bD (aL (aF (cC (aU aB aH) (aU aB aH)) (aF (cC (aU aB aH) (aU aB aH)) aP)))):VS P0 _ nZ)⟩
abbrev zX:AO:=top 11
theorem aBY:FnScope ["a", "b"] ["a", "b"] (aW zX):=scM
theorem aBD  (F:Fun K "is_less" "is_less" zX f fd)(B:Bl K mg)(Kt:Kit K) :
  FnOk P w K mg base CX0 1 f fd ["a", "b"] (spM P0 2 cJ):=
 F.okV aBY rfl rfl fun cdv A outer s H E hr=>
 have hu:=hr.units
 ⟨_,(aM (bC (pJ uU (bT bW (aR aK (pv 0) aD (fun _ _=>rfl)) (aR aK (pv 1) aD (fun _ _=>rfl))) (bT bW (aR aK (pv 1) aD (fun _ _=>rfl)) (aR aK (pv 0) aD (fun _ _=>rfl))) (bV _)))),
  ((bD (aX (a02 (cC (aU aB aH) (aU aB aH)) (cC (aU aB aH) (aU aB aH))))):VS P0 _ yE)⟩
abbrev a3A:AO:=top 12
theorem sc_rising:FnScope ["numbers", "told", "number", "at"] ["numbers"] (aW a3A):=scM
theorem aG4  (F:Fun K "rising" "rising" a3A f fd)(B:Bl K mg)(Kt:Kit K)
  (a9:fD P0 P w K mg base) :
  FnOk P w K mg base CX0 2 f fd ["numbers"] (spM P0 1 tE):=
 F.okV sc_rising rfl rfl fun cdv A outer s H E hr=>
 have hu:=hr.units
 ⟨_,(aJ (bJ (i:=1) sc_rising.nd rfl (by walk_at "lc") (gH aC))
   (aJ (iZ BC rfl (gO (pv 0)) (cA (i:=2) sc_rising.nd rfl (by walk_at "lc")) (aJ (bJ (i:=3) sc_rising.nd rfl (by walk_at "lc") (bR bF rfl B.len_ Ay (aA (pv 1) aC)))
   (aJ (uB BC (PW.pt (a03 (bL aCE (pv 3) aD (bV _)) (rQ (fG (aG a9 hr rfl (aA (pv 2) (aA (aR aK (pv 1) (bT iB (pv 3) aD) (fun _ _=>rfl)) aC))))))) (aM (aIW (i:=3) sc_rising.nd rfl (by walk_at "lc") aD aN2)))
   (aM (oW (a4W Ct GU GV a5X (pv 1) (aA (pv 3) (aA (pv 2) aC))))))))
   (aM (bC (pv 1))))),
  ((aV (bI (iW bK))
   (aV (iY (gM aB) cB (aV (bI (aX (aF2 (eY aB))))
   (aV (t8 (a3I (uR (bQ (aD3 aB aH)) (lD (aQ (aL (aF aB (aF (aU aB (iJ aB aH)) aP))))))) (aJH aH))
   (a4V aB aB))))
   (bD uM))):VS P0 _ a4A)⟩
abbrev qD:AO:=top 14
theorem a0B:FnScope ["line", "time"] ["line", "time"] (aW qD):=scM
theorem a7Q  (F:Fun K "place_at" "place_at" qD f fd)(B:Bl K mg)(Kt:Kit K)
  (b7:aA6 P0 P w K mg base)
  (ce:a5S P0 P w K mg base) :
  FnOk P w K mg base CX0 4 f fd ["line", "time"] (spM P0 2 jA):=
 F.okV a0B rfl rfl fun cdv A outer s H E hr=>
 have hu:=hr.units
 ⟨_,(aM (bC (aG b7 hr rfl (aA (aR aK (pv 0) aD (fun _ _=>rfl)) (aA (aG ce hr rfl (aA (aR aK (pv 0) aD (fun _ _=>rfl)) (aA (pv 1) aC))) aC))))),
  ((bD (aL (aF (aU aB aH) (aF (aQ (aL (aF (aU aB aH) (aF aB aP)))) aP)))):VS P0 _ vI)⟩
abbrev yZ:AO:=top 15
theorem sc_meeting:FnScope ["one", "other", "gap", "closing"] ["one", "other"] (aW yZ):=scM
theorem aCA  (F:Fun K "meeting" "meeting" yZ f fd)(B:Bl K mg)(Kt:Kit K)
  (cf:a3O P0 P w K mg base)
  (ag:jF P0 P w K mg base) :
  FnOk P w K mg base CX0 4 f fd ["one", "other"] (spM P0 2 mO):=
 F.okV sc_meeting rfl rfl fun cdv A outer s H E hr=>
 have hu:=hr.units
 ⟨_,(aJ (cV (bL (oE hu) (aR aK (pv 0) aD (fun _ _=>rfl)) (aR aK (pv 1) aD (fun _ _=>rfl)) (bV _)) (aM (bC (aAL (bL (oE hu) (aR aK (pv 0) aD (fun _ _=>rfl)) (aR aK (pv 1) aD (fun _ _=>rfl)) (bV _)) (cD (aA mQ aC)) (cD (aA mQ aC))))) bU)
   (aJ (bJ (i:=2) sc_meeting.nd rfl (by walk_at "lc") (aG ag hr rfl (aA (aR aK (pv 1) aD (fun _ _=>rfl)) (aA (aR aK (pv 0) aD (fun _ _=>rfl)) aC))))
   (aJ (bJ (i:=3) sc_meeting.nd rfl (by walk_at "lc") (aG ag hr rfl (aA (aR aK (pv 0) aD (fun _ _=>rfl)) (aA (aR aK (pv 1) aD (fun _ _=>rfl)) aC))))
   (aM (bC (cD (aA mQ (aA (aG cf hr rfl (aA (pv 2) (aA (pv 3) aC))) aC)))))))),
  ((aV (dD (bQ (wU (aU aB aH) (aU aB aH))) (bD (aJC (bQ (wU (aU aB aH) (aU aB aH))) (aX (cH (aO lX bK))) (aX (cH (aO lX bK))))) dF)
   (aV (bI (aX (aQ (aL (aF (aU aB aH) (aF (aU aB aH) aP))))))
   (aV (bI (aX (aQ (aL (aF (aU aB aH) (aF (aU aB aH) aP))))))
   (bD (aX (cH (aO lX (aO (aQ (aL (aF aB (aF aB aP)))) bK)))))))):VS P0 _ zA)⟩
abbrev sE:AO:=top 16
theorem a5Z:FnScope ["lines", "thing"] ["lines", "thing"] (aW sE):=scM
theorem a7C  (F:Fun K "is_runner" "is_runner" sE f fd)(B:Bl K mg)(Kt:Kit K)
  (am:a1M P0 P w K mg base) :
  FnOk P w K mg base CX0 2 f fd ["lines", "thing"] (spM P0 2 jG):=
 F.okV a5Z rfl rfl fun cdv A outer s H E hr=>
 have hu:=hr.units
 ⟨_,(aM (bC (aJ2 (aG am hr rfl (aA (pv 1) aC)) (aJP (aHI aQP uU aD (pv 1) (bR bF rfl B.len_ Ay (aA (pv 0) aC))))))),
  ((bD (aX (aJ1 (aQ (aL (aF aB aP))) (aI4 aH aB (eY aB))))):VS P0 _ sU)⟩
abbrev qO:AO:=top 17
theorem zE:FnScope ["lines", "runner", "time"] ["lines", "runner", "time"] (aW qO):=scM
theorem a8P  (F:Fun K "standing" "standing" qO f fd)(B:Bl K mg)(Kt:Kit K)
  (ao:a1K P0 P w K mg base) :
  FnOk P w K mg base CX0 5 f fd ["lines", "runner", "time"] (spM P0 3 jB):=
 F.okV zE rfl rfl fun cdv A outer s H E hr=>
 have hu:=hr.units
 ⟨_,(aM (bC (cD (aA (aG ao hr rfl (aA (aR aK (pv 0) (pv 1) (fun _ _=>rfl)) (aA (pv 2) aC))) (aA (aR aK (aR aK (pv 0) (pv 1) (fun _ _=>rfl)) aD (fun _ _=>rfl)) (aA (pv 1) aC)))))),
  ((bD (aX (cH (aO (aQ (aL (aF (aU aB aB) (aF aB aP)))) (aO (aU (aU aB aB) aH) (aO aB bK)))))):VS P0 _ uH)⟩
abbrev lE:AO:=top 18
theorem a0F:FnScope ["one", "other"] ["one", "other"] (aW lE):=scM
theorem zN  (F:Fun K "stands_ahead" "stands_ahead" lE f fd)(B:Bl K mg)(Kt:Kit K)
  (a9:fD P0 P w K mg base) :
  FnOk P w K mg base CX0 2 f fd ["one", "other"] (spM P0 2 dN):=
 F.okV a0F rfl rfl fun cdv A outer s H E hr=>
 have hu:=hr.units
 ⟨_,(aJ (cV (bL (jO hu) (aR aK (pv 0) aD (fun _ _=>rfl)) (aR aK (pv 1) aD (fun _ _=>rfl)) (bV _)) (aM (bC (aG a9 hr rfl (aA (aR aK (pv 1) aD (fun _ _=>rfl)) (aA (aR aK (pv 0) aD (fun _ _=>rfl)) aC))))) bU)
   (aJ (cV (bL (jO hu) (aR aK (pv 0) aD (fun _ _=>rfl)) (aR aK (pv 1) aD (fun _ _=>rfl)) (bV _)) (aM (bC (aG a9 hr rfl (aA (aR aK (pv 1) aD (fun _ _=>rfl)) (aA (aR aK (pv 0) aD (fun _ _=>rfl)) aC))))) bU)
   (aM (bC (pJ uU (aR aK (pv 0) aD (fun _ _=>rfl)) (aR aK (pv 1) aD (fun _ _=>rfl)) (bV _)))))),
  ((aV (dD (bQ (rM (aU aB aH) (aU aB aH))) (bD (aL (aF (aU aB aH) (aF (aU aB aH) aP)))) dF)
   (aV (dD (bQ (rM (aU aB aH) (aU aB aH))) (bD (aL (aF (aU aB aH) (aF (aU aB aH) aP)))) dF)
   (bD (aX (a02 (aU aB aH) (aU aB aH)))))):VS P0 _ lG)⟩
abbrev qH:AO:=top 19
theorem a00:FnScope ["lines", "one", "other", "time"] ["lines", "one", "other", "time"] (aW qH):=scM
theorem a84  (F:Fun K "is_ahead" "is_ahead" qH f fd)(B:Bl K mg)(Kt:Kit K)
  (ai:kW P0 P w K mg base)
  (aq:a1S P0 P w K mg base) :
  FnOk P w K mg base CX0 6 f fd ["lines", "one", "other", "time"] (spM P0 4 qG):=
 F.okV a00 rfl rfl fun cdv A outer s H E hr=>
 have hu:=hr.units
 ⟨_,(aM (bC (aG ai hr rfl (aA (aG aq hr rfl (aA (pv 0) (aA (pv 1) (aA (pv 3) aC)))) (aA (aG aq hr rfl (aA (pv 0) (aA (pv 2) (aA (pv 3) aC)))) aC))))),
  ((bD (aL (aF (aQ (aL (aF aB (aF aB (aF aB aP))))) (aF (aQ (aL (aF aB (aF aB (aF aB aP))))) aP)))):VS P0 _ vO)⟩
abbrev iQ:AO:=top 37
theorem vM:FnScope ["one", "other"] ["one", "other"] (aW iQ):=scM
theorem uJ  (F:Fun K "leads_at_first" "leads_at_first" iQ f fd)(B:Bl K mg)(Kt:Kit K)
  (a9:fD P0 P w K mg base) :
  FnOk P w K mg base CX0 2 f fd ["one", "other"] (spM P0 2 fJ):=
 F.okV vM rfl rfl fun cdv A outer s H E hr=>
 have hu:=hr.units
 ⟨_,(aJ (cV (bL (jO hu) (aR aK (pv 0) aD (fun _ _=>rfl)) (aR aK (pv 1) aD (fun _ _=>rfl)) (bV _)) (aM (bC (aG a9 hr rfl (aA (aR aK (pv 0) aD (fun _ _=>rfl)) (aA (aR aK (pv 1) aD (fun _ _=>rfl)) aC))))) bU)
   (aM (bC (aG a9 hr rfl (aA (aR aK (pv 1) aD (fun _ _=>rfl)) (aA (aR aK (pv 0) aD (fun _ _=>rfl)) aC)))))),
  ((aV (dD (bQ (rM (aU aB aH) (aU aB aH))) (bD (aL (aF (aU aB aH) (aF (aU aB aH) aP)))) dF)
   (bD (aL (aF (aU aB aH) (aF (aU aB aH) aP))))):VS P0 _ iV)⟩
abbrev kZ:AO:=top 38
theorem sc_first_leader:FnScope ["lines", "leader", "runner"] ["lines"] (aW kZ):=scM
theorem a09  (F:Fun K "first_leader" "first_leader" kZ f fd)(B:Bl K mg)(Kt:Kit K)
  (cg:wL P0 P w K mg base) :
  FnOk P w K mg base CX0 3 f fd ["lines"] (spM P0 1 gW):=
 F.okV sc_first_leader rfl rfl fun cdv A outer s H E hr=>
 have hu:=hr.units
 ⟨_,(aJ (bJ (i:=1) sc_first_leader.nd rfl (by walk_at "lc") aD)
   (aJ (iZ BC rfl (a5G rfl B.range_ (aA aD (aA (bR bF rfl B.len_ Ay (aA (pv 0) aC)) aC))) (cA (i:=2) sc_first_leader.nd rfl (by walk_at "lc")) (aM (cV (fG (aG cg hr rfl (aA (aR aK (pv 0) (pv 2) (fun _ _=>rfl)) (aA (aR aK (pv 0) (pv 1) (fun _ _=>rfl)) aC)))) (aM (bJ (i:=1) sc_first_leader.nd rfl (by walk_at "lc") (pv 2))) bU)))
   (aM (bC (pv 1))))),
  ((aV (bI (aX aH))
   (aV (iY (aEP (aO aH (aO (eY aB) bK))) cB (dD (lD (aQ (aL (aF (aU aB aB) (aF (aU aB aB) aP))))) (bI (aX aB)) dF))
   (bD (aX aB)))):VS P0 _ lC)⟩
abbrev lL:AO:=top 40
theorem yL:FnScope ["lines", "runner", "time", "told"] ["lines", "runner", "time", "told"] (aW lL):=scM
theorem zK  (F:Fun K "comes_sooner" "comes_sooner" lL f fd)(B:Bl K mg)(Kt:Kit K)
  (ci:aC6 P0 P w K mg base)
  (a9:fD P0 P w K mg base) :
  FnOk P w K mg base CX0 7 f fd ["lines", "runner", "time", "told"] (spM P0 4 gY):=
 F.okV yL rfl rfl fun cdv A outer s H E hr=>
 have hu:=hr.units
 ⟨_,(aJ (cV (bL (jO hu) (pv 2) (aR aK (pv 3) aD (fun _ _=>rfl)) (bV _)) (aM (bC (aG a9 hr rfl (aA (pv 2) (aA (aR aK (pv 3) aD (fun _ _=>rfl)) aC))))) bU)
   (aM (bC (aG ci hr rfl (aA (pv 0) (aA (pv 1) (aA (aR aK (pv 3) aD (fun _ _=>rfl)) (aA (pv 2) aC)))))))),
  ((aV (dD (bQ (rM aB (aU aB aH))) (bD (aL (aF aB (aF (aU aB aH) aP)))) dF)
   (bD (aL (aF aB (aF aB (aF (aU aB aH) (aF aB aP))))))):VS P0 _ lN)⟩
abbrev nG:AO:=top 39
theorem sc_next_leader:FnScope ["lines", "leader", "told", "runner", "time"] ["lines", "leader"] (aW nG):=scM
theorem a0V  (F:Fun K "next_leader" "next_leader" nG f fd)(B:Bl K mg)(Kt:Kit K)
  (a9:fD P0 P w K mg base)
  (cj:a0Z P0 P w K mg base)
  (aj:xR P0 P w K mg base) :
  FnOk P w K mg base CX0 8 f fd ["lines", "leader"] (spM P0 2 j4):=
 F.okV sc_next_leader rfl rfl fun cdv A outer s H E hr=>
 have hu:=hr.units
 ⟨_,(aJ (bJ (i:=2) sc_next_leader.nd rfl (by walk_at "lc") jW)
   (aJ (iZ BC rfl (gG rfl B.range_ (aA (bR bF rfl B.len_ Ay (aA (pv 0) aC)) aC)) (cA (i:=3) sc_next_leader.nd rfl (by walk_at "lc")) (aM (cV (fG (aG a9 hr rfl (aA (aR aK (aR aK (pv 0) (pv 1) (fun _ _=>rfl)) aD (fun _ _=>rfl)) (aA (aR aK (aR aK (pv 0) (pv 3) (fun _ _=>rfl)) aD (fun _ _=>rfl)) aC)))) (aJ (bJ (i:=4) sc_next_leader.nd rfl (by walk_at "lc") (aR aK (aG aj hr rfl (aA (aR aK (pv 0) (pv 1) (fun _ _=>rfl)) (aA (aR aK (pv 0) (pv 3) (fun _ _=>rfl)) aC))) aD (fun _ _=>rfl)))
   (aM (cV (PW.pt (aBW (bL a98 (pv 2) jW (bV _)) (aAB (fG (aG cj hr rfl (aA (pv 0) (aA (pv 3) (aA (pv 4) (aA (pv 2) aC))))))))) (aM (bJ (i:=2) sc_next_leader.nd rfl (by walk_at "lc") (cD (aA (pv 3) (aA (pv 4) aC))))) bU))) bU)))
   (aM (bC (pv 2))))),
  ((aV (bI (aX zP))
   (aV (iY (nP (aO (eY aB) bK)) cB (dD (lD (aQ (aL (aF (aU (aU aB aB) aH) (aF (aU (aU aB aB) aH) aP))))) (aV (bI (aX (aU (aQ (aL (aF (aU aB aB) (aF (aU aB aB) aP)))) aH)))
   (dD (a1F (bQ (a9B aB)) (lD (aQ (aL (aF aB (aF aB (aF aB (aF aB aP)))))))) (bI (aX (cH (aO aB (aO aB bK))))) dF)) dF))
   (bD (aX aB)))):VS P0 _ nQ)⟩
abbrev yR:AO:=top 41
theorem sc_leaders:FnScope ["lines", "row", "stretch"] ["lines"] (aW yR):=scM
theorem aBN  (F:Fun K "leaders" "leaders" yR f fd)(B:Bl K mg)(Kt:Kit K)
  (ck:a3J P0 P w K mg base)
  (cm:a0H P0 P w K mg base) :
  FnOk P w K mg base CX0 9 f fd ["lines"] (spM P0 1 pR):=
 F.okV sc_leaders rfl rfl fun cdv A outer s H E hr=>
 have hu:=hr.units
 ⟨_,(aJ (cV (bL (oE hu) (bR bF rfl B.len_ Ay (aA (pv 0) aC)) aD (bV _)) (aM (bC (gH aC))) bU)
   (aJ (bJ (i:=1) sc_leaders.nd rfl (by walk_at "lc") (gH aC))
   (aJ (bJ (i:=2) sc_leaders.nd rfl (by walk_at "lc") (cD (aA (aG cm hr rfl (aA (pv 0) aC)) (aA jW aC))))
   (aJ (uB BC (bL a7U (pv 2) jW (bV _)) (aJ (oW (a4W Ct Ds Du mK (pv 1) (aA (pv 2) aC)))
   (aM (bJ (i:=2) sc_leaders.nd rfl (by walk_at "lc") (aG ck hr rfl (aA (pv 0) (aA (aR aK (pv 2) aD (fun _ _=>rfl)) aC)))))))
   (aM (bC (pv 1))))))),
  ((aV (dD (bQ (wU (eY aB) aH)) (bD (iW bK)) dF)
   (aV (bI (iW bK))
   (aV (bI (aX (cH (aO (aQ (aL (aF aB aP))) (aO zP bK)))))
   (aV (t8 (bQ (a8M aB)) (aV (oZ aB)
   (bI (aX (aQ (aL (aF aB (aF (aU aB aH) aP))))))))
   (bD uM))))):VS P0 _ zO)⟩
abbrev j8:AO:=top 21
theorem sc_order_among:FnScope ["lines", "runners", "time", "order", "runner", "stand", "at"] ["lines", "runners", "time"] (aW j8):=scM
theorem a0Q  (F:Fun K "order_among" "order_among" j8 f fd)(B:Bl K mg)(Kt:Kit K)
  (ai:kW P0 P w K mg base)
  (aq:a1S P0 P w K mg base) :
  FnOk P w K mg base CX0 6 f fd ["lines", "runners", "time"] (spM P0 3 j5):=
 F.okV sc_order_among rfl rfl fun cdv A outer s H E hr=>
 have hu:=hr.units
 ⟨_,(aJ (bJ (i:=3) sc_order_among.nd rfl (by walk_at "lc") (gH aC))
   (aJ (iZ BC rfl (gO (pv 1)) (cA (i:=4) sc_order_among.nd rfl (by walk_at "lc")) (aJ (bJ (i:=5) sc_order_among.nd rfl (by walk_at "lc") (aG aq hr rfl (aA (pv 0) (aA (pv 4) (aA (pv 2) aC)))))
   (aJ (bJ (i:=6) sc_order_among.nd rfl (by walk_at "lc") aD)
   (aJ (uB BC (PW.pt (a03 (bL uU (pv 6) (bR bF rfl B.len_ Ay (aA (pv 3) aC)) (bV _)) (rQ (fG (aG ai hr rfl (aA (aR aK (pv 3) (pv 6) (fun _ _=>rfl)) (aA (pv 5) aC))))))) (aM (aIW (i:=6) sc_order_among.nd rfl (by walk_at "lc") aD aOP)))
   (aM (oW (a4W Ct GU GV a5X (pv 3) (aA (pv 6) (aA (pv 5) aC)))))))))
   (aM (bC (xN (N:=["stand"]) (nt:=1) (fv:=[]) rfl (rE (osc:=aW j8) (ON:=["lines", "runners", "time", "order", "runner", "stand", "at"]) (by decide +kernel)) (gO (pv 3)) (fun _ _ _ _=>(cA (i:=0) (show(["stand"]:List Str).Nodup by decide +kernel) rfl (by walk_at "lc"))) (fun _ _ _ _=>vA) (fun _ _ _ _=>(aR aK (pv 0) aD (fun _ _=>rfl)))))))),
  ((aV (bI (iW bK))
   (aV (iY (gM aB) cB (aV (bI (aX (aQ (aL (aF aB (aF aB (aF aB aP)))))))
   (aV (bI (aX aH))
   (aV (t8 (a3I (uR (bQ (a02 aB (eY aB))) (lD (aQ (aL (aF (aU aB aB) (aF aB aP))))))) (aJH aH))
   (a4V aB aB)))))
   (aJE (bD (lK (gM aB) cB qQ (aU aB aH)))))):VS P0 _ nM)⟩
abbrev v9:AO:=top 22
theorem a83:FnScope ["lines", "time"] ["lines", "time"] (aW v9):=scM
theorem a8D  (F:Fun K "order_at" "order_at" v9 f fd)(B:Bl K mg)(Kt:Kit K)
  (cn:a2R P0 P w K mg base) :
  FnOk P w K mg base CX0 7 f fd ["lines", "time"] (spM P0 2 eV):=
 F.okV a83 rfl rfl fun cdv A outer s H E hr=>
 have hu:=hr.units
 ⟨_,(aM (bC (aG cn hr rfl (aA (pv 0) (aA (m7 (a3Y rfl) rfl B.list_ boot_list (aA (m7 a7D rfl B.range_ boot_range (aA (bR bF rfl B.len_ Ay (aA (pv 0) aC)) aC)) aC)) (aA (pv 1) aC)))))),
  ((bD (aL (aF aB (aF (aQ (aCD (eY aB))) (aF aB aP))))):VS P0 _ uN)⟩
abbrev pY:AO:=top 23
theorem a4O:FnScope ["order"] ["order"] (aW pY):=scM
theorem a2Q  (F:Fun K "neighbours" "neighbours" pY f fd)(B:Bl K mg)(Kt:Kit K) :
  FnOk P w K mg base CX0 1 f fd ["order"] (spM P0 1 kO):=
 F.okV a4O rfl rfl fun cdv A outer s H E hr=>
 have hu:=hr.units
 ⟨_,(aM (bC (aBF rfl rfl B.list_ rfl B.zip_ (aA (pv 0) (aA (a9Y aFS (pv 0) (aD4 aD) aE2) aC))))),
  ((bD (aBS aB (aQ (aJL aB (aMF aH) aM9)))):VS P0 _ pF)⟩
abbrev a0D:AO:=top 24
theorem sc_nearest:FnScope ["lines", "time", "told", "one", "other", "gap"] ["lines", "time"] (aW a0D):=scM
theorem aBC  (F:Fun K "nearest" "nearest" a0D f fd)(B:Bl K mg)(Kt:Kit K)
  (cp:a6Q P0 P w K mg base)
  (af:a1T P0 P w K mg base)
  (a9:fD P0 P w K mg base)
  (ag:jF P0 P w K mg base)
  (ao:a1K P0 P w K mg base) :
  FnOk P w K mg base CX0 8 f fd ["lines", "time"] (spM P0 2 pG):=
 F.okV sc_nearest rfl rfl fun cdv A outer s H E hr=>
 have hu:=hr.units
 ⟨_,(aJ (bJ (i:=2) sc_nearest.nd rfl (by walk_at "lc") jW)
   (aJ (iZ BC rfl (gO (aG cp hr rfl (aA (aG af hr rfl (aA (pv 0) (aA (pv 1) aC))) aC))) (a6E rfl (gR (cA (i:=3) sc_nearest.nd rfl (by walk_at "lc")) (gR (cA (i:=4) sc_nearest.nd rfl (by walk_at "lc")) yN))) (aJ (bJ (i:=5) sc_nearest.nd rfl (by walk_at "lc") (aG ag hr rfl (aA (aG ao hr rfl (aA (aR aK (pv 0) (pv 3) (fun _ _=>rfl)) (aA (pv 1) aC))) (aA (aG ao hr rfl (aA (aR aK (pv 0) (pv 4) (fun _ _=>rfl)) (aA (pv 1) aC))) aC))))
   (aM (cV (PW.pt (aBW (bL a98 (pv 2) jW (bV _)) (aAB (fG (aG a9 hr rfl (aA (pv 5) (aA (aR aK (pv 2) aD (fun _ _=>rfl)) aC))))))) (aM (bJ (i:=2) sc_nearest.nd rfl (by walk_at "lc") (cD (aA (pv 3) (aA (pv 4) (aA (pv 5) aC)))))) bU))))
   (aM (bC (pv 2))))),
  ((aV (bI (aX zP))
   (aV (iY (gM (aQ (aL (aF (aQ (aL (aF aB (aF aB aP)))) aP)))) (a5L (gU cB (gU cB zT))) (aV (bI (aX (aQ (aL (aF (aQ (aL (aF (aU aB aB) (aF aB aP)))) (aF (aQ (aL (aF (aU aB aB) (aF aB aP)))) aP))))))
   (dD (a1F (bQ (a9B aB)) (lD (aQ (aL (aF aB (aF (aU aB aH) aP)))))) (bI (aX (cH (aO aB (aO aB (aO aB bK)))))) dF)))
   (bD (aX aB)))):VS P0 _ yO)⟩
abbrev o5:AO:=top 25
theorem sc_all_changes:FnScope ["lines", "pairs", "one", "other", "time"] ["lines"] (aW o5):=scM
theorem a0K  (F:Fun K "all_changes" "all_changes" o5 f fd)(B:Bl K mg)(Kt:Kit K)
  (a9:fD P0 P w K mg base)
  (aj:xR P0 P w K mg base) :
  FnOk P w K mg base CX0 5 f fd ["lines"] (spM P0 1 gA):=
 F.okV sc_all_changes rfl rfl fun cdv A outer s H E hr=>
 have hu:=hr.units
 ⟨_,(aJ (bJ (i:=1) sc_all_changes.nd rfl (by walk_at "lc") aHG)
   (aJ (iZ BC rfl (gG rfl B.range_ (aA (bR bF rfl B.len_ Ay (aA (pv 0) aC)) aC)) (cA (i:=2) sc_all_changes.nd rfl (by walk_at "lc")) (aM (iZ BC rfl (gG rfl B.range_ (aA (bR bF rfl B.len_ Ay (aA (pv 0) aC)) aC)) (cA (i:=3) sc_all_changes.nd rfl (by walk_at "lc")) (aM (cV (fG (aG a9 hr rfl (aA (aR aK (aR aK (pv 0) (pv 2) (fun _ _=>rfl)) aD (fun _ _=>rfl)) (aA (aR aK (aR aK (pv 0) (pv 3) (fun _ _=>rfl)) aD (fun _ _=>rfl)) aC)))) (aJ (bJ (i:=4) sc_all_changes.nd rfl (by walk_at "lc") (aR aK (aG aj hr rfl (aA (aR aK (pv 0) (pv 2) (fun _ _=>rfl)) (aA (aR aK (pv 0) (pv 3) (fun _ _=>rfl)) aC))) aD (fun _ _=>rfl)))
   (aM (oW (a4W Ct Ds Du mK (aMY PySem.F.slot_dict_setdefault PySem.F.type_dict_setdefault (aLE hu) (pv 1) (aA (pv 4) (aA (gH aC) aC))) (aA (cD (aA (pv 2) (aA (pv 3) aC))) aC))))) bU)))))
   (aM (bC (pv 1))))),
  ((aV (bI aL9)
   (aV (iY (nP (aO (eY aB) bK)) cB (iY (nP (aO (eY aB) bK)) cB (dD (lD (aQ (aL (aF (aU (aU aB aB) aH) (aF (aU (aU aB aB) aH) aP))))) (aV (bI (aX (aU (aQ (aL (aF (aU aB aB) (aF (aU aB aB) aP)))) aH)))
   aFY) dF)))
   (bD uM))):VS P0 _ mZ)⟩
abbrev pN:AO:=top 26
theorem sc_changes:FnScope ["lines", "low", "high", "pairs", "times", "time"] ["lines", "low", "high"] (aW pN):=scM
theorem aCF  (F:Fun K "changes" "changes" pN f fd)(B:Bl K mg)(Kt:Kit K)
  (b8:aAS P0 P w K mg base)
  (a9:fD P0 P w K mg base)
  (b9:uD P0 P w K mg base) :
  FnOk P w K mg base CX0 6 f fd ["lines", "low", "high"] (spM P0 3 pZ):=
 F.okV sc_changes rfl rfl fun cdv A outer s H E hr=>
 have hu:=hr.units
 ⟨_,(aJ (bJ (i:=3) sc_changes.nd rfl (by walk_at "lc") (aG b9 hr rfl (aA (pv 0) aC)))
   (aJ (uY (N:=["time", "low", "high"]) (nt:=1) (fv:=[1,2]) (i:=4) sc_changes.nd rfl rfl rfl (rE (osc:=aW pN) (ON:=["lines", "low", "high", "pairs", "times", "time"]) (by decide +kernel)) (aO2 (pv 3)) (fun _ _ _ _=>(cA (i:=0) (show(["time", "low", "high"]:List Str).Nodup by decide +kernel) rfl (by walk_at "lc"))) (fun _ _ _ _=>(a3P (PW.pt (a03 (fG (aG a9 hr rfl (aA (pv 1) (aA (pv 0) aC)))) (rQ (sV (fG (aG a9 hr rfl (aA (pv 2) (aA (pv 0) aC)))))))))) (fun _ _ _ _=>(pv 0)))
   (aM (bC (xN (N:=["time", "pairs"]) (nt:=1) (fv:=[3]) rfl (rE (osc:=aW pN) (ON:=["lines", "low", "high", "pairs", "times", "time"]) (by decide +kernel)) (gO (aG b8 hr rfl (aA (pv 4) aC))) (fun _ _ _ _=>(cA (i:=0) (show(["time", "pairs"]:List Str).Nodup by decide +kernel) rfl (by walk_at "lc"))) (fun _ _ _ _=>vA) (fun _ _ _ _=>(cD (aA (pv 0) (aA (bR a1X rfl B.sorted_ Fs (aA (aR (aNO hu) (pv 1) (pv 0) (fun _ _=>rfl)) aC)) aC))))))))),
  ((aV (aKO (aL (aF aB aP)))
   (aV (bI (aX (aQ (lK aOU cB (uR (lD (aQ (aL (aF aB (aF aB aP))))) (nR (lD (aQ (aL (aF aB (aF aB aP))))))) aB))))
   (bD (lK (gM (aQ (aL (aF aB aP)))) cB qQ (cH (aO aB (aO (aQ (a9C (aN9 aB))) bK))))))):VS P0 _ xY)⟩
abbrev jL:AO:=top 28
theorem sc_stretch_times:FnScope ["lines", "times"] ["lines"] (aW jL):=scM
theorem wN  (F:Fun K "stretch_times" "stretch_times" jL f fd)(B:Bl K mg)(Kt:Kit K)
  (ag:jF P0 P w K mg base)
  (b8:aAS P0 P w K mg base)
  (b9:uD P0 P w K mg base) :
  FnOk P w K mg base CX0 6 f fd ["lines"] (spM P0 1 fW):=
 F.okV sc_stretch_times rfl rfl fun cdv A outer s H E hr=>
 have hu:=hr.units
 ⟨_,(aJ (bJ (i:=1) sc_stretch_times.nd rfl (by walk_at "lc") (aG b8 hr rfl (aA (m7 (aBP rfl) rfl B.list_ boot_list (aA (aG b9 hr rfl (aA (pv 0) aC)) aC)) aC)))
   (aJ (cV (bL (oE hu) (pv 1) (gH aC) (bV _)) (aM (bC (gH (aA (cD (aA aD (aA aD aC))) aC)))) bU)
   (aM (bC (bT aO4 (gH (aA (aG ag hr rfl (aA (aR aK (pv 1) aD (fun _ _=>rfl)) (aA (cD (aA aD (aA aD aC))) aC))) aC)) (pv 1)))))),
  ((aV (bI (aX (aQ (aL (aF (aQ (aIH (aL (aF aB aP)))) aP)))))
   (aV (dD (bQ (wU aB (aQ (iW bK)))) (bD (iW (aO (cH (aO aH (aO aH bK))) bK))) dF)
   (bD (aN4 (aQ (iW (aO (aQ (aL (aF (aU aB aH) (aF (cH (aO aH (aO aH bK))) aP)))) bK))) aB)))):VS P0 _ jE)⟩
abbrev v5:AO:=top 29
theorem sc_rank_row:FnScope ["lines", "k", "times", "row", "time", "runner"] ["lines", "k"] (aW v5):=scM
theorem a7Z  (F:Fun K "rank_row" "rank_row" v5 f fd)(B:Bl K mg)(Kt:Kit K)
  (af:a1T P0 P w K mg base)
  (cq:zB P0 P w K mg base) :
  FnOk P w K mg base CX0 8 f fd ["lines", "k"] (spM P0 2 lV):=
 F.okV sc_rank_row rfl rfl fun cdv A outer s H E hr=>
 have hu:=hr.units
 ⟨_,(aJ (cV (bL aMV (pv 1) (bR bF rfl B.len_ Ay (aA (pv 0) aC)) (bV _)) (aM (bC (gH aC))) bU)
   (aJ (bJ (i:=2) sc_rank_row.nd rfl (by walk_at "lc") (aG cq hr rfl (aA (pv 0) aC)))
   (aJ (bJ (i:=3) sc_rank_row.nd rfl (by walk_at "lc") (gH (aA (cD (aA (aR aK (aG af hr rfl (aA (pv 0) (aA (aR aK (pv 2) aD (fun _ _=>rfl)) aC))) (pv 1) (fun _ _=>rfl)) (aA jW aC))) aC)))
   (aJ (iZ BC rfl (gO (a9Y aFS (pv 2) (aD4 aD) aE2)) (cA (i:=4) sc_rank_row.nd rfl (by walk_at "lc")) (aJ (bJ (i:=5) sc_rank_row.nd rfl (by walk_at "lc") (aR aK (aG af hr rfl (aA (pv 0) (aA (pv 4) aC))) (pv 1) (fun _ _=>rfl)))
   (aM (cV (bL (jO hu) (pv 5) (aR aK (aR aK (pv 3) (aF8 a6I aD) (fun _ _=>rfl)) aD (fun _ _=>rfl)) (bV _)) (aM (oW (a4W Ct Ds Du mK (pv 3) (aA (cD (aA (pv 5) (aA (pv 4) aC))) aC)))) bU))))
   (aM (bC (pv 3))))))),
  ((aV (dD (bQ (aQY aB (eY aB))) (bD (iW bK)) dF)
   (aV (bI (aX (aQ (aL (aF aB aP)))))
   (aV (bI (iW (aO (cH (aO (aU (aQ (aL (aF aB (aF (aU aB aH) aP)))) aB) (aO zP bK))) bK)))
   (aV (iY (gM (aQ (aJL aB (aMF aH) aM9))) cB (aV (bI (aX (aU (aQ (aL (aF aB (aF aB aP)))) aB)))
   (dD (a3I (bQ (rM aB (aU (aU aB (a6N aH)) aH)))) (oZ (cH (aO aB (aO aB bK)))) dF)))
   (bD uM))))):VS P0 _ v8)⟩
theorem a04  {c:AB}(hK:KT K c ([0,1].map V.int))(F:Fun K "product_of" "product_of" kJ f fd)(B:Bl K mg)(Kt:Kit K)
  (ae:jP P0 P w K mg base) :
  FnOk P w K mg base CX0 3 f fd ["a", "b"] (spM P0 2 (gZ c)):=
 F.okV uE rfl rfl fun cdv A outer s H E hr=>
 have hu:=hr.units
 ⟨_,(aM (bC (aG ae hr rfl (aA (bT bW (aR aK (pv 0) aD (fun _ _=>rfl)) (aR aK (pv 1) aD (fun _ _=>rfl))) (aA (bT bW (aR aK (pv 0) aD (fun _ _=>rfl)) (aR aK (pv 1) aD (fun _ _=>rfl))) aC))))),
  ((bD (aL (aF (cC (aU aB aH) (aJS hK aH)) (aF (cC (aU aB aH) (aJS hK aH)) aP)))):VS P0 _ (lH c))⟩
theorem a3T  {c:AB}(hK:KT K c ([0,1].map V.int))(F:Fun K "place_at" "place_at" qD f fd)(B:Bl K mg)(Kt:Kit K)
  (b7:aA6 P0 P w K mg base)
  (cr:a0N P0 P w K mg base c) :
  FnOk P w K mg base CX0 4 f fd ["line", "time"] (spM P0 2 (jV c)):=
 F.okV a0B rfl rfl fun cdv A outer s H E hr=>
 have hu:=hr.units
 ⟨_,(aM (bC (aG b7 hr rfl (aA (aR aK (pv 0) aD (fun _ _=>rfl)) (aA (aG cr hr rfl (aA (aR aK (pv 0) aD (fun _ _=>rfl)) (aA (pv 1) aC))) aC))))),
  ((bD (aL (aF (aU aB aH) (aF (aQ (aL (aF (aU aB aH) (aID aP)))) aP)))):VS P0 _ (pI c))⟩
theorem a4N  {c:AB}(hK:KT K c ([0,1].map V.int))(F:Fun K "standing" "standing" qO f fd)(B:Bl K mg)(Kt:Kit K)
  (cu:a73 P0 P w K mg base c) :
  FnOk P w K mg base CX0 5 f fd ["lines", "runner", "time"] (spM P0 3 (iK c)):=
 F.okV zE rfl rfl fun cdv A outer s H E hr=>
 have hu:=hr.units
 ⟨_,(aM (bC (cD (aA (aG cu hr rfl (aA (aR aK (pv 0) (pv 1) (fun _ _=>rfl)) (aA (pv 2) aC))) (aA (aR aK (aR aK (pv 0) (pv 1) (fun _ _=>rfl)) aD (fun _ _=>rfl)) (aA (pv 1) aC)))))),
  ((bD (aX (cH (aO (aQ (aL (aF (aU aB aB) (aID aP)))) (aO (aU (aU aB aB) aH) (aO aB bK)))))):VS P0 _ (pH c))⟩
theorem a3X  {c:AB}(hK:KT K c ([0,1].map V.int))(F:Fun K "is_ahead" "is_ahead" qH f fd)(B:Bl K mg)(Kt:Kit K)
  (ai:kW P0 P w K mg base)
  (br:a5W P0 P w K mg base c) :
  FnOk P w K mg base CX0 6 f fd ["lines", "one", "other", "time"] (spM P0 4 (jZ c)):=
 F.okV a00 rfl rfl fun cdv A outer s H E hr=>
 have hu:=hr.units
 ⟨_,(aM (bC (aG ai hr rfl (aA (aG br hr rfl (aA (pv 0) (aA (pv 1) (aA (pv 3) aC)))) (aA (aG br hr rfl (aA (pv 0) (aA (pv 2) (aA (pv 3) aC)))) aC))))),
  ((bD (aL (aF (aQ (aL (aF aB (aF aB (aID aP))))) (aF (aQ (aL (aF aB (aF aB (aID aP))))) aP)))):VS P0 _ (pX c))⟩
abbrev pK:AO:=top 32
theorem sc_when_ahead:FnScope ["lines", "one", "runner", "met"] ["lines", "one", "runner"] (aW pK):=scM
theorem xV  {c:AB}(hK:KT K c ([0,1].map V.int))(hgc:mg "ANY_TIME" = some (.ref c))(F:Fun K "when_ahead" "when_ahead" pK f fd)(B:Bl K mg)(Kt:Kit K)
  (a9:fD P0 P w K mg base)
  (cw:a5O P0 P w K mg base c)
  (aj:xR P0 P w K mg base) :
  FnOk P w K mg base CX0 7 f fd ["lines", "one", "runner"] (spM P0 3 (kY c)):=
 F.okV sc_when_ahead rfl rfl fun cdv A outer s H E hr=>
 have hu:=hr.units
 ⟨_,(aJ (bJ (i:=3) sc_when_ahead.nd rfl (by walk_at "lc") (aG aj hr rfl (aA (aR aK (pv 0) (pv 1) (fun _ _=>rfl)) (aA (aR aK (pv 0) (pv 2) (fun _ _=>rfl)) aC))))
   (aJ (cV (bL (jO hu) (aR aK (pv 3) aD (fun _ _=>rfl)) mQ (bV _)) (aM (bC (aAL (fG (aG cw hr rfl (aA (pv 0) (aA (pv 1) (aA (pv 2) (aA (aKB (v:=.ref c) rfl hgc rfl) aC)))))) (cD (aA mQ aC)) (cD (aA mQ aC))))) bU)
   (aJ (cV (fG (aG a9 hr rfl (aA (aR aK (aR aK (pv 0) (pv 2) (fun _ _=>rfl)) aD (fun _ _=>rfl)) (aA (aR aK (aR aK (pv 0) (pv 1) (fun _ _=>rfl)) aD (fun _ _=>rfl)) aC)))) (aM (bC (cD (aA mQ (aA (aR aK (pv 3) aD (fun _ _=>rfl)) aC))))) bU)
   (aM (bC (cD (aA mQ (aA (aR aK (pv 3) aD (fun _ _=>rfl)) aC)))))))),
  ((aV (bI (aX (aQ (aL (aF (aU aB aB) (aF (aU aB aB) aP))))))
   (aV (dD (bQ (rM (aU aB aH) lX)) (bD (aJC (lD (aQ (aL (aF aB (aF aB (aF aB (aNH aP))))))) (aX (cH (aO lX bK))) (aX (cH (aO lX bK))))) dF)
   (aV (dD (lD (aQ (aL (aF (aU (aU aB aB) aH) (aF (aU (aU aB aB) aH) aP))))) (bD (aX (cH (aO lX (aO (aU aB aH) bK))))) dF)
   (bD (aX (cH (aO lX (aO (aU aB aH) bK)))))))):VS P0 _ (lM c))⟩
theorem wV {P0:AB→Hp→Prop}{c:AB}:∀ vs H Q E,spM P0 3 fQ vs H Q E→spM P0 3 (kY c) vs H Q E:=by
 rintro vs H Q E ⟨F,as,Qm,h1,h2,h3,h4,h5,h6⟩;exact⟨F,as,Qm,h1,h2,h3,h4,h5 c,h6⟩
abbrev jQ:AO:=top 33
theorem sc_are_all_times:FnScope ["some", "others", "words"] ["some", "others"] (aW jQ):=scM
theorem wR  (F:Fun K "are_all_times" "are_all_times" jQ f fd)(B:Bl K mg)(Kt:Kit K)
  (a9:fD P0 P w K mg base) :
  FnOk P w K mg base CX0 2 f fd ["some", "others"] (spM P0 2 eH):=
 F.okV sc_are_all_times rfl rfl fun cdv A outer s H E hr=>
 have hu:=hr.units
 ⟨_,(aJ (bJ (i:=2) sc_are_all_times.nd rfl (by walk_at "lc") (cD (aA (aR aK (pv 0) aD (fun _ _=>rfl)) (aA (aR aK (pv 1) aD (fun _ _=>rfl)) aC))))
   (aJ (cV (bL (aJQ hu) mQ (pv 2) (by with_unfolding_all rfl)) (aM (bC zW)) bU)
   (aJ (cV (bL (oE hu) (pv 2) (cD (aA mQ (aA mQ aC))) (bV _)) (aM (bC (aD8 (aG a9 hr rfl (aA (aR aK (pv 1) aD (fun _ _=>rfl)) (aA (aR aK (pv 0) aD (fun _ _=>rfl)) aC)))))) bU)
   (aJ (cV (bL (oE hu) (pv 2) (cD (aA mQ (aA mQ aC))) (bV _)) (aM (bC (aD8 (aG a9 hr rfl (aA (aR aK (pv 0) aD (fun _ _=>rfl)) (aA (aR aK (pv 1) aD (fun _ _=>rfl)) aC)))))) bU)
   (aM (bC zW)))))),
  ((aV (bI (aX (cH (aO (aU aB aH) (aO (aU aB aH) bK)))))
   (aV (dD (bQ (aO1 lX aB)) (bD (aX z7)) dF)
   (aV (dD (bQ (wU aB (cH (aO lX (aO lX bK))))) (bD (aX (aCS (aQ (aL (aF (aU aB aH) (aF (aU aB aH) aP))))))) dF)
   (aV (dD (bQ (wU aB (cH (aO lX (aO lX bK))))) (bD (aX (aCS (aQ (aL (aF (aU aB aH) (aF (aU aB aH) aP))))))) dF)
   (bD (aX z7)))))):VS P0 _ jM)⟩
abbrev v4:AO:=top 35
theorem a8E:FnScope ["lines", "runner", "one", "other"] ["lines", "runner", "one", "other"] (aW v4):=scM
theorem a8O  (F:Fun K "is_cover" "is_cover" v4 f fd)(B:Bl K mg)(Kt:Kit K)
  (ba:q9 P0 P w K mg base)
  (ar:wD P0 P w K mg base)
  (bt:a7T P0 P w K mg base) :
  FnOk P w K mg base CX0 8 f fd ["lines", "runner", "one", "other"] (spM P0 4 qF):=
 F.okV a8E rfl rfl fun cdv A outer s H E hr=>
 have hu:=hr.units
 ⟨_,(aJ (cV (PW.pt (aBW (sV (fG (aG bt hr rfl (aA (pv 0) (aA (pv 2) aC))))) (aBW (sV (fG (aG bt hr rfl (aA (pv 0) (aA (pv 3) aC))))) (aAB (bL (aJQ hu) (pv 1) (cD (aA (pv 2) (aA (pv 3) aC))) (by with_unfolding_all rfl)))))) (aM (bC zW)) bU)
   (aM (bC (aG ba hr rfl (aA (aG ar hr rfl (aA (pv 0) (aA (pv 2) (aA (pv 1) aC)))) (aA (aG ar hr rfl (aA (pv 0) (aA (pv 3) (aA (pv 1) aC)))) aC)))))),
  ((aV (dD (a1F (nR (lD (aQ (aL (aF aB (aF aB aP)))))) (a1F (nR (lD (aQ (aL (aF aB (aF aB aP)))))) (bQ (aO1 aB (cH (aO aB (aO aB bK))))))) (bD (aX z7)) dF)
   (bD (aL (aF (aQ (aL (aF aB (aF aB (aF aB aP))))) (aF (aQ (aL (aF aB (aF aB (aF aB aP))))) aP))))):VS P0 _ uX)⟩
abbrev yI:AO:=top 34
theorem sc_cover:FnScope ["lines", "runner", "rest", "one", "times", "at", "later"] ["lines", "runner"] (aW yI):=scM
theorem aGQ  (F:Fun K "cover" "cover" yI f fd)(B:Bl K mg)(Kt:Kit K)
  (ba:q9 P0 P w K mg base)
  (ar:wD P0 P w K mg base) :
  FnOk P w K mg base CX0 8 f fd ["lines", "runner"] (spM P0 2 zL):=
 F.okV sc_cover rfl rfl fun cdv A outer s H E hr=>
 have hu:=hr.units
 ⟨_,(aJ (uY (N:=["one", "runner"]) (nt:=1) (fv:=[1]) (i:=2) sc_cover.nd rfl rfl rfl (rE (osc:=aW yI) (ON:=["lines", "runner", "rest", "one", "times", "at", "later"]) (by decide +kernel)) (gG rfl B.range_ (aA (bR bF rfl B.len_ Ay (aA (pv 0) aC)) aC)) (fun _ _ _ _=>(cA (i:=0) (show(["one", "runner"]:List Str).Nodup by decide +kernel) rfl (by walk_at "lc"))) (fun _ _ _ _=>(a3P (bL (jO hu) (pv 0) (pv 1) (bV _)))) (fun _ _ _ _=>(pv 0)))
   (aJ (uY (N:=["one", "lines", "runner"]) (nt:=1) (fv:=[0,1]) (i:=4) sc_cover.nd rfl rfl rfl (rE (osc:=aW yI) (ON:=["lines", "runner", "rest", "one", "times", "at", "later"]) (by decide +kernel)) (gO (pv 2)) (fun _ _ _ _=>(cA (i:=0) (show(["one", "lines", "runner"]:List Str).Nodup by decide +kernel) rfl (by walk_at "lc"))) (fun _ _ _ _=>vA) (fun _ _ _ _=>(aG ar hr rfl (aA (pv 1) (aA (pv 0) (aA (pv 2) aC))))))
   (aJ (iZ BC rfl (gG rfl B.range_ (aA (bR bF rfl B.len_ Ay (aA (pv 2) aC)) aC)) (cA (i:=5) sc_cover.nd rfl (by walk_at "lc")) (aM (iZ BC rfl (a5G rfl B.range_ (aA (pv 5) (aA (bR bF rfl B.len_ Ay (aA (pv 2) aC)) aC))) (cA (i:=6) sc_cover.nd rfl (by walk_at "lc")) (aM (cV (fG (aG ba hr rfl (aA (aR aK (pv 4) (pv 5) (fun _ _=>rfl)) (aA (aR aK (pv 4) (pv 6) (fun _ _=>rfl)) aC)))) (aM (bC (cD (aA (aR aK (pv 2) (pv 5) (fun _ _=>rfl)) (aA (aR aK (pv 2) (pv 6) (fun _ _=>rfl)) aC))))) bU)))))
   (aM (bC jW))))),
  ((aV (bI (aX (aQ (lK (nP (aO (eY aB) bK)) cB (bQ (rM aB aB)) aB))))
   (aV (bI (aX (aQ (lK (gM aB) cB qQ (aQ (aL (aF aB (aF aB (aF aB aP)))))))))
   (aV (iY (nP (aO (eY aB) bK)) cB (iY (aEP (aO aB (aO (eY aB) bK))) cB (dD (lD (aQ (aL (aF (aU aB aB) (aF (aU aB aB) aP))))) (bD (aX (cH (aO (aU aB aB) (aO (aU aB aB) bK))))) dF)))
   (bD (aX zP))))):VS P0 _ a80)⟩
abbrev p7:AO:=top 44
theorem sc_law_lowest:FnScope ["_law_top", "_law_bottom", "_law_one", "_law_other"] ["_law_top", "_law_bottom"] (aW p7):=scM
theorem a3C  (F:Fun K "_law_lowest" "_law_lowest" p7 f fd)(B:Bl K mg)(Kt:Kit K) :
  FnOk P w K mg base CX0 1 f fd ["_law_top", "_law_bottom"] (spM P0 2 cR):=
 F.okV sc_law_lowest rfl rfl fun cdv A outer s H E hr=>
 have hu:=hr.units
 ⟨_,(aJ (bJ (i:=2) sc_law_lowest.nd rfl (by walk_at "lc") (bR sW rfl B.abs_ ER (aA (pv 0) aC)))
   (aJ (bJ (i:=3) sc_law_lowest.nd rfl (by walk_at "lc") (pv 1))
   (aJ (uB BC (bL aCE (pv 3) aD (bV _)) (aM (a9J (i:=2) (j:=3) rfl sc_law_lowest.nd rfl rfl (by decide) rfl rfl (aA (pv 3) (aA (bT t6 (pv 2) (pv 3)) aC)) rfl)))
   (aM (bC (cD (aA (bT xK (pv 0) (pv 2)) (aA (bT xK (pv 1) (pv 2)) aC)))))))),
  ((aV (bI (aX (aE6 aB)))
   (aV (bI (aX aB))
   (aV (t8 (bQ (aD3 aB aH)) (a9R (aO aB (aO (aJR aB aB) bK))))
   (bD (aX (cH (aO (a2L aB aB) (aO (a2L aB aB) bK)))))))):VS P0 _ pO)⟩
abbrev pB:AO:=top 45
theorem sc_law_number:FnScope ["_law_pen", "_law_wide", "_law_way", "_law_top"] ["_law_pen", "_law_wide"] (aW pB):=scM
theorem a3K  (F:Fun K "_law_number" "_law_number" pB f fd)(B:Bl K mg)(Kt:Kit K)
  (ac:gD P0 P w K mg base)
  (a8:rH P0 P w K mg base) :
  FnOk P w K mg base CX0 2 f fd ["_law_pen", "_law_wide"] (spM P0 2 iG):=
 F.okV sc_law_number rfl rfl fun cdv A outer s H E hr=>
 have hu:=hr.units
 ⟨_,(aJ (bJ (i:=2) sc_law_number.nd rfl (by walk_at "lc") (aG a8 hr rfl (aA (pv 0) (aA (aR aK (gH (aA aD (aA aD aC))) (m7 aFX rfl B.int_ boot_int (aA (pv 1) aC)) (fun _ _=>rfl)) aC))))
   (aJ (cV (bL uU (pv 2) aD (bV _)) (aM (bC (cD (aA (bT iB (aG a8 hr rfl (aA (pv 0) (aA aD aC))) aD) (aA aD aC))))) bU)
   (aJ (cV (bL (oE hu) (pv 2) aD (bV _)) (aM (bC (aG ac hr rfl (aA (bT iB (aG a8 hr rfl (aA (pv 0) (aA aD aC))) aD) (aA (bT jT aD (aG a8 hr rfl (aA (pv 0) (aA aD aC)))) aC))))) bU)
   (aJ (cV (bL uU (pv 2) aD (bV _)) (aM (bC (aG ac hr rfl (aA (bT iB (aG a8 hr rfl (aA (pv 0) (aA aD aC))) aD) (aA (bT jT aD (aG a8 hr rfl (aA (pv 0) (aA aD aC)))) aC))))) bU)
   (aJ (bJ (i:=3) sc_law_number.nd rfl (by walk_at "lc") (bT jT (bT bW (aG a8 hr rfl (aA (pv 0) (aA (uI (v:=1000000000) (by decide) ⟨by decide,by decide,by decide⟩) aC))) (uI (v:=1000000000) (by decide) ⟨by decide,by decide,by decide⟩)) (aG a8 hr rfl (aA (pv 0) (aA (uI (v:=1000000000) (by decide) ⟨by decide,by decide,by decide⟩) aC)))))
   (aM (bC (aG ac hr rfl (aA (bT bW (pv 3) (aR aK (gH (aA aD (aA (aF8 a6I aD) aC))) (aG a8 hr rfl (aA (pv 0) (aA aD aC))) (fun _ _=>rfl))) (aA (bT jT aD (aG a8 hr rfl (aA (pv 0) (aA aD aC)))) aC)))))))))),
  ((aV (bI (aX (aQ (aL (dB (aF (aU (aQ (iW (aO aH (aO aH bK)))) (aL6 aB)) aP))))))
   (aV (dD (bQ (a02 aB aH)) (bD (aX (cH (aO (iJ (aQ (aL (dB (aF aH aP)))) aH) (aO aH bK))))) dF)
   (aV (dD (bQ (wU aB aH)) (bD (aL (aF (iJ (aQ (aL (dB (aF aH aP)))) aH) (aF (tH aH (aQ (aL (dB (aF aH aP))))) aP)))) dF)
   (aV (dD (bQ (a02 aB aH)) (bD (aL (aF (iJ (aQ (aL (dB (aF aH aP)))) aH) (aF (tH aH (aQ (aL (dB (aF aH aP))))) aP)))) dF)
   (aV (bI (aX (tH (cC (aQ (aL (dB (aF aH aP)))) aH) (aQ (aL (dB (aF aH aP)))))))
   (bD (aL (aF (cC aB (aU (aQ (iW (aO aH (aO (a6N aH) bK)))) (aQ (aL (dB (aF aH aP)))))) (aF (tH aH (aQ (aL (dB (aF aH aP))))) aP))))))))):VS P0 _ oR)⟩
abbrev nW:AO:=top 46
theorem sc_law_through:FnScope ["_law_time_here", "_law_place", "_law_slope", "_law_top"] ["_law_time_here", "_law_place", "_law_slope"] (aW nW):=scM
theorem a0L  (F:Fun K "_law_through" "_law_through" nW f fd)(B:Bl K mg)(Kt:Kit K)
  (ac:gD P0 P w K mg base) :
  FnOk P w K mg base CX0 2 f fd ["_law_time_here", "_law_place", "_law_slope"] (spM P0 3 j9):=
 F.okV sc_law_through rfl rfl fun cdv A outer s H E hr=>
 have hu:=hr.units
 ⟨_,(aJ (bJ (i:=3) sc_law_through.nd rfl (by walk_at "lc") (bT iB (bT bW (bT bW (aR aK (pv 1) aD (fun _ _=>rfl)) (aR aK (pv 2) aD (fun _ _=>rfl))) (aR aK (pv 0) aD (fun _ _=>rfl))) (bT bW (bT bW (aR aK (pv 2) aD (fun _ _=>rfl)) (aR aK (pv 0) aD (fun _ _=>rfl))) (aR aK (pv 1) aD (fun _ _=>rfl)))))
   (aM (bC (cD (aA (aG ac hr rfl (aA (pv 3) (aA (bT bW (bT bW (aR aK (pv 1) aD (fun _ _=>rfl)) (aR aK (pv 2) aD (fun _ _=>rfl))) (aR aK (pv 0) aD (fun _ _=>rfl))) aC))) (aA (pv 2) aC)))))),
  ((aV (bI (aX (iJ (cC (cC (aU aB aH) (aU aB aH)) (aU aB aH)) (cC (cC (aU aB aH) (aU aB aH)) (aU aB aH)))))
   (bD (aX (cH (aO (aQ (aL (aF aB (aF (cC (cC (aU aB aH) (aU aB aH)) (aU aB aH)) aP)))) (aO aB bK)))))):VS P0 _ nF)⟩
abbrev uV:AO:=top 48
theorem sc_law_spot:FnScope ["_law_line", "_law_time_here", "_law_start", "_law_slope", "_law_top"] ["_law_line", "_law_time_here"] (aW uV):=scM
theorem a8I  (F:Fun K "_law_spot" "_law_spot" uV f fd)(B:Bl K mg)(Kt:Kit K)
  (ac:gD P0 P w K mg base) :
  FnOk P w K mg base CX0 2 f fd ["_law_line", "_law_time_here"] (spM P0 2 lY):=
 F.okV sc_law_spot rfl rfl fun cdv A outer s H E hr=>
 have hu:=hr.units
 ⟨_,(aJ (aB2 (pv 0) (a6E rfl (gR (cA (i:=2) sc_law_spot.nd rfl (by walk_at "lc")) (gR (cA (i:=3) sc_law_spot.nd rfl (by walk_at "lc")) yN))))
   (aJ (bJ (i:=4) sc_law_spot.nd rfl (by walk_at "lc") (bT bW (bT bW (aR aK (pv 2) aD (fun _ _=>rfl)) (aR aK (pv 3) aD (fun _ _=>rfl))) (aR aK (pv 1) aD (fun _ _=>rfl))))
   (aJ (bJ (i:=4) sc_law_spot.nd rfl (by walk_at "lc") (bT jT (pv 4) (bT bW (bT bW (aR aK (pv 3) aD (fun _ _=>rfl)) (aR aK (pv 1) aD (fun _ _=>rfl))) (aR aK (pv 2) aD (fun _ _=>rfl)))))
   (aM (bC (aG ac hr rfl (aA (pv 4) (aA (bT bW (bT bW (aR aK (pv 2) aD (fun _ _=>rfl)) (aR aK (pv 3) aD (fun _ _=>rfl))) (aR aK (pv 1) aD (fun _ _=>rfl))) aC)))))))),
  ((aV (aMC aB (a5L (gU cB (gU cB zT))))
   (aV (bI (aX (cC (cC (aU aB aH) (aU aB aH)) (aU aB aH))))
   (aV (bI (aX (tH aB (cC (cC (aU aB aH) (aU aB aH)) (aU aB aH)))))
   (bD (aL (aF aB (aF (cC (cC (aU aB aH) (aU aB aH)) (aU aB aH)) aP))))))):VS P0 _ uO)⟩
abbrev sJ:AO:=top 47
theorem sc_law_lines:FnScope ["_law_pen", "_law_most", "_law_wide", "_law_lines_here", "_law_k", "_law_line", "_law_way", "_law_elder", "_law_time_here", "_law_met_here"] ["_law_pen", "_law_most"] (aW sJ):=scM
theorem a6M  (F:Fun K "_law_lines" "_law_lines" sJ f fd)(B:Bl K mg)(Kt:Kit K)
  (a8:rH P0 P w K mg base)
  (cx:a0M P0 P w K mg base)
  (bc:zR P0 P w K mg base)
  (bu:a4P P0 P w K mg base) :
  FnOk P w K mg base CX0 3 f fd ["_law_pen", "_law_most"] (spM P0 2 nJ):=
 F.okV sc_law_lines rfl rfl fun cdv A outer s H E hr=>
 have hu:=hr.units
 ⟨_,(aJ (bJ (i:=2) sc_law_lines.nd rfl (by walk_at "lc") (pJ (oE hu) (aG a8 hr rfl (aA (pv 0) (aA aD aC))) aD (bV _)))
   (aJ (bJ (i:=3) sc_law_lines.nd rfl (by walk_at "lc") (gH aC))
   (aJ (iZ BC rfl (gG rfl B.range_ (aA (aG a8 hr rfl (aA (pv 0) (aA (bT jT (pv 1) aD) aC))) aC)) (cA (i:=4) sc_law_lines.nd rfl (by walk_at "lc")) (aJ (bJ (i:=5) sc_law_lines.nd rfl (by walk_at "lc") (cD (aA (aG bu hr rfl (aA (pv 0) (aA (pv 2) aC))) (aA (aG bu hr rfl (aA (pv 0) (aA (pv 2) aC))) aC))))
   (aJ (bJ (i:=6) sc_law_lines.nd rfl (by walk_at "lc") (aG a8 hr rfl (aA (pv 0) (aA aD aC))))
   (aJ (cV (PW.pt (a03 (bL aCE (pv 4) aD (bV _)) (rQ (bL uU (pv 6) aD (bV _))))) (aJ (bJ (i:=7) sc_law_lines.nd rfl (by walk_at "lc") (aR aK (pv 3) (aG a8 hr rfl (aA (pv 0) (aA (pv 4) aC))) (fun _ _=>rfl)))
   (aJ (bJ (i:=8) sc_law_lines.nd rfl (by walk_at "lc") (cD (aA (bT iB (aG a8 hr rfl (aA (pv 0) (aA aD aC))) aD) (aA aD aC))))
   (aJ (bJ (i:=9) sc_law_lines.nd rfl (by walk_at "lc") (cD (aA (aR aK (pv 7) aD (fun _ _=>rfl)) (aA (cD (aA (bT iB (aG a8 hr rfl (aA (pv 0) (aA aD aC))) aD) (aA aD aC))) aC))))
   (aJ (cV (sV (fG (pv 2))) (aM (bJ (i:=9) sc_law_lines.nd rfl (by walk_at "lc") (aG cx hr rfl (aA (pv 8) (aA (aG bc hr rfl (aA (pv 7) (aA (pv 8) aC))) (aA (aR aK (pv 5) aD (fun _ _=>rfl)) aC)))))) bU)
   (aM (bJ (i:=5) sc_law_lines.nd rfl (by walk_at "lc") (aR aK (gH (aA (pv 7) (aA (cD (aA (aR aK (pv 5) aD (fun _ _=>rfl)) (aA (aR aK (pv 7) aD (fun _ _=>rfl)) aC))) (aA (pv 9) (aA (pv 9) aC))))) (pv 6) (fun _ _=>rfl)))))))) bU)
   (aM (oW (a4W Ct Ds Du mK (pv 3) (aA (pv 5) aC))))))))
   (aM (bC (pv 3)))))),
  ((aV (bI (aX (wU (aQ (aL (dB (aF aH aP)))) aH)))
   (aV (bI (iW bK))
   (aV (iY (nP (aO (aQ (aL (dB (aF (tH aB aH) aP)))) bK)) cB (aV (bI (aX (cH (aO (aQ (aL (dB (aF aB aP)))) (aO (aQ (aL (dB (aF aB aP)))) bK)))))
   (aV (bI (aX (aQ (aL (dB (aF aH aP))))))
   (aV (dD (uR (bQ (aD3 aB aH)) (bQ (a02 aB aH))) (aV (bI (aX (aF2 (aU aB (aQ (aL (dB (aF aB aP))))))))
   (aV (bI (aX (cH (aO (iJ (aQ (aL (dB (aF aH aP)))) aH) (aO aH bK)))))
   (aV (bI (aX (cH (aO (aU aB aH) (aO (cH (aO (iJ (aQ (aL (dB (aF aH aP)))) aH) (aO aH bK))) bK)))))
   (aV (dD (nR (lD aB)) (bI (aX (aQ (aL (aF aB (aF (aQ (aL (aF aB (aF aB aP)))) (aF (aU aB aH) aP))))))) dF)
   (bI (aX (aU (aQ (iW (aO aB (aO (cH (aO (aU aB aH) (aO (aU aB aH) bK))) (aO aB (aO aB bK)))))) aB))))))) dF)
   (oZ aB)))))
   (bD uM)))):VS P0 _ rO)⟩
abbrev vH:AO:=top 49
theorem a8Z:FnScope ["_law_a", "_law_b"] ["_law_a", "_law_b"] (aW vH):=scM
theorem a8Y  (F:Fun K "_law_less" "_law_less" vH f fd)(B:Bl K mg)(Kt:Kit K) :
  FnOk P w K mg base CX0 1 f fd ["_law_a", "_law_b"] (spM P0 2 qP):=
 F.okV a8Z rfl rfl fun cdv A outer s H E hr=>
 have hu:=hr.units
 ⟨_,(aM (bC (pJ uU (bT bW (aR aK (pv 0) aD (fun _ _=>rfl)) (aR aK (pv 1) aD (fun _ _=>rfl))) (bT bW (aR aK (pv 1) aD (fun _ _=>rfl)) (aR aK (pv 0) aD (fun _ _=>rfl))) (bV _)))),
  ((bD (aX (a02 (cC (aU aB aH) (aU aB aH)) (cC (aU aB aH) (aU aB aH))))):VS P0 _ uQ)⟩
abbrev yG:AO:=top 52
theorem sc_law_met:FnScope ["_law_lines_here", "_law_one", "_law_other", "_law_a", "_law_b", "_law_top", "_law_bottom"] ["_law_lines_here", "_law_one", "_law_other"] (aW yG):=scM
theorem aCI  (F:Fun K "_law_met" "_law_met" yG f fd)(B:Bl K mg)(Kt:Kit K)
  (ac:gD P0 P w K mg base) :
  FnOk P w K mg base CX0 2 f fd ["_law_lines_here", "_law_one", "_law_other"] (spM P0 3 sX):=
 F.okV sc_law_met rfl rfl fun cdv A outer s H E hr=>
 have hu:=hr.units
 ⟨_,(aJ (a9J (i:=3) (j:=4) rfl sc_law_met.nd rfl rfl (by decide) rfl rfl (aA (aR aK (pv 0) (pv 1) (fun _ _=>rfl)) (aA (aR aK (pv 0) (pv 2) (fun _ _=>rfl)) aC)) rfl)
   (aJ (cV (bL (oE hu) (aR aK (pv 3) aD (fun _ _=>rfl)) (aR aK (pv 4) aD (fun _ _=>rfl)) (bV _)) (aM (bC jW)) bU)
   (aJ (bJ (i:=5) sc_law_met.nd rfl (by walk_at "lc") (bT bW (bT bW (bT iB (bT bW (aR aK (aR aK (pv 4) aD (fun _ _=>rfl)) aD (fun _ _=>rfl)) (aR aK (aR aK (pv 3) aD (fun _ _=>rfl)) aD (fun _ _=>rfl))) (bT bW (aR aK (aR aK (pv 3) aD (fun _ _=>rfl)) aD (fun _ _=>rfl)) (aR aK (aR aK (pv 4) aD (fun _ _=>rfl)) aD (fun _ _=>rfl)))) (aR aK (aR aK (pv 3) aD (fun _ _=>rfl)) aD (fun _ _=>rfl))) (aR aK (aR aK (pv 4) aD (fun _ _=>rfl)) aD (fun _ _=>rfl))))
   (aJ (bJ (i:=6) sc_law_met.nd rfl (by walk_at "lc") (bT bW (bT bW (bT iB (bT bW (aR aK (aR aK (pv 3) aD (fun _ _=>rfl)) aD (fun _ _=>rfl)) (aR aK (aR aK (pv 4) aD (fun _ _=>rfl)) aD (fun _ _=>rfl))) (bT bW (aR aK (aR aK (pv 4) aD (fun _ _=>rfl)) aD (fun _ _=>rfl)) (aR aK (aR aK (pv 3) aD (fun _ _=>rfl)) aD (fun _ _=>rfl)))) (aR aK (aR aK (pv 3) aD (fun _ _=>rfl)) aD (fun _ _=>rfl))) (aR aK (aR aK (pv 4) aD (fun _ _=>rfl)) aD (fun _ _=>rfl))))
   (aJ (cV (bL uU (pv 6) aD (bV _)) (aM (a9J (i:=5) (j:=6) rfl sc_law_met.nd rfl rfl (by decide) rfl rfl (aA (bT iB aD (pv 5)) (aA (bT iB aD (pv 6)) aC)) rfl)) bU)
   (aM (bC (aG ac hr rfl (aA (pv 5) (aA (pv 6) aC)))))))))),
  ((aV (a9R (aO (aU aB aB) (aO (aU aB aB) bK)))
   (aV (dD (bQ (wU (aU aB aH) (aU aB aH))) (bD (aX zP)) dF)
   (aV (bI (aX (cC (cC (iJ (cC (aU (aU aB aH) aH) (aU (aU aB aH) aH)) (cC (aU (aU aB aH) aH) (aU (aU aB aH) aH))) (aU (aU aB aH) aH)) (aU (aU aB aH) aH))))
   (aV (bI (aX (cC (cC (iJ (cC (aU (aU aB aH) aH) (aU (aU aB aH) aH)) (cC (aU (aU aB aH) aH) (aU (aU aB aH) aH))) (aU (aU aB aH) aH)) (aU (aU aB aH) aH))))
   (aV (dD (bQ (a02 aB aH)) (a9R (aO (iJ aH aB) (aO (iJ aH aB) bK))) dF)
   (bD (aL (aF aB (aF aB aP))))))))):VS P0 _ zM)⟩
abbrev vL:AO:=top 54
theorem sc_law_time:FnScope ["_law_pen", "_law_lines_here", "_law_way", "_law_one", "_law_other", "_law_time_here"] ["_law_pen", "_law_lines_here"] (aW vL):=scM
theorem a8G  (F:Fun K "_law_time" "_law_time" vL f fd)(B:Bl K mg)(Kt:Kit K)
  (ac:gD P0 P w K mg base)
  (a8:rH P0 P w K mg base)
  (cy:aCC P0 P w K mg base) :
  FnOk P w K mg base CX0 3 f fd ["_law_pen", "_law_lines_here"] (spM P0 2 mD):=
 F.okV sc_law_time rfl rfl fun cdv A outer s H E hr=>
 have hu:=hr.units
 ⟨_,(aJ (bJ (i:=2) sc_law_time.nd rfl (by walk_at "lc") (aG a8 hr rfl (aA (pv 0) (aA aD aC))))
   (aJ (cV (PW.pt (a03 (bL uU (pv 2) aD (bV _)) (rQ (bL aCE (bR bF rfl B.len_ Ay (aA (pv 1) aC)) aD (bV _))))) (aJ (bJ (i:=3) sc_law_time.nd rfl (by walk_at "lc") (aG a8 hr rfl (aA (pv 0) (aA (bR bF rfl B.len_ Ay (aA (pv 1) aC)) aC))))
   (aJ (bJ (i:=4) sc_law_time.nd rfl (by walk_at "lc") (aG a8 hr rfl (aA (pv 0) (aA (bR bF rfl B.len_ Ay (aA (pv 1) aC)) aC))))
   (aJ (bJ (i:=5) sc_law_time.nd rfl (by walk_at "lc") (aG cy hr rfl (aA (pv 1) (aA (pv 3) (aA (pv 4) aC)))))
   (aM (cV (bL a7U (pv 5) jW (bV _)) (aM (bC (pv 5))) bU))))) bU)
   (aJ (cV (bL (oE hu) (pv 2) aD (bV _)) (aM (bC (cD (aA (bT bW (bT bW (aG a8 hr rfl (aA (pv 0) (aA (uI (v:=1000000000) (by decide) ⟨by decide,by decide,by decide⟩) aC))) (aR aK (gH (aA aD (aA (aF8 a6I aD) aC))) (aG a8 hr rfl (aA (pv 0) (aA aD aC))) (fun _ _=>rfl))) (uI (v:=1000000) (by decide) ⟨by decide,by decide,by decide⟩)) (aA aD aC))))) bU)
   (aM (bC (aG ac hr rfl (aA (bT iB (aG a8 hr rfl (aA (pv 0) (aA aD aC))) aD) (aA (bT jT aD (aG a8 hr rfl (aA (pv 0) (aA aD aC)))) aC)))))))),
  ((aV (bI (aX (aQ (aL (dB (aF aH aP))))))
   (aV (dD (uR (bQ (a02 aB aH)) (bQ (aD3 (eY aB) aH))) (aV (bI (aX (aQ (aL (dB (aF (eY aB) aP))))))
   (aV (bI (aX (aQ (aL (dB (aF (eY aB) aP))))))
   (aV (bI (aX (aQ (aL (aF aB (aF aB (aF aB aP)))))))
   (dD (bQ (a8M aB)) (bD (aX aB)) dF)))) dF)
   (aV (dD (bQ (wU aB aH)) (bD (aX (cH (aO (cC (cC (aQ (aL (dB (aF aH aP)))) (aU (aQ (iW (aO aH (aO (a6N aH) bK)))) (aQ (aL (dB (aF aH aP)))))) aH) (aO aH bK))))) dF)
   (bD (aL (aF (iJ (aQ (aL (dB (aF aH aP)))) aH) (aF (tH aH (aQ (aL (dB (aF aH aP))))) aP))))))):VS P0 _ uP)⟩
abbrev rJ:AO:=top 55
theorem a6T:FnScope ["_law_number_here"] ["_law_number_here"] (aW rJ):=scM
theorem a7H  (F:Fun K "_law_below" "_law_below" rJ f fd)(B:Bl K mg)(Kt:Kit K) :
  FnOk P w K mg base CX0 1 f fd ["_law_number_here"] (spM P0 1 cP):=
 F.okV a6T rfl rfl fun cdv A outer s H E hr=>
 have hu:=hr.units
 ⟨_,(aM (bC (cD (aA (bT iB aD (aR aK (pv 0) aD (fun _ _=>rfl))) (aA (aR aK (pv 0) aD (fun _ _=>rfl)) aC))))),
  ((bD (aX (cH (aO (iJ aH (aU aB aH)) (aO (aU aB aH) bK))))):VS P0 _ rP)⟩
abbrev iR:AO:=top 56
theorem sc_law_turned_row:FnScope ["_law_row", "_law_found", "_law_k", "_law_since"] ["_law_row"] (aW iR):=scM
theorem vJ  (F:Fun K "_law_turned_row" "_law_turned_row" iR f fd)(B:Bl K mg)(Kt:Kit K)
  (ab:wJ P0 P w K mg base) :
  FnOk P w K mg base CX0 2 f fd ["_law_row"] (spM P0 1 cI):=
 F.okV sc_law_turned_row rfl rfl fun cdv A outer s H E hr=>
 have hu:=hr.units
 ⟨_,(aJ (bJ (i:=1) sc_law_turned_row.nd rfl (by walk_at "lc") (gH aC))
   (aJ (iZ BC rfl (gG rfl B.range_ (aA (bR bF rfl B.len_ Ay (aA (pv 0) aC)) aC)) (cA (i:=2) sc_law_turned_row.nd rfl (by walk_at "lc")) (aJ (bJ (i:=3) sc_law_turned_row.nd rfl (by walk_at "lc") jW)
   (aJ (cV (bL aCE (pv 2) aD (bV _)) (aM (bJ (i:=3) sc_law_turned_row.nd rfl (by walk_at "lc") (aG ab hr rfl (aA (aR aK (aR aK (pv 0) (bT iB (bR bF rfl B.len_ Ay (aA (pv 0) aC)) (pv 2)) (fun _ _=>rfl)) aD (fun _ _=>rfl)) aC)))) bU)
   (aM (oW (a4W Ct Ds Du mK (pv 1) (aA (cD (aA (aR aK (aR aK (pv 0) (bT iB (bT iB (bR bF rfl B.len_ Ay (aA (pv 0) aC)) aD) (pv 2)) (fun _ _=>rfl)) aD (fun _ _=>rfl)) (aA (pv 3) aC))) aC)))))))
   (aM (bC (pv 1))))),
  ((aV (bI (iW bK))
   (aV (iY (nP (aO (eY aB) bK)) cB (aV (bI (aX zP))
   (aV (dD (bQ (aD3 aB aH)) (bI (aX (aQ (aL (aF (aU (aU aB (iJ (eY aB) aB)) aH) aP))))) dF)
   (oZ (cH (aO (aU (aU aB (iJ (iJ (eY aB) aH) aB)) aH) (aO aB bK)))))))
   (bD uM))):VS P0 _ fL)⟩
abbrev nO:AO:=top 57
theorem sc_law_level:FnScope ["_law_lines_here", "_law_time_here", "_law_some", "_law_spots", "_law_line"] ["_law_lines_here", "_law_time_here"] (aW nO):=scM
theorem a7A  (F:Fun K "_law_level" "_law_level" nO f fd)(B:Bl K mg)(Kt:Kit K)
  (bc:zR P0 P w K mg base) :
  FnOk P w K mg base CX0 3 f fd ["_law_lines_here", "_law_time_here"] (spM P0 2 nA):=
 F.okV sc_law_level rfl rfl fun cdv A outer s H E hr=>
 have hu:=hr.units
 ⟨_,(aJ (bJ (i:=2) sc_law_level.nd rfl (by walk_at "lc") (bR (aB8 rfl hu) rfl B.sorted_ Fs (aA (m7 (aDO rfl hu) rfl B.set_ boot_set (aA (pv 0) aC)) aC)))
   (aJ (uY (N:=["_law_line", "_law_time_here"]) (nt:=1) (fv:=[1]) (i:=3) sc_law_level.nd rfl rfl rfl (rE (osc:=aW nO) (ON:=["_law_lines_here", "_law_time_here", "_law_some", "_law_spots", "_law_line"]) (by decide +kernel)) (gO (pv 2)) (fun _ _ _ _=>(cA (i:=0) (show(["_law_line", "_law_time_here"]:List Str).Nodup by decide +kernel) rfl (by walk_at "lc"))) (fun _ _ _ _=>vA) (fun _ _ _ _=>(aG bc hr rfl (aA (pv 0) (aA (pv 1) aC)))))
   (aM (bC (pJ uU (bR a74 rfl B.len_ Ay (aA (m7 (aCW rfl hu) rfl B.set_ boot_set (aA (pv 3) aC)) aC)) (bR bF rfl B.len_ Ay (aA (pv 3) aC)) (bV _)))))),
  ((aV (bI (aX (aQ (aBH aB))))
   (aV (bI (aX (aQ (lK (gM aB) cB qQ (aQ (aL (aF aB (aF aB aP))))))))
   (bD (aX (a02 (aBK aB) (eY aB)))))):VS P0 _ rK)⟩
abbrev cM:AO:=top 58
theorem sc_law_changes_right:FnScope ["_law_lines_here", "_law_mirrored", "_law_low", "_law_high", "_law_there", "_law_one", "_law_due", "_law_time_here", "_law_pairs", "_law_other", "_law_found"] ["_law_lines_here", "_law_mirrored", "_law_low", "_law_high"] (aW cM):=scM
theorem qW  (F:Fun K "_law_changes_right" "_law_changes_right" cM f fd)(B:Bl K mg)(Kt:Kit K)
  (ab:wJ P0 P w K mg base)
  (bv:aEH P0 P w K mg base) :
  FnOk P w K mg base CX0 7 f fd ["_law_lines_here", "_law_mirrored", "_law_low", "_law_high"] (spM P0 4 dM):=
 F.okV sc_law_changes_right rfl rfl fun cdv A outer s H E hr=>
 have hu:=hr.units
 ⟨_,(aJ (uY (N:=["_law_one", "_law_high"]) (nt:=1) (fv:=[3]) (i:=4) sc_law_changes_right.nd rfl rfl rfl (rE (osc:=aW cM) (ON:=["_law_lines_here", "_law_mirrored", "_law_low", "_law_high", "_law_there", "_law_one", "_law_due", "_law_time_here", "_law_pairs", "_law_other", "_law_found"]) (by decide +kernel)) (gO (aG bv hr rfl (aA (pv 0) (aA (pv 2) (aA (pv 3) aC))))) (fun _ _ _ _=>(cA (i:=0) (show(["_law_one", "_law_high"]:List Str).Nodup by decide +kernel) rfl (by walk_at "lc"))) (fun _ _ _ _=>(a3P (bL (jO hu) (aR aK (pv 0) aD (fun _ _=>rfl)) (pv 1) (bV _)))) (fun _ _ _ _=>(pv 0)))
   (aJ (bJ (i:=6) sc_law_changes_right.nd rfl (by walk_at "lc") (gH aC))
   (aJ (iZ BC rfl (gO (aLI (pv 4) (aF8 a6I aD))) (a6E rfl (gR (cA (i:=7) sc_law_changes_right.nd rfl (by walk_at "lc")) (gR (cA (i:=8) sc_law_changes_right.nd rfl (by walk_at "lc")) yN))) (aM (oW (a4W Ct Ds Du mK (pv 6) (aA (cD (aA (aG ab hr rfl (aA (pv 7) aC)) (aA (bR a1X rfl B.sorted_ Fs (aA (xN (N:=["_law_one", "_law_other"]) (nt:=2) (fv:=[]) rfl (rE (osc:=aW cM) (ON:=["_law_lines_here", "_law_mirrored", "_law_low", "_law_high", "_law_there", "_law_one", "_law_due", "_law_time_here", "_law_pairs", "_law_other", "_law_found"]) (by decide +kernel)) (gO (pv 8)) (fun _ _ _ _=>(a6E rfl (gR (cA (i:=0) (show(["_law_one", "_law_other"]:List Str).Nodup by decide +kernel) rfl (by walk_at "lc")) (gR (cA (i:=1) (show(["_law_one", "_law_other"]:List Str).Nodup by decide +kernel) rfl (by walk_at "lc")) yN)))) (fun _ _ _ _=>vA) (fun _ _ _ _=>(cD (aA (pv 1) (aA (pv 0) aC))))) aC)) aC))) aC)))))
   (aJ (bJ (i:=10) sc_law_changes_right.nd rfl (by walk_at "lc") (aG bv hr rfl (aA (pv 1) (aA (aG ab hr rfl (aA (pv 3) aC)) (aA (aG ab hr rfl (aA (pv 2) aC)) aC)))))
   (aM (bC (pJ (oE hu) (xN (N:=["_law_one", "_law_low"]) (nt:=1) (fv:=[2]) rfl (rE (osc:=aW cM) (ON:=["_law_lines_here", "_law_mirrored", "_law_low", "_law_high", "_law_there", "_law_one", "_law_due", "_law_time_here", "_law_pairs", "_law_other", "_law_found"]) (by decide +kernel)) (gO (pv 10)) (fun _ _ _ _=>(cA (i:=0) (show(["_law_one", "_law_low"]:List Str).Nodup by decide +kernel) rfl (by walk_at "lc"))) (fun _ _ _ _=>(a3P (bL (jO hu) (aR aK (pv 0) aD (fun _ _=>rfl)) (aG ab hr rfl (aA (pv 1) aC)) (bV _)))) (fun _ _ _ _=>(pv 0))) (pv 6) (bV _)))))))),
  ((aV (bI (aX (aQ (lK (gM (aQ (aL (aF aB (aF aB (aF aB aP)))))) cB (bQ (rM (aU aB aH) aB)) aB))))
   (aV (bI (iW bK))
   (aV (iY (gM (aQ (aK6 aB (a6N aH)))) (a5L (gU cB (gU cB zT))) (oZ (cH (aO (aQ (aL (aF aB aP))) (aO (aQ (a9C (aQ (lK (gM aB) (a5L (gU cB (gU cB zT))) qQ (cH (aO aB (aO aB bK))))))) bK)))))
   (aV (bI (aX (aQ (aL (aF aB (aF (aQ (aL (aF aB aP))) (aF (aQ (aL (aF aB aP))) aP)))))))
   (aJE (bD (aX (wU (aQ (lK (gM aB) cB (bQ (rM (aU aB aH) (aQ (aL (aF aB aP))))) aB)) aB)))))))):VS P0 _ fP)⟩
abbrev aI6:AO:=top 59
theorem sc_law:FnScope ["_law_script", "_law_pen", "_law_lines_here", "_law_mirrored", "_law_start", "_law_slope", "_law_turn", "_law_k", "_law_told", "_law_low", "_law_high", "_law_time_here"] ["_law_script"] (aW aI6):=scM
theorem aNQ  (F:Fun K "law" "law" aI6 f fd)(B:Bl K mg)(Kt:Kit K)
  (bf:∀ a ns,Cal P w K mg base 3 "_law_level" ["_law_lines_here", "_law_time_here"] (spM (fX K a ns) 2 nA))
  (au:∀ a ns,Cal P w K mg base 8 "nearest" ["lines", "time"] (spM (fX K a ns) 2 pG))
  (ab:∀ a ns,Cal P w K mg base 1 "_law_below" ["_law_number_here"] (spM (fX K a ns) 1 cP))
  (af:∀ a ns,Cal P w K mg base 7 "order_at" ["lines", "time"] (spM (fX K a ns) 2 eV))
  (bg:∀ a ns,Cal P w K mg base 7 "_law_changes_right" ["_law_lines_here", "_law_mirrored", "_law_low", "_law_high"] (spM (fX K a ns) 4 dM))
  (bh:∀ a ns,Cal P w K mg base 1 "_law_less" ["_law_a", "_law_b"] (spM (fX K a ns) 2 qP))
  (aw:∀ a ns,Cal P w K mg base 3 "_law_time" ["_law_pen", "_law_lines_here"] (spM (fX K a ns) 2 mD))
  (bi:∀ a ns,Cal P w K mg base 8 "is_cover" ["lines", "runner", "one", "other"] (spM (fX K a ns) 4 qF))
  (ax:∀ a ns,Cal P w K mg base 8 "cover" ["lines", "runner"] (spM (fX K a ns) 2 zL))
  (ay:∀ a ns,Cal P w K mg base 8 "rank_row" ["lines", "k"] (spM (fX K a ns) 2 lV))
  (az:∀ a ns,Cal P w K mg base 2 "_law_turned_row" ["_law_row"] (spM (fX K a ns) 1 cI))
  (a8:∀ a ns,Cal P w K mg base 1 "_law_take" ["_law_pen", "_law_many"] (spM (fX K a ns) 2 bN))
  (b5:∀ a ns,Cal P w K mg base 9 "leaders" ["lines"] (spM (fX K a ns) 1 pR))
  (bj:∀ a ns,Cal P w K mg base 3 "_law_lines" ["_law_pen", "_law_most"] (spM (fX K a ns) 2 nJ))
  (hL:aC3 (.no::.pen::List.replicate 10 .no) o4) :
  FnOk P w K mg base CX0 10 f fd ["_law_script"] (aH4 K):=by
 refine F.ok sc_law (fun vs H Q E h=>?_) (fun cdv A outer s H vs Q E hr h=>?_)
 ·obtain⟨a,ns,rfl,hS,h63,q⟩:=h;rfl
 have hu:=hr.units;obtain⟨a,ns,rfl,hS,h63,q⟩:=h;have bf:=bf a ns;have au:=au a ns;have ab:=ab a ns;have af:=af a ns;have bg:=bg a ns;have bh:=bh a ns;have aw:=aw a ns;have bi:=bi a ns;have ax:=ax a ns;have ay:=ay a ns;have az:=az a ns;have a8:=a8 a ns;have b5:=b5 a ns;have bj:=bj a ns;exact law_body2 (k:=10) (bJ (i:=1) sc_law.nd rfl (by walk_at "lc") (gH (aA aD (aA aD (aA (pv 0) aC))))) ⟨_,(aJ (bJ (i:=2) sc_law.nd rfl (by walk_at "lc") (aG bj hr rfl (aA (pv 1) (aA aD aC))))
   (aJ (uY (N:=["_law_start", "_law_slope"]) (nt:=2) (fv:=[]) (i:=3) sc_law.nd rfl rfl rfl (rE (osc:=aW aI6) (ON:=["_law_script", "_law_pen", "_law_lines_here", "_law_mirrored", "_law_start", "_law_slope", "_law_turn", "_law_k", "_law_told", "_law_low", "_law_high", "_law_time_here"]) (by decide +kernel)) (gO (pv 2)) (fun _ _ _ _=>(a6E rfl (gR (cA (i:=0) (show(["_law_start", "_law_slope"]:List Str).Nodup by decide +kernel) rfl (by walk_at "lc")) (gR (cA (i:=1) (show(["_law_start", "_law_slope"]:List Str).Nodup by decide +kernel) rfl (by walk_at "lc")) yN)))) (fun _ _ _ _=>vA) (fun _ _ _ _=>(cD (aA (pv 0) (aA (aG ab hr rfl (aA (pv 1) aC)) aC)))))
   (aJ (cV (bL (jO hu) (aG b5 hr rfl (aA (pv 3) aC)) (aG az hr rfl (aA (aG b5 hr rfl (aA (pv 2) aC)) aC)) (bV _)) (aM (bC zW)) bU)
   (aJ (iZ BC rfl (gG rfl B.range_ (aA aD aC)) (cA (i:=6) sc_law.nd rfl (by walk_at "lc")) (aJ (bJ (i:=7) sc_law.nd rfl (by walk_at "lc") (aG a8 hr rfl (aA (pv 1) (aA (bT jT (bR bF rfl B.len_ Ay (aA (pv 2) aC)) aD) aC))))
   (aM (cV (bL (jO hu) (aG ay hr rfl (aA (pv 3) (aA (pv 7) aC))) (aG az hr rfl (aA (aG ay hr rfl (aA (pv 2) (aA (pv 7) aC))) aC)) (bV _)) (aM (bC zW)) bU))))
   (aJ (iZ BC rfl (gG rfl B.range_ (aA (bR bF rfl B.len_ Ay (aA (pv 2) aC)) aC)) (cA (i:=7) sc_law.nd rfl (by walk_at "lc")) (aJ (bJ (i:=8) sc_law.nd rfl (by walk_at "lc") (aG ax hr rfl (aA (pv 2) (aA (pv 7) aC))))
   (aJ (cV (bL (jO hu) (pJ a98 (pv 8) jW (bV _)) (pJ a98 (aG ax hr rfl (aA (pv 3) (aA (pv 7) aC))) jW (bV _)) (bV _)) (aM (bC zW)) bU)
   (aM (cV (PW.pt (a03 (bL a7U (pv 8) jW (bV _)) (rQ (sV (fG (aG bi hr rfl (aA (pv 3) (aA (pv 7) (aA (aR aK (pv 8) aD (fun _ _=>rfl)) (aA (aR aK (pv 8) aD (fun _ _=>rfl)) aC)))))))))) (aM (bC zW)) bU)))))
   (aJ (bJ (i:=9) sc_law.nd rfl (by walk_at "lc") (aG aw hr rfl (aA (pv 1) (aA (pv 2) aC))))
   (aJ (bJ (i:=10) sc_law.nd rfl (by walk_at "lc") (aG aw hr rfl (aA (pv 1) (aA (pv 2) aC))))
   (aJ (cV (fG (aG bh hr rfl (aA (pv 10) (aA (pv 9) aC)))) (aM (a9J (i:=9) (j:=10) rfl sc_law.nd rfl rfl (by decide) rfl rfl (aA (pv 10) (aA (pv 9) aC)) rfl)) bU)
   (aJ (cV (sV (fG (aG bg hr rfl (aA (pv 2) (aA (pv 3) (aA (pv 9) (aA (pv 10) aC))))))) (aM (bC zW)) bU)
   (aJ (iZ BC rfl (aMK (cD (aA (pv 9) (aA (pv 10) aC)))) (cA (i:=11) sc_law.nd rfl (by walk_at "lc")) (aM (cV (sV (fG (aG bf hr rfl (aA (pv 2) (aA (pv 11) aC))))) (aJ (cV (bL (jO hu) (aG af hr rfl (aA (pv 3) (aA (aG ab hr rfl (aA (pv 11) aC)) aC))) (aG af hr rfl (aA (pv 2) (aA (pv 11) aC))) (bV _)) (aM (bC zW)) bU)
   (aM (cV (bL (jO hu) (aG au hr rfl (aA (pv 3) (aA (aG ab hr rfl (aA (pv 11) aC)) aC))) (aG au hr rfl (aA (pv 2) (aA (pv 11) aC))) (bV _)) (aM (bC zW)) bU))) bU)))
   (aM (bC zW)))))))))))),
  ((aV (bI (aX (aQ (aL (dB (aF aH aP))))))
   (aV (bI (aX (aQ (lK (gM aB) (a5L (gU cB (gU cB zT))) qQ (cH (aO aB (aO (aQ (aL (aF aB aP))) bK)))))))
   (aV (dD (bQ (rM (aQ (aL (aF aB aP))) (aQ (aL (aF (aQ (aL (aF aB aP))) aP))))) (bD (aX z7)) dF)
   (aV (iY (nP (aO aH bK)) cB (aV (bI (aX (aQ (aL (dB (aF (tH (eY aB) aH) aP))))))
   (dD (bQ (rM (aQ (aL (aF aB (aF aB aP)))) (aQ (aL (aF (aQ (aL (aF aB (aF aB aP)))) aP))))) (bD (aX z7)) dF)))
   (aV (iY (nP (aO (eY aB) bK)) cB (aV (bI (aX (aQ (aL (aF aB (aF aB aP))))))
   (aV (dD (bQ (rM (a9B aB) (a9B (aQ (aL (aF aB (aF aB aP))))))) (bD (aX z7)) dF)
   (dD (uR (bQ (a8M aB)) (nR (lD (aQ (aL (aF aB (aF aB (aF (aU aB aH) (aF (aU aB aH) aP))))))))) (bD (aX z7)) dF))))
   (aV (bI (aX (aQ (aL (dB (aF aB aP))))))
   (aV (bI (aX (aQ (aL (dB (aF aB aP))))))
   (aV (dD (lD (aQ (aL (aF aB (aF aB aP))))) (a9R (aO aB (aO aB bK))) dF)
   (aV (dD (nR (lD (aQ (aL (aF aB (aF aB (aF aB (aF aB aP)))))))) (bD (aX z7)) dF)
   (aV (iY (aML (cH (aO aB (aO aB bK)))) cB (dD (nR (lD (aQ (aL (aF aB (aF aB aP)))))) (aV (dD (bQ (rM (aQ (aL (aF aB (aF (aQ (aL (aF aB aP))) aP)))) (aQ (aL (aF aB (aF aB aP)))))) (bD (aX z7)) dF)
   (dD (bQ (rM (aQ (aL (aF aB (aF (aQ (aL (aF aB aP))) aP)))) (aQ (aL (aF aB (aF aB aP)))))) (bD (aX z7)) dF)) dF))
   (bD (aX z7)))))))))))):VS (fX K a ns) _ aC3)⟩ rfl hS hL q
end
section
variable {Q:Rv→Prop}
theorem a8Q {i:Int}(q:Q (.val (.bool true))):jC [.val (.int i)] Q:=by
 refine j6 ?_;unfold uT;walk_at "vs";exact q
theorem aPA {a b:Int}(q:Q (.val (.int (BK a b:Nat)))):dZ [.val (.int a),.val (.int b)] Q:=by
 refine j6 ?_;unfold fV iC iH;walk_at "vs";refine pA (fun n Γ=>∃ d r x,Γ=[.val (.int a),.val (.int b),.val (.int d),.val (.int r),x]∧0≤d∧0≤r∧BK d r=BK a b∧n=r.toNat) _ ⟨_,_,.no,rfl,aAD a,aAD b,aFE a b,rfl⟩ ?_;rintro m Γ ⟨d,r,x,rfl,hd,hr,hg,rfl⟩;walk_at "vs";refine zQ (fun c=>?_) (fun c=>?_)
 ·have hp:0<r:=by omega
  walk_at "vs";refine⟨hp,?_⟩;walk_at "vs";have h1:=CB d (b:=r) (by omega);have h2:=CA d hp;exact⟨_,by omega,_,_,_,rfl,hr,h1,(a9H hd hp).trans hg,rfl⟩
 ·subst c;have e:=aG6 hd;rw[hg] at e;walk_at "vs";rw[e] at q;exact q
theorem jD {t b:Int}(h0:b≠0)(hb:Bt 9000 b)(q:Q (.val (cG (Rat.divInt t b)))):eQ [.val (.int t),.val (.int b)] Q:=by
 have g0:=aJW (t:=t) h0;have g1:=aJZ (t:=t) hb h0;refine j6 ?_;unfold sS rF qY;walk_at "vs";refine a8Q ?_;walk_at "vs";refine a8Q ?_;walk_at "vs";refine aL2 h0 ?_;walk_at "vs";refine aPA ?_;walk_at "vs";refine fU (fun c=>?_) (fun c=>?_)
 ·have n:=aHO (t:=t) c;walk_at "vs";refine⟨⟨by omega,g1.neg⟩,?_⟩;walk_at "vs";refine⟨⟨by omega,g1.neg⟩,?_⟩;walk_at "vs";rw[n.1,n.2];exact q
 ·have n:=tO (t:=t) (b:=b) (by omega);walk_at "vs";refine⟨⟨g0,g1⟩,?_⟩;walk_at "vs";refine⟨⟨g0,g1⟩,?_⟩;walk_at "vs";rw[n.1,n.2];exact q
theorem a9G {a b:Rat}(ha:Sz 4000 a)(hb:Sz 4000 b)(q:Q (.val (cG (a+b)))):tG [.val (cG a),.val (cG b)] Q:=by
 obtain⟨a0,a1⟩:=id ha;obtain⟨b0,b1⟩:=id hb;refine j6 ?_;unfold a3F;walk_at "vs";refine jD (BM (cY a) (cY b)) ((a1.mul b1).mono (by decide)) ?_;rw[aEF];exact q
theorem gB {a b:Rat}(ha:Sz 4000 a)(hb:Sz 4000 b)(q:Q (.val (cG (a-b)))):cU [.val (cG a),.val (cG b)] Q:=by
 obtain⟨a0,a1⟩:=id ha;obtain⟨b0,b1⟩:=id hb;refine j6 ?_;unfold jN;walk_at "vs";refine jD (BM (cY a) (cY b)) ((a1.mul b1).mono (by decide)) ?_;rw[aDA];exact q
theorem a6O {a b:Rat}(ha:Sz 4000 a)(hb:Sz 4000 b)(q:Q (.val (cG (a*b)))):jX [.val (cG a),.val (cG b)] Q:=by
 obtain⟨a0,a1⟩:=id ha;obtain⟨b0,b1⟩:=id hb;refine j6 ?_;unfold oN;walk_at "vs";refine jD (BM (cY a) (cY b)) ((a1.mul b1).mono (by decide)) ?_;rw[aJ4];exact q
theorem a4M {a b:Rat}(ha:Sz 4000 a)(hb:Sz 4000 b)(h0:b≠0)(q:Q (.val (cG (a/b)))):j7 [.val (cG a),.val (cG b)] Q:=by
 obtain⟨a0,a1⟩:=id ha;obtain⟨b0,b1⟩:=id hb;refine j6 ?_;unfold nZ;walk_at "vs";refine jD (BM (cY a) (aFT h0)) ((a1.mul b0).mono (by decide)) ?_;rw[aIS a h0];exact q
theorem cZ {a b:Rat}(ha:Sz 9000 a)(hb:Sz 9000 b)(q:Q (.val (.bool (decide (a<b))))):cJ [.val (cG a),.val (cG b)] Q:=by
 obtain⟨a0,a1⟩:=id ha;obtain⟨b0,b1⟩:=id hb;refine j6 ?_;unfold yE;walk_at "vs";rw[aOD];exact q
theorem uZ {l:Rat×Rat}{t:Rat}(h1:Sz 900 l.1)(h2:Sz 900 l.2)(h3:Sz 2900 t)(q:Q (.val (cG (l.1+l.2*t)))):jA [.val (gQ l),.val (cG t)] Q:=by
 refine j6 ?_;unfold vI;walk_at "vs";refine a6O (h2.mono (by decide)) (h3.mono (by decide)) ?_;walk_at "vs";exact a9G (h1.mono (by decide)) ((h2.mul h3).mono (by decide)) q
def aE4 (l k:Rat×Rat):D:=if l.2=k.2 then(if l.1=k.1 then .tuple [.str "always"] else .tuple [.str "never"]) else .tuple [.str "at", cG ((k.1-l.1)/(l.2-k.2))]
theorem yW {l k:Rat×Rat}(h1:Sz 900 l.1)(h2:Sz 900 l.2)(h3:Sz 900 k.1)(h4:Sz 900 k.2)(q:Q (.val (aE4 l k))):mO [.val (gQ l),.val (gQ k)] Q:=by
 unfold aE4 at q;refine j6 ?_;unfold zA vV;walk_at "vs";refine fU (fun c=>?_) (fun c=>?_)
 ·rw[if_pos c] at q;walk_at "vs";refine fU (fun c2=>?_) (fun c2=>?_)
  ·rw[if_pos c2] at q;walk_at "vs";exact q
  ·rw[if_neg c2] at q;walk_at "vs";exact q
 ·rw[if_neg c] at q;walk_at "vs";refine gB (h3.mono (by decide)) (h1.mono (by decide)) ?_;walk_at "vs";refine gB (h2.mono (by decide)) (h4.mono (by decide)) ?_;walk_at "vs";refine a4M ((h3.sub h1).mono (by decide)) ((h2.sub h4).mono (by decide)) (by grind) ?_;walk_at "vs";exact q
theorem aNU {a b:Rat}(ha:Sz 9000 a)(hb:Sz 9000 b)(q:Q (.val (.bool (decide (a<b))))):qP [.val (cG a),.val (cG b)] Q:=by
 obtain⟨a0,a1⟩:=id ha;obtain⟨b0,b1⟩:=id hb;refine j6 ?_;unfold uQ;walk_at "vs";rw[aOD];exact q
end
theorem qN (i:Int):AJ.tuple [.int i,.int 1]=cG (i:Rat):=by
 unfold cG;rw[Rat.num_intCast,Rat.den_intCast];rfl
theorem aGL {k:Nat}{i:Int}(h1 : -2147483648<i)(h2:i<2147483648)(hk:31≤k:=by decide):Bt k i:=by
 refine Bt.mono (k:=31) ?_ hk;show i.natAbs<2^31;have:(2:Nat)^31=2147483648:=by decide
 omega
theorem a2M {k:Nat}{i:Int}(h1 : -2147483648<i)(h2:i<2147483648)(hk:31≤k:=by decide):Sz k (i:Rat):=aDK (aGL h1 h2 hk) (by omega)
def LinesOk (k:Nat)(ls:List (Rat×Rat)):Prop:=∀ l∈ls,Sz k l.1∧Sz k l.2
def bH (ls:List (Rat×Rat)):List D:=ls.map gQ
theorem LinesOk.get {k:Nat}{ls:List (Rat×Rat)}(h:LinesOk k ls){i:Nat}{l:Rat×Rat}(e:ls[i]?=some l):Sz k l.1∧Sz k l.2:=h l (BL e)
theorem vX {ds:List D}{i:Nat}{d:D}(h:ds[i]?=some d):ixD (.list ds) (.int (i:Int))=some d:=aEJ h
theorem tQ {ls:List (Rat×Rat)}{i:Nat}(h:i<ls.length):ixD (.list (bH ls)) (.int (i:Int))=some (gQ ls[i]):=vX (by unfold bH; rw[Aa,AQ h]; rfl)
theorem a8R (ls:List (Rat×Rat))(l:Rat×Rat):bH ls++[gQ l]=bH (ls++[l]):=by simp[bH]
theorem mJ (ls:List (Rat×Rat)):(bH ls).length=ls.length:=by simp[bH]
section
variable {Q:Rv→Prop}
end
theorem bt3 {i:Int}(h1 : -8<i)(h2:i<8):Bt 3 i:=by
 show i.natAbs<2^3;have:(2:Nat)^3=8:=by decide
 omega
theorem sz3 {i:Int}(h1 : -8<i)(h2:i<8):Sz 3 (i:Rat):=aDK (bt3 h1 h2) (by decide)
theorem aGX {t b:Int}(h:0<b):BK (if t<0 then -t else t) b=BK t b:=by
 have:=aFE t b;rwa[if_neg (c:=b<0) (by omega)] at this
theorem aH1 (p m t:Rat):Rat.divInt (p.num*m.den*t.den-m.num*t.num*p.den) (p.den*m.den*t.den)=p-m*t:=by
 refine dI (BM (BM (cY p) (cY m)) (cY t)) ?_;simp only[Rat.intCast_sub,FN];rw[aGK p,aGK m,aGK t];grind
theorem aJ0 {a b:Rat}(h:a≠b):a.num*b.den-b.num*a.den≠0:=by
 intro z;apply h;have e:=aDA a b;rw[z,FM] at e;grind
theorem aST (a0 a1 b0 b1:Rat)(h:a1≠b1):Rat.divInt ((b0.num*a0.den-a0.num*b0.den)*a1.den*b1.den) ((a1.num*b1.den-b1.num*a1.den)*a0.den*b0.den)=(b0-a0)/(a1-b1):=by
 refine dI (BM (BM (aJ0 h) (cY a0)) (cY b0)) ?_;have e:=D7 (a:=b0-a0) (b:=a1-b1) (by grind);simp only[Rat.intCast_sub,FN];rw[aGK a0,aGK b0,aGK a1,aGK b1];generalize (b0-a0)/(a1-b1)=m at *;grind
def KW (w:Bool):Nat:=if w then 60 else 3
theorem KW3 (w:Bool):3≤KW w:=by cases w<;>decide
theorem aSH (w:Bool):KW w≤60:=by cases w<;>decide
section
variable {Q:Rv→Prop}
theorem kE {t b:Int}(h0:0<b)(hb:Bt 9000 b)(q:Q (.val (cG (Rat.divInt t b)))):cR [.val (.int t),.val (.int b)] Q:=by
 have g0:=aJW (t:=t) (b:=b) (by omega);have g1:=aJZ (t:=t) hb (by omega);refine j6 ?_;unfold pO pD pL;walk_at "vs";refine pA (fun n Γ=>∃ d r,Γ=[.val (.int t),.val (.int b),.val (.int d),.val (.int r)]∧0≤d∧0≤r∧BK d r=BK t b∧n=r.toNat) _ ⟨_,_,rfl,aAD t,by omega,aGX h0,rfl⟩ ?_;rintro m Γ ⟨d,r,rfl,hd,hr,hg,rfl⟩;walk_at "vs";refine fU (fun c=>?_) (fun c=>?_)
 ·walk_at "vs";refine⟨c,?_⟩;walk_at "vs";have h1:=CB d (b:=r) (by omega);have h2:=CA d c;exact⟨_,by omega,_,_,rfl,hr,h1,(a9H hd c).trans hg,rfl⟩
 ·have c':r=0:=by omega
  subst c';have e:=aG6 hd;rw[hg] at e;subst e;have n:=tO (t:=t) (b:=b) h0;walk_at "vs";refine⟨⟨g0,g1⟩,?_⟩;walk_at "vs";refine⟨⟨g0,g1⟩,?_⟩;walk_at "vs";rw[n.1,n.2];exact q
theorem aAQ {w:Bool}(q:∀ r:Rat,Sz (KW w) r→Q (.val (cG r))):iG [.pen,.val (.bool w)] Q:=by
 refine j6 ?_;unfold oR;obtain⟨n,hn,hn1,hn2,hn3⟩:∃ n:Int,ixD (.list [.int 4,.int 7]) (.int (if w then 1 else 0))=some (.int n)∧0<n∧n<100∧(w=false→n=4):=by
  cases w
  ·exact⟨4,rfl,by decide,by decide,fun _=>rfl⟩
  ·exact⟨7,rfl,by decide,by decide,fun z=>(nomatch z)⟩
 walk_at "vs";refine cO hn ?_;walk_at "vs";refine dY hn1 (by omega) fun way w0 w1=>?_;walk_at "vs";refine fU (fun c=>?_) (fun c=>?_)
 ·walk_at "vs";refine dY (by decide) (by decide) fun r r0 r1=>?_;walk_at "vs";rw[qN];exact q _ ((sz3 (by omega) (by omega)).mono (KW3 w))
 ·unfold pQ;walk_at "vs";refine fU (fun c=>?_) (fun c=>?_)
  ·walk_at "vs";refine dY (by decide) (by decide) fun r r0 r1=>?_;walk_at "vs";refine dY (by decide) (by decide) fun s s0 s1=>?_;walk_at "vs";have h1:Bt 3 (r-6):=bt3 (by omega) (by omega);have h2:Bt 3 (1+s):=bt3 (by omega) (by omega);exact kE (by omega) (h2.mono (by decide)) (q _ ((Sz.divInt h1 h2 (by omega)).mono (KW3 w)))
  ·have hw:w=true:=by
    cases w
    ·have:=hn3 rfl;omega
    ·rfl
   subst hw;unfold pP;walk_at "vs";refine fU (fun c=>?_) (fun c=>?_)
   ·walk_at "vs";refine dY (by decide) (by decide) fun r r0 r1=>?_;walk_at "vs";refine dY (by decide) (by decide) fun s s0 s1=>?_;walk_at "vs";have h1:Bt 60 (r-1000):=aGL (by omega) (by omega);have h2:Bt 60 (1+s):=aGL (by omega) (by omega);exact kE (by omega) (h2.mono (by decide)) (q _ (Sz.divInt h1 h2 (by omega)))
   ·unfold pM;walk_at "vs";refine dY (by decide) (by decide) fun r r0 r1=>?_;walk_at "vs";have hr:Bt 40 r:=aGL (by omega) (by omega);have h9:Bt 40 (1000000000:Int):=aGL (by decide) (by decide);walk_at "vs";refine dY (by decide) (by decide) fun s s0 s1=>?_;walk_at "vs";refine dY (by decide) (by decide) fun u u0 u1=>?_;walk_at "vs";have hu:u=0∨u=1:=by omega
    obtain⟨g,hg,hi⟩:∃ g:Int,(g=1∨g = -1)∧ixD (.list [.int 1,.int (-1)]) (.int u)=some (.int g):=by
     rcases hu with rfl|rfl
     ·exact⟨1,.inl rfl,rfl⟩
     ·exact⟨-1,.inr rfl,rfl⟩
    refine cO hi ?_;have ht:Bt 60 (r*1000000000+s):=aR7 (by omega) (by omega);have hg1:=aEC hg;walk_at "vs";refine dY (by decide) (by decide) fun v v0 v1=>?_;walk_at "vs";have h1:Bt 60 ((r*1000000000+s)*g):=by
     rcases hg with rfl|rfl
     ·rw[Da]; exact ht
     ·exact aR7 (by omega) (by omega)
    have h2:Bt 60 (1+v):=aGL (by omega) (by omega);exact kE (by omega) (h2.mono (by decide)) (q _ (Sz.divInt h1 h2 (by omega)))
theorem aCO {t p m:Rat}(h1:Sz 900 t)(h2:Sz 900 p)(h3:Sz 900 m)(q:Q (.val (gQ (p-m*t,m)))):j9 [.val (cG t),.val (cG p),.val (cG m)] Q:=by
 obtain⟨t0,t1⟩:=id h1;obtain⟨p0,p1⟩:=id h2;obtain⟨m0,m1⟩:=id h3;have a1:=p0.mul m1;have a2:=a1.mul t1;have a3:=m0.mul t0;have a4:=p1.mul m1;have a5:=a4.mul t1;refine j6 ?_;unfold nF;walk_at "vs";have hp:=D5 (D5 (uG p) (uG m)) (uG t);refine kE hp (a5.mono (by decide)) ?_;rw[aH1];walk_at "vs";exact q
theorem aJX {l:Rat×Rat}{t:Rat}(h1:Sz 900 l.1)(h2:Sz 900 l.2)(h3:Sz 2900 t)(q:Q (.val (cG (l.1+l.2*t)))):lY [.val (gQ l),.val (cG t)] Q:=by
 obtain⟨t0,t1⟩:=id h3;obtain⟨p0,p1⟩:=id h1;obtain⟨m0,m1⟩:=id h2;have a1:=p0.mul m1;have a2:=a1.mul t1;have a3:=m0.mul t0;have a4:=p1.mul m1;have a5:=a4.mul t1;refine j6 ?_;unfold uO gQ;walk_at "vs";have hp:=D5 (D5 (uG l.1) (uG l.2)) (uG t);refine kE hp (a5.mono (by decide)) ?_;rw[aQR];exact q
theorem aKR {m:Int}(m0:0≤m)(m1:m≤10)(q:∀ ls:List (Rat×Rat),(ls.length:Int)≤m→LinesOk 200 ls→Q (.own (bH ls))):nJ [.pen,.val (.int m)] Q:=by
 refine j6 ?_;unfold rO;walk_at "vs";refine dY (by decide) (by decide) fun r r0 r1=>?_;walk_at "vs";generalize decide (r=2)=w;refine dY (by omega) (by omega) fun n n0 n1=>?_;walk_at "vs";refine⟨by omega,by omega,?_⟩;refine eO (fun i Γ=>∃ a b c d e f ls,Γ=[.pen,.val (.int m),.val (.bool w),.own (bH ls),a,b,c,d,e,f]∧(∀ l∈ls,Sz (KW w+14*ls.length) l.1∧Sz (KW w) l.2)∧ls.length=i) ⟨_,_,_,_,_,_,[],rfl,fun _ h=>(nomatch h),rfl⟩ ?_ ?_
 ·rintro i Γ K hi ⟨a,b,c,d,e,f,ls,rfl,hl,rfl⟩ hk;have hn:ls.length<10:=by omega
  unfold rB;walk_at "vs";refine aAQ fun q1 z1=>?_;walk_at "vs";refine aAQ fun q2 z2=>?_;walk_at "vs";refine dY (by decide) (by decide) fun way w0 w1=>?_;walk_at "vs";have fin:∀(l:Rat×Rat) (c d e f:Sl),Sz (KW w+14*(ls.length+1)) l.1→Sz (KW w) l.2→fC [.pen,.val (.int m),.val (.bool w),.own (bH ls),.val (.int (0+(ls.length:Int))),.val (gQ l),c,d,e,f] K:=by
   intro l c d e f y1 y2;unfold fC;walk_at "vs";refine a1V (ds:=bH ls) rfl (by rw[mJ]; omega) ?_;rw[a8R];refine hk.nx _ ⟨_,_,_,_,_,_,_,rfl,fun x hx=>?_,by simp⟩;rw[BN,Cz];rcases BO.mp hx with hx|hx
   ·exact⟨(hl x hx).1.mono (by omega),(hl x hx).2⟩
   ·rw[mem_singleton.mp hx]; exact⟨y1,y2⟩
  have drawn:gQ (q1,q2)=AJ.tuple [cG q1,cG q2]:=rfl;rw[← drawn];have plain:∀(c d e f:Sl),fC [.pen,.val (.int m),.val (.bool w),.own (bH ls),.val (.int (0+(ls.length:Int))),.val (gQ (q1,q2)),c,d,e,f] K:=fun c d e f=>fin _ c d e f (z1.mono (by omega)) z2;refine fU (fun c1=>?_) (fun c1=>?_)
  ·walk_at "vs";refine fU (fun c2=>?_) (fun c2=>?_)
   ·walk_at "vs";refine dY (by omega) (by omega) fun e e0 e1=>?_;walk_at "vs";obtain⟨j,rfl⟩:∃ j:Nat,e=(j:Int):=⟨e.toNat,by omega⟩;have hj:j<ls.length:=by omega
    refine cO (tQ hj) ⟨rfl,rfl,?_⟩;obtain⟨y1,y2⟩:=hl _ (B9 hj);walk_at "vs";refine dY (by decide) (by decide) fun t t0 t1=>?_;walk_at "vs";rw[qN (t-3)];have zt:Sz 3 ((t-3:Int):Rat):=sz3 (by omega) (by omega);refine dY (by decide) (by decide) fun s s0 s1=>?_;walk_at "vs";rw[qN (s-3)];have zs:Sz 3 ((s-3:Int):Rat):=sz3 (by omega) (by omega);have last:∀(x:Rat×Rat) (tm:Sl),Sz (KW w+14*(ls.length+1)) x.1→Sz (KW w) x.2→lF [.pen,.val (.int m),.val (.bool w),.own (bH ls),.val (.int (0+(ls.length:Int))),.val (gQ (q1,q2)),.val (.int way),.val (gQ ls[j]),tm,.val (gQ x)] fun fl=>match fl with|.nx Γ1=>fC Γ1 K|.rt rv=>K (.rt rv)|.bk Γ1=>K (.bk Γ1)|.ct Γ1=>K (.ct Γ1):=by
     intro x tm x1 x2;unfold lF;walk_at "vs";have hw:way=0∨way=1∨way=2∨way=3:=by omega
     rcases hw with rfl|rfl|rfl|rfl
     ·exact cO rfl (fin _ _ _ _ _ (y1.mono (by omega)) y2)
     ·exact cO (d:=gQ (q1,ls[j].2)) rfl (fin (q1,ls[j].2) _ _ _ _ (z1.mono (by omega)) y2)
     ·exact cO rfl (fin _ _ _ _ _ x1 x2)
     ·exact cO rfl (fin _ _ _ _ _ x1 x2)
    cases w with
    | true=>
     walk_at "vs";exact last (ls[j].1,((s-3:Int):Rat)) _ (y1.mono (by omega)) (zs.mono (KW3 true))
    | false=>
     walk_at "vs";have hK:KW false=3:=rfl;rw[hK] at y1 y2 z1 z2;refine aJX (y1.mono (by omega)) (y2.mono (by decide)) (zt.mono (by decide)) ?_;walk_at "vs";have zp:=y1.add (y2.mul zt);refine aCO (zt.mono (by decide)) (zp.mono (by omega)) (z2.mono (by decide)) ?_;walk_at "vs";refine last (_,q2) _ ?_ z2;exact(zp.sub (z2.mul zt)).mono (by rw[hK]; omega)
   ·walk_at "vs";exact plain _ _ _ _
  ·walk_at "vs";exact plain _ _ _ _
 ·rintro Γ ⟨a,b,c,d,e,f,ls,rfl,hl,hn⟩;unfold rA;walk_at "vs";have:=aSH w;exact q ls (by omega) fun l h=>⟨(hl l h).1.mono (by omega),(hl l h).2.mono (by omega)⟩
end
section
variable {Q:Rv→Prop}{ls:List (Rat×Rat)}{i j:Nat}{l k:Rat×Rat}{t:Rat}
theorem dR {ls:List (Rat×Rat)}{i:Nat}{l:Rat×Rat}(h:ls[i]?=some l):ixD (.list (bH ls)) (.int (i:Int))=some (gQ l):=vX (by unfold bH; rw[Aa,h]; rfl)
def aLA:Option Rat→D
 | none=>.none
 | some q=>cG q
theorem aMZ (o:Option Rat):Gd 1 (aLA o):=by
 cases o with
 | none=>exact gd_none.mono
 | some q=>exact aAH q
theorem qR {l:Rat×Rat}{t:Rat}(h1:Sz 900 l.1)(h2:Sz 900 l.2)(h3:Sz 2900 t):Sz 9000 (pl l t):=(h1.add (h2.mul h3)).mono (by decide)
def lO (l:Rat×Rat)(t:Rat)(i:Nat):D:=.tuple [cG (pl l t),cG l.2,.int (i:Int)]
theorem aA7 (l:Rat×Rat)(t:Rat)(i:Nat):ixD (lO l t i) (.int 0)=some (cG (pl l t)):=rfl
theorem aA2 (l:Rat×Rat)(t:Rat)(i:Nat):ixD (lO l t i) (.int 1)=some (cG l.2):=rfl
theorem aFZ (l:Rat×Rat)(t:Rat)(i:Nat):ixD (lO l t i) (.int 2)=some (.int (i:Int)):=rfl
theorem vG (hi:ls[i]?=some l)(h1:Sz 900 l.1)(h2:Sz 900 l.2)(ht:Sz 2900 t)(q:Q (.val (lO l t i))) :
  jB [.val (.list (bH ls)),.val (.int (i:Int)),.val (cG t)] Q:=by
 refine j6 ?_;unfold uH;walk_at "vs";refine cO (dR hi) ?_;walk_at "vs";refine uZ h1 h2 ht ?_;walk_at "vs";refine cO (dR hi) ?_;walk_at "vs";exact q
theorem lJ (h1:Sz 9000 (pl l t))(h2:Sz 9000 l.2)(h3:Sz 9000 (pl k t))(h4:Sz 9000 k.2)(q:Q (.val (.bool (ahB l k i j t)))) :
  dN [.val (lO l t i),.val (lO k t j)] Q:=by
 unfold ahB at q;refine j6 ?_;unfold lG mL lU;walk_at "vs";refine cO (aA7 _ _ _) ?_;walk_at "vs";refine cO (aA7 _ _ _) ?_;walk_at "vs";refine zQ (fun c=>?_) (fun c=>?_)
 ·rw[if_neg c] at q;walk_at "vs";refine cO (aA7 _ _ _) ?_;walk_at "vs";refine cO (aA7 _ _ _) ?_;walk_at "vs";exact cZ h3 h1 q
 ·rw[if_pos c] at q;walk_at "vs";refine cO (aA2 _ _ _) ?_;walk_at "vs";refine cO (aA2 _ _ _) ?_;walk_at "vs";refine zQ (fun c=>?_) (fun c=>?_)
  ·rw[if_neg c] at q;walk_at "vs";refine cO (aA2 _ _ _) ?_;walk_at "vs";refine cO (aA2 _ _ _) ?_;walk_at "vs";exact cZ h4 h2 q
  ·rw[if_pos c] at q;walk_at "vs";refine cO (aFZ _ _ _) ?_;walk_at "vs";refine cO (aFZ _ _ _) ?_;walk_at "vs";exact q
theorem aB9 (hi:ls[i]?=some l)(hj:ls[j]?=some k)(h1:Sz 900 l.1)(h2:Sz 900 l.2)(h3:Sz 900 k.1)(h4:Sz 900 k.2)(ht:Sz 2900 t)(q:Q (.val (.bool (ahB l k i j t)))) :
  qG [.val (.list (bH ls)),.val (.int (i:Int)),.val (.int (j:Int)),.val (cG t)] Q:=by
 refine j6 ?_;unfold vO;walk_at "vs";refine vG hi h1 h2 ht ?_;walk_at "vs";refine vG hj h3 h4 ht ?_;walk_at "vs";exact lJ (qR h1 h2 ht) (h2.mono (by decide)) (qR h3 h4 ht) (h4.mono (by decide)) q
end
def gC (ts:List Rat):List D:=ts.map cG
theorem a5R {ts:List Rat}{i:Nat}{d:D}(h:(gC ts)[i]?=some d):∃ t,ts[i]?=some t∧d=cG t:=by
 unfold gC at h;rw[Aa] at h
 cases e:ts[i]? with
 | none=>rw[e] at h; cases h
 | some l=>rw[e] at h; cases h; exact⟨l,rfl,rfl⟩
theorem aF1 {ts:List Rat}{i:Nat}{t:Rat}(h:ts[i]?=some t):ixD (.list (gC ts)) (.int (i:Int))=some (cG t):=vX (by unfold gC; rw[Aa,h]; rfl)
theorem lQ (ts:List Rat):(gC ts).length=ts.length:=by simp[gC]
theorem tW (ts:List Rat):Good (.list (gC ts)):=(a2C (n:=1) fun d h=>by
 obtain⟨t,_,rfl⟩:=Ab.mp h;exact aAH t).good
def iM (xs:List Nat):List D:=xs.map fun i:Nat=>A0 (i:Int)
theorem a0G (xs:List Nat):(iM xs).length=xs.length:=by simp[iM]
theorem aFI (xs:List Nat):Good (.list (iM xs)):=(a2C (n:=0) fun d h=>by
 obtain⟨t,_,rfl⟩:=Ab.mp h;exact rC _).good
theorem a7P {xs:List Nat}{i:Nat}(h:i<xs.length):ixD (.list (iM xs)) (.int (i:Int))=some (.int (xs[i]:Int)):=vX (by unfold iM; rw[Aa,AQ h]; rfl)
theorem a9D (xs:List Nat):aK4 (.list (iM xs))=some (.int (xs.length:Int)):=by show some (A0 ((iM xs).length:Int))=_; rw[a0G]
theorem eG (ls:List Ln):aK4 (.list (bH ls))=some (.int (ls.length:Int)):=by show some (A0 ((bH ls).length:Int))=_; rw[mJ]
def a7L (ts:List Rat)(o:Option Rat):List Rat:=match o with
 | none=>ts
 | some t=>if t∈ts then ts else vW ts ((ts.filter fun u=>decide (u<t)).length:Int) t
def a4F (ls:List Ln)(i:Nat):Nat→List Rat→List Rat
 | 0,ts=>ts
 | j+1,ts=>a7L (a4F ls i j ts) (match ls[i]?,ls[j]? with|some l,some k=>mtO l k|_,_=>none)
def a0T (ls:List Ln):Nat→List Rat
 | 0=>[]
 | i+1=>a4F ls i i (a0T ls i)
def mts (ls:List Ln):List Rat:=a0T ls ls.length
theorem aAR {α β:Type}(f:α→β)(xs:List α)(i:Int)(x:α):(vW xs i x).map f=vW (xs.map f) i (f x):=by
 unfold vW;rw[Bi,BD,List.map_take,map_drop,AS]
theorem aDJ {α:Type}{xs:List α}{n:Nat}{x:α}(h:n≤xs.length):vW xs (n:Int) x=xs.take n++x::xs.drop n:=by
 unfold vW aCX;rw[if_neg (by omega)];simp[Nat.min_eq_left h]
theorem aB3 (ts:List Rat)(o:Option Rat):(a7L ts o).length≤ts.length+1:=by
 unfold a7L
 split
 ·omega
 ·split
  ·omega
  ·rw[aAC]; omega
theorem aHF {α:Type}{xs:List α}{i:Int}{x y:α}:y∈vW xs i x↔y=x∨y∈xs:=by
 unfold vW;generalize aCX xs.length i=k;have e:y∈xs↔y∈xs.take k∨y∈xs.drop k:=by
  rw[← BO,List.take_append_drop]
 rw[BO,AK,e];constructor
 ·rintro(h|h|h)
  ·exact .inr (.inl h)
  ·exact .inl h
  ·exact .inr (.inr h)
 ·rintro(h|h|h)
  ·exact .inr (.inl h)
  ·exact .inl h
  ·exact .inr (.inr h)
theorem aAJ {ts:List Rat}{o:Option Rat}{t:Rat}:t∈a7L ts o↔t∈ts∨o=some t:=by
 unfold a7L
 split
 ·simp
 ·rename_i u
  split
  ·rename_i h
   constructor
   ·exact .inl
   ·rintro(z|z)
    ·exact z
    ·cases z; exact h
  ·rw[aHF];constructor
   ·rintro(z|z)
    ·exact .inr (by rw[z])
    ·exact .inl z
   ·rintro(z|z)
    ·exact .inr z
    ·cases z; exact .inl rfl
theorem aDS (ls:List Ln)(i j:Nat)(ts:List Rat):(a4F ls i j ts).length≤ts.length+j:=by
 induction j with
 | zero=>exact AN _
 | succ j ih=>
  have:=aB3 (a4F ls i j ts) (match ls[i]?,ls[j]? with|some l,some k=>mtO l k|_,_=>none)
  show(a7L _ _).length≤_
  omega
theorem aCT (ls:List Ln)(i:Nat):(a0T ls i).length≤i*i:=by
 induction i with
 | zero=>exact AN _
 | succ i ih=>
  have:=aDS ls i i (a0T ls i)
  show(a4F ls i i (a0T ls i)).length≤_
  have e:(i+1)*(i+1)=i*i+2*i+1:=by rw[Nat.add_mul,Nat.mul_add]; omega
  omega
theorem aEA {ls:List Ln}{i j:Nat}{ts:List Rat}{t:Rat}:t∈a4F ls i j ts↔t∈ts∨∃ j',j'<j∧∃ l k,ls[i]?=some l∧ls[j']?=some k∧mtO l k=some t:=by
 induction j with
 | zero=>simp[a4F]
 | succ j ih=>
  show t∈a7L _ _↔_;rw[aAJ,ih];constructor
  ·rintro((h|⟨j',h1,h2⟩)|h)
   ·exact .inl h
   ·exact .inr ⟨j',by omega,h2⟩
   ·split at h
    ·rename_i l k e1 e2
     exact .inr ⟨j,by omega,l,k,e1,e2,h⟩
    ·cases h
  ·rintro(h|⟨j',h1,l,k,e1,e2,h⟩)
   ·exact .inl (.inl h)
   ·by_cases hj:j'=j
    ·subst hj
     right
     rw[e1,e2];exact h
    ·exact .inl (.inr ⟨j',by omega,l,k,e1,e2,h⟩)
theorem mem_mtsTo {ls:List Ln}{n:Nat}{t:Rat}:t∈a0T ls n↔∃ i j l k,i<n∧j<i∧ls[i]?=some l∧ls[j]?=some k∧mtO l k=some t:=by
 induction n with
 | zero=>simp[a0T]
 | succ n ih=>
  show t∈a4F ls n n (a0T ls n)↔_;rw[aEA,ih];constructor
  ·rintro(⟨i,j,l,k,h1,h2⟩|⟨j,h1,l,k,h2⟩)
   ·exact⟨i,j,l,k,by omega,h2⟩
   ·exact⟨n,j,l,k,by omega,h1,h2⟩
  ·rintro⟨i,j,l,k,h1,h2,h3⟩
   by_cases hi:i=n
   ·subst hi; exact .inr ⟨j,h2,l,k,h3⟩
   ·exact .inl ⟨i,j,l,k,by omega,h2,h3⟩
theorem aDI {l k:Ln}{t:Rat}(h1:Sz 200 l.1)(h2:Sz 200 l.2)(h3:Sz 200 k.1)(h4:Sz 200 k.2)(h:mtO l k=some t):Sz 802 t:=by
 unfold mtO at h
 split at h
 ·cases h
 ·cases h
  exact((h3.sub h1).div (h2.sub h4) (by grind)).mono (by decide)
theorem yU {ls:List Ln}(hz:LinesOk 200 ls){n:Nat}{t:Rat}(h:t∈a0T ls n):Sz 802 t:=by
 obtain⟨i,j,l,k,_,_,e1,e2,h⟩:=mem_mtsTo.mp h;obtain⟨a,b⟩:=hz.get e1;obtain⟨c,d⟩:=hz.get e2;exact aDI a b c d h
def aN8:List Rat→Rat
 | []=>((0:Int):Rat)
 | t::_=>t-((1:Int):Rat)
section
variable {Q:Rv→Prop}
end
section
variable {Q:Rv→Prop}{ls:List Ln}
theorem aMR {i j:Nat}{l k:Ln}(hi:ls[i]?=some l)(hj:ls[j]?=some k)(h1:Sz 200 l.1)(h2:Sz 200 l.2)(h3:Sz 200 k.1)(h4:Sz 200 k.2)(q:Q (.val (aLA (mtO l k)))) :
  sX [.val (.list (bH ls)),.val (.int (i:Int)),.val (.int (j:Int))] Q:=by
 unfold mtO at q;refine j6 ?_;unfold zM;walk_at "vs";refine cO (dR hi) ?_;walk_at "vs";refine cO (dR hj) ?_;walk_at "vs";refine fU (fun c=>?_) (fun c=>?_)
 ·rw[if_pos c] at q;walk_at "vs";exact q
 ·rw[if_neg c] at q;obtain⟨p0,p1⟩:=id h1;obtain⟨m0,m1⟩:=id h2;obtain⟨r0,r1⟩:=id h3;obtain⟨s0,s1⟩:=id h4;have a1:=(r0.mul p1).sub (p0.mul r1);have a2:=a1.mul m1;have b1:=(m0.mul s1).sub (s0.mul m1);have b2:=b1.mul p1;have b3:=b2.mul r1;have hm:=aST l.1 l.2 k.1 k.2 c;have hb:=BM (BM (aJ0 c) (cY l.1)) (cY k.1);unfold vP;walk_at "vs";refine fU (fun c2=>?_) (fun c2=>?_)
  ·walk_at "vs";unfold oM;walk_at "vs";refine kE (by omega) ?_ ?_
   ·rw[D6]; exact b3.neg.mono (by decide)
   ·rw[D6,D6,Rat.neg_divInt_neg,hm];walk_at "vs";exact q
  ·walk_at "vs";unfold oM;walk_at "vs";refine kE (by omega) (b3.mono (by decide)) ?_;rw[hm];walk_at "vs";exact q
theorem aJT (hz:LinesOk 200 ls)(hl:ls.length≤30)(q:∀ t:Rat,Sz 802 t→Q (.val (cG t))):mD [.pen,.val (.list (bH ls))] Q:=by
 refine j6 ?_;unfold uP;walk_at "vs";refine dY (by decide) (by decide) fun way w0 w1=>?_;walk_at "vs";have rest:∀(a b c:Sl),mX [.pen,.val (.list (bH ls)),.val (.int way),a,b,c] fun fl=>match fl with|.rt rv=>Q rv|.nx _=>Q (.val .none)|_=>False:=by
  intro a b c;unfold mX;walk_at "vs";refine fU (fun c1=>?_) (fun c1=>?_)
  ·walk_at "vs";refine dY (by decide) (by decide) fun r r0 r1=>?_;walk_at "vs";refine dY (by decide) (by decide) fun u u0 u1=>?_;walk_at "vs";have hu:u=0∨u=1:=by omega
   obtain⟨g,hg,hi⟩:∃ g:Int,(g=1∨g = -1)∧ixD (.list [.int 1,.int (-1)]) (.int u)=some (.int g):=by
    rcases hu with rfl|rfl
    ·exact⟨1,.inl rfl,rfl⟩
    ·exact⟨-1,.inr rfl,rfl⟩
   refine cO hi ?_;have hr:Bt 40 r:=aGL (by omega) (by omega);have hg1:=aEC hg;have h2:=hr.mul hg1;have h6:Bt 40 (1000000:Int):=aGL (by decide) (by decide);walk_at "vs";rw[qN];exact q _ ((aDK (h2.mul h6) (by decide)).mono (by decide))
  ·walk_at "vs";unfold tY;walk_at "vs";refine dY (by decide) (by decide) fun r r0 r1=>?_;walk_at "vs";refine dY (by decide) (by decide) fun s s0 s1=>?_;walk_at "vs";have h1:Bt 60 (r-20):=aGL (by omega) (by omega);have h2:Bt 60 (1+s):=aGL (by omega) (by omega);exact kE (by omega) (h2.mono (by decide)) (q _ ((Sz.divInt h1 h2 (by omega)).mono (by decide)))
 have hlen:aK4 (.list (bH ls))=some (.int (ls.length:Int)):=by show some (A0 ((bH ls).length:Int))=_; rw[mJ]
 refine fU (fun c1=>?_) (fun c1=>?_)
 ·walk_at "vs";refine cO hlen ?_;walk_at "vs";refine fU (fun c2=>?_) (fun c2=>?_)
  ·walk_at "vs";refine cO hlen ?_;walk_at "vs";refine dY (by omega) (by omega) fun i i0 i1=>?_;walk_at "vs";refine cO hlen ?_;walk_at "vs";refine dY (by omega) (by omega) fun j j0 j1=>?_;walk_at "vs";obtain⟨i,rfl⟩:∃ n:Nat,i=(n:Int):=⟨i.toNat,by omega⟩;obtain⟨j,rfl⟩:∃ n:Nat,j=(n:Int):=⟨j.toNat,by omega⟩;have e1:ls[i]?=some ls[i]:=AQ (by omega);have e2:ls[j]?=some ls[j]:=AQ (by omega);obtain⟨z1,z2⟩:=hz.get e1;obtain⟨z3,z4⟩:=hz.get e2;refine aMR e1 e2 z1 z2 z3 z4 ?_;walk_at "vs"
   cases ho:mtO ls[i] ls[j] with
   | none=>
    refine a5C ?_;walk_at "vs";exact rest _ _ _
   | some t=>
    refine a4U ?_;walk_at "vs";exact q _ (aDI z1 z2 z3 z4 ho)
  ·walk_at "vs";exact rest _ _ _
 ·walk_at "vs";exact rest _ _ _
end
section
variable {Q:Rv→Prop}{ls:List Ln}
def aM3 (ls:List Ln)(t:Rat)(i:Nat):D:=match ls[i]? with
 | some l=>lO l t i
 | none=>.none
theorem a7R {t:Rat}{i:Nat}{l:Ln}(h:ls[i]?=some l):aM3 ls t i=lO l t i:=by unfold aM3; rw[h]
def aCK (ls:List Ln)(t:Rat)(xs:List Nat):List D:=xs.map (aM3 ls t)
theorem a2N (t:Rat)(xs:List Nat):(aCK ls t xs).length=xs.length:=by unfold aCK; rw[AS]
theorem aHH {xs:List Nat}{n:Nat}{d:D}(h:(iM xs)[n]?=some d):∃ o,xs[n]?=some o∧d=.int (o:Int):=by
 unfold iM at h;rw[Aa] at h
 cases e:xs[n]? with
 | none=>rw[e] at h; cases h
 | some o=>rw[e] at h; cases h; exact⟨o,rfl,rfl⟩
theorem a3G {rs:List Nat}{t:Rat}(hz:LinesOk 200 ls)(hl:rs.length≤30)(hr:∀ x∈rs,x<ls.length)(hn:rs.Nodup)(ht:Sz 2900 t)(q:Q (.own (iM (a4X (ahN ls t) rs)))) :
  j5 [.val (.list (bH ls)),.val (.list (iM rs)),.val (cG t)] Q:=by
 refine j6 ?_;unfold nM;walk_at "ws";refine rZ (fun n Γ=>∃ a b c,Γ=[.val (.list (bH ls)),.val (.list (iM rs)),.val (cG t),.own (aCK ls t (a4X (ahN ls t) (rs.take n))),a,b,c]) ⟨_,_,_,rfl⟩ ?_ ?_
 ·rintro n d Γ K hd ⟨a,b,c,rfl⟩ hk;obtain⟨o,ho,rfl⟩:=aHH hd;have ho':o∈rs:=BL ho;have hlt:=hr o ho';have e1:ls[o]?=some ls[o]:=AQ hlt;obtain⟨z1,z2⟩:=hz.get e1;have tk:rs.take (n+1)=rs.take n++[o]:=by rw[DV,ho]; rfl
  have hk3:=hk.nx;rw[tk,a6V] at hk3;have hno:o∉rs.take n:=by
   have:=hn.sublist (D0 (n+1) rs);rw[tk] at this;have:=(DT.mp this).2.2;exact fun hm=>this o hm o (mem_singleton.mpr rfl) rfl
  have hsrt:=aIL (eN ls t) (rs:=rs.take n) (fun x hx=>hr x (List.mem_of_mem_take hx)) (hn.sublist (D0 n rs));have hxn:∀ x∈a4X (ahN ls t) (rs.take n),x<ls.length∧x≠o:=fun x hx=>by
   have hx:=ordL_mem.mp hx;exact⟨hr x (List.mem_of_mem_take hx),fun e=>hno (by rw[← e]; exact hx)⟩
  have hlen:(a4X (ahN ls t) (rs.take n)).length≤30:=by
   rw[a9A,Bw];omega
  generalize hxs:a4X (ahN ls t) (rs.take n)=xs at *;have ft:=a69 (eN ls t) hlt hxn hsrt;have fl:(xs.filter fun x => !ahN ls t o x).length≤xs.length:=B4 _ _;generalize hF:(xs.filter fun x => !ahN ls t o x).length=m at *;unfold o7;walk_at "ws";refine vG e1 (z1.mono (by decide)) (z2.mono (by decide)) ht ?_;walk_at "ws";refine pA (fun w Γ=>∃ k:Nat,w=m-k∧k≤m∧Γ=[.val (.list (bH ls)),.val (.list (iM rs)),.val (cG t),.own (aCK ls t xs),.val (.int (o:Int)),.val (lO ls[o] t o),.val (.int (k:Int))]) m ⟨0,by omega,by omega,rfl⟩ ?_;rintro w Γ ⟨k,rfl,hkm,rfl⟩;have stop:k=m→iU [.val (.list (bH ls)),.val (.list (iM rs)),.val (cG t),.own (aCK ls t xs),.val (.int (o:Int)),.val (lO ls[o] t o),.val (.int (k:Int))] K:=by
   intro ek;unfold iU;walk_at "ws";refine aJ5 (ds:=aCK ls t xs) rfl (by omega) (by omega) (by rw[a2N]; omega) ?_;have ei:vW (aCK ls t xs) (k:Int) (lO ls[o] t o)=aCK ls t (cT (ahN ls t) xs o):=by
    rw[← a7R e1,ek];unfold aCK;rw[← aAR (aM3 ls t),aDJ fl,ft.1,ft.2];unfold cT;simp
   rw[ei];exact hk3 _ ⟨_,_,_,rfl⟩
  walk_at "ws";refine cO (d:=.int (xs.length:Int)) (by show some (A0 ((aCK ls t xs).length:Int))=_; rw[a2N]) ?_;walk_at "ws";refine fU (fun c=>?_) (fun c=>?_)
  ·have hkx:k<xs.length:=by omega
   have m1:=(hxn xs[k] (B9 _)).1;have e2:ls[xs[k]]?=some ls[xs[k]]:=AQ m1;obtain⟨z3,z4⟩:=hz.get e2;have ix:ixD (.list (aCK ls t xs)) (.int (k:Int))=some (lO ls[xs[k]] t xs[k]):=vX (by
    unfold aCK;rw[Aa,AQ hkx];show some (aM3 ls t xs[k])=_;rw[a7R e2])
   walk_at "ws";refine cO ix ?_;walk_at "ws";refine lJ (qR (z3.mono (by decide)) (z4.mono (by decide)) ht) (z4.mono (by decide)) (qR (z1.mono (by decide)) (z2.mono (by decide)) ht) (z2.mono (by decide)) ?_;rw[← iI e2 e1]
   by_cases hkm2:k<m
   ·have hin:xs[k]∈xs.filter fun x => !ahN ls t o x:=by
     rw[← ft.1];exact List.mem_take_iff_getElem.mpr ⟨k,by omega,rfl⟩
    have ha:ahN ls t xs[k] o=true:=by
     rw[(eN ls t).flip hlt m1 (Ne.symm (hxn xs[k] (B9 _)).2)];exact(Ap.mp hin).2
    rw[ha];walk_at "ws";unfold oF;walk_at "ws";exact⟨m-(k+1),by omega,k+1,rfl,by omega,by rw[Int.natCast_add]; rfl⟩
   ·have ek:k=m:=by omega
    subst ek;have hin:xs[k]∈xs.filter fun x=>ahN ls t o x:=by
     rw[← ft.2];exact List.mem_drop_iff_getElem.mpr ⟨0,by omega,by simp⟩
    have ha:ahN ls t xs[k] o=false:=by
     rw[(eN ls t).flip hlt m1 (Ne.symm (hxn xs[k] (B9 _)).2),(Ap.mp hin).2];rfl
    rw[ha];walk_at "ws";exact stop rfl
  ·walk_at "ws";exact stop (by omega)
 ·rintro Γ ⟨a,b,c,rfl⟩;rw[a0G,DU];have hm:∀ x∈a4X (ahN ls t) rs,x<ls.length:=fun x hx=>hr x (ordL_mem.mp hx);have hlen:(a4X (ahN ls t) rs).length≤30:=by rw[a9A]; exact hl
  generalize a4X (ahN ls t) rs=xs at *;unfold oA;walk_at "ws";refine⟨by rw[a2N]; omega,?_⟩;refine iT (α:=Nat) (fun _=>true) (fun o=>.int (o:Int)) (aM3 ls t) xs [] _ (fun o ho _ k k0 h1 h0=>?_) ?_
  ·have hlt:=hm o ho;have e2:ls[o]?=some ls[o]:=AQ hlt;rw[a7R e2];walk_at "ws";unfold v6;walk_at "ws";refine cO (aFZ _ _ _) ?_;walk_at "ws";exact h1 rfl
  ·have ef:List.filter (fun _=>true) xs=xs:=CM.mpr fun _ _=>rfl;rw[ef,By];walk_at "ws";exact q
theorem lZ {t:Rat}(hz:LinesOk 200 ls)(hl:ls.length≤30)(ht:Sz 2900 t)(q:Q (.own (iM (ord ls t)))):eV [.val (.list (bH ls)),.val (cG t)] Q:=by
 refine j6 ?_;unfold uN;walk_at "ws";refine cO (eG ls) ?_;walk_at "ws";refine⟨⟨by omega,by omega⟩,?_⟩;have e:eZ 0 (ls.length:Int).toNat=iM (List.range ls.length):=by
  unfold eZ iM;rw[B7];exact DS fun k _=>by rw[Cu]
 rw[e];walk_at "ws";refine a3G hz (by rw[Bv]; exact hl) (fun x hx=>A2.mp hx) List.nodup_range ht ?_;rw[a1R];exact q
end
theorem uW {t:Rat}:∀{ts:List Rat},ts.Pairwise (·<·) →
  ts.take (ts.filter fun u=>decide (u<t)).length=ts.filter (fun u=>decide (u<t))∧ts.drop (ts.filter fun u=>decide (u<t)).length=ts.filter (fun u => !decide (u<t))
 | [],_=>⟨rfl,rfl⟩
 | x::xs,h=>by
  obtain⟨p1,p2⟩:=BU.mp h;have ih:=uW (t:=t) p2
  by_cases c:x<t
  ·simp only[Cw,decide_eq_true c,if_true,An,List.take_succ_cons,List.drop_succ_cons,ih.1,ih.2,Bb,Ae,if_false];exact⟨trivial,trivial⟩
  ·have f0:xs.filter (fun u=>decide (u<t))=[]:=by
    rw[List.filter_eq_nil_iff];intro y hy;have:=p1 y hy;simp;grind
   have f1:xs.filter (fun u => !decide (u<t))=xs:=CM.mpr fun y hy=>by
    have:=p1 y hy;simp;grind
   simp only[Cw,decide_eq_false c,EL,if_true,f0,f1,Ae,if_false];exact⟨rfl,rfl⟩
theorem aAZ {ts:List Rat}{o:Option Rat}(h:ts.Pairwise (·<·)):(a7L ts o).Pairwise (·<·):=by
 unfold a7L
 split
 ·exact h
 ·rename_i t
  split
  ·exact h
  ·rename_i hn
   have f:=uW (t:=t) h;rw[aDJ (B4 _ _),f.1,f.2,C1];refine⟨h.filter _,BU.mpr ⟨fun y hy=>?_,h.filter _⟩,fun x hx y hy=>?_⟩
   ·obtain⟨m,c⟩:=Ap.mp hy;have c:¬y<t:=by simpa using c
    have:y≠t:=fun z=>hn (z▸m);grind
   ·have c:=(Ap.mp hx).2;have c:x<t:=by simpa using c
    rcases AK.mp hy with z|z
    ·rw[z]; exact c
    ·have d:=(Ap.mp z).2;have d:¬y<t:=by simpa using d
     grind
theorem a7B (ls:List Ln)(i:Nat){ts:List Rat}(h:ts.Pairwise (·<·)):∀ j,(a4F ls i j ts).Pairwise (·<·)
 | 0=>h
 | j+1=>aAZ (a7B ls i h j)
theorem a77 (ls:List Ln):∀ n,(a0T ls n).Pairwise (·<·)
 | 0=>List.Pairwise.nil
 | n+1=>a7B ls n (a77 ls n) n
theorem oU (ls:List Ln):(mts ls).Pairwise (·<·):=a77 ls _
theorem mem_mts {ls:List Ln}{t:Rat}:t∈mts ls↔∃(i j:Nat) (l k:Ln),ls[i]?=some l∧ls[j]?=some k∧l.2≠k.2∧mt l k=t:=by
 unfold mts;rw[mem_mtsTo];constructor
 ·rintro⟨i,j,l,k,_,_,e1,e2,h⟩
  unfold mtO at h
  split at h
  ·cases h
  ·rename_i c
   cases h
   exact⟨i,j,l,k,e1,e2,c,rfl⟩
 ·rintro⟨i,j,l,k,e1,e2,c,rfl⟩
  have hi:i<ls.length:=(List.getElem?_eq_some_iff.mp e1).1;have hj:j<ls.length:=(List.getElem?_eq_some_iff.mp e2).1;have hij:i≠j:=by
   rintro rfl;rw[e1] at e2; cases e2;exact c rfl
  by_cases d:j<i
  ·exact⟨i,j,l,k,hi,d,e1,e2,by unfold mtO; rw[if_neg c]⟩
  ·exact⟨j,i,k,l,hj,by omega,e2,e1,by unfold mtO; rw[if_neg (Ne.symm c),vK c]⟩
def early (ls:List Ln):Rat:=aN8 (mts ls)
def aEM (ls:List Ln):Nat:=dU ls (early ls)
def aH3 (ls:List Ln):List (Nat×Rat):=oK ls (aEM ls) (mts ls)
theorem vZ {ls:List Ln}(h:ls≠[]):RowFrom ls none (aEM ls) (aH3 ls):=by
 refine zG h (mts ls) none none (aEM ls) (oU ls) (fun _ _=>trivial) (fun _ _=>trivial) (fun t _ hs=>?_) (fun s hs _=>mem_mts.mpr hs);have base:=nY h (early ls);have noM:∀ a b,(∀ s∈mts ls,b<s)→¬a1P ls a b:=fun a b hb=>by
  rintro⟨i,j,l,k,e1,e2,e3,e4,e5⟩
  have:=hb _ (mem_mts.mpr ⟨i,j,l,k,e1,e2,e3,rfl⟩);grind
 have he:∀ s∈mts ls,early ls<s:=fun s hs=>by
  unfold early;have srt:=oU ls
  cases e:mts ls with
  | nil=>rw[e] at hs; cases hs
  | cons t0 tr=>
   rw[e] at hs srt;show t0-(1:Rat)<s;rcases AK.mp hs with z|z
   ·grind
   ·have:=(BU.mp srt).1 s z; grind
 by_cases c:t≤early ls
 ·exact(Leads.const c (noM _ _ he)).mpr base
 ·exact(Leads.const (by grind) (noM _ _ hs)).mp base
theorem yX (ls:List Ln):(mts ls).length≤ls.length*ls.length:=aCT ls _
def pairD (p:Nat×Rat):D:=.tuple [.int (p.1:Int),cG p.2]
def aGG (ls:List Ln):List D:=if ls=[] then[] else .tuple [.int (aEM ls:Int),.none]::(aH3 ls).map pairD
theorem aL1 {ds:List D}{d:D}(h:ds.getLast?=some d):ixD (.list ds) (.int (-1))=some d:=by
 have hne:ds≠[]:=by rintro rfl; cases h
 have hp:=Dw.mpr hne;show atI ds (-1)=_;unfold atI ixN;rw[if_neg (by decide),if_pos (by omega)];show ds[((-1:Int)+(ds.length:Int)).toNat]?=_;rw[show((-1:Int)+(ds.length:Int)).toNat=ds.length-1 by omega,←List.getLast?_eq_getElem?];exact h
def a4I (r:Nat)(rs:List (Nat×Rat)):Nat:=match rs.getLast? with
 | none=>r
 | some p=>p.1
theorem a2D (r:Nat)(p:Nat×Rat)(rs:List (Nat×Rat)):a4I r (p::rs)=a4I p.1 rs:=by
 unfold a4I
 cases rs with
 | nil=>rfl
 | cons q rs=>rw[List.getLast?_cons_cons]; cases h:(q::rs).getLast? with
  | none=>simp at h
  | some z=>rfl
theorem a1H (ls:List Ln)(t:Rat):∀(ts:List Rat) (r:Nat),oK ls r (ts++[t])=oK ls r ts++(if dU ls t=a4I r (oK ls r ts) then[] else[(dU ls t,t)])
 | [],r=>by
  show(if dU ls t=r then oK ls r [] else(dU ls t,t)::oK ls (dU ls t) [])=[]++(if dU ls t=r then[] else[(dU ls t,t)])
  split<;>rfl
 | u::ts,r=>by
  show(if dU ls u=r then oK ls r (ts++[t]) else(dU ls u,u)::oK ls (dU ls u) (ts++[t]))=(if dU ls u=r then oK ls r ts else(dU ls u,u)::oK ls (dU ls u) ts)++(if dU ls t=a4I r (if dU ls u=r then oK ls r ts else(dU ls u,u)::oK ls (dU ls u) ts) then[] else[(dU ls t,t)])
  by_cases c:dU ls u=r
  ·rw[if_pos c,if_pos c]; exact a1H ls t ts r
  ·rw[if_neg c,if_neg c,a2D,a1H ls t ts];rfl
theorem yD (ls:List Ln):∀(ts:List Rat) (r:Nat),(oK ls r ts).length≤ts.length
 | [],r=>AN _
 | u::ts,r=>by
  show(if dU ls u=r then oK ls r ts else(dU ls u,u)::oK ls (dU ls u) ts).length≤ts.length+1
  have h1:=yD ls ts r;have h2:=yD ls ts (dU ls u)
  split
  ·omega
  ·simp only[An]; omega
def uF (r:Nat)(rs:List (Nat×Rat)):List D:=.tuple [.int (r:Int),.none]::rs.map pairD
theorem aDM (r:Nat)(rs:List (Nat×Rat)):∃ d,(uF r rs).getLast?=some d∧ixD d (.int 0)=some (.int (a4I r rs:Int)):=by
 unfold uF a4I
 cases h:rs.getLast? with
 | none=>
  have:rs=[]:=by simpa using h
  subst this;exact⟨_,rfl,rfl⟩
 | some p=>
  refine⟨pairD p,?_,rfl⟩;have hne:rs≠[]:=by rintro rfl; cases h
  rw[List.getLast?_cons,List.getLast?_map,h];rfl
section
variable {Q:Rv→Prop}{ls:List Ln}
end
theorem _root_.LT.Cov.swap {ls:List Ln}{r a b:Nat}(h:Cov ls r a b):Cov ls r b a:=fun t=>(h t).symm
section
variable {Q:Rv→Prop}{ls:List Ln}
end
section
variable {Q:Rv→Prop}{ls:List Ln}
end
def aIE (ls:List Ln)(r:Nat)(a b:Int):Prop:=∃ x y:Nat,a=(x:Int)∧b=(y:Int)∧x<ls.length∧y<ls.length∧x≠r∧y≠r∧Cov ls r x y
section
variable {Q:Rv→Prop}{ls:List Ln}
end
def dNl:Option (Nat×Rat)→D
 | none=>.none
 | some c=>pairD c
theorem aJN {ls:List Ln}{i j:Nat}{l k:Ln}(hz:LinesOk 200 ls)(h1:ls[i]?=some l)(h2:ls[j]?=some k)(hs:l.2≠k.2):Sz 802 (mtN ls i j):=by
 obtain⟨z1,z2⟩:=hz.get h1;obtain⟨z3,z4⟩:=hz.get h2;rw[a7I h1 h2];exact aDI z1 z2 z3 z4 (by unfold mtO; rw[if_neg hs])
section
variable {Q:Rv→Prop}{ls:List Ln}
theorem wQ {l k:Ln}(h1:Sz 900 l.1)(h2:Sz 900 l.2)(h3:Sz 900 k.1)(h4:Sz 900 k.2)(q:Q (.val (.bool (oY l k)))):fJ [.val (gQ l),.val (gQ k)] Q:=by
 unfold oY at q;refine j6 ?_;unfold iV;walk_at "ws";refine zQ (fun c=>?_) (fun c=>?_)
 ·rw[if_neg c] at q;walk_at "ws";exact cZ (h2.mono (by decide)) (h4.mono (by decide)) q
 ·rw[if_pos c] at q;walk_at "ws";unfold jJ;walk_at "ws";exact cZ (h3.mono (by decide)) (h1.mono (by decide)) q
theorem a0J (hz:LinesOk 200 ls)(hl:ls.length≤30)(hne:ls≠[])(q:Q (.val (.int (flN ls:Int)))):gW [.val (.list (bH ls))] Q:=by
 have hp:=Dw.mpr hne;refine j6 ?_;unfold lC;walk_at "ws";refine cO (eG ls) ?_;walk_at "ws";refine⟨⟨by omega,by omega,by omega,by omega⟩,?_⟩;refine eO (fun n Γ=>∃ a,Γ=[.val (.list (bH ls)),.val (.int (rG ls n:Int)),a]) ⟨_,rfl⟩ ?_ ?_
 ·rintro n Γ K hn ⟨a,rfl⟩ hk;have hn':n+1<ls.length:=by omega
  have le:=a2Y ls n;have e1:ls[n+1]?=some ls[n+1]:=AQ hn';have e2:ls[rG ls n]?=some ls[rG ls n]:=AQ (by omega);obtain⟨z1,z2⟩:=hz.get e1;obtain⟨z3,z4⟩:=hz.get e2;have hk3:=hk.nx;have ef:rG ls (n+1)=if oY ls[n+1] ls[rG ls n]=true then n+1 else rG ls n:=by
   show(match ls[n+1]?,ls[rG ls n]? with|some l,some k=>if oY l k=true then n+1 else rG ls n|_,_=>rG ls n)=_
   rw[e1,e2]
  rw[ef] at hk3;have ei:(1+(n:Int))=((n+1:Nat):Int):=by omega
  rw[ei];unfold mV;walk_at "ws";refine cO (dR e1) ?_;walk_at "ws";refine cO (dR e2) ?_;walk_at "ws";refine wQ (z1.mono (by decide)) (z2.mono (by decide)) (z3.mono (by decide)) (z4.mono (by decide)) ?_
  cases hb:oY ls[n+1] ls[rG ls n] with
  | true=>
   rw[hb,if_pos rfl] at hk3;walk_at "ws";exact hk3 _ ⟨_,rfl⟩
  | false=>
   rw[hb,if_neg (by decide)] at hk3;walk_at "ws";exact hk3 _ ⟨_,rfl⟩
 ·rintro Γ ⟨a,rfl⟩;rw[show((ls.length:Int)-1).toNat=ls.length-1 by omega];unfold mG;walk_at "ws";exact q
theorem a0S {n:Nat}{t:Rat}{c:Nat×Rat}(hz:LinesOk 200 ls)(hn:n<ls.length)(hc:c.1<ls.length)(ht:Sz 802 t)(hu:Sz 802 c.2)(q:Q (.val (.bool (if t=c.2 then ahN ls t n c.1 else decide (t<c.2))))) :
  gY [.val (.list (bH ls)),.val (.int (n:Int)),.val (cG t),.val (pairD c)] Q:=by
 have e1:ls[n]?=some ls[n]:=AQ hn;have e2:ls[c.1]?=some ls[c.1]:=AQ hc;obtain⟨z1,z2⟩:=hz.get e1;obtain⟨z3,z4⟩:=hz.get e2;refine j6 ?_;unfold lN pairD;walk_at "ws";refine cO (d:=cG c.2) rfl ?_;walk_at "ws";refine zQ (fun d=>?_) (fun d=>?_)
 ·rw[if_neg d] at q;walk_at "ws";refine cO (d:=cG c.2) rfl ?_;walk_at "ws";exact cZ (ht.mono (by decide)) (hu.mono (by decide)) q
 ·rw[if_pos d] at q;walk_at "ws";unfold mR;walk_at "ws";refine cO (d:=.int (c.1:Int)) rfl ?_;walk_at "ws";refine aB9 e1 e2 (z1.mono (by decide)) (z2.mono (by decide)) (z3.mono (by decide)) (z4.mono (by decide)) (ht.mono (by decide)) ?_;rw[← iI e1 e2];exact q
theorem uC {L:Nat}(hz:LinesOk 200 ls)(hl:ls.length≤30)(hL:L<ls.length)(q:Q (.val (dNl (nlN ls L)))):j4 [.val (.list (bH ls)),.val (.int (L:Int))] Q:=by
 have e0:ls[L]?=some ls[L]:=AQ hL;obtain⟨y1,y2⟩:=hz.get e0;refine j6 ?_;unfold nQ;walk_at "ws";refine cO (eG ls) ?_;walk_at "ws";refine⟨by omega,by omega,?_⟩;refine eO (fun n Γ=>∃ a b,Γ=[.val (.list (bH ls)),.val (.int (L:Int)),.val (dNl (aFA ls L n)),a,b]) ⟨_,_,rfl⟩ ?_ ?_
 ·rintro n Γ K hn ⟨a,b,rfl⟩ hk;have hn':n<ls.length:=by omega
  have e1:ls[n]?=some ls[n]:=AQ hn';obtain⟨z1,z2⟩:=hz.get e1;have hk3:=hk.nx;have ef:aFA ls L (n+1)=yK ls L n (aFA ls L n):=rfl;rw[ef] at hk3;unfold yK at hk3;rw[jU e0,jU e1] at hk3;rw[Cu];unfold o8;walk_at "ws";refine cO (dR e0) ?_;walk_at "ws";refine cO (dR e1) ?_;walk_at "ws";refine cZ (y2.mono (by decide)) (z2.mono (by decide)) ?_;walk_at "ws";refine fU (fun c=>?_) (fun c=>?_)
  ·rw[if_pos c] at hk3;have hs:ls[L].2≠ls[n].2:=by grind
   have zm:=aJN hz e0 e1 hs;have em:=a7I e0 e1;walk_at "ws";refine cO (dR e0) ?_;walk_at "ws";refine cO (dR e1) ?_;walk_at "ws";refine yW (y1.mono (by decide)) (y2.mono (by decide)) (z1.mono (by decide)) (z2.mono (by decide)) ?_;walk_at "ws";unfold aE4;rw[if_neg hs];refine cO (d:=cG (mt ls[L] ls[n])) rfl ?_;rw[← em];walk_at "ws"
   cases hb:aFA ls L n with
   | none=>
    rw[hb] at hk3;refine a4U ?_;walk_at "ws";exact hk3 _ ⟨_,_,rfl⟩
   | some c'=>
    rw[hb] at hk3;dsimp only at hk3;have C:=tL n (by omega) c' hb;have hc1:c'.1<ls.length:=by have:=C.lt; omega
    have f1:ls[c'.1]?=some ls[c'.1]:=AQ hc1;have zc:Sz 802 c'.2:=by
     rw[C.tm];refine aJN hz e0 f1 ?_;have:=C.st;rw[jU e0,jU f1] at this;grind
    refine a5C ?_;walk_at "ws";refine a0S hz hn' (by have:=C.lt; omega) zm zc ?_
    by_cases e:mtN ls L n=c'.2
    ·rw[if_pos e] at hk3 ⊢
     cases ha:ahN ls (mtN ls L n) n c'.1 with
     | true=>
      rw[ha,if_pos rfl] at hk3;walk_at "ws";exact hk3 _ ⟨_,_,rfl⟩
     | false=>
      rw[ha,if_neg (by decide)] at hk3;walk_at "ws";exact hk3 _ ⟨_,_,rfl⟩
    ·rw[if_neg e] at hk3 ⊢;walk_at "ws";refine fU (fun h=>?_) (fun h=>?_)
     ·rw[if_pos h] at hk3;walk_at "ws";exact hk3 _ ⟨_,_,rfl⟩
     ·rw[if_neg h] at hk3;walk_at "ws";exact hk3 _ ⟨_,_,rfl⟩
  ·rw[if_neg c] at hk3;walk_at "ws";exact hk3 _ ⟨_,_,rfl⟩
 ·rintro Γ ⟨a,b,rfl⟩;rw[show(ls.length:Int).toNat=ls.length by omega];unfold o6;walk_at "ws";exact q
def gP (ls:List Ln)(i:Nat):Nat:=((List.range ls.length).filter fun j=>decide (slo ls i<slo ls j)).length
theorem aC9 {i c:Nat}(hc:c<ls.length)(h:slo ls i<slo ls c):gP ls c<gP ls i:=by
 unfold gP;have sub:∀{xs:List Nat},c∈xs→(xs.filter fun j=>decide (slo ls c<slo ls j)).length<(xs.filter fun j=>decide (slo ls i<slo ls j)).length:=by
  intro xs;have le:∀ xs:List Nat,(xs.filter fun j=>decide (slo ls c<slo ls j)).length≤(xs.filter fun j=>decide (slo ls i<slo ls j)).length:=by
   intro xs
   induction xs with
   | nil=>exact AN _
   | cons x xs ih=>
    by_cases c1:slo ls c<slo ls x
    ·have c2:slo ls i<slo ls x:=by grind
     simp[c1,c2]; exact ih
    ·by_cases c2:slo ls i<slo ls x
     ·simp[c1,c2]; omega
     ·simp[c1,c2]; exact ih
  induction xs with
  | nil=>intro h; cases h
  | cons x xs ih=>
   intro hm;rcases AK.mp hm with e|e
   ·subst e;have c1:¬slo ls c<slo ls c:=by grind
    have:=le xs;simp[c1,h]; omega
   ·have:=ih e
    by_cases c1:slo ls c<slo ls x
    ·have c2:slo ls i<slo ls x:=by grind
     simp[c1,c2]; exact this
    ·by_cases c2:slo ls i<slo ls x
     ·simp[c1,c2]; omega
     ·simp[c1,c2]; exact this
 exact sub (A2.mpr hc)
theorem a72 (hz:LinesOk 200 ls)(hl:ls.length≤20)(q:Q (.own (aGG ls))):pR [.val (.list (bH ls))] Q:=by
 refine j6 ?_;unfold zO;walk_at "ws";refine cO (eG ls) ?_;walk_at "ws";refine fU (fun c=>?_) (fun c=>?_)
 ·have e:ls=[]:=List.eq_nil_of_length_eq_zero (by omega);subst e;walk_at "ws";exact q
 have hne:ls≠[]:=fun e=>c (by rw[e]; rfl);walk_at "ws";unfold vY;walk_at "ws";refine a0J hz (by omega) hne ?_;walk_at "ws";have fin:∀ r rs,RowFrom ls none r rs→oO [.val (.list (bH ls)),.own (uF r rs),.val .none] fun fl=>match fl with|.rt rv=>Q rv|.nx _=>Q (.val .none)|_=>False:=by
  intro r rs hr;have h1:=hr.first (vZ hne)
  subst h1;have h2:=hr.unique (vZ hne);subst h2;unfold oO;walk_at "ws";unfold aGG at q;rw[if_neg hne] at q;exact q
 have fl:=aGP hne;refine pA (fun m Γ=>(m=gP ls (flN ls)+1∧Γ=[.val (.list (bH ls)),.own [],.val (.tuple [.int (flN ls:Int),.none])]) ∨
   (∃ r acc c,m=gP ls c.1+1∧Γ=[.val (.list (bH ls)),.own (uF r acc),.val (pairD c)]∧acc.length+gP ls c.1<20∧Leads ls c.2 c.1∧∀ rest,RowFrom ls (some c.2) c.1 rest→RowFrom ls none r (acc++c::rest)) ∨
   (∃ r acc,m=0∧Γ=[.val (.list (bH ls)),.own (uF r acc),.val .none]∧RowFrom ls none r acc)) (gP ls (flN ls)+1) (.inl ⟨rfl,rfl⟩) ?_
 have nl:∀ L,L<ls.length→∀ c,nlN ls L=some c→c.1<ls.length∧gP ls c.1<gP ls L:=fun L hL c hc=>by
  have C:=tL _ (AN _) c hc;exact⟨C.lt,aC9 C.lt C.st⟩
 have st20:∀ i,gP ls i≤ls.length:=fun i=>by
  unfold gP;have:=B4 (fun j=>decide (slo ls i<slo ls j)) (List.range ls.length);rwa[Bv] at this
 have hfl:flN ls<ls.length:=by
  obtain⟨u,_,_,h⟩:=fl 0 trivial;exact h.1
 rintro m Γ (⟨rfl,rfl⟩|⟨r,acc,c,rfl,rfl,hlen,hld,hrow⟩|⟨r,acc,rfl,rfl,hrow⟩)
 ·walk_at "ws";unfold p8;walk_at "ws";refine a1V (ds:=[]) rfl (by decide) ?_;walk_at "ws";refine cO (d:=.int (flN ls:Int)) rfl ?_;walk_at "ws";refine uC hz (by omega) hfl ?_;walk_at "ws"
  cases hc:nlN ls (flN ls) with
  | none=>exact⟨0,by omega,.inr (.inr ⟨flN ls,[],rfl,rfl,row_end fl hc⟩)⟩
  | some c=>
   obtain⟨n1,n2⟩:=nl _ hfl c hc;obtain⟨b1,b2,b3,b4⟩:=a9N fl hc;have:=st20 (flN ls);exact⟨gP ls c.1+1,by omega,.inr (.inl ⟨flN ls,[],c,rfl,rfl,by simp; omega,b4,fun rest hr=>⟨b1,b2,b3,hr⟩⟩)⟩
 ·unfold pairD;walk_at "ws";unfold p8;walk_at "ws";refine a1V (ds:=uF r acc) rfl (by simp[uF]; omega) ?_;have eo:uF r acc++[.tuple [.int (c.1:Int),cG c.2]]=uF r (acc++[c]):=by unfold uF; simp[pairD]
  rw[eo];walk_at "ws";refine cO (d:=.int (c.1:Int)) rfl ?_;walk_at "ws";refine uC hz (by omega) hld.1 ?_;walk_at "ws"
  cases hc:nlN ls c.1 with
  | none=>exact⟨0,by omega,.inr (.inr ⟨r,acc++[c],rfl,rfl,hrow [] (row_end (LeadFr.at hld) hc)⟩)⟩
  | some c'=>
   obtain⟨n1,n2⟩:=nl _ hld.1 c' hc;obtain⟨b1,b2,b3,b4⟩:=a9N (LeadFr.at hld) hc;exact⟨gP ls c'.1+1,by omega,.inr (.inl ⟨r,acc++[c],c',rfl,rfl,by simp; omega,b4,fun rest hr=>by
    rw[DL];exact hrow (c'::rest) ⟨b1,b2,b3,hr⟩⟩)⟩
 ·walk_at "ws";exact fin r acc hrow
end
inductive Wh where
 | always|never|fr (t:Rat)|un (t:Rat)
def Wh.sat:Wh→Rat→Prop
 | .always,_=>True
 | .never,_=>False
 | .fr s,t=>s≤t
 | .un s,t=>t<s
def dWh:Wh→D
 | .always=>.tuple [.str "always"]
 | .never=>.tuple [.str "never"]
 | .fr t=>.tuple [.str "from", cG t]
 | .un t=>.tuple [.str "until", cG t]
def cQ:Wh→Str
 | .always => "always"
 | .never => "never"
 | .fr _ => "from"
 | .un _ => "until"
def whB (l k:Ln)(i r:Nat):Wh:=if l.2=k.2 then(if ahB l k i r 0=true then .always else .never) else if k.2<l.2 then .fr (mt l k) else .un (mt l k)
def whN (ls:List Ln)(i r:Nat):Wh:=match ls[i]?,ls[r]? with
 | some l,some k=>whB l k i r
 | _,_=>.never
theorem aD6 {ls:List Ln}{i r:Nat}{l k:Ln}(h1:ls[i]?=some l)(h2:ls[r]?=some k):whN ls i r=whB l k i r:=by unfold whN; rw[h1,h2]
theorem aAP {ls:List Ln}{i r:Nat}(hi:i<ls.length)(hr:r<ls.length)(t:Rat):ahN ls t i r=true↔(whN ls i r).sat t:=by
 have e1:ls[i]?=some ls[i]:=AQ hi;have e2:ls[r]?=some ls[r]:=AQ hr;rw[iI e1 e2,aD6 e1 e2];unfold whB
 by_cases c:ls[i].2=ls[r].2
 ·rw[if_pos c];have e:ahB ls[i] ls[r] i r t=ahB ls[i] ls[r] i r 0:=by rw[nU c,nU c]
  rw[e]
  cases h:ahB ls[i] ls[r] i r 0 with
  | true=>rw[if_pos rfl]; exact⟨fun _=>trivial,fun _=>rfl⟩
  | false=>rw[if_neg (by decide)]; exact⟨fun z=>(nomatch z),fun z=>z.elim⟩
 ·rw[if_neg c]
  by_cases d:mt ls[i] ls[r]≤t
  ·rw[a4J c d,decide_eq_true_eq]
   by_cases e:ls[r].2<ls[i].2
   ·rw[if_pos e]; exact⟨fun _=>d,fun _=>e⟩
   ·rw[if_neg e]; exact⟨fun z=>absurd z e,fun z=>by have z:t<mt ls[i] ls[r]:=z; grind⟩
  ·rw[a0O c (by grind),decide_eq_true_eq]
   by_cases e:ls[r].2<ls[i].2
   ·rw[if_pos e]; exact⟨fun z=>by grind,fun z=>absurd z d⟩
   ·rw[if_neg e]; exact⟨fun _=>(show t<mt ls[i] ls[r] by grind),fun _=>by grind⟩
def allB:Wh→Wh→Bool
 | .always,_=>true
 | _,.always=>true
 | .fr s,.un u => !decide (u<s)
 | .un u,.fr s => !decide (u<s)
 | _,_=>false
theorem allB_iff (a b:Wh):allB a b=true↔∀ t,a.sat t∨b.sat t:=by
 cases a with
 | always=>exact⟨fun _ t=>.inl trivial,fun _=>rfl⟩
 | never=>
  cases b with
  | always=>exact⟨fun _ t=>.inr trivial,fun _=>rfl⟩
  | never=>exact⟨fun z=>(nomatch z),fun h=>((h 0).elim id id).elim⟩
  | fr s=>exact⟨fun z=>(nomatch z),fun h=>by rcases h (s-1) with z|z; exact z.elim; have z:s≤s-1:=z; grind⟩
  | un s=>exact⟨fun z=>(nomatch z),fun h=>by rcases h s with z|z; exact z.elim; have z:s<s:=z; grind⟩
 | fr s=>
  cases b with
  | always=>exact⟨fun _ t=>.inr trivial,fun _=>rfl⟩
  | never=>exact⟨fun z=>(nomatch z),fun h=>by rcases h (s-1) with z|z; (have z:s≤s-1:=z; grind); exact z.elim⟩
  | fr u=>exact⟨fun z=>(nomatch z),fun h=>by
    by_cases c:s≤u
    ·rcases h (s-1) with z|z
     ·have z:s≤s-1:=z; grind
     ·have z:u≤s-1:=z; grind
    ·rcases h (u-1) with z|z
     ·have z:s≤u-1:=z; grind
     ·have z:u≤u-1:=z; grind⟩
  | un u=>
   show(!decide (u<s))=true↔_
   constructor
   ·intro h t;have h:¬u<s:=by simpa using h
    by_cases c:s≤t
    ·exact .inl c
    ·exact .inr (show t<u by grind)
   ·intro h;have:¬u<s:=fun c=>by
     rcases h u with z|z
     ·have z:s≤u:=z; grind
     ·have z:u<u:=z; grind
    simpa using this
 | un u=>
  cases b with
  | always=>exact⟨fun _ t=>.inr trivial,fun _=>rfl⟩
  | never=>exact⟨fun z=>(nomatch z),fun h=>by rcases h u with z|z; (have z:u<u:=z; grind); exact z.elim⟩
  | fr s=>
   show(!decide (u<s))=true↔_
   constructor
   ·intro h t;have h:¬u<s:=by simpa using h
    by_cases c:s≤t
    ·exact .inr c
    ·exact .inl (show t<u by grind)
   ·intro h;have:¬u<s:=fun c=>by
     rcases h u with z|z
     ·have z:u<u:=z; grind
     ·have z:s≤u:=z; grind
    simpa using this
  | un s=>exact⟨fun z=>(nomatch z),fun h=>by
    by_cases c:s≤u
    ·rcases h u with z|z
     ·have z:u<u:=z; grind
     ·have z:u<s:=z; grind
    ·rcases h s with z|z
     ·have z:s<u:=z; grind
     ·have z:s<s:=z; grind⟩
theorem a8C {ls:List Ln}{r a b:Nat}(hr:r<ls.length)(ha:a<ls.length)(hb:b<ls.length):allB (whN ls a r) (whN ls b r)=true↔Cov ls r a b:=by
 rw[allB_iff];exact⟨fun h t=>(h t).imp (aAP ha hr t).mpr (aAP hb hr t).mpr,fun h t=>(h t).imp (aAP ha hr t).mp (aAP hb hr t).mp⟩
theorem a3S (w:Wh):Gd 0 (.str (cQ w)):=by
 cases w with
 | always=>exact a6P "always"
 | never=>exact a6P "never"
 | fr t=>exact a6P "from"
 | un t=>exact a6P "until"
theorem aJO (w:Wh):ixD (dWh w) (.int 0)=some (.str (cQ w)):=by cases w<;>rfl
def aQL (w:Wh):Prop:=match w with
 | .fr t=>Sz 802 t
 | .un t=>Sz 802 t
 | _=>True
theorem aA5 {ls:List Ln}{i r:Nat}(hz:LinesOk 200 ls)(hi:i<ls.length)(hr:r<ls.length):aQL (whN ls i r):=by
 have e1:ls[i]?=some ls[i]:=AQ hi;have e2:ls[r]?=some ls[r]:=AQ hr;obtain⟨z1,z2⟩:=hz.get e1;obtain⟨z3,z4⟩:=hz.get e2;rw[aD6 e1 e2];unfold whB
 split
 ·split<;>trivial
 ·rename_i c
  have:=aDI z1 z2 z3 z4 (t:=mt ls[i] ls[r]) (by unfold mtO; rw[if_neg c])
  split<;>exact this
theorem bt0:Bt 4000 (0:Int):=by unfold Bt; decide +kernel
theorem bt1:Bt 4000 (1:Int):=by unfold Bt; decide +kernel
theorem aKM:Sz 4000 (0:Rat):=⟨bt0,bt1⟩
section
variable {Q:Rv→Prop}{ls:List Ln}
theorem a7X {c:AB}{a:Rat}(ha:Sz 4000 a)(q:Q (.val (cG 0))):gZ c [.val (cG a),.con c] Q:=by
 obtain⟨a0,a1⟩:=id ha;refine j6 ?_;unfold lH;walk_at "ws";refine cO (d:=.int 0) rfl ?_;walk_at "ws";refine⟨aOY a0 bt0,?_⟩;walk_at "ws";refine cO (d:=.int 1) rfl ?_;walk_at "ws";refine⟨aOY a1 bt1,?_⟩;walk_at "ws";refine jD (by rw[Da]; exact cY a) (by rw[Da]; exact a1.mono (by decide)) ?_;have e:Rat.divInt (a.num*0) ((a.den:Int)*1)=0:=by rw[Int.mul_zero]; exact FM _
 rw[e];exact q
theorem aDP {c:AB}{l:Ln}(h1:Sz 900 l.1)(h2:Sz 900 l.2)(q:Q (.val (cG (pl l 0)))):jV c [.val (gQ l),.con c] Q:=by
 refine j6 ?_;unfold pI;walk_at "ws";refine a7X (h2.mono (by decide)) ?_;walk_at "ws";refine a9G (h1.mono (by decide)) aKM ?_;have e:l.1+0=pl l 0:=by unfold pl; grind
 rw[e];exact q
theorem wB {c:AB}{i:Nat}{l:Ln}(hi:ls[i]?=some l)(h1:Sz 900 l.1)(h2:Sz 900 l.2)(q:Q (.val (lO l 0 i))):iK c [.val (.list (bH ls)),.val (.int (i:Int)),.con c] Q:=by
 refine j6 ?_;unfold pH;walk_at "ws";refine cO (dR hi) ?_;walk_at "ws";refine aDP h1 h2 ?_;walk_at "ws";refine cO (dR hi) ?_;walk_at "ws";exact q
theorem a6F {c:AB}{i j:Nat}{l k:Ln}(hi:ls[i]?=some l)(hj:ls[j]?=some k)(h1:Sz 900 l.1)(h2:Sz 900 l.2)(h3:Sz 900 k.1)(h4:Sz 900 k.2)(q:Q (.val (.bool (ahB l k i j 0)))) :
  jZ c [.val (.list (bH ls)),.val (.int (i:Int)),.val (.int (j:Int)),.con c] Q:=by
 have z0:Sz 2900 (0:Rat):=⟨by unfold Bt; decide +kernel,by unfold Bt; decide +kernel⟩;refine j6 ?_;unfold pX;walk_at "ws";refine wB hi h1 h2 ?_;walk_at "ws";refine wB hj h3 h4 ?_;walk_at "ws";exact lJ (qR h1 h2 z0) (h2.mono (by decide)) (qR h3 h4 z0) (h4.mono (by decide)) q
theorem q8 {i r:Nat}(hz:LinesOk 200 ls)(hi:i<ls.length)(hr:r<ls.length)(q:Q (.val (dWh (whN ls i r)))):fQ [.val (.list (bH ls)),.val (.int (i:Int)),.val (.int (r:Int))] Q:=by
 intro c;have e1:ls[i]?=some ls[i]:=AQ hi;have e2:ls[r]?=some ls[r]:=AQ hr;obtain⟨z1,z2⟩:=hz.get e1;obtain⟨z3,z4⟩:=hz.get e2;rw[aD6 e1 e2] at q;unfold whB at q;refine j6 ?_;unfold lM;walk_at "ws";refine cO (dR e1) ?_;walk_at "ws";refine cO (dR e2) ?_;walk_at "ws";refine yW (z1.mono (by decide)) (z2.mono (by decide)) (z3.mono (by decide)) (z4.mono (by decide)) ?_;walk_at "ws";unfold aE4
 by_cases hs:ls[i].2=ls[r].2
 ·rw[if_pos hs] at q ⊢;obtain⟨s,hs1,hs2⟩:∃ s:Str,(if ls[i].1=ls[r].1 then AJ.tuple [.str "always"] else .tuple [.str "never"])=.tuple [.str s]∧(s = "always" ∨ s = "never"):=by
   by_cases c:ls[i].1=ls[r].1
   ·rw[if_pos c]; exact⟨_,rfl,.inl rfl⟩
   ·rw[if_neg c]; exact⟨_,rfl,.inr rfl⟩
  rw[hs1];refine cO (d:=.str s) rfl ?_;walk_at "ws";have hz:Av (.str s) (.str "at")=false:=by rcases hs2 with rfl|rfl<;>decide
  refine⟨by rcases hs2 with rfl|rfl<;>exact good_str _,good_str _,?_⟩;rw[hz];walk_at "ws";refine a6F e1 e2 (z1.mono (by decide)) (z2.mono (by decide)) (z3.mono (by decide)) (z4.mono (by decide)) ?_
  cases hb:ahB ls[i] ls[r] i r 0 with
  | true=>
   rw[hb,if_pos rfl] at q;walk_at "ws";exact q
  | false=>
   rw[hb,if_neg (by decide)] at q;walk_at "ws";exact q
 ·rw[if_neg hs] at q ⊢;refine cO (d:=.str "at") rfl ?_;walk_at "ws";refine⟨good_str _,good_str _,?_⟩;rw[t7 (good_str "at")];walk_at "ws";unfold mF;walk_at "ws";refine cO (dR e2) ?_;walk_at "ws";refine cO (dR e1) ?_;walk_at "ws";refine cZ (z4.mono (by decide)) (z2.mono (by decide)) ?_;walk_at "ws";refine fU (fun c=>?_) (fun c=>?_)
  ·rw[if_pos c] at q;walk_at "ws";refine cO (d:=cG (mt ls[i] ls[r])) rfl ?_;walk_at "ws";exact q
  ·rw[if_neg c] at q;walk_at "ws";unfold lR;walk_at "ws";refine cO (d:=cG (mt ls[i] ls[r])) rfl ?_;walk_at "ws";exact q
theorem yQ {a b:Wh}(ha:aQL a)(hb:aQL b)(q:Q (.val (.bool (allB a b)))):eH [.val (dWh a),.val (dWh b)] Q:=by
 have gw:∀ x y:Wh,Good (.tuple [.str (cQ x),.str (cQ y)]):=fun x y=>(aP5 (a3S x) (a3S y)).good;have gs:Goods [.str (cQ a),.str (cQ b)]:=a9E (n:=0) fun d hd=>by
  rcases AK.mp hd with rfl|hd
  ·exact a3S a
  ·rw[mem_singleton.mp hd]; exact a3S b
 refine j6 ?_;unfold jM;walk_at "ws";refine cO (aJO a) ?_;walk_at "ws";refine cO (aJO b) ?_;walk_at "ws";refine⟨good_str _,gs,?_⟩;have fu:Good (.tuple [.str "from", .str "until"]):=gw (.fr 0) (.un 0);have uf:Good (.tuple [.str "until", .str "from"]):=gw (.un 0) (.fr 0);have step:∀(x:Bool),([AJ.str (cQ a),.str (cQ b)].any fun e=>Av e (.str "always"))=x→(x=true→allB a b=true)→(x=false→dC [.val (dWh a),.val (dWh b),.val (.tuple [.str (cQ a),.str (cQ b)])] fun fl=>match fl with|.rt rv=>Q rv|.nx _=>Q (.val .none)|_=>False) →
   (if (if false=true then !x else x)=true then dH (cN (mC (.bool true))) [.val (dWh a),.val (dWh b),.val (.tuple [.str (cQ a),.str (cQ b)])] (fun fl=>match fl with|.nx Γ1=>(dC Γ1 fun fl=>(match fl with|.rt rv=>Q rv|.nx _=>Q (.val .none)|_=>False))|fl=>(match fl with|.rt rv=>Q rv|.nx _=>Q (.val .none)|_=>False))
    else mNx [.val (dWh a),.val (dWh b),.val (.tuple [.str (cQ a),.str (cQ b)])] (fun fl=>match fl with|.nx Γ1=>(dC Γ1 fun fl=>(match fl with|.rt rv=>Q rv|.nx _=>Q (.val .none)|_=>False))|fl=>(match fl with|.rt rv=>Q rv|.nx _=>Q (.val .none)|_=>False))):=by
  intro x _ h1 h2;rw[show(if false=true then !x else x)=x by cases x<;>rfl]
  cases x with
  | true=>
   rw[h1 rfl] at q;walk_at "ws";exact q
  | false=>
   walk_at "ws";exact h2 rfl
 refine step _ rfl (fun h=>?_) fun h=>?_
 ·cases a<;>cases b<;>first|rfl|exact absurd h (by dsimp only[cQ]; decide)
 ·unfold dC;walk_at "ws";refine⟨gw a b,fu,?_⟩;have no:(Av (.tuple [.str (cQ a),.str (cQ b)]) (.tuple [.str "from", .str "until"])=false)→(Av (.tuple [.str (cQ a),.str (cQ b)]) (.tuple [.str "until", .str "from"])=false)→allB a b=false→(if Av (.tuple [.str (cQ a),.str (cQ b)]) (.tuple [.str "from", .str "until"])=true then dH (cN (aBV (bZ (aZ 2 cJ (bB (mIx (aN 1) (mC (.int 1))) (bB (mIx (aN 0) (mC (.int 1))) bY)))))) [.val (dWh a),.val (dWh b),.val (.tuple [.str (cQ a),.str (cQ b)])] (fun fl=>match fl with|.nx Γ1=>(cX Γ1 fun fl=>(match fl with|.rt rv=>Q rv|.nx _=>Q (.val .none)|_=>False))|fl=>(match fl with|.rt rv=>Q rv|.nx _=>Q (.val .none)|_=>False))
    else mNx [.val (dWh a),.val (dWh b),.val (.tuple [.str (cQ a),.str (cQ b)])] (fun fl=>match fl with|.nx Γ1=>(cX Γ1 fun fl=>(match fl with|.rt rv=>Q rv|.nx _=>Q (.val .none)|_=>False))|fl=>(match fl with|.rt rv=>Q rv|.nx _=>Q (.val .none)|_=>False))):=by
   intro h1 h2 h3;rw[h3] at q;rw[h1];walk_at "ws";unfold cX;walk_at "ws";refine⟨gw a b,uf,?_⟩;rw[h2];walk_at "ws";unfold jY;walk_at "ws";exact q
  cases a with
  | always=>exact absurd h (by cases b<;>(dsimp only[cQ]; decide))
  | never=>
   cases b with
   | always=>exact absurd h (by dsimp only[cQ]; decide)
   | never=>exact no (by dsimp only[cQ]; decide) (by dsimp only[cQ]; decide) rfl
   | fr u=>exact no (by dsimp only[cQ]; decide) (by dsimp only[cQ]; decide) rfl
   | un u=>exact no (by dsimp only[cQ]; decide) (by dsimp only[cQ]; decide) rfl
  | fr s=>
   cases b with
   | always=>exact absurd h (by dsimp only[cQ]; decide)
   | never=>exact no (by dsimp only[cQ]; decide) (by dsimp only[cQ]; decide) rfl
   | fr u=>exact no (by dsimp only[cQ]; decide) (by dsimp only[cQ]; decide) rfl
   | un u=>
    have q2:Q (.val (.bool (!decide (u<s)))):=q;rw[show Av (.tuple [.str (cQ (.fr s)),.str (cQ (.un u))]) (.tuple [.str "from", .str "until"])=true by exact t7 fu];unfold dWh;walk_at "ws";refine cO (d:=cG u) rfl ?_;walk_at "ws";refine cO (d:=cG s) rfl ?_;walk_at "ws";refine cZ (Sz.mono hb (by decide)) (Sz.mono ha (by decide)) ?_;walk_at "ws";exact q2
  | un u=>
   cases b with
   | always=>exact absurd h (by dsimp only[cQ]; decide)
   | never=>exact no (by dsimp only[cQ]; decide) (by dsimp only[cQ]; decide) rfl
   | un s=>exact no (by dsimp only[cQ]; decide) (by dsimp only[cQ]; decide) rfl
   | fr s=>
    have q2:Q (.val (.bool (!decide (u<s)))):=q;rw[show Av (.tuple [.str (cQ (.un u)),.str (cQ (.fr s))]) (.tuple [.str "from", .str "until"])=false by dsimp only[cQ]; decide];unfold dWh;walk_at "ws";unfold cX;walk_at "ws";refine⟨gw (.un u) (.fr s),uf,?_⟩;rw[show Av (.tuple [.str (cQ (.un u)),.str (cQ (.fr s))]) (.tuple [.str "until", .str "from"])=true by exact t7 uf];walk_at "ws";refine cO (d:=cG u) rfl ?_;walk_at "ws";refine cO (d:=cG s) rfl ?_;walk_at "ws";refine cZ (Sz.mono ha (by decide)) (Sz.mono hb (by decide)) ?_;walk_at "ws";exact q2
end
section
variable {Q:Rv→Prop}{ls:List Ln}
theorem aA0 {i:Int}(q:Q (.val (.bool (decide (0≤i∧i<(ls.length:Int)))))):jG [.val (.list (bH ls)),.val (.int i)] Q:=by
 refine j6 ?_;unfold sU;walk_at "ws";refine a8Q ?_;walk_at "ws";refine fU (fun c=>?_) (fun c=>?_)
 ·walk_at "ws";refine cO (eG ls) ?_;rw[show decide (0≤i∧i<(ls.length:Int))=decide (i<(ls.length:Int)) by simp[c]] at q;walk_at "ws";exact q
 ·rw[show decide (0≤i∧i<(ls.length:Int))=false by simp[c]] at q;walk_at "ws";exact q
theorem aC4 {r:Nat}{a b:Int}(hz:LinesOk 200 ls)(hr:r<ls.length)(q:∀ c:Bool,(c=true↔aIE ls r a b)→Q (.val (.bool c))) :
  qF [.val (.list (bH ls)),.val (.int (r:Int)),.val (.int a),.val (.int b)] Q:=by
 have no:¬(0≤a∧a<(ls.length:Int)∧a≠r∧0≤b∧b<(ls.length:Int)∧b≠r)→Q (.val (.bool false)):=fun h=>q false ⟨fun z=>(nomatch z),fun g=>by
  obtain⟨x,y,h1,h2,h3,h4,h5,h6,h7⟩:=g;exact absurd ⟨by omega,by omega,by omega,by omega,by omega,by omega⟩ h⟩
 refine j6 ?_;unfold uX;walk_at "ws";refine aA0 ?_
 by_cases c1:0≤a∧a<(ls.length:Int)
 rotate_left
 ·rw[decide_eq_false c1];walk_at "ws";exact no (by omega)
 rw[decide_eq_true c1];walk_at "ws";refine aA0 ?_
 by_cases c2:0≤b∧b<(ls.length:Int)
 rotate_left
 ·rw[decide_eq_false c2];walk_at "ws";exact no (by omega)
 rw[decide_eq_true c2];walk_at "ws";refine⟨good_int _,a9E (n:=0) fun d hd=>?_,?_⟩
 ·rcases AK.mp hd with rfl|hd
  ·exact rC _
  ·rw[mem_singleton.mp hd]; exact rC _
 have ea:([A0 a,.int b].any fun e=>Av e (.int (r:Int)))=decide (a=r∨b=r):=by
  simp only[List.any_cons,List.any_nil,aDN,EJ,Bool.decide_or]
 rw[ea]
 by_cases c3:a=r∨b=r
 ·rw[decide_eq_true c3];rw[show(if false=true then !true else true)=true by decide];walk_at "ws";exact no (by omega)
 rw[decide_eq_false c3];rw[show(if false=true then !false else false)=false by decide];walk_at "ws";obtain⟨x,rfl⟩:∃ n:Nat,a=(n:Int):=⟨a.toNat,by omega⟩;obtain⟨y,rfl⟩:∃ n:Nat,b=(n:Int):=⟨b.toNat,by omega⟩;have hx:x<ls.length:=by omega
 have hy:y<ls.length:=by omega
 unfold u6;walk_at "ws";refine q8 hz hx hr ?_;walk_at "ws";refine q8 hz hy hr ?_;walk_at "ws";refine yQ (aA5 hz hx hr) (aA5 hz hy hr) ?_;refine q _ ((a8C hr hx hy).trans ⟨fun h=>⟨x,y,rfl,rfl,hx,hy,by omega,by omega,h⟩,fun h=>?_⟩);obtain⟨x',y',h1,h2,_,_,_,_,h7⟩:=h;have e1:x'=x:=by omega
 have e2:y'=y:=by omega
 rw[e1,e2] at h7;exact h7
end
def dX (n x:Nat):List Nat:=(List.range n).filter fun i=>decide (i≠x)
theorem restN_mem {n x i:Nat}:i∈dX n x↔i<n∧i≠x:=by unfold dX; rw[Ap,A2,decide_eq_true_eq]
theorem aG8 (n x:Nat):(dX n x).length≤n:=by
 unfold dX;have:=B4 (fun i=>decide (i≠x)) (List.range n);rwa[Bv] at this
def qU (ls:List Ln)(x:Nat)(rs:List Nat)(a j:Nat):Bool:=allB (whN ls (rs.getD a 0) x) (whN ls (rs.getD (a+j) 0) x)
def cvN (ls:List Ln)(x:Nat):Option (Nat×Nat):=
 let rs:=dX ls.length x
 match (List.range rs.length).find? fun a=>(List.range (rs.length-a)).any fun j=>qU ls x rs a j with
 | none=>none
 | some a=>(match (List.range (rs.length-a)).find? fun j=>qU ls x rs a j with
  | none=>none
  | some j=>some (rs.getD a 0,rs.getD (a+j) 0))
def cvD:Option (Nat×Nat)→D
 | none=>.none
 | some p=>.tuple [.int (p.1:Int),.int (p.2:Int)]
theorem a1O {n:Nat}{p:Nat→Bool}{i:Nat}(hi:i<n)(h:p i=true)(hn:∀ j,j<i→p j=false):(List.range n).find? p=some i:=by
 rw[List.find?_range_eq_some];exact⟨h,A2.mpr hi,fun j hj=>by rw[hn j hj]; rfl⟩
theorem aIN {ls:List Ln}{x a j:Nat}(ha:a<(dX ls.length x).length)(hj:j<(dX ls.length x).length-a)(h:qU ls x (dX ls.length x) a j=true)(h1:∀ i,i<j→qU ls x (dX ls.length x) a i=false)
  (h2:∀ b,b<a→∀ i,i<(dX ls.length x).length-b→qU ls x (dX ls.length x) b i=false):cvN ls x=some ((dX ls.length x).getD a 0,(dX ls.length x).getD (a+j) 0):=by
 unfold cvN;dsimp only;rw[a1O (p:=fun a=>(List.range ((dX ls.length x).length-a)).any fun j=>qU ls x (dX ls.length x) a j) ha (ET.mpr ⟨j,A2.mpr hj,h⟩) fun b hb=>ES.mpr fun i hi=>by rw[h2 b hb i (A2.mp hi)]; simp];dsimp only;rw[a1O hj h h1]
theorem aGO {ls:List Ln}{x:Nat}(h:∀ b,b<(dX ls.length x).length→∀ i,i<(dX ls.length x).length-b→qU ls x (dX ls.length x) b i=false):cvN ls x=none:=by
 have e:(List.range (dX ls.length x).length).find? (fun a=>(List.range ((dX ls.length x).length-a)).any fun j=>qU ls x (dX ls.length x) a j)=none:=by
  rw[DM];intro a ha;rw[Ed,ES];intro i hi;rw[h a (A2.mp ha) i (A2.mp hi)];simp
 unfold cvN;dsimp only;rw[e]
theorem oV {n x a:Nat}(h:a<(dX n x).length):(dX n x).getD a 0=(dX n x)[a]∧(dX n x)[a]<n∧(dX n x)[a]≠x:=by
 have hm:=restN_mem.mp (B9 h);exact⟨by simp[Bs,AQ h],hm⟩
theorem aGE {ls:List Ln}{x:Nat}(hx:x<ls.length){p:Nat×Nat}(h:cvN ls x=some p):p.1<ls.length∧p.2<ls.length∧p.1≠x∧p.2≠x∧Cov ls x p.1 p.2:=by
 unfold cvN at h;dsimp only at h
 split at h
 ·cases h
 ·rename_i a ha
  split at h
  ·cases h
  ·rename_i j hj
   cases h
   obtain⟨_,m1,_⟩:=List.find?_range_eq_some.mp ha;obtain⟨q1,m2,_⟩:=List.find?_range_eq_some.mp hj;have l1:=A2.mp m1;have l2:=A2.mp m2;obtain⟨e1,b1,b2⟩:=oV l1;obtain⟨e2,c1,c2⟩:=oV (n:=ls.length) (x:=x) (a:=a+j) (by omega);unfold qU at q1;rw[e1,e2] at q1;show _∧_∧_∧_∧_;dsimp only;rw[e1,e2];exact⟨b1,c1,b2,c2,(a8C hx b1 c1).mp q1⟩
theorem aH9 {ls:List Ln}{x:Nat}(hx:x<ls.length)(h:cvN ls x=none):∃ t,Leads ls t x:=by
 apply Classical.byContradiction;intro hn;have hne:ls≠[]:=by rintro rfl; exact absurd hx (by simp)
 have noL:∀ t,¬Leads ls t x:=fun t ht=>hn ⟨t,ht⟩;obtain⟨a,ha,b,hb,hc⟩:=aKH hx noL (vZ hne);obtain⟨ta,la⟩:=a8X (vZ hne) a ha;obtain⟨tb,lb⟩:=a8X (vZ hne) b hb;have na:a≠x:=fun e=>noL ta (by rw[← e]; exact la);have nb:b≠x:=fun e=>noL tb (by rw[← e]; exact lb);have key:∀ i j:Nat,i≤j→∀(hi:i<(dX ls.length x).length) (hj:j<(dX ls.length x).length),¬Cov ls x (dX ls.length x)[i] (dX ls.length x)[j]:=by
  intro i j hij hi hj hcv;obtain⟨e1,b1,b2⟩:=oV hi;obtain⟨e2,c1,c2⟩:=oV hj;unfold cvN at h;dsimp only at h;have pij:qU ls x (dX ls.length x) i (j-i)=true:=by
   unfold qU;rw[show i+(j-i)=j by omega,e1,e2];exact(a8C hx b1 c1).mpr hcv
  split at h
  ·rename_i hf
   rw[DM] at hf;exact hf i (A2.mpr hi) (ET.mpr ⟨j-i,A2.mpr (by omega),pij⟩)
  ·rename_i a' ha'
   split at h
   ·rename_i hf
    obtain⟨q,_,_⟩:=List.find?_range_eq_some.mp ha';obtain⟨k,hk,hk2⟩:=ET.mp q;rw[DM] at hf;exact hf k hk hk2
   ·cases h
 obtain⟨i,hi,ei⟩:=List.getElem_of_mem (restN_mem.mpr ⟨la.1,na⟩);obtain⟨j,hj,ej⟩:=List.getElem_of_mem (restN_mem.mpr ⟨lb.1,nb⟩)
 by_cases c:i≤j
 ·exact key i j c hi hj (by rw[ei,ej]; exact hc)
 ·exact key j i (by omega) hj hi (by rw[ei,ej]; exact hc.swap)
section
variable {Q:Rv→Prop}{ls:List Ln}
theorem a7O {x:Nat}(hz:LinesOk 200 ls)(hl:ls.length≤30)(hx:x<ls.length)(q:Q (.val (cvD (cvN ls x)))):zL [.val (.list (bH ls)),.val (.int (x:Int))] Q:=by
 have hrl:=aG8 ls.length x;refine j6 ?_;unfold a80;walk_at "ws";refine cO (eG ls) ?_;walk_at "ws";refine⟨by omega,by omega,?_⟩;have el:(eZ 0 (ls.length:Int).toNat).length=ls.length:=by simp[eZ]
 refine⟨by rw[el]; omega,?_⟩;have er:eZ 0 (ls.length:Int).toNat=(List.range ls.length).map fun(i:Nat)=>A0 (i:Int):=by
  unfold eZ;rw[B7];exact DS fun k _=>by rw[Cu]
 rw[er];refine iT (α:=Nat) (fun i=>decide (i≠x)) (fun i=>.int (i:Int)) (fun i=>.int (i:Int)) (List.range ls.length) [] _ (fun i hi _ k k0 h1 h0=>?_) ?_
 ·walk_at "ws";refine zQ (fun c=>?_) (fun c=>?_)
  ·walk_at "ws";exact h1 (decide_eq_true (by omega))
  ·exact h0 (decide_eq_false (by omega))
 have e1:(([]:List D)++((List.range ls.length).filter fun i=>decide (i≠x)).map fun(i:Nat)=>A0 (i:Int))=iM (dX ls.length x):=rfl;rw[e1];walk_at "ws";refine⟨by rw[a0G]; omega,?_⟩;refine iT (α:=Nat) (fun _=>true) (fun i=>dWh (whN ls i x)) (fun i=>.int (i:Int)) (dX ls.length x) [] _ (fun i hi _ k k0 h1 h0=>?_) ?_
 ·walk_at "ws";unfold v6;walk_at "ws";refine q8 hz (restN_mem.mp hi).1 hx ?_;walk_at "ws";exact h1 rfl
 have ef:List.filter (fun _=>true) (dX ls.length x)=dX ls.length x:=CM.mpr fun _ _=>rfl;rw[ef,By];have no:=fun h=>aGO (ls:=ls) (x:=x) h;have so:=fun{a j} ha hj h h1 h2=>aIN (ls:=ls) (x:=x) (a:=a) (j:=j) ha hj h h1 h2;have get:=fun{a} (h:a<(dX ls.length x).length)=>oV h;walk_at "ws";refine cO (a9D _) ?_;walk_at "ws";generalize hrs:dX ls.length x=rs at *;refine⟨by omega,by omega,?_⟩;have ixr:∀{a:Nat} (ha:a<rs.length),ixD (.list (iM rs)) (.int (a:Int))=some (.int (rs[a]:Int)):=fun ha=>a7P ha;have ixw:∀{a:Nat} (ha:a<rs.length),ixD (.list (rs.map fun i=>dWh (whN ls i x))) (.int (a:Int))=some (dWh (whN ls rs[a] x)):=fun ha=>vX (by rw[Aa,AQ ha]; rfl);refine eO (fun n Γ=>(∀ b,b<n→∀ i,i<rs.length-b→qU ls x rs b i=false)∧∃ a b c,Γ=[.val (.list (bH ls)),.val (.int (x:Int)),.val (.list (iM rs)),a,.val (.list (rs.map fun i=>dWh (whN ls i x))),b,c]) ⟨fun b hb=>absurd hb (by omega),_,_,_,rfl⟩ ?_ ?_
 ·rintro n Γ K hn ⟨hno,a,b,c,rfl⟩ hk;have hn':n<rs.length:=by omega
  obtain⟨g1,g2,g3⟩:=get hn';rw[Cu];unfold a1W;walk_at "ws";refine cO (a9D _) ?_;walk_at "ws";refine⟨⟨by omega,by omega,by omega,by omega⟩,?_⟩;refine eO (fun m Γ=>(∀ i,i<m→qU ls x rs n i=false)∧∃ c,Γ=[.val (.list (bH ls)),.val (.int (x:Int)),.val (.list (iM rs)),a,.val (.list (rs.map fun i=>dWh (whN ls i x))),.val (.int (n:Int)),c]) ⟨fun i hi=>absurd hi (by omega),_,rfl⟩ ?_ ?_
  ·rintro m Γ K2 hm ⟨hno2,c,rfl⟩ hk2;have hm':n+m<rs.length:=by omega
   obtain⟨f1,f2,f3⟩:=get hm';rw[show(n:Int)+(m:Int)=((n+m:Nat):Int) by omega];unfold a1Q;walk_at "ws";refine cO (ixw hn') ?_;walk_at "ws";refine cO (ixw hm') ?_;walk_at "ws";refine yQ (aA5 hz g2 hx) (aA5 hz f2 hx) ?_;have ep:allB (whN ls rs[n] x) (whN ls rs[n+m] x)=qU ls x rs n m:=by unfold qU; rw[g1,f1]
   rw[ep]
   cases hb:qU ls x rs n m with
   | true=>
    walk_at "ws";refine cO (ixr hn') ?_;walk_at "ws";refine cO (ixr hm') ?_;walk_at "ws";refine hk2.rt _ (hk.rt _ ?_);have e:=so hn' (by omega) hb hno2 hno;rw[g1,f1] at e;rw[e] at q;exact q
   | false=>
    walk_at "ws";refine hk2.nx _ ⟨fun i hi=>?_,_,rfl⟩
    by_cases c:i=m
    ·rw[c]; exact hb
    ·exact hno2 i (by omega)
  ·rintro Γ ⟨hno2,c,rfl⟩;refine hk.nx _ ⟨fun b hb i hi=>?_,_,_,_,rfl⟩
   by_cases c:b=n
   ·rw[c] at hi ⊢; exact hno2 i (by omega)
   ·exact hno b (by omega) i hi
 ·rintro Γ ⟨hno,a,b,c,rfl⟩;unfold a2E;walk_at "ws";rw[no fun b hb i hi=>hno b (by omega) i hi] at q;exact q
end
abbrev Stp:=Int×Option Rat
def aRA (p:Stp):D:=.tuple [.int p.1,aLA p.2]
def SOk (p:Stp):Prop:=∀ t,p.2=some t→Sz 1700 t
def IsS (n:Nat)(ds:List D):Prop:=∃ ss:List Stp,ds=ss.map aRA∧(∀ p∈ss,SOk p)∧ss.length≤n
theorem aMG {ls:List Ln}(hz:LinesOk 200 ls)(hl:ls.length≤10):IsS 102 (aGG ls):=by
 have hml:(mts ls).length≤100:=by
  have h1:=yX ls;have h2:ls.length*ls.length≤10*10:=Cj hl hl;omega
 unfold aGG
 split
 ·exact⟨[],rfl,fun p hp=>(nomatch hp),by decide⟩
 ·rename_i h
  have hlen:=yD ls (mts ls) (aEM ls);refine⟨((aEM ls:Int),none)::(aH3 ls).map fun p=>((p.1:Int),some p.2),?_,fun p hp=>?_,?_⟩
  ·rw[BD,A9];exact congrArg _ (DS fun p _=>rfl)
  ·rcases AK.mp hp with e|e
   ·rw[e]; intro t ht; cases ht
   ·obtain⟨q,hq,rfl⟩:=Ab.mp e;intro t ht
    cases ht
    have go:∀{rest:List (Nat×Rat)} {lo:Option Rat} {r:Nat},RowFrom ls lo r rest→∀ p∈rest,Sz 802 p.2:=by
     intro rest
     induction rest with
     | nil=>intro lo r _ p hp; cases hp
     | cons q rest ih=>
      intro lo r h p hp;rcases AK.mp hp with e|e
      ·subst e;obtain⟨l,k,e1,e2,e3,e4⟩:=aI7 h;obtain⟨z1,z2⟩:=hz.get e1;obtain⟨z3,z4⟩:=hz.get e2;rw[← e4];exact aDI z1 z2 z3 z4 (by unfold mtO; rw[if_neg (by grind)])
      ·exact ih h.2.2.2 p e
    exact(go (vZ h) q hq).mono (by decide)
  ·rw[An,AS];have:(aH3 ls).length≤(mts ls).length:=hlen;omega
section
variable {Q:Rv→Prop}{ls:List Ln}
end
section
variable {Q:Rv→Prop}{ls:List Ln}
end
theorem aLG (xs:List D):L2.VS.cutD xs (some 1) none=xs.drop 1:=by
 cases xs with
 | nil=>rfl
 | cons x xs=>
  have e1:HT.sIx (x::xs).length 0 (some 1)=1:=by
   unfold HT.sIx;simp
  have e2:HT.sIx (x::xs).length (x::xs).length none=(x::xs).length:=rfl;unfold L2.VS.cutD;rw[e1,e2];simp
def aLT (xs:List Nat):List (Nat×Nat):=xs.zip (xs.drop 1)
def aLV (p:Nat×Nat):D:=.tuple [.int (p.1:Int),.int (p.2:Int)]
theorem aAE (xs:List Nat):(aLT xs).length=xs.length-1:=by unfold aLT; rw[List.length_zip,DQ]; omega
theorem aHR {xs:List Nat}{n:Nat}(h:n+1<xs.length):(aLT xs)[n]?=some (xs[n],xs[n+1]):=by
 unfold aLT;rw[List.getElem?_zip_eq_some];exact⟨AQ (by omega),by rw[List.getElem?_drop,Nat.add_comm]; exact AQ h⟩
section
variable {Q:Rv→Prop}{ls:List Ln}
theorem a6G {xs:List Nat}(q:Q (.own ((aLT xs).map aLV))):kO [.val (.list (iM xs))] Q:=by
 refine j6 ?_;unfold pF;walk_at "ws";rw[aLG];have e:aM8 (iM xs) ((iM xs).drop 1)=(aLT xs).map aLV:=by
  unfold aM8 iM aLT;rw[← map_drop,List.zip_map,A9];exact DS fun p _=>rfl
 rw[e];exact q
end
theorem rW (f:Rat→Nat)(t:Rat):∀(ts:List Rat) (r:Nat),dJ f r (ts++[t])=dJ f r ts++(if f t=a4I r (dJ f r ts) then[] else[(f t,t)])
 | [],r=>by
  show(if f t=r then dJ f r [] else(f t,t)::dJ f (f t) [])=[]++(if f t=r then[] else[(f t,t)])
  split<;>rfl
 | u::ts,r=>by
  show(if f u=r then dJ f r (ts++[t]) else(f u,u)::dJ f (f u) (ts++[t]))=(if f u=r then dJ f r ts else(f u,u)::dJ f (f u) ts)++(if f t=a4I r (if f u=r then dJ f r ts else(f u,u)::dJ f (f u) ts) then[] else[(f t,t)])
  by_cases c:f u=r
  ·rw[if_pos c,if_pos c]; exact rW f t ts r
  ·rw[if_neg c,if_neg c,a2D,rW f t ts];rfl
theorem qI (f:Rat→Nat):∀(ts:List Rat) (r:Nat),(dJ f r ts).length≤ts.length
 | [],r=>AN _
 | u::ts,r=>by
  show(if f u=r then dJ f r ts else(f u,u)::dJ f (f u) ts).length≤ts.length+1
  have h1:=qI f ts r;have h2:=qI f ts (f u)
  split
  ·omega
  ·simp only[An]; omega
theorem aK2 {ls:List Ln}{k:Nat}:RowOf (rkN ls k) none (rkN ls k (early ls)) (dJ (rkN ls k) (rkN ls k (early ls)) (mts ls)):=by
 have noM:∀ a b,(∀ s∈mts ls,¬(a<s∧s≤b))→¬a1P ls a b:=fun a b hb=>by
  rintro⟨i,j,l,k,e1,e2,e3,e4,e5⟩
  exact hb _ (mem_mts.mpr ⟨i,j,l,k,e1,e2,e3,rfl⟩) ⟨e4,e5⟩
 have he:∀ s∈mts ls,early ls<s:=fun s hs=>by
  have srt:=oU ls;unfold early;generalize mts ls=ms at *
  cases ms with
  | nil=>cases hs
  | cons t0 tr=>
   show t0-(1:Rat)<s;rcases AK.mp hs with z|z
   ·grind
   ·have:=(BU.mp srt).1 s z; grind
 refine vB (M:=fun s=>s∈mts ls) (fun a b hab h=>yH hab (noM a b h)) (mts ls) none none _ (oU ls) (fun _ _=>trivial) (fun _ _=>trivial) (fun t _ hs=>?_) (fun s hs _=>hs)
 by_cases c:t≤early ls
 ·exact(yH c (noM _ _ fun s hm hh=>by have:=he s hm; grind)).symm
 ·exact yH (by grind) (noM _ _ fun s hm hh=>by have:=hs s hm; grind)
def rkD (ls:List Ln)(k:Nat):List D:=if ls.length≤k then[] else uF (rkN ls k (early ls)) (dJ (rkN ls k) (rkN ls k (early ls)) (mts ls))
section
variable {Q:Rv→Prop}{ls:List Ln}
end
theorem aGB:∀{xs ys:List Rat},xs.Pairwise (·<·)→ys.Pairwise (·<·)→(∀ t,t∈xs↔t∈ys)→xs=ys
 | [],[],_,_,_=>rfl
 | [],y::ys,_,_,h=>nomatch (h y).mpr mem_cons_self
 | x::xs,[],_,_,h=>nomatch (h x).mp mem_cons_self
 | x::xs,y::ys,hx,hy,h=>by
  obtain⟨a1,a2⟩:=BU.mp hx;obtain⟨b1,b2⟩:=BU.mp hy;have e:x=y:=by
   rcases AK.mp ((h x).mp mem_cons_self) with z|z
   ·exact z
   ·rcases AK.mp ((h y).mpr mem_cons_self) with w|w
    ·exact w.symm
    ·have:=b1 x z;have:=a1 y w;grind
  subst e;rw[aGB a2 b2 fun t=>⟨fun m=>?_,fun m=>?_⟩]
  ·rcases AK.mp ((h t).mp (AU _ m)) with z|z
   ·have:=a1 t m;grind
   ·exact z
  ·rcases AK.mp ((h t).mpr (AU _ m)) with z|z
   ·have:=b1 t m;grind
   ·exact z
def ris (xs:List Rat):List Rat:=xs.foldl (fun ts x=>a7L ts (some x)) []
theorem aIC (xs:List Rat)(x:Rat):ris (xs++[x])=a7L (ris xs) (some x):=by
 unfold ris;rw[List.foldl_append];rfl
theorem a9W:∀(xs ts:List Rat),ts.Pairwise (·<·)→(xs.foldl (fun ts x=>a7L ts (some x)) ts).Pairwise (·<·)∧(∀ t,t∈xs.foldl (fun ts x=>a7L ts (some x)) ts↔t∈ts∨t∈xs)∧(xs.foldl (fun ts x=>a7L ts (some x)) ts).length≤ts.length+xs.length
 | [],ts,h=>⟨h,fun t=>by simp,by simp⟩
 | x::xs,ts,h=>by
  obtain⟨a,b,c⟩:=a9W xs (a7L ts (some x)) (aAZ h);refine⟨a,fun t=>?_,?_⟩
  ·rw[DN,b t,aAJ];simp only[Az.injEq,AK];constructor
   ·rintro((z|z)|z)
    ·exact .inl z
    ·exact .inr (.inl z.symm)
    ·exact .inr (.inr z)
   ·rintro(z|z|z)
    ·exact .inl (.inl z)
    ·exact .inl (.inr z.symm)
    ·exact .inr z
  ·have:=aB3 ts (some x);rw[DN,An];omega
theorem a81 (xs:List Rat):(ris xs).Pairwise (·<·):=(a9W xs [] .nil).1
theorem ris_mem {xs:List Rat}{t:Rat}:t∈ris xs↔t∈xs:=by
 have:=(a9W xs [] .nil).2.1 t;unfold ris;rw[this];simp
theorem aDW (xs:List Rat):(ris xs).length≤xs.length:=by
 have:=(a9W xs [] .nil).2.2;unfold ris;simpa using this
theorem aMB (x:D)(xs:List D):L2.VS.cutD (x::xs) (some 1) none=xs:=by
 have e1:HT.sIx (xs.length+1) 0 (some 1)=1:=by simp[HT.sIx]
 have e2:HT.sIx (xs.length+1) (xs.length+1) none=xs.length+1:=by simp[HT.sIx]
 unfold L2.VS.cutD;rw[An,e1,e2];simp
theorem aGS {ls:List Ln}(hz:LinesOk 200 ls):Sz 2900 (early ls):=by
 unfold early
 cases h:mts ls with
 | nil=>exact a2M (i:=0) (by decide) (by decide)
 | cons t r=>
  have hm:t∈mts ls:=by rw[h]; exact mem_cons_self
  exact((yU hz hm).sub (a2M (k:=31) (i:=1) (by decide) (by decide))).mono (by decide)
section
variable {Q:Rv→Prop}{ls:List Ln}
theorem a9U {xs:List Rat}(hz:∀ x∈xs,Sz 2900 x)(hl:xs.length≤500)(hn:xs.Nodup)(q:Q (.own (gC (ris xs)))):tE [.val (.list (gC xs))] Q:=by
 refine j6 ?_;unfold a4A;walk_at "ws";refine rZ (fun n Γ=>∃ a b,Γ=[.val (.list (gC xs)),.own (gC (ris (xs.take n))),a,b]) ⟨_,_,rfl⟩ ?_ ?_
 ·rintro n d Γ K hd ⟨a,b,rfl⟩ hk;obtain⟨x,hx,rfl⟩:=a5R hd;have zx:=hz x (BL hx);have tk:xs.take (n+1)=xs.take n++[x]:=by rw[DV,hx]; rfl
  have hk3:=hk.nx;rw[tk,aIC] at hk3;have hno:x∉ris (xs.take n):=fun hm=>by
   have hs:=hn.sublist (D0 (n+1) xs);rw[tk] at hs;exact(DT.mp hs).2.2 x (ris_mem.mp hm) x (mem_singleton.mpr rfl) rfl
  have hsrt:=a81 (xs.take n);have hlen:(ris (xs.take n)).length≤500:=by
   have h1:=aDW (xs.take n);rw[Bw] at h1;omega
  have hzt:∀ y∈ris (xs.take n),Sz 2900 y:=fun y hy=>hz y (List.mem_of_mem_take (ris_mem.mp hy));generalize ris (xs.take n)=ts at *;have ft:=uW (t:=x) hsrt;have fl:(ts.filter fun u=>decide (u<x)).length≤ts.length:=B4 _ _;have hins:a7L ts (some x)=vW ts ((ts.filter fun u=>decide (u<x)).length:Int) x:=by
   show(if x∈ts then ts else _)=_
   rw[if_neg hno]
  rw[hins] at hk3;generalize hF:(ts.filter fun u=>decide (u<x)).length=m at *;unfold yM;walk_at "ws";refine cO (d:=.int (ts.length:Int)) (by show some (A0 ((gC ts).length:Int))=_; rw[lQ]) ?_;walk_at "ws";refine pA (fun w Γ=>∃ k:Nat,w=k-m∧m≤k∧k≤ts.length∧Γ=[.val (.list (gC xs)),.own (gC ts),.val (cG x),.val (.int (k:Int))]) (ts.length-m) ⟨ts.length,rfl,fl,AN _,rfl⟩ ?_;rintro w Γ ⟨k,rfl,hk1,hk2,rfl⟩;have stop:k=m→rR [.val (.list (gC xs)),.own (gC ts),.val (cG x),.val (.int (k:Int))] K:=by
   intro ek;subst ek;unfold rR;walk_at "ws";refine aJ5 (ds:=gC ts) rfl (by omega) (by omega) (by rw[lQ]; omega) ?_;have ei:vW (gC ts) (k:Int) (cG x)=gC (vW ts (k:Int) x):=by
    unfold gC;rw[aAR]
   rw[ei];exact hk3 _ ⟨_,_,rfl⟩
  walk_at "ws";refine fU (fun c=>?_) (fun c=>?_)
  ·have hkp:k-1<ts.length:=by omega
   have ix:ixD (.list (gC ts)) (.int ((k:Int)-1))=some (cG ts[k-1]):=by
    rw[show(k:Int)-1=((k-1:Nat):Int) by omega];exact vX (by unfold gC; rw[Aa,AQ hkp]; rfl)
   walk_at "ws";refine cO ix ?_;walk_at "ws";have hin:ts[k-1]∈ts:=B9 _;have hne:ts[k-1]≠x:=fun z=>hno (z▸hin);refine cZ (zx.mono (by decide)) ((hzt _ hin).mono (by decide)) ?_
   by_cases hkm:m<k
   ·have hd:ts[k-1]∈ts.drop m:=List.mem_drop_iff_getElem.mpr ⟨k-1-m,by omega,by congr 1; omega⟩;rw[ft.2] at hd;have hd2:¬ts[k-1]<x:=by simpa using(Ap.mp hd).2
    rw[decide_eq_true (show x<ts[k-1] by grind)];walk_at "ws";unfold a08;walk_at "ws";exact⟨k-1-m,by omega,k-1,rfl,by omega,by omega,by rw[show((k-1:Nat):Int)=(k:Int)-1 by omega]; rfl⟩
   ·have ek:k=m:=by omega
    have hd:ts[k-1]∈ts.take m:=List.mem_take_iff_getElem.mpr ⟨k-1,by omega,rfl⟩;rw[ft.1] at hd;have hd2:ts[k-1]<x:=by simpa using(Ap.mp hd).2
    rw[decide_eq_false (show ¬x<ts[k-1] by grind)];walk_at "ws";exact stop ek
  ·walk_at "ws";exact stop (by omega)
 ·rintro Γ ⟨a,b,rfl⟩;rw[lQ,DU];unfold a0E;walk_at "ws";exact q
def rk (t:Rat):List Int:=[t.num,(t.den:Int)]
theorem aAX {s t:Rat}(h:rk s=rk t):s=t:=by
 unfold rk at h;injection h with h1 h2;injection h2 with h2 _;exact EK h1 (by exact_mod_cast h2)
theorem a65 {k:List Int}{e:D}:∀ kds:List (List Int×List D),(a7N kds k e).map (·.1)=if k∈kds.map (·.1) then kds.map (·.1) else kds.map (·.1)++[k]
 | []=>rfl
 | (k',ds)::r=>by
  unfold a7N
  by_cases c:k'=k
  ·rw[if_pos c,if_pos (by rw[BD]; exact c▸mem_cons_self)];rfl
  ·rw[if_neg c,BD,a65 r]
   by_cases d:k∈r.map (·.1)
   ·rw[if_pos d,if_pos (by rw[BD]; exact AU _ d)];rfl
   ·rw[if_neg d,if_neg (by rw[BD]; exact fun z=>(AK.mp z).elim (fun y=>c y.symm) d)];rfl
theorem a9X {k:List Int}{e:D}:∀ kds:List (List Int×List D),(a7N kds k e).length≤kds.length+1
 | []=>AN _
 | (k',ds)::r=>by
  unfold a7N;have:=a9X (k:=k) (e:=e) r
  split<;>simp only[An]<;>omega
theorem aFH {k:List Int}{e:D}:∀{kds:List (List Int×List D)},(kds.map (·.1)).Nodup→∀{k':List Int} {ds:List D},(k',ds)∈a7N kds k e→(k'≠k∧(k',ds)∈kds)∨(k'=k∧((∃ es,(k,es)∈kds∧ds=es++[e])∨(k∉kds.map (·.1)∧ds=[e])))
 | [],_,k',ds,h=>by
  cases mem_singleton.mp h
  exact .inr ⟨rfl,.inr ⟨fun z=>(nomatch z),rfl⟩⟩
 | (k0,es)::r,nd,k',ds,h=>by
  rw[BD,BS] at nd;unfold a7N at h
  split at h
  ·rename_i c
   subst c;rcases AK.mp h with z|z
   ·cases z
    exact .inr ⟨rfl,.inl ⟨es,mem_cons_self,rfl⟩⟩
   ·exact .inl ⟨fun y=>nd.1 (y▸Ab.mpr ⟨_,z,rfl⟩),AU _ z⟩
  ·rename_i c
   rcases AK.mp h with z|z
   ·cases z
    exact .inl ⟨c,mem_cons_self⟩
   ·rcases aFH nd.2 z with⟨y1,y2⟩|⟨y1,⟨es',y2,y3⟩|⟨y2,y3⟩⟩
    ·exact .inl ⟨y1,AU _ y2⟩
    ·exact .inr ⟨y1,.inl ⟨es',AU _ y2,y3⟩⟩
    ·exact .inr ⟨y1,.inr ⟨fun w=>(AK.mp (by rw[BD] at w; exact w)).elim (fun v=>c v.symm) y2,y3⟩⟩
def gr (N c:Nat):List (Nat×Nat):=(List.range c).map fun k=>(k/N,k%N)
theorem a4D {N n m:Nat}(h:m<N):gr N (n*N+m+1)=gr N (n*N+m)++[(n,m)]:=by
 have e1:(n*N+m)/N=n:=by rw[C4,Nat.mul_add_div (by omega),FW h]; rfl
 have e2:(n*N+m)%N=m:=by rw[C4,Nat.mul_add_mod,Nat.mod_eq_of_lt h]
 unfold gr;rw[EY,Bi,List.map_singleton,e1,e2]
theorem gr_mem {N c i j:Nat}(hj:j<N):(i,j)∈gr N c↔i*N+j<c:=by
 unfold gr;rw[Ab];have e1:(i*N+j)/N=i:=by rw[C4,Nat.mul_add_div (by omega),FW hj]; rfl
 have e2:(i*N+j)%N=j:=by rw[C4,Nat.mul_add_mod,Nat.mod_eq_of_lt hj]
 constructor
 ·rintro⟨k,hk,e⟩
  cases e
  have:=Ft k N;rw[C4] at this;rw[this];exact A2.mp hk
 ·intro h;exact⟨_,A2.mpr h,by rw[e1,e2]⟩
def hit (ls:List Ln)(t:Rat)(p:Nat×Nat):Bool:=match ls[p.1]?,ls[p.2]? with
 | some l,some k=>decide (l.2<k.2)&&decide (mt l k=t)
 | _,_=>false
theorem a9Z {t:Rat}{i j:Nat}{l k:Ln}(h1:ls[i]?=some l)(h2:ls[j]?=some k):hit ls t (i,j)=(decide (l.2<k.2)&&decide (mt l k=t)):=by
 unfold hit;rw[h1,h2]
theorem a9P {t:Rat}{p:Nat×Nat}(h:hit ls t p=true):∃ l k,ls[p.1]?=some l∧ls[p.2]?=some k∧l.2<k.2∧mt l k=t:=by
 unfold hit at h
 split at h
 ·rename_i l k e1 e2
  simp only[CT,decide_eq_true_eq] at h;exact⟨l,k,e1,e2,h.1,h.2⟩
 ·cases h
def aAY (ls:List Ln)(ps:List (Nat×Nat))(t:Rat):List (Int×Int):=(ps.filter (hit ls t)).map fun p=>((p.1:Int),(p.2:Int))
def chP (ls:List Ln)(t:Rat):List (Int×Int):=aAY ls (gr ls.length (ls.length*ls.length)) t
def aGI (ks:List (Int×Int)):List D:=ks.map fun k=>.tuple [.int k.1,.int k.2]
theorem a6R (ps:List (Nat×Nat))(p:Nat×Nat)(t:Rat):aAY ls (ps++[p]) t=aAY ls ps t++if hit ls t p=true then[((p.1:Int),(p.2:Int))] else[]:=by
 unfold aAY;rw[List.filter_append,Bi]
 cases h:hit ls t p<;>simp[h]
theorem aHX (ps:List (Nat×Nat))(t:Rat):(aAY ls ps t).length≤ps.length:=by
 unfold aAY;rw[AS];exact B4 _ _
def ChI (ls:List Ln)(kds:List (List Int×List D))(c:Nat):Prop:=
 ∃ ts:List Rat,kds.map (·.1)=ts.map rk∧ts.Nodup∧kds.length≤c∧(∀ t ds,(rk t,ds)∈kds→ds=aGI (aAY ls (gr ls.length c) t))∧(∀ t∈ts,t∈mts ls)∧∀ p∈gr ls.length c,∀ t,hit ls t p=true→t∈ts
theorem aI1 {ts:List Rat}(h:ts.Nodup):(ts.map rk).Nodup:=by
 induction ts with
 | nil=>exact CP
 | cons t r ih=>
  rw[BS] at h;rw[BD,BS];exact⟨fun z=>by obtain⟨u,hu,e⟩:=Ab.mp z; exact h.1 (aAX e▸hu),ih h.2⟩
theorem ChI.yes {kds:List (List Int×List D)}{n m:Nat}{l k:Ln}(h:ChI ls kds (n*ls.length+m))(hm:m<ls.length)(h1:ls[n]?=some l)(h2:ls[m]?=some k)(h3:l.2<k.2) :
  ChI ls (a7N kds (rk (mt l k)) (.tuple [.int (n:Int),.int (m:Int)])) (n*ls.length+m+1):=by
 obtain⟨ts,a1,a2,a3,a4,a5,a6⟩:=h;have hmm:mt l k∈mts ls:=mem_mts.mpr ⟨n,m,l,k,h1,h2,by grind,rfl⟩;have nd:(kds.map (·.1)).Nodup:=a1▸aI1 a2;have hit1:∀ t,hit ls t (n,m)=true↔mt l k=t:=fun t=>by rw[a9Z h1 h2]; simp[h3]
 have keyin:∀ t∈ts,rk t∈kds.map (·.1):=fun t ht=>by rw[a1]; exact Ab.mpr ⟨t,ht,rfl⟩
 have a4':∀ t ds,(rk t,ds)∈a7N kds (rk (mt l k)) (.tuple [.int (n:Int),.int (m:Int)])→ds=aGI (aAY ls (gr ls.length (n*ls.length+m+1)) t):=by
  intro t ds hd;rw[a4D hm,a6R];rcases aFH nd hd with⟨y1,y2⟩|⟨y1,⟨es,y2,y3⟩|⟨y2,y3⟩⟩
  ·rw[if_neg (fun z=>y1 (by rw[(hit1 t).mp z])),CK];exact a4 t ds y2
  ·have e:=aAX y1;subst e;rw[if_pos ((hit1 _).mpr rfl),y3,a4 _ es y2];unfold aGI;rw[Bi];rfl
  ·have e:=aAX y1;subst e;have no:aAY ls (gr ls.length (n*ls.length+m)) (mt l k)=[]:=by
    unfold aAY;rw[List.filter_eq_nil_iff.mpr fun p hp hh=>y2 (keyin _ (a6 p hp _ hh))];rfl
   rw[if_pos ((hit1 _).mpr rfl),y3,no];rfl
 have a6':∀ us:List Rat,(∀ t∈ts,t∈us)→mt l k∈us→∀ p∈gr ls.length (n*ls.length+m+1),∀ t,hit ls t p=true→t∈us:=by
  intro us g1 g2 p hp t hh;rw[a4D hm] at hp;rcases BO.mp hp with z|z
  ·exact g1 t (a6 p z t hh)
  ·cases mem_singleton.mp z
   rw[← (hit1 t).mp hh];exact g2
 have a3':(a7N kds (rk (mt l k)) (.tuple [.int (n:Int),.int (m:Int)])).length≤n*ls.length+m+1:=Aw (a9X kds) (FR a3);have hk:=a65 (k:=rk (mt l k)) (e:=.tuple [.int (n:Int),.int (m:Int)]) kds;rw[a1] at hk
 by_cases d:mt l k∈ts
 ·rw[if_pos (Ab.mpr ⟨_,d,rfl⟩)] at hk;exact⟨ts,hk,a2,a3',a4',a5,a6' ts (fun _ h=>h) d⟩
 ·rw[if_neg (fun z=>by obtain⟨t,ht,e⟩:=Ab.mp z; exact d (aAX e▸ht))] at hk;refine⟨ts++[mt l k],by rw[hk,Bi]; rfl,?_,a3',a4',fun t ht=>?_,a6' _ (fun _ h=>Dx _ h) (Bo _ (mem_singleton.mpr rfl))⟩
  ·rw[DT];refine⟨a2,BS.mpr ⟨fun z=>(nomatch z),CP⟩,fun x hx y hy z=>?_⟩;rw[mem_singleton.mp hy] at z;exact d (z▸hx)
  ·rcases BO.mp ht with z|z
   ·exact a5 t z
   ·rw[mem_singleton.mp z]; exact hmm
theorem ChI.nay {kds:List (List Int×List D)}{n m:Nat}{l k:Ln}(h:ChI ls kds (n*ls.length+m))(hm:m<ls.length)(h1:ls[n]?=some l)(h2:ls[m]?=some k)(h3:¬l.2<k.2):ChI ls kds (n*ls.length+m+1):=by
 obtain⟨ts,a1,a2,a3,a4,a5,a6⟩:=h;have hit0:∀ t,hit ls t (n,m)=false:=fun t=>by rw[a9Z h1 h2,decide_eq_false h3]; rfl
 refine⟨ts,a1,a2,Nat.le_succ_of_le a3,fun t ds hd=>?_,a5,fun p hp t hh=>?_⟩
 ·rw[a4D hm,a6R,hit0,if_neg (by decide),CK];exact a4 t ds hd
 ·rw[a4D hm] at hp;rcases BO.mp hp with z|z
  ·exact a6 p z t hh
  ·cases mem_singleton.mp z
   rw[hit0] at hh
   cases hh
theorem sY (hz:LinesOk 200 ls)(hl:ls.length≤20)(q:∀(kds:List (List Int×List D)) (ts:List Rat),kds.map (·.1)=ts.map rk→ts.Nodup→(∀ t,t∈ts↔t∈mts ls)→kds.length≤400→(∀ t ds,(rk t,ds)∈kds→ds=aGI (chP ls t))→Q (.box (a01 kds))):gA [.val (.list (bH ls))] Q:=by
 have hll:ls.length*ls.length≤20*20:=Cj hl hl;refine j6 ?_;unfold mZ;walk_at "ws";refine cO (eG ls) ?_;walk_at "ws";refine⟨by omega,by omega,?_⟩;refine eO (fun n Γ=>∃ kds a b c,Γ=[.val (.list (bH ls)),.box (a01 kds),a,b,c]∧ChI ls kds (n*ls.length)) ⟨[],_,_,_,rfl,[],rfl,CP,A8 _,fun _ _ h=>(nomatch h),fun _ h=>(nomatch h),fun p h=>by rw[Nat.zero_mul] at h; exact nomatch h⟩ ?_ ?_
 ·rintro n Γ K hn ⟨kds,a,b,c,rfl,hI⟩ hk;have hn':n<ls.length:=by omega
  have e1:ls[n]?=some ls[n]:=AQ hn';obtain⟨z1,z2⟩:=hz.get e1;have hnl:(n+1)*ls.length≤ls.length*ls.length:=Fu _ hn';rw[D2] at hnl;rw[Cu];unfold oG;walk_at "ws";refine cO (eG ls) ?_;walk_at "ws";refine⟨by omega,by omega,?_⟩;refine eO (fun m Γ=>∃ kds b c,Γ=[.val (.list (bH ls)),.box (a01 kds),.val (.int (n:Int)),b,c]∧ChI ls kds (n*ls.length+m)) ⟨kds,_,_,rfl,hI⟩ ?_ ?_
  ·rintro m Γ K2 hm ⟨kds,b,c,rfl,hI⟩ hk2;have hm':m<ls.length:=by omega
   have e2:ls[m]?=some ls[m]:=AQ hm';obtain⟨z3,z4⟩:=hz.get e2;rw[Cu];unfold oH;walk_at "ws";refine cO (tQ hn') ?_;walk_at "ws";refine cO (tQ hm') ?_;walk_at "ws";refine cZ (z2.mono (by decide)) (z4.mono (by decide)) ?_
   by_cases hlt:ls[n].2<ls[m].2
   ·rw[decide_eq_true hlt];walk_at "ws";refine cO (tQ hn') ?_;walk_at "ws";refine cO (tQ hm') ?_;walk_at "ws";refine yW (z1.mono (by decide)) (z2.mono (by decide)) (z3.mono (by decide)) (z4.mono (by decide)) ?_;unfold aE4;rw[if_neg (show ¬ls[n].2=ls[m].2 by grind)];walk_at "ws";refine cO (d:=cG (mt ls[n] ls[m])) rfl ?_;walk_at "ws";obtain⟨ts,a1,a2,a3,a4,a5,a6⟩:=id hI;refine aIK (kds:=kds) (k:=rk (mt ls[n] ls[m])) rfl rfl rfl rfl (by omega) (fun kd hkd=>?_) ?_
    ·have hk1:kd.1∈kds.map (·.1):=Ab.mpr ⟨_,hkd,rfl⟩;rw[a1] at hk1;obtain⟨t,_,e⟩:=Ab.mp hk1;have hb:=aHX (ls:=ls) (gr ls.length (n*ls.length+m)) t;have hc:(gr ls.length (n*ls.length+m)).length=n*ls.length+m:=by unfold gr; rw[AS,Bv]
     have:=a4 t kd.2 (by rw[e]; exact hkd);rw[this];unfold aGI;rw[AS];omega
    exact hk2.nx _ ⟨_,_,_,rfl,hI.yes hm' e1 e2 hlt⟩
   ·rw[decide_eq_false hlt];walk_at "ws";exact hk2.nx _ ⟨_,_,_,rfl,hI.nay hm' e1 e2 hlt⟩
  ·rintro Γ ⟨kds,b,c,rfl,hI⟩;refine hk.nx _ ⟨_,_,_,_,rfl,?_⟩;rw[D2];simpa using hI
 ·rintro Γ ⟨kds,a,b,c,rfl,ts,a1,a2,a3,a4,a5,a6⟩;unfold oJ;walk_at "ws";have hc:(ls.length:Int).toNat*ls.length=ls.length*ls.length:=by rw[B7]
  have a4:∀ t ds,(rk t,ds)∈kds→ds=aGI (aAY ls (gr ls.length ((ls.length:Int).toNat*ls.length)) t):=a4;have a6:∀ p∈gr ls.length ((ls.length:Int).toNat*ls.length),∀ t,hit ls t p=true→t∈ts:=a6;rw[hc] at a4 a6;have fin:∀ i j l k,ls[i]?=some l→ls[j]?=some k→l.2<k.2→mt l k∈ts:=fun i j l k g1 g2 y=>by
   have hi:=(List.getElem?_eq_some_iff.mp g1).1;have hj:=(List.getElem?_eq_some_iff.mp g2).1;have hij:(i+1)*ls.length≤ls.length*ls.length:=Fu _ hi;rw[D2] at hij;exact a6 (i,j) ((gr_mem hj).mpr (by omega)) _ (by rw[a9Z g1 g2]; simp[y])
  refine q kds ts a1 a2 (fun t=>⟨a5 t,fun ht=>?_⟩) (by omega) a4;obtain⟨i,j,l,k,g1,g2,g3,rfl⟩:=mem_mts.mp ht
  by_cases y:l.2<k.2
  ·exact fin i j l k g1 g2 y
  ·rw[← vK g3];exact fin j i k l g2 g1 (by grind)
theorem a07 (hz:LinesOk 200 ls)(hl:ls.length≤20)(q:Q (.own (gC (early ls::mts ls)))):fW [.val (.list (bH ls))] Q:=by
 have one:AJ.tuple [.int 1,.int 1]=cG ((1:Int):Rat):=qN 1;have z1:Sz 31 ((1:Int):Rat):=a2M (by decide) (by decide);have hml:(mts ls).length≤400:=by
  have h1:=yX ls;have h2:ls.length*ls.length≤20*20:=Cj hl hl;omega
 refine j6 ?_;unfold jE;walk_at "ws";refine sY hz hl fun kds ts a1 a2 a3 a4 _=>?_;refine⟨kds,rfl,by omega,?_⟩;have e2:(kds.map fun kd=>aA3 kd.1)=gC ts:=by
  have:=congrArg (List.map aA3) a1;rw[A9,A9] at this;exact this
 have hlt:ts.length=kds.length:=by
  have:=congrArg List.length a1;rw[AS,AS] at this;exact this.symm
 rw[e2];walk_at "ws";refine a9U (fun x hx=>(yU hz ((a3 x).mp hx)).mono (by decide)) (by omega) a2 ?_;rw[aGB (a81 ts) (oU ls) fun t=>by rw[ris_mem]; exact a3 t];walk_at "ws";unfold early at q;have hzm:∀ t∈mts ls,Sz 802 t:=fun t ht=>yU hz ht;generalize mts ls=us at *
 cases us with
 | nil=>
  refine⟨tW [],tW [],?_⟩;refine a4U ?_;walk_at "ws";rw[qN 0];exact q
 | cons t0 tr=>
  have hne:Av (.list (gC (t0::tr))) (.list [])=false:=rfl;refine⟨tW _,tW [],?_⟩;rw[hne];walk_at "ws";unfold kI;walk_at "ws";refine cO (aF1 (i:=0) (ts:=t0::tr) rfl) ?_;walk_at "ws";rw[one];refine gB ((hzm t0 mem_cons_self).mono (by decide)) (z1.mono (by decide)) ?_;walk_at "ws";refine⟨?_,q⟩;rw[lQ];show 1+(t0::tr).length≤1000;omega
theorem a2A {k:Nat}(hz:LinesOk 200 ls)(hl:ls.length≤20)(hk:k≤1000)(q:Q (.own (rkD ls k))):lV [.val (.list (bH ls)),.val (.int (k:Int))] Q:=by
 have hml:(mts ls).length≤400:=by
  have h1:=yX ls;have h2:ls.length*ls.length≤20*20:=Cj hl hl;omega
 unfold rkD at q;refine j6 ?_;unfold v8;walk_at "ws";refine cO (eG ls) ?_;walk_at "ws";refine fU (fun c=>?_) (fun c=>?_)
 ·rw[if_pos (by omega)] at q;walk_at "ws";exact q
 ·have hkl:k<ls.length:=by omega
  rw[if_neg (by omega)] at q;walk_at "ws";unfold tZ;walk_at "ws";refine a07 hz hl ?_;walk_at "ws";refine cO (aF1 (i:=0) (ts:=early ls::mts ls) rfl) ?_;walk_at "ws";refine lZ hz (by omega) (aGS hz) ?_;walk_at "ws";have at_k:∀ t,∃ h:k<(ord ls t).length,(ord ls t)[k]=rkN ls k t:=fun t=>by
   have hkt:k<(ord ls t).length:=by rw[aDC]; exact hkl
   exact⟨hkt,by unfold rkN; rw[Bs,AQ hkt]; rfl⟩
  obtain⟨h0,r0⟩:=at_k (early ls);refine cO (a7P h0) ?_;rw[r0];generalize rkN ls k (early ls)=x at *;walk_at "ws";rw[show L2.VS.cutD (gC (early ls::mts ls)) (some 1) none=gC (mts ls) from aMB _ _];refine rZ (fun n Γ=>∃ a b,Γ=[.val (.list (bH ls)),.val (.int (k:Int)),.val (.list (gC (early ls::mts ls))),.own (uF x (dJ (rkN ls k) x ((mts ls).take n))),a,b]) ⟨_,_,rfl⟩ ?_ ?_
  ·rintro n d Γ K hd ⟨a,b,rfl⟩ hk1;obtain⟨t,ht,rfl⟩:=a5R (ts:=mts ls) hd;have zt:=yU hz (BL ht);have hk3:=hk1.nx;have tk:(mts ls).take (n+1)=(mts ls).take n++[t]:=by rw[DV,ht]; rfl
   rw[tk,rW] at hk3;have hlen:=qI (rkN ls k) ((mts ls).take n) x;have htl:((mts ls).take n).length≤400:=by rw[Bw]; omega
   generalize dJ (rkN ls k) x ((mts ls).take n)=rs at *;obtain⟨dl,d1,d2⟩:=aDM x rs;obtain⟨hkt,er⟩:=at_k t;unfold tD;walk_at "ws";refine lZ hz (by omega) (zt.mono (by decide)) ?_;walk_at "ws";refine cO (a7P hkt) ?_;rw[er];walk_at "ws";refine cO (aL1 d1) ?_;walk_at "ws";refine cO d2 ?_;walk_at "ws";refine zQ (fun c=>?_) (fun c=>?_)
   ·rw[if_neg (by omega)] at hk3;walk_at "ws";refine a1V (ds:=uF x rs) rfl (by simp[uF]; omega) ?_;have e:uF x rs++[.tuple [.int (rkN ls k t:Int),cG t]]=uF x (rs++[(rkN ls k t,t)]):=by
     unfold uF;simp[pairD]
    rw[e];exact hk3 _ ⟨_,_,rfl⟩
   ·rw[if_pos (by omega),CK] at hk3;walk_at "ws";exact hk3 _ ⟨_,_,rfl⟩
  ·rintro Γ ⟨a,b,rfl⟩;unfold uA;rw[lQ,DU];walk_at "ws";exact q
end
section
variable {Q:Rv→Prop}{ls:List Ln}
theorem mem_chP {t:Rat}{a b:Int}:(a,b)∈chP ls t↔∃(i j:Nat) (l k:Ln),a=(i:Int)∧b=(j:Int)∧ls[i]?=some l∧ls[j]?=some k∧l.2<k.2∧mt l k=t:=by
 unfold chP aAY;rw[Ab];constructor
 ·rintro⟨⟨i,j⟩,h,e⟩
  cases e
  obtain⟨l,k,h1,h2,h3,h4⟩:=a9P (Ap.mp h).2;exact⟨i,j,l,k,rfl,rfl,h1,h2,h3,h4⟩
 ·rintro⟨i,j,l,k,rfl,rfl,g1,g2,g3,g4⟩
  have hi:=(List.getElem?_eq_some_iff.mp g1).1;have hj:=(List.getElem?_eq_some_iff.mp g2).1;have hij:(i+1)*ls.length≤ls.length*ls.length:=Fu _ hi;rw[D2] at hij;exact⟨(i,j),Ap.mpr ⟨(gr_mem hj).mpr (by omega),by rw[a9Z g1 g2]; simp[g3,g4]⟩,rfl⟩
theorem aDH (ls:List Ln)(t:Rat):(chP ls t).Pairwise fun p q=>p.1<q.1∨(p.1=q.1∧p.2<q.2):=by
 unfold chP aAY gr;rw[C2];refine List.Pairwise.filter _ ?_;rw[C2];refine List.Pairwise.imp ?_ List.pairwise_lt_range;intro a b h;have h1:=Ft a ls.length;have h2:=Ft b ls.length;have h3:a/ls.length≤b/ls.length:=Nat.div_le_div_right (Bz h);rcases Nat.lt_or_ge (a/ls.length) (b/ls.length) with c|c
 ·left
  show((a/ls.length:Nat):Int)<((b/ls.length:Nat):Int)
  omega
 ·right
  have e:a/ls.length=b/ls.length:=by omega
  rw[e] at h1
  show((a/ls.length:Nat):Int)=((b/ls.length:Nat):Int)∧((a%ls.length:Nat):Int)<((b%ls.length:Nat):Int)
  exact⟨by rw[e],by omega⟩
theorem xW (ls:List Ln)(t:Rat):(chP ls t).Nodup:=(aDH ls t).imp fun{a b} h e=>by rw[e] at h; omega
theorem aED (hl:ls.length≤8)(t:Rat):(chP ls t).length<64:=by
 have hll:ls.length*ls.length≤8*8:=Cj hl hl;unfold chP aAY;rw[AS];have hg:(gr ls.length (ls.length*ls.length)).length=ls.length*ls.length:=by unfold gr; rw[AS,Bv]
 by_cases h0:ls.length=0
 ·have:=B4 (hit ls t) (gr ls.length (ls.length*ls.length));have e0:ls.length*ls.length=0:=by rw[h0]
  omega
 ·have hpos:0<ls.length*ls.length:=Nat.mul_pos (by omega) (by omega);have hin:(0,0)∈gr ls.length (ls.length*ls.length):=(gr_mem (by omega)).mpr (by omega);have:=List.length_filter_lt_length_iff_exists.mpr ⟨(0,0),hin,show ¬hit ls t (0,0)=true from fun h=>by
   obtain⟨l,k,h1,h2,h3,_⟩:=a9P h;rw[h1] at h2
   cases h2
   grind⟩
  omega
def chT (ls:List Ln)(lo hi:Rat):List Rat:=(mts ls).filter fun t=>decide (lo<t) && !decide (hi<t)
theorem mem_chT {lo hi t:Rat}:t∈chT ls lo hi↔t∈mts ls∧lo<t∧¬hi<t:=by
 unfold chT;rw[Ap];simp
def chD (ls:List Ln)(t:Rat):D:=.tuple [cG t,.list (aGI (chP ls t))]
def aMN (ls:List Ln)(lo hi:Rat):List D:=(chT ls lo hi).map (chD ls)
theorem a5T {lo hi:Rat}(hz:LinesOk 200 ls)(hl:ls.length≤8)(h1:Sz 2900 lo)(h2:Sz 2900 hi)(q:Q (.own (aMN ls lo hi))):pZ [.val (.list (bH ls)),.val (cG lo),.val (cG hi)] Q:=by
 refine j6 ?_;unfold xY;walk_at "ws";refine sY hz (by omega) fun kds ts a1 a2 a3 a4 a5=>⟨kds,rfl,?_⟩;have e2:(kds.map fun kd=>aA3 kd.1)=ts.map cG:=by
  have:=congrArg (List.map aA3) a1;rw[A9,A9] at this;exact this
 have hlt:ts.length=kds.length:=by
  have:=congrArg List.length a1;rw[AS,AS] at this;exact this.symm
 have at_t:∀ t∈ts,∃ j,kds[j]?=some (rk t,aGI (chP ls t)):=fun t ht=>by
  have hk:rk t∈kds.map (·.1):=by rw[a1]; exact Ab.mpr ⟨t,ht,rfl⟩
  obtain⟨⟨k,ds⟩,hm,e⟩:=Ab.mp hk;have e:k=rk t:=e;subst e;rw[a5 t ds hm] at hm;exact List.mem_iff_getElem?.mp hm
 walk_at "ws";refine⟨by rw[AS]; omega,?_⟩;rw[e2];refine iT (α:=Rat) (fun t=>decide (lo<t) && !decide (hi<t)) cG cG ts [] _ (fun t ht _ k k0 g1 g0=>?_) ?_
 ·have zt:=yU hz ((a3 t).mp ht);walk_at "ws";refine cZ (h1.mono (by decide)) (zt.mono (by decide)) ?_;walk_at "ws";refine fU (fun c=>?_) (fun c=>?_)
  ·walk_at "ws";refine cZ (h2.mono (by decide)) (zt.mono (by decide)) ?_;walk_at "ws";refine zQ (fun d=>?_) (fun d=>?_)
   ·walk_at "ws";exact g1 (by rw[decide_eq_true c,decide_eq_false d]; rfl)
   ·walk_at "ws";exact g0 (by rw[decide_eq_true c,decide_eq_true d]; rfl)
  ·walk_at "ws";exact g0 (by rw[decide_eq_false c]; rfl)
 rw[By];have hfl:(ts.filter fun t=>decide (lo<t) && !decide (hi<t)).length≤400:=Aw (B4 _ _) (by omega);have hfm:∀ t∈ts.filter (fun t=>decide (lo<t) && !decide (hi<t)),t∈ts:=fun t h=>(Ap.mp h).1;have hris:ris (ts.filter fun t=>decide (lo<t) && !decide (hi<t))=chT ls lo hi:=aGB (a81 _) (List.Pairwise.filter _ (oU ls)) fun t=>by
  unfold chT;rw[ris_mem,Ap,Ap,a3 t]
 have hcm:∀ t∈chT ls lo hi,t∈mts ls:=fun t h=>(mem_chT.mp h).1;have hcl:(chT ls lo hi).length≤400:=by
  rw[← hris];exact Aw (aDW _) hfl
 walk_at "ws";refine a9U (xs:=ts.filter fun t=>decide (lo<t) && !decide (hi<t)) (fun x hx=>(yU hz ((a3 x).mp (hfm x hx))).mono (by decide)) (by omega) (a2.filter _) ?_;rw[hris];walk_at "ws";refine⟨by rw[lQ]; omega,?_⟩;unfold gC;refine iT (α:=Rat) (fun _=>true) (chD ls) cG (chT ls lo hi) [] _ (fun t ht _ k k0 g1 g0=>?_) ?_
 ·obtain⟨j,hj⟩:=at_t t ((a3 t).mpr (hcm t ht));walk_at "ws";unfold v6;walk_at "ws";refine⟨rk t,aGI (chP ls t),j,rfl,hj,chP ls t,rfl,aED hl t,xW ls t,?_⟩;rw[a3N (List.Perm.refl _) ((aDH ls t).imp fun h=>prLt_iff.mpr h)];exact⟨by show 2≤1000; decide,g1 rfl⟩
 ·rw[By,CM.mpr fun _ _=>rfl];exact q
end
theorem nb {xs:List Nat}{n:Nat}(h:n+1<xs.length):xs.getD n 0=xs[n]∧xs.getD (n+1) 0=xs[n+1]:=⟨by simp[Bs,AQ (show n<xs.length by omega)],by simp[Bs,AQ h]⟩
def aEI (ls:List Ln)(t:Rat)(i j:Nat):Rat:=match ls[i]?,ls[j]? with
 | some l,some k=>pl l t-pl k t
 | _,_=>0
theorem aF0 {ls:List Ln}{t:Rat}{i j:Nat}{l k:Ln}(h1:ls[i]?=some l)(h2:ls[j]?=some k):aEI ls t i j=pl l t-pl k t:=by unfold aEI; rw[h1,h2]
abbrev Nr:=Option (Nat×Nat×Rat)
def wF (ls:List Ln)(t:Rat)(i j:Nat)(b:Nr):Nr:=match b with
 | none=>some (i,j,aEI ls t i j)
 | some c=>if aEI ls t i j<c.2.2 then some (i,j,aEI ls t i j) else some c
def aEY (ls:List Ln)(t:Rat)(xs:List Nat):Nat→Nr
 | 0=>none
 | n+1=>wF ls t (xs.getD n 0) (xs.getD (n+1) 0) (aEY ls t xs n)
def nr (ls:List Ln)(t:Rat):Nr:=aEY ls t (ord ls t) ((ord ls t).length-1)
def dNr:Nr→D
 | none=>.none
 | some c=>.tuple [.int (c.1:Int),.int (c.2.1:Int),cG c.2.2]
theorem aKN (b:Nr):Good (dNr b):=by
 cases b with
 | none=>exact good_none
 | some c=>exact(aD1 (n:=1) (ds:=[.int (c.1:Int),.int (c.2.1:Int),cG c.2.2]) fun d h=>by
   rcases AK.mp h with rfl|h
   ·exact(rC _).mono
   ·rcases AK.mp h with rfl|h
    ·exact(rC _).mono
    ·rw[mem_singleton.mp h]; exact aAH _).good
theorem aJF {ls:List Ln}{t:Rat}{i j:Nat}{l k:Ln}(h1:ls[i]?=some l)(h2:ls[j]?=some k)(hz:LinesOk 200 ls)(ht:Sz 802 t):Sz 1300 (pl l t)∧Sz 1300 (pl k t)∧Sz 2700 (aEI ls t i j):=by
 obtain⟨z1,z2⟩:=hz.get h1;obtain⟨z3,z4⟩:=hz.get h2;have a:Sz 1300 (pl l t):=(z1.add (z2.mul ht)).mono (by decide);have b:Sz 1300 (pl k t):=(z3.add (z4.mul ht)).mono (by decide);exact⟨a,b,by rw[aF0 h1 h2]; exact(a.sub b).mono (by decide)⟩
section
variable {Q:Rv→Prop}{ls:List Ln}
theorem a66 {xs:List Nat}{n:Nat}{t:Rat}(hz:LinesOk 200 ls)(ht:Sz 802 t)(h:n+1<xs.length)(hm:∀ x∈xs,x<ls.length) :
  ∃ l k,ls[xs[n]]?=some l∧ls[xs[n+1]]?=some k∧aEY ls t xs (n+1)=wF ls t xs[n] xs[n+1] (aEY ls t xs n)∧Sz 2700 (aEI ls t xs[n] xs[n+1]):=by
 have m1:=hm xs[n] (B9 _);have m2:=hm xs[n+1] (B9 _);have e1:ls[xs[n]]?=some ls[xs[n]]:=AQ m1;have e2:ls[xs[n+1]]?=some ls[xs[n+1]]:=AQ m2;refine⟨_,_,e1,e2,?_,(aJF e1 e2 hz ht).2.2⟩;have hn:=nb h;show wF ls t (xs.getD n 0) (xs.getD (n+1) 0) _=_;rw[hn.1,hn.2]
theorem aN1 {xs:List Nat}{t:Rat}(hz:LinesOk 200 ls)(ht:Sz 802 t)(hm:∀ x∈xs,x<ls.length):∀ n,n+1≤xs.length→∀ c,aEY ls t xs n=some c→Sz 2700 c.2.2
 | 0,_,c,h=>by cases h
 | n+1,hn,c,h=>by
  obtain⟨l,k,_,_,e,z⟩:=a66 hz ht (n:=n) (by omega) hm;rw[e] at h;have ih:=aN1 hz ht hm n (by omega);unfold wF at h
  split at h
  ·cases h; exact z
  ·rename_i b hb
   split at h
   ·cases h; exact z
   ·cases h; exact ih _ hb
theorem a76 {t:Rat}(hz:LinesOk 200 ls)(hl:ls.length≤30)(ht:Sz 802 t)(q:Q (.val (dNr (nr ls t)))):pG [.val (.list (bH ls)),.val (cG t)] Q:=by
 refine j6 ?_;unfold yO;walk_at "ws";refine lZ hz hl (ht.mono (by decide)) ?_;walk_at "ws";refine a6G ?_;walk_at "ws";have hlen:=aDC ls t;have hm:∀ x∈ord ls t,x<ls.length:=fun x hx=>(aLC ls t x).mp hx;unfold nr at q;generalize ord ls t=xs at *;refine rZ (fun i Γ=>∃ a b c,Γ=[.val (.list (bH ls)),.val (cG t),.val (dNr (aEY ls t xs i)),a,b,c]) ⟨_,_,_,rfl⟩ ?_ ?_
 ·rintro i d Γ K hd ⟨a,b,c,rfl⟩ hk;have hi':i+1<xs.length:=by
   have:=(List.getElem?_eq_some_iff.mp hd).1;rw[AS,aAE] at this;omega
  rw[Aa,aHR hi'] at hd
  cases hd
  obtain⟨l,k,e1,e2,e,z⟩:=a66 hz ht hi' hm;have zs:=aN1 hz ht hm i (by omega);have hk3:=hk.nx;rw[e] at hk3;obtain⟨z1,z2⟩:=hz.get e1;obtain⟨z3,z4⟩:=hz.get e2;obtain⟨g1,g2,_⟩:=aJF e1 e2 hz ht;unfold aLV w5;walk_at "ws";refine cO (dR e1) ?_;walk_at "ws";refine uZ (z1.mono (by decide)) (z2.mono (by decide)) (ht.mono (by decide)) ?_;walk_at "ws";refine cO (dR e2) ?_;walk_at "ws";refine uZ (z3.mono (by decide)) (z4.mono (by decide)) (ht.mono (by decide)) ?_;walk_at "ws";refine gB (g1.mono (by decide)) (g2.mono (by decide)) ?_;have eg:l.1+l.2*t-(k.1+k.2*t)=aEI ls t xs[i] xs[i+1]:=(aF0 e1 e2).symm;rw[eg];walk_at "ws"
  cases hb:aEY ls t xs i with
  | none=>
   rw[hb] at hk3;refine a4U ?_;walk_at "ws";exact hk3 _ ⟨_,_,_,rfl⟩
  | some c=>
   rw[hb] at hk3;unfold wF at hk3;dsimp only at hk3;refine a5C ?_;unfold dNr;walk_at "ws";refine cO (d:=cG c.2.2) rfl ?_;walk_at "ws";refine cZ (z.mono (by decide)) ((zs c hb).mono (by decide)) ?_;walk_at "ws";refine fU (fun h=>?_) (fun h=>?_)
   ·rw[if_pos h] at hk3;walk_at "ws";exact hk3 _ ⟨_,_,_,rfl⟩
   ·rw[if_neg h] at hk3;walk_at "ws";exact hk3 _ ⟨_,_,_,rfl⟩
 ·rintro Γ ⟨a,b,c,rfl⟩;rw[AS,aAE];unfold wG;walk_at "ws";exact q
end
theorem a05:∀{xs ys:List Rat},xs.Pairwise (·<·)→ys.Pairwise (·<·)→(∀ x,x∈xs↔x∈ys)→xs=ys
 | [],[],_,_,_=>rfl
 | [],y::ys,_,_,h=>absurd ((h y).mpr mem_cons_self) (by simp)
 | x::xs,[],_,_,h=>absurd ((h x).mp mem_cons_self) (by simp)
 | x::xs,y::ys,hx,hy,h=>by
  obtain⟨x1,x2⟩:=BU.mp hx;obtain⟨y1,y2⟩:=BU.mp hy;have e:x=y:=by
   rcases AK.mp ((h x).mp mem_cons_self) with e|e
   ·exact e
   ·rcases AK.mp ((h y).mpr mem_cons_self) with f|f
    ·exact f.symm
    ·have:=y1 x e;have:=x1 y f;grind
  subst e;rw[a05 x2 y2 fun z=>⟨fun hz=>?_,fun hz=>?_⟩]
  ·rcases AK.mp ((h z).mp (AU _ hz)) with f|f
   ·have:=x1 z hz;grind
   ·exact f
  ·rcases AK.mp ((h z).mpr (AU _ hz)) with f|f
   ·have:=y1 z hz;grind
   ·exact f
section
variable {ls:List Ln}
def rkR (ls:List Ln)(k:Nat):List (Nat×Rat):=dJ (rkN ls k) (rkN ls k (early ls)) (mts ls)
theorem aHA {A B:Prop}{d:D}(g:Good d)(b:B):Good d∧Good d∧(if (!PyData.eqv d d)=true then A else B):=⟨g,g,by rw[t7 g]; exact a5C b⟩
abbrev Ro:=Nat×Option Rat
def dO (p:Ro):D:=.tuple [.int (p.1:Int),aLA p.2]
def xQ (r:Nat)(rs:List (Nat×Rat)):List Ro:=(r,none)::rs.map fun p=>(p.1,some p.2)
theorem a94 (r:Nat)(rs:List (Nat×Rat)):(xQ r rs).map dO=uF r rs:=by
 unfold xQ uF;rw[BD,A9];rfl
def ldO (ls:List Ln):List Ro:=if ls=[] then[] else xQ (aEM ls) (aH3 ls)
theorem aLH (ls:List Ln):(ldO ls).map dO=aGG ls:=by
 unfold ldO aGG
 split
 ·rfl
 ·exact a94 _ _
def rkO (ls:List Ln)(k:Nat):List Ro:=if ls.length≤k then[] else xQ (rkN ls k (early ls)) (rkR ls k)
theorem aPX (ls:List Ln)(k:Nat):(rkO ls k).map dO=rkD ls k:=by
 unfold rkO rkD
 split
 ·rfl
 ·exact a94 _ _
theorem aO7 (p:Ro):Gd 2 (dO p):=aP5 (rC _).mono (aMZ _)
theorem aLM (ls:List Ln):Good (.list (aGG ls)):=by
 rw[← aLH];exact(a2C (n:=2) fun x hx=>by
  obtain⟨p,_,rfl⟩:=Ab.mp hx;exact aO7 p).good
theorem aOL (ls:List Ln)(k:Nat):Good (.list (rkD ls k)):=by
 rw[← aPX];exact(a2C (n:=2) fun x hx=>by
  obtain⟨p,_,rfl⟩:=Ab.mp hx;exact aO7 p).good
theorem aBA {a b:Rat}(h:cG a=cG b):a=b:=by
 unfold cG at h;have h:=AJ.tuple.inj h;simp only[List.cons.injEq,A0.injEq] at h;exact EK h.1 (by omega)
theorem vC (f:Rat→Nat):∀(ts:List Rat) (r:Nat),∀ p∈dJ f r ts,p.2∈ts
 | [],_,p,h=>nomatch h
 | t::ts,r,p,h=>by
  unfold dJ at h
  split at h
  ·exact AU _ (vC f ts _ p h)
  ·rcases AK.mp h with rfl|z
   ·exact mem_cons_self
   ·exact AU _ (vC f ts _ p z)
def aRM (ps:List Ro):Prop:=∀ p∈ps,∀ t,p.2=some t→Sz 3000 t
theorem aNS (hz:LinesOk 200 ls)(hl:ls.length≤10):aRM (ldO ls)∧(ldO ls).length≤102:=by
 obtain⟨ss,e,hs,hn⟩:=aMG hz hl;have el:(ldO ls).length=ss.length:=by
  have:=congrArg List.length ((aLH ls).trans e);rwa[AS,AS] at this
 refine⟨fun p hp t ht=>?_,by omega⟩;have:dO p∈ss.map aRA:=by rw[← e,←aLH]; exact Ab.mpr ⟨p,hp,rfl⟩
 obtain⟨q,hq,eq⟩:=Ab.mp this;have e2:aLA q.2=aLA p.2:=by
  have:=congrArg (fun x=>ixD x (.int 1)) eq;exact Az.inj this
 rw[ht] at e2
 cases h:q.2 with
 | none=>rw[h] at e2; cases e2
 | some u=>
  rw[h] at e2;have:u=t:=aBA e2;subst this;exact(hs q hq u h).mono (by decide)
theorem aND (hz:LinesOk 200 ls)(hl:ls.length≤10)(k:Nat):aRM (rkO ls k)∧(rkO ls k).length≤102:=by
 have hml:(mts ls).length≤100:=by
  have h1:=yX ls;have h2:ls.length*ls.length≤10*10:=Cj hl hl;omega
 have sub:=vC (rkN ls k) (mts ls) (rkN ls k (early ls));have len:=qI (rkN ls k) (mts ls) (rkN ls k (early ls));unfold rkO
 split
 ·exact⟨fun p hp=>(nomatch hp),by decide⟩
 ·refine⟨fun p hp t ht=>?_,?_⟩
  ·rcases AK.mp hp with rfl|z
   ·cases ht
   ·obtain⟨q,hq,rfl⟩:=Ab.mp z
    cases ht
    exact(yU hz (sub q hq)).mono (by decide)
  ·unfold xQ;rw[An,AS];have:(rkR ls k).length≤(mts ls).length:=len;omega
end
def mir (l:Ln):Ln:=(l.1,-l.2)
abbrev fH (ls:List Ln):List Ln:=ls.map mir
section
variable {l k:Ln}{ls:List Ln}
theorem a1J (l:Ln)(t:Rat):pl (mir l) (-t)=pl l t:=by unfold pl mir; grind
theorem mir_eq:(mir l).2=(mir k).2↔l.2=k.2:=by unfold mir; grind
theorem mir_lt:(mir l).2<(mir k).2↔k.2<l.2:=by unfold mir; grind
theorem a6K (h:l.2≠k.2):mt (mir l) (mir k) = -mt l k:=by
 have h':(mir l).2≠(mir k).2:=fun z=>h (mir_eq.mp z);refine((aAA h').mp ?_).symm;rw[a1J,a1J,(aAA h).mpr rfl]
theorem aKJ (l:Ln):mir (mir l)=l:=EM rfl (show - -l.2=l.2 by grind)
theorem a6Z (ls:List Ln):fH (fH ls)=ls:=by
 unfold fH;rw[A9];exact(DS fun l _=>aKJ l).trans (List.map_id' ls)
theorem fY (i:Nat):(fH ls)[i]?=(ls[i]?).map mir:=Aa
theorem fK (ls:List Ln):(fH ls).length=ls.length:=AS _
theorem mirs_nil:fH ls=[]↔ls=[]:=List.map_eq_nil_iff
theorem a1N:∀(ts:List Rat) {a b:Rat},a<b→∃ v,a≤v∧v<b∧∀ t∈ts,t<b→t<v
 | [],a,b,h=>⟨a,by grind,h,fun _ z=>nomatch z⟩
 | t::ts,a,b,h=>by
  obtain⟨v,h1,h2,h3⟩:=a1N ts h
  by_cases c:t<b∧v≤t
  ·refine⟨(t+b)/2,by grind,by grind,fun s hs hb=>?_⟩;rcases AK.mp hs with rfl|hs
   ·grind
   ·have:=h3 s hs hb; grind
  ·refine⟨v,h1,h2,fun s hs hb=>?_⟩;rcases AK.mp hs with rfl|hs
   ·grind
   ·exact h3 s hs hb
theorem aO3 {u v:Rat}{i j:Int}(hv:v < -u)(h:l.2≠k.2→mt l k < -u→mt l k<v):ahB (mir l) (mir k) i j u=ahB l k i j v:=by
 by_cases c:l.2=k.2
 ·rw[nU c,nU (mir_eq.mpr c)]; rfl
 ·have c':(mir l).2≠(mir k).2:=fun z=>c (mir_eq.mp z)
  by_cases d:mt l k < -u
  ·rw[a0O c' (by rw[a6K c]; grind),a4J c (by have:=h c d; grind)];exact decide_eq_decide.mpr mir_lt
  ·rw[a4J c' (by rw[a6K c]; grind),a0O c (by grind)];exact decide_eq_decide.mpr mir_lt
theorem rN (ls:List Ln){u a:Rat}(h:a < -u):∃ v,a≤v∧v < -u∧ahN (fH ls) u=ahN ls v:=by
 obtain⟨v,h1,h2,h3⟩:=a1N (mts ls) h;refine⟨v,h1,h2,?_⟩
 funext i j
 unfold ahN;rw[fY,fY]
 cases e1:ls[i]? with
 | none=>rfl
 | some l=>
  cases e2:ls[j]? with
  | none=>rfl
  | some k=>exact aO3 h2 fun c d=>h3 _ (mem_mts.mpr ⟨i,j,l,k,e1,e2,c,rfl⟩) d
def a1A:Nat→List (Nat×Rat)→Nat
 | r,[]=>r
 | _,p::rs=>a1A p.1 rs
def a4Q:Nat→List (Nat×Rat)→List (Nat×Rat)
 | _,[]=>[]
 | r,p::rs=>(r,-p.2)::a4Q p.1 rs
theorem aEU {f g:Rat→Nat}(hc:∀ u a,a < -u→∃ v,a≤v∧v < -u∧f v=g u):∀(rest:List (Nat×Rat)) (s:Rat) (r r':Nat) (acc:List (Nat×Rat)),RowOf f (some s) r' rest→r'≠r→RowOf g (some (-s)) r acc →
  RowOf g none (a1A r' rest) ((a4Q r' rest).reverse++(r,-s)::acc)
 | [],s,r,r',acc,h,hne,ha=>by
  refine⟨trivial,Ne.symm hne,fun u _ hu=>?_,ha⟩;have hu:u < -s:=hu;obtain⟨v,v1,v2,v3⟩:=hc u s (by grind);rw[← v3];exact h v v1
 | p::rest,s,r,r',acc,h,hne,ha=>by
  obtain⟨h1,h2,h3,h4⟩:=h;have h1:s<p.2:=h1;show RowOf g none (a1A p.1 rest) (((r',-p.2)::a4Q p.1 rest).reverse++(r,-s)::acc);rw[List.reverse_cons,DL];refine aEU hc rest p.2 r' p.1 ((r,-s)::acc) h4 h2 ⟨?_,Ne.symm hne,fun u hu hlt=>?_,ha⟩
  ·show -p.2 < -s;grind
  ·have hu : -p.2≤u:=hu;have hlt:u < -s:=hlt;obtain⟨v,v1,v2,v3⟩:=hc u s (by grind);rw[← v3];exact h3 v v1 (by grind)
theorem a9T {f g:Rat→Nat}(hc:∀ u a,a < -u→∃ v,a≤v∧v < -u∧f v=g u){r:Nat}{rs:List (Nat×Rat)}(h:RowOf f none r rs):RowOf g none (a1A r rs) (a4Q r rs).reverse:=by
 cases rs with
 | nil=>
  intro u _;obtain⟨v,_,_,v3⟩:=hc u (-u-1) (by grind);rw[← v3];exact h v trivial
 | cons p rest=>
  obtain⟨_,h2,h3,h4⟩:=h;show RowOf g none (a1A p.1 rest) ((r,-p.2)::a4Q p.1 rest).reverse;rw[List.reverse_cons];refine aEU hc rest p.2 r p.1 [] h4 h2 fun u hu=>?_;have hu : -p.2≤u:=hu;obtain⟨v,_,v2,v3⟩:=hc u (-u-1) (by grind);rw[← v3];exact h3 v trivial (by grind)
theorem a89:∀(rest:List (Nat×Rat)) (lo:Option Rat) (r:Nat),RowFrom ls lo r rest→RowOf (dU ls) lo r rest
 | [],lo,r,h=>fun t ht=>(h t ht).eq.symm
 | p::rest,lo,r,h=>⟨h.1,h.2.1,fun t a b=>(h.2.2.1 t a b).eq.symm,a89 rest _ _ h.2.2.2⟩
theorem aC5 {u v:Rat}{i:Nat}(h:ahN (fH ls) u=ahN ls v):Leads (fH ls) u i↔Leads ls v i:=by unfold Leads; rw[h,fK]
theorem a9I (h:ls≠[]):aEM (fH ls)=a1A (aEM ls) (aH3 ls)∧aH3 (fH ls)=(a4Q (aEM ls) (aH3 ls)).reverse:=by
 have h':fH ls≠[]:=fun z=>h (mirs_nil.mp z);have hc:∀ u a,a < -u→∃ v,a≤v∧v < -u∧dU ls v=dU (fH ls) u:=fun u a hua=>by
  obtain⟨v,v1,v2,v3⟩:=rN ls hua;exact⟨v,v1,v2,((aC5 v3).mp (nY h' u)).eq.symm⟩
 have a:=a9T hc (a89 _ _ _ (vZ h));have b:=a89 _ _ _ (vZ h');have e:=RowOf.first b a
 refine⟨e,RowOf.unique (r:=a1A (aEM ls) (aH3 ls)) ?_ a⟩;rw[← e];exact b
theorem aCP (k:Nat):rkN (fH ls) k (early (fH ls))=a1A (rkN ls k (early ls)) (rkR ls k)∧rkR (fH ls) k=(a4Q (rkN ls k (early ls)) (rkR ls k)).reverse:=by
 have hc:∀ u a,a < -u→∃ v,a≤v∧v < -u∧rkN ls k v=rkN (fH ls) k u:=fun u a hua=>by
  obtain⟨v,v1,v2,v3⟩:=rN ls hua;refine⟨v,v1,v2,?_⟩;unfold rkN ord;rw[v3,fK]
 have a:=a9T hc (aK2 (ls:=ls) (k:=k));have b:=aK2 (ls:=fH ls) (k:=k);have e:=RowOf.first b a
 refine⟨e,RowOf.unique (r:=a1A (rkN ls k (early ls)) (rkR ls k)) ?_ a⟩;show RowOf _ _ (a1A (rkN ls k (early ls)) (dJ (rkN ls k) (rkN ls k (early ls)) (mts ls))) _;rw[← e];exact b
theorem wZ:∀(r:Nat) (rs:List (Nat×Rat)),(a4Q r rs).length=rs.length
 | _,[]=>rfl
 | r,p::rs=>congrArg Nat.succ (wZ p.1 rs)
theorem aFB:∀(r:Nat) (rs:List (Nat×Rat)) (i:Nat) (p:Nat×Rat),rs[i]?=some p→∃ x,(xQ r rs)[i]?=some x∧(a4Q r rs)[i]?=some (x.1,-p.2)
 | r,[],i,p,h=>nomatch h
 | r,q::rs,0,p,h=>by
  cases h
  exact⟨(r,none),rfl,rfl⟩
 | r,q::rs,i+1,p,h=>by
  obtain⟨x,h1,h2⟩:=aFB q.1 rs i p h
  cases i with
  | zero=>
   cases h1
   exact⟨(q.1,some q.2),rfl,h2⟩
  | succ i=>exact⟨x,h1,h2⟩
theorem aCU:∀(r:Nat) (rs:List (Nat×Rat)),∃ x,(xQ r rs)[rs.length]?=some x∧x.1=a1A r rs
 | r,[]=>⟨(r,none),rfl,rfl⟩
 | r,q::rs=>by
  obtain⟨x,h1,h2⟩:=aCU q.1 rs
  cases rs with
  | nil=>exact⟨(q.1,some q.2),rfl,rfl⟩
  | cons p rs=>exact⟨x,h1,h2⟩
theorem aAM {r a b:Nat}(h:Cov ls r a b):Cov (fH ls) r a b:=fun u=>by
 obtain⟨v,_,_,e⟩:=rN ls (u:=u) (a := -u-1) (by grind);rw[e];exact h v
theorem aBU {r:Nat}{a b:Int}(h:aIE ls r a b):aIE (fH ls) r a b:=by
 obtain⟨x,y,h1,h2,h3,h4,h5,h6,h7⟩:=h;exact⟨x,y,h1,h2,by rw[fK]; exact h3,by rw[fK]; exact h4,h5,h6,aAM h7⟩
theorem aF3 {r a b:Nat}{t:Rat}(ha:a<ls.length)(hb:b<ls.length)(na:a≠r)(nb:b≠r)(h:Cov ls r a b)(g:Leads ls t r):False:=by
 have st:=eN ls t;rcases h t with z|z
 ·rw[st.flip g.1 ha (Ne.symm na),g.2 a ha na] at z
  cases z
 ·rw[st.flip g.1 hb (Ne.symm nb),g.2 b hb nb] at z
  cases z
theorem a9Q {x:Nat}(hx:x<ls.length){p:Nat×Nat}(h:cvN ls x=some p):∃ q,cvN (fH ls) x=some q:=by
 obtain⟨c1,c2,c3,c4,c5⟩:=aGE hx h
 cases e:cvN (fH ls) x with
 | some q=>exact⟨q,rfl⟩
 | none=>
  obtain⟨t,ht⟩:=aH9 (by rw[fK]; exact hx) e;exact(aF3 (by rw[fK]; exact c1) (by rw[fK]; exact c2) c3 c4 (aAM c5) ht).elim
theorem aI8 {x:Nat}(hx:x<ls.length)(h:cvN ls x=none):cvN (fH ls) x=none:=by
 cases e:cvN (fH ls) x with
 | none=>rfl
 | some q=>
  obtain⟨p,hp⟩:=a9Q (ls:=fH ls) (by rw[fK]; exact hx) e;rw[a6Z,h] at hp
  cases hp
theorem a5N {t:Rat}:t∈mts (fH ls) ↔ -t∈mts ls:=by
 have one:∀{ls:List Ln} {t:Rat},t∈mts ls → -t∈mts (fH ls):=fun{ls t} h=>by
  obtain⟨i,j,l,k,e1,e2,hn,rfl⟩:=mem_mts.mp h;exact mem_mts.mpr ⟨i,j,mir l,mir k,by rw[fY,e1]; rfl,by rw[fY,e2]; rfl,fun z=>hn (mir_eq.mp z),a6K hn⟩
 constructor
 ·intro h;have:=one h;rwa[a6Z] at this
 ·intro h;have:=one h;rwa[show - -t=t by grind] at this
theorem aGZ (lo hi:Rat):(chT (fH ls) (-hi) (-lo)).filter (fun t => !decide (t = -lo))=((chT ls lo hi).filter fun t => !decide (t=hi)).reverse.map fun t => -t:=by
 refine a05 (((oU _).sublist Dv).sublist Dv) ?_ fun t=>?_
 ·rw[C2,List.pairwise_reverse];refine(((oU ls).sublist Dv).sublist Dv).imp fun h=>?_;grind
 ·rw[Ap,mem_chT,a5N,Ab];simp only[List.mem_reverse,Ap,mem_chT,Bool.not_eq_true',decide_eq_false_iff_not];constructor
  ·rintro⟨⟨h1,h2,h3⟩,h4⟩
   exact⟨-t,⟨⟨h1,by grind,by grind⟩,by grind⟩,by grind⟩
  ·rintro⟨s,⟨⟨h1,h2,h3⟩,h4⟩,rfl⟩
   exact⟨⟨by rw[show - -s=s by grind]; exact h1,by grind,by grind⟩,by grind⟩
def aNL (p:Int×Int):Int×Int:=(p.2,p.1)
theorem a6Y (t:Rat):((chP ls t).map aNL).Nodup:=by
 unfold List.Nodup;rw[C2];refine(xW ls t).imp fun{a b} h e=>h ?_;obtain⟨a1,a2⟩:=a;obtain⟨b1,b2⟩:=b;unfold aNL at e;simp only[E5] at e ⊢;exact⟨e.2,e.1⟩
theorem aGV (t:Rat):aGJ ((chP ls t).map aNL)=chP (fH ls) (-t):=by
 refine a3N ((List.perm_ext_iff_of_nodup (xW _ _) (a6Y t)).mpr fun p=>?_) ((aDH (fH ls) (-t)).imp fun h=>prLt_iff.mpr h);obtain⟨a,b⟩:=p;rw[mem_chP,Ab];constructor
 ·rintro⟨i,j,l,k,rfl,rfl,g1,g2,g3,g4⟩
  rw[fY] at g1 g2;obtain⟨l0,f1,rfl⟩:=C5.mp g1;obtain⟨k0,f2,rfl⟩:=C5.mp g2;have h:k0.2<l0.2:=mir_lt.mp g3;have hn:l0.2≠k0.2:=by grind
  refine⟨((j:Int),(i:Int)),mem_chP.mpr ⟨j,i,k0,l0,rfl,rfl,f2,f1,h,?_⟩,rfl⟩;rw[a6K hn] at g4;rw[vK hn];grind
 ·rintro⟨⟨c,d⟩,hm,e⟩
  obtain⟨i,j,l,k,rfl,rfl,g1,g2,g3,rfl⟩:=mem_chP.mp hm;unfold aNL at e;simp only[E5] at e;have hn:k.2≠l.2:=by grind
  exact⟨j,i,mir k,mir l,e.1.symm,e.2.symm,by rw[fY,g2]; rfl,by rw[fY,g1]; rfl,mir_lt.mpr g3,by rw[a6K hn,vK (Ne.symm hn)]⟩
def Lv (ls:List Ln)(t:Rat):Prop:=∀ l∈ls,∀ k∈ls,pl l t=pl k t→l=k
theorem Lv.ah {t:Rat}(h:Lv ls t):ahN (fH ls) (-t)=ahN ls t:=by
 funext i j
 unfold ahN;rw[fY,fY]
 cases e1:ls[i]? with
 | none=>rfl
 | some l=>
  cases e2:ls[j]? with
  | none=>rfl
  | some k=>
   show ahB (mir l) (mir k) i j (-t)=ahB l k i j t;unfold ahB;rw[a1J,a1J]
   by_cases c:pl l t=pl k t
   ·have:=h l (BL e1) k (BL e2) c;subst this;rw[if_pos rfl,if_pos rfl,if_pos rfl,if_pos rfl]
   ·rw[if_neg c,if_neg c]
theorem Lv.ord {t:Rat}(h:Lv ls t):LT.ord (fH ls) (-t)=LT.ord ls t:=by unfold LT.ord; rw[h.ah,fK]
theorem aIJ {t:Rat}(i j:Nat):aEI (fH ls) (-t) i j=aEI ls t i j:=by
 unfold aEI;rw[fY,fY]
 cases ls[i]? with
 | none=>rfl
 | some l=>
  cases ls[j]? with
  | none=>rfl
  | some k=>
   show pl (mir l) (-t)-pl (mir k) (-t)=pl l t-pl k t;rw[a1J,a1J]
theorem a7J {t:Rat}(xs:List Nat):∀ n,aEY (fH ls) (-t) xs n=aEY ls t xs n
 | 0=>rfl
 | n+1=>by
  show wF (fH ls) (-t) _ _ (aEY (fH ls) (-t) xs n)=wF ls t _ _ (aEY ls t xs n);rw[a7J xs n];unfold wF;rw[aIJ]
theorem Lv.nr {t:Rat}(h:Lv ls t):nr (fH ls) (-t)=My.nr ls t:=by unfold My.nr; rw[h.ord,a7J]
theorem aH2 (t:Rat):AJ.tuple [.int (0-t.num),.int (t.den:Int)]=cG (-t):=by
 rw[D6];rfl
theorem a6D {k:Nat}{t:Rat}(h:Sz k t):Sz k (-t):=by
 obtain⟨h1,h2⟩:=h;refine⟨?_,h2⟩;have e:(-t).num = -t.num:=rfl;rw[e];unfold Bt at *;omega
theorem aEW (hz:LinesOk 200 ls):LinesOk 200 (fH ls):=fun l hl=>by
 obtain⟨k,hk,rfl⟩:=Ab.mp hl;obtain⟨h1,h2⟩:=hz k hk;exact⟨h1,a6D h2⟩
end
theorem aGW:∀ n:Nat,n<65→qZ n (-1)=(List.range n).reverse:=by decide +kernel
theorem a4C {α:Type}(xs:List α):(List.range xs.length).filterMap (fun i=>xs[i]?)=xs:=by
 induction xs with
 | nil=>rfl
 | cons x xs ih=>
  rw[An,List.range_succ_eq_map,CL];show x::_=_;rw[List.filterMap_map];exact congrArg _ ih
theorem aGU {α:Type}(xs:List α)(h:xs.length<65):sG (qZ xs.length (-1)) xs=xs.reverse:=by
 rw[aGW _ h];unfold sG;rw[List.filterMap_reverse,a4C]
section
variable {Q:Rv→Prop}{ls:List Ln}
theorem oX {t:Rat}(q:Q (.val (cG (-t)))):cP [.val (cG t)] Q:=by
 refine j6 ?_;unfold rP;walk_at "ws";rw[aH2];exact q
theorem aHB (r:Nat)(rs:List (Nat×Rat)):(uF r rs).length=rs.length+1:=by unfold uF; rw[An,AS]
theorem a8V (r:Nat)(rs:List (Nat×Rat)):aK4 (.list (uF r rs))=some (.int ((rs.length+1:Nat):Int)):=by show some (A0 ((uF r rs).length:Int))=_; rw[aHB]
theorem aIR {r:Nat}{rs:List (Nat×Rat)}{i:Nat}{x:Ro}(h:(xQ r rs)[i]?=some x):ixD (.list (uF r rs)) (.int (i:Int))=some (dO x):=vX (by rw[← a94,Aa,h]; rfl)
theorem vR {r:Nat}{rs:List (Nat×Rat)}(hl:rs.length≤500)(q:Q (.own (uF (a1A r rs) (a4Q r rs).reverse))):cI [.val (.list (uF r rs))] Q:=by
 have wl:(xQ (a1A r rs) (a4Q r rs).reverse).length=rs.length+1:=by unfold xQ; rw[An,AS,List.length_reverse,wZ]
 refine j6 ?_;unfold fL;walk_at "ws";refine cO (a8V r rs) ?_;walk_at "ws";refine⟨by omega,by omega,?_⟩;refine eO (fun k Γ=>∃ a b,Γ=[.val (.list (uF r rs)),.own (((xQ (a1A r rs) (a4Q r rs).reverse).take k).map dO),a,b]) ⟨_,_,rfl⟩ ?_ ?_
 ·rintro k Γ K hk ⟨a,b,rfl⟩ hK;have hk:k≤rs.length:=by omega
  have step:∀(x:Nat) (o:Option Rat),(∃ y,(xQ r rs)[rs.length-k]?=some y∧y.1=x)→(xQ (a1A r rs) (a4Q r rs).reverse)[k]?=some (x,o)→fM [.val (.list (uF r rs)),.own (((xQ (a1A r rs) (a4Q r rs).reverse).take k).map dO),.val (.int (k:Int)),.val (aLA o)] K:=by
   rintro x o ⟨y,hy,rfl⟩ hw;have tk:(xQ (a1A r rs) (a4Q r rs).reverse).take (k+1)=(xQ (a1A r rs) (a4Q r rs).reverse).take k++[(y.1,o)]:=by rw[DV,hw]; rfl
   have hK2:=hK.nx;rw[tk,Bi] at hK2;have hF:(((xQ (a1A r rs) (a4Q r rs).reverse).take k).map dO).length<1000:=by
    rw[AS,Bw];omega
   generalize ((xQ (a1A r rs) (a4Q r rs).reverse).take k).map dO=F at *;unfold fM;walk_at "ws";refine cO (a8V r rs) ?_;walk_at "ws";rw[show((rs.length+1:Nat):Int)-1-(k:Int)=((rs.length-k:Nat):Int) by omega];refine cO (aIR hy) ?_;walk_at "ws";refine cO (d:=.int (y.1:Int)) rfl ?_;walk_at "ws";refine a1V (ds:=F) rfl hF ?_;exact hK2 _ ⟨_,_,rfl⟩
  rw[Cu];unfold jH;walk_at "ws";refine fU (fun c=>?_) (fun c=>?_)
  ·obtain⟨j,rfl⟩:∃ j,k=j+1:=⟨k-1,by omega⟩;have hi:rs.length-(j+1)<rs.length:=by omega
   obtain⟨x,h1,h2⟩:=aFB r rs _ _ (AQ hi);have hx:(xQ r rs)[rs.length-j]?=some (rs[rs.length-(j+1)].1,some rs[rs.length-(j+1)].2):=by
    rw[show rs.length-j=(rs.length-(j+1))+1 by omega];unfold xQ;rw[DO,Aa,AQ hi];rfl
   walk_at "ws";refine cO (a8V r rs) ?_;walk_at "ws";rw[show((rs.length+1:Nat):Int)-((j+1:Nat):Int)=((rs.length-j:Nat):Int) by omega];refine cO (aIR hx) ?_;walk_at "ws";refine cO (d:=cG rs[rs.length-(j+1)].2) rfl ?_;walk_at "ws";refine oX ?_;walk_at "ws";refine step x.1 (some (-rs[rs.length-(j+1)].2)) ⟨x,h1,rfl⟩ ?_;unfold xQ;rw[DO,Aa,List.getElem?_reverse (by rw[wZ]; omega),wZ,show rs.length-1-j=rs.length-(j+1) by omega,h2];rfl
  ·have c:¬(0:Int)<(k:Int):=c;obtain rfl:k=0:=by omega
   walk_at "ws";obtain⟨x,h1,h2⟩:=aCU r rs;refine step (a1A r rs) none ⟨x,h1,h2⟩ rfl
 ·rintro Γ ⟨a,b,rfl⟩;rw[B7,←wl,DU,a94];unfold fO;walk_at "ws";exact q
theorem wI (q:Q (.own [])):cI [.val (.list [])] Q:=by
 refine j6 ?_;unfold fL;walk_at "ws";refine cO (d:=.int ((0:Nat):Int)) rfl ?_;walk_at "ws";refine⟨by decide,by decide,?_⟩;refine eO (fun k Γ=>Γ=[.val (.list []),.own [],.no,.no]) rfl ?_ ?_
 ·intro k Γ K hk _ _;exact absurd hk (by omega)
 ·rintro Γ rfl;unfold fO;walk_at "ws";exact q
theorem aC8 (hz:LinesOk 200 ls)(hl:ls.length≤6)(q:Q (.own (aGG (fH ls)))):cI [.val (.list (aGG ls))] Q:=by
 unfold aGG at q ⊢
 by_cases c:ls=[]
 ·rw[if_pos c];rw[if_pos (mirs_nil.mpr c)] at q;exact wI q
 ·rw[if_neg c];rw[if_neg (fun z=>c (mirs_nil.mp z)),(a9I c).1,(a9I c).2] at q;refine vR ?_ q;have:=(aNS hz (by omega)).2;unfold ldO at this;rw[if_neg c] at this;unfold xQ at this;rw[An,AS] at this;omega
theorem a8K {k:Nat}(hz:LinesOk 200 ls)(hl:ls.length≤6)(q:Q (.own (rkD (fH ls) k))):cI [.val (.list (rkD ls k))] Q:=by
 unfold rkD at q ⊢;rw[fK] at q
 by_cases c:ls.length≤k
 ·rw[if_pos c] at q ⊢;exact wI q
 ·rw[if_neg c] at q ⊢;have e1:dJ (rkN (fH ls) k) (rkN (fH ls) k (early (fH ls))) (mts (fH ls))=_:=(aCP (ls:=ls) k).2;rw[e1,(aCP k).1] at q;refine vR ?_ q;have:=(aND hz (by omega) k).2;unfold rkO at this;rw[if_neg c] at this;unfold xQ rkR at this;rw[An,AS] at this;omega
end
def lnK (l:Ln):NK2:=((l.1.num,(l.1.den:Int)),(l.2.num,(l.2.den:Int)))
theorem a7E (ls:List Ln):bH ls=aE1 (ls.map lnK):=by
 unfold bH aE1;rw[A9];rfl
theorem aKT {l k:Ln}(h:lnK l=lnK k):l=k:=by
 unfold lnK at h;simp only[E5] at h;exact EM (EK h.1.1 (by omega)) (EK h.2.1 (by omega))
theorem aAV {ls:List Ln}:∀{ks:List NK2},(∀ k∈ks,k∈ls.map lnK)→∃ xs:List Ln,ks=xs.map lnK∧∀ x∈xs,x∈ls
 | [],_=>⟨[],rfl,fun _ z=>nomatch z⟩
 | k::ks,h=>by
  obtain⟨l,hl,rfl⟩:=Ab.mp (h k mem_cons_self);obtain⟨xs,e,hx⟩:=aAV fun z hz=>h z (AU _ hz);refine⟨l::xs,by rw[e]; rfl,fun x hx'=>?_⟩;rcases AK.mp hx' with rfl|z
  ·exact hl
  ·exact hx x z
theorem xO {κ:Type}[BEq κ][LawfulBEq κ]:∀{ks us:List κ},us.Nodup→(∀ u∈us,u∈ks)→us.length≤ks.length∧(ks.length≤us.length→ks.Nodup)
 | [],us,_,h=>by
  cases us with
  | nil=>exact⟨AN _,fun _=>CP⟩
  | cons u us=>cases h u mem_cons_self
 | k::ks,us,nd,h=>by
  by_cases c:k∈us
  ·have hs:∀ u∈us.erase k,u∈ks:=fun u hu=>by
    have h1:=(nd.mem_erase_iff).mp hu;rcases AK.mp (h u h1.2) with z|z
    ·exact absurd z h1.1
    ·exact z
   obtain⟨a,b⟩:=xO (nd.erase k) hs;have el:=List.length_erase_of_mem c;have pos:0<us.length:=List.length_pos_of_mem c;rw[An];refine⟨by omega,fun hle=>BS.mpr ⟨fun hk=>?_,b (by omega)⟩⟩;have:=(xO (ks:=ks) nd fun u hu=>(AK.mp (h u hu)).elim (fun z=>z▸hk) id).1;omega
  ·have hs:∀ u∈us,u∈ks:=fun u hu=>by
    rcases AK.mp (h u hu) with z|z
    ·exact absurd (z▸hu) c
    ·exact z
   obtain⟨a,_⟩:=xO nd hs;rw[An];exact⟨by omega,fun hle=>by omega⟩
theorem aF7 {α β:Type}(g:α→β):∀{xs:List α},(xs.map g).Nodup→∀ a∈xs,∀ b∈xs,g a=g b→a=b
 | [],_,a,ha,_,_,_=>nomatch ha
 | x::xs,nd,a,ha,b,hb,e=>by
  obtain⟨n1,n2⟩:=BS.mp nd;rcases AK.mp ha with za|za
  ·rcases AK.mp hb with zb|zb
   ·rw[za,zb]
   ·exact absurd (by rw[← za,e]; exact Dz zb) n1
  ·rcases AK.mp hb with zb|zb
   ·exact absurd (by rw[← zb,←e]; exact Dz za) n1
   ·exact aF7 g n2 a za b zb e
theorem neN {a b:Rat}{A B:Prop}[d:Decidable ((!PyData.eqv (cG a) (cG b))=true)](h1:¬a=b→A)(h2:a=b→B):@ite Prop ((!PyData.eqv (cG a) (cG b))=true) d A B:=by
 by_cases h:a=b
 ·rw[if_neg (by rw[a8H,decide_eq_true h]; decide)];exact h2 h
 ·rw[if_pos (by rw[a8H,decide_eq_false h]; rfl)];exact h1 h
def aQH (q:Rat):List Int:=[q.num,(q.den:Int)]
section
variable {Q:Rv→Prop}{ls:List Ln}
theorem aL7 {t:Rat}(hz:LinesOk 200 ls)(hl:ls.length≤6)(ht:Sz 802 t)(q:∀ b:Bool,(b=false→Lv ls t)→Q (.val (.bool b))):nA [.val (.list (bH ls)),.val (cG t)] Q:=by
 refine j6 ?_;unfold rK;walk_at "ws";refine aFR ?_;walk_at "ws";refine⟨ls.map lnK,congrArg _ (a7E ls),by rw[AS]; omega,fun ks' hk h18=>?_⟩;obtain⟨xs,rfl,hx⟩:=aAV fun k hk'=>(hk k).mp hk';rw[AS] at h18;have hx2:∀ l∈ls,l∈xs:=fun l hl'=>by
  obtain⟨y,hy,e⟩:=Ab.mp ((hk (lnK l)).mpr (Dz hl'));rw[← aKT e];exact hy
 rw[← a7E];walk_at "ws";refine⟨by rw[mJ]; omega,?_⟩;refine iT (α:=Ln) (fun _=>true) (fun l=>cG (pl l t)) gQ xs [] _ (fun l hm _ k k0 g1 g0=>?_) ?_
 ·obtain⟨z1,z2⟩:=hz l (hx l hm);walk_at "ws";unfold v6;walk_at "ws";refine aJX (z1.mono (by decide)) (z2.mono (by decide)) (ht.mono (by decide)) ?_;walk_at "ws";exact g1 rfl
 rw[By,CM.mpr fun _ _=>rfl];walk_at "ws";refine aCZ ?_;walk_at "ws";have et:a1B (xs.map fun l=>cG (pl l t))=some (xs.map fun l=>aQH (pl l t)):=a5Y _ _ _ fun l _=>⟨_,rfl,rfl⟩;rw[et];refine⟨by rw[AS]; omega,fun n hn=>?_⟩;walk_at "ws";refine cO (d:=.int ((xs.length:Nat):Int)) (by show some (A0 ((xs.map _).length:Int))=_; rw[AS]) ?_;walk_at "ws";refine q _ fun hb=>?_;have hb:¬((n:Int)<(xs.length:Int)):=of_decide_eq_false hb;obtain⟨us,n1,n2,n3⟩:=hn;have nd:=(xO n1 fun u hu=>(n2 u).mp hu).2 (by rw[AS]; omega);exact fun l hl' k hk' e=>aF7 (fun l=>aQH (pl l t)) nd l (hx2 l hl') k (hx2 k hk') (congrArg aQH e)
theorem aKQ (f:Rat→D)(h:∀ t,∃ L s,f t=chD L s)(ts:List Rat):Good (.list (ts.map f)):=(a2C (n:=3) fun d hd=>by
 obtain⟨t,_,rfl⟩:=Ab.mp hd;obtain⟨L,s,e⟩:=h t;rw[e];refine aP5 (n:=2) (aAH _).mono (a2C (n:=1) fun d h=>?_);obtain⟨k,_,rfl⟩:=Ab.mp h;exact aP5 (rC _) (rC _)).good
theorem zF {lo hi:Rat}(hz:LinesOk 200 ls)(hl:ls.length≤6)(zl:Sz 802 lo)(zh:Sz 802 hi)(q:Q (.val (.bool true))):dM [.val (.list (bH ls)),.val (.list (bH (fH ls))),.val (cG lo),.val (cG hi)] Q:=by
 have hzm:=aEW hz;have hlm:=fK ls;have hcl:∀(L:List Ln) a b,L.length≤6→(chT L a b).length≤36:=fun L a b h=>by
  unfold chT;have h1:=B4 (fun t=>decide (a<t) && !decide (b<t)) (mts L);have h2:=yX L;have h3:L.length*L.length≤6*6:=Cj h h;omega
 have l1:=hcl ls lo hi hl;have l2:=hcl (fH ls) (-hi) (-lo) (by omega);refine j6 ?_;unfold fP;walk_at "ws";refine a5T hz (by omega) (zl.mono (by decide)) (zh.mono (by decide)) ?_;walk_at "ws";refine⟨by unfold aMN; rw[AS]; omega,?_⟩;unfold aMN;refine iT (α:=Rat) (fun t => !decide (t=hi)) (chD ls) (chD ls) (chT ls lo hi) [] _ (fun t hm _ k k0 g1 g0=>?_) ?_
 ·walk_at "ws";refine cO (d:=cG t) rfl ?_;walk_at "ws";refine zQ (fun c=>?_) (fun c=>?_)
  ·walk_at "ws";exact g1 (by rw[decide_eq_false c]; rfl)
  ·exact g0 (by rw[decide_eq_true c]; rfl)
 rw[By];have l3:((chT ls lo hi).filter fun t => !decide (t=hi)).length≤36:=Aw (B4 _ _) l1;have e3:=aGZ (ls:=ls) lo hi;generalize (chT ls lo hi).filter (fun t => !decide (t=hi))=C at l3 e3 ⊢;walk_at "ws";rw[aGU _ (by rw[AS]; omega),←List.map_reverse];refine⟨by decide,?_⟩;refine rZ (fun n Γ=>∃ a b c d,Γ=[.val (.list (bH ls)),.val (.list (bH (fH ls))),.val (cG lo),.val (cG hi),a,.no,.own ((C.reverse.take n).map fun t=>chD (fH ls) (-t)),b,c,.no,d]) ⟨_,_,_,_,rfl⟩ ?_ ?_
 ·rintro n d Γ K hd ⟨a,b,c,e,rfl⟩ hk;rw[Aa] at hd;obtain⟨t,ht,rfl⟩:∃ t,C.reverse[n]?=some t∧d=chD ls t:=by
   cases e:C.reverse[n]? with
   | none=>rw[e] at hd; cases hd
   | some t=>rw[e] at hd; cases hd; exact⟨t,rfl,rfl⟩
  have tk:C.reverse.take (n+1)=C.reverse.take n++[t]:=by rw[DV,ht]; rfl
  have hk3:=hk.nx;rw[tk,Bi] at hk3;have hFl:((C.reverse.take n).map fun t=>chD (fH ls) (-t)).length<1000:=by
   rw[AS,Bw,List.length_reverse];omega
  generalize (C.reverse.take n).map (fun t=>chD (fH ls) (-t))=F at *;have hpl:=aED (ls:=ls) (by omega) t;unfold chD gJ;walk_at "ws";refine oX ?_;walk_at "ws";unfold aGI;refine⟨by rw[AS]; omega,?_⟩;refine iT (α:=Int×Int) (fun _=>true) (fun p=>.tuple [.int p.2,.int p.1]) (fun k=>.tuple [.int k.1,.int k.2]) (chP ls t) [] _ (fun p hp _ kk k0 g1 g0=>?_) ?_
  ·walk_at "ws";unfold v6;walk_at "ws";exact g1 rfl
  rw[By,CM.mpr fun _ _=>rfl];refine⟨(chP ls t).map aNL,by unfold aH6; rw[A9]; rfl,by rw[AS]; omega,a6Y t,?_⟩;rw[aGV];refine⟨by show 2≤1000; decide,?_⟩;refine a1V (ds:=F) rfl hFl ?_;exact hk3 _ ⟨_,_,_,_,rfl⟩
 rintro Γ ⟨a,b,c,d,rfl⟩;rw[AS,DU];show dW _ _;unfold dW;walk_at "ws";refine oX ?_;walk_at "ws";refine oX ?_;walk_at "ws";refine a5T hzm (by omega) ((a6D zh).mono (by decide)) ((a6D zl).mono (by decide)) ?_;walk_at "ws";refine⟨by unfold aMN; rw[AS]; omega,?_⟩;unfold aMN;refine iT (α:=Rat) (fun t => !decide (t = -lo)) (chD (fH ls)) (chD (fH ls)) (chT (fH ls) (-hi) (-lo)) [] _ (fun t hm _ k k0 g1 g0=>?_) ?_
 ·walk_at "ws";refine cO (d:=cG t) rfl ?_;walk_at "ws";refine oX ?_;walk_at "ws";refine⟨qL _,qL _,neN (fun c=>?_) (fun c=>?_)⟩
  ·walk_at "ws";exact g1 (by rw[decide_eq_false c]; rfl)
  ·exact g0 (by rw[decide_eq_true c]; rfl)
 rw[By,e3,A9];have gc:Good (.list (C.reverse.map fun t=>chD (fH ls) (-t))):=aKQ _ (fun t=>⟨_,_,rfl⟩) _;walk_at "ws";refine⟨gc,gc,?_⟩;show Q (.val (.bool (Av (.list (C.reverse.map fun t=>chD (fH ls) (-t))) (.list (C.reverse.map fun t=>chD (fH ls) (-t))))));rw[t7 gc];exact q
end
theorem law_true:aC3 (.no::.pen::List.replicate 10 .no) o4:=by
 show aC3 [.no,.pen,.no,.no,.no,.no,.no,.no,.no,.no,.no,.no] o4;unfold aC3;walk_at "ws";refine aKR (by decide) (by decide) fun ls hl hz=>?_;have hl6:ls.length≤6:=by omega
 have hzm:=aEW hz;have hlm:=fK ls;walk_at "ws";refine⟨by rw[mJ]; omega,?_⟩;refine iT (α:=Ln) (fun _=>true) (fun l=>gQ (mir l)) gQ ls [] _ (fun l hm _ k k0 g1 g0=>?_) ?_
 ·unfold gQ;walk_at "ws";unfold v6;walk_at "ws";refine oX ?_;walk_at "ws";exact g1 rfl
 rw[By,CM.mpr fun _ _=>rfl,show(ls.map fun l=>gQ (mir l))=bH (fH ls) by unfold bH fH; rw[A9]; rfl];walk_at "ws";refine a72 hzm (by omega) ?_;walk_at "ws";refine a72 hz (by omega) ?_;walk_at "ws";refine aC8 hz hl6 ?_;walk_at "ws";refine aHA (aLM _) ?_;walk_at "ws";unfold aA4;walk_at "ws";refine⟨by decide,by decide,?_⟩;refine eO (fun n Γ=>∃ a b,Γ=[.no,.pen,.val (.list (bH ls)),.val (.list (bH (fH ls))),.no,.no,a,b,.no,.no,.no,.no]) ⟨_,_,rfl⟩ ?_ ?_
 ·rintro n Γ K hn ⟨a,b,rfl⟩ hk;unfold aAO;walk_at "ws";refine cO (eG ls) ?_;walk_at "ws";refine dY (by omega) (by omega) fun y y0 y1=>?_;obtain⟨k,rfl⟩:∃ m:Nat,y=(m:Int):=⟨y.toNat,by omega⟩;walk_at "ws";refine a2A hzm (by omega) (by omega) ?_;walk_at "ws";refine a2A hz (by omega) (by omega) ?_;walk_at "ws";refine a8K hz hl6 ?_;walk_at "ws";refine aHA (aOL _ _) ?_;walk_at "ws";exact hk.nx _ ⟨_,_,rfl⟩
 rintro Γ ⟨a,b,rfl⟩;show a2P _ _;unfold a2P;walk_at "ws";refine cO (eG ls) ?_;walk_at "ws";refine⟨by omega,by omega,?_⟩;refine eO (fun n Γ=>∃ b c,Γ=[.no,.pen,.val (.list (bH ls)),.val (.list (bH (fH ls))),.no,.no,a,b,c,.no,.no,.no]) ⟨_,_,rfl⟩ ?_ ?_
 ·rintro r Γ K hr ⟨b,c,rfl⟩ hk;have hr:r<ls.length:=by omega
  have hr':r<(fH ls).length:=by omega
  rw[Cu];unfold aB0;walk_at "ws";refine a7O hz (by omega) hr ?_;walk_at "ws"
  cases hc:cvN ls r with
  | none=>
   walk_at "ws";refine a7O hzm (by omega) hr' ?_;rw[aI8 hr hc];walk_at "ws";refine zQ (fun c=>absurd rfl c) fun _=>?_;walk_at "ws";unfold a3M;walk_at "ws";refine a5C ?_;walk_at "ws";exact hk.nx _ ⟨_,_,rfl⟩
  | some p=>
   obtain⟨c1,c2,c3,c4,c5⟩:=aGE hr hc;have ic:aIE (fH ls) r (p.1:Int) (p.2:Int):=aBU ⟨p.1,p.2,rfl,rfl,c1,c2,c3,c4,c5⟩;obtain⟨p',hp'⟩:=a9Q hr hc;walk_at "ws";refine a7O hzm (by omega) hr' ?_;rw[hp'];walk_at "ws";refine zQ (fun c=>absurd rfl c) fun _=>?_;walk_at "ws";unfold a3M;walk_at "ws";refine a4U ?_;walk_at "ws";refine cO (d:=.int (p.1:Int)) rfl ?_;walk_at "ws";refine cO (d:=.int (p.2:Int)) rfl ?_;walk_at "ws";refine aC4 hzm hr' fun b hb=>?_;rw[hb.mpr ic];walk_at "ws";exact hk.nx _ ⟨_,_,rfl⟩
 rintro Γ ⟨b,c,rfl⟩;show a4G _ _;unfold a4G;walk_at "ws";refine aJT hz (by omega) fun t0 zt0=>?_;walk_at "ws";refine aJT hz (by omega) fun t1 zt1=>?_;walk_at "ws";refine aNU (zt1.mono (by decide)) (zt0.mono (by decide)) ?_;walk_at "ws";have rest:∀ lo hi,Sz 802 lo→Sz 802 hi→a4B [.no,.pen,.val (.list (bH ls)),.val (.list (bH (fH ls))),.no,.no,a,b,c,.val (cG lo),.val (cG hi),.no] o4:=by
  intro lo hi zl zh;unfold a4B;walk_at "ws";refine zF hz hl6 zl zh ?_;walk_at "ws";unfold aB1;walk_at "ws";refine rZ (fun n Γ=>∃ d,Γ=[.no,.pen,.val (.list (bH ls)),.val (.list (bH (fH ls))),.no,.no,a,b,c,.val (cG lo),.val (cG hi),d]) ⟨_,rfl⟩ ?_ ?_
  ·rintro n d Γ K hd ⟨d11,rfl⟩ hk;obtain⟨t,zt,rfl⟩:∃ t,Sz 802 t∧d=cG t:=by
    have:=BL hd;rcases AK.mp this with h|h
    ·exact⟨lo,zl,h⟩
    ·exact⟨hi,zh,mem_singleton.mp h⟩
   walk_at "ws";unfold aAN;walk_at "ws";refine aL7 hz hl6 zt fun lv hlv=>?_
   cases lv with
   | true=>
    walk_at "ws";exact hk.nx _ ⟨_,rfl⟩
   | false=>
    have hlv:=hlv rfl;walk_at "ws";refine oX ?_;walk_at "ws";refine lZ hzm (by omega) ((a6D zt).mono (by decide)) ?_;rw[hlv.ord];walk_at "ws";refine lZ hz (by omega) (zt.mono (by decide)) ?_;walk_at "ws";refine aHA (aFI _) ?_;walk_at "ws";unfold aA1;walk_at "ws";refine oX ?_;walk_at "ws";refine a76 hzm (by omega) (a6D zt) ?_;rw[hlv.nr];walk_at "ws";refine a76 hz (by omega) zt ?_;walk_at "ws";refine aHA (aKN _) ?_;walk_at "ws";exact hk.nx _ ⟨_,rfl⟩
  rintro Γ ⟨d,rfl⟩;show a2G _ _;unfold a2G;walk_at "ws";rfl
 refine fU (fun c=>?_) (fun c=>?_)
 ·walk_at "ws";exact rest t1 t0 zt1 zt0
 ·walk_at "ws";exact rest t0 t1 zt0 zt1
theorem ln1 {α:Type}{us:List α}(h:us.length=1):∃ x0,us=[x0]:=by
 match us,h with
 | [_],_=>exact⟨_,rfl⟩
theorem ln2 {α:Type}{us:List α}(h:us.length=2):∃ x0 x1,us=[x0,x1]:=by
 match us,h with
 | [_,_],_=>exact⟨_,_,rfl⟩
theorem ln3 {α:Type}{us:List α}(h:us.length=3):∃ x0 x1 x2,us=[x0,x1,x2]:=by
 match us,h with
 | [_,_,_],_=>exact⟨_,_,_,rfl⟩
theorem ln4 {α:Type}{us:List α}(h:us.length=4):∃ x0 x1 x2 x3,us=[x0,x1,x2,x3]:=by
 match us,h with
 | [_,_,_,_],_=>exact⟨_,_,_,_,rfl⟩
theorem aQQ {K:Fg}{h:AF}{mg:Mg}(X:K.In h)(G:h.Ns Ao mg)
  (z_len:BA K Ao "len" = some none)
  (z_abs:BA K Ao "abs" = some none)
  (z_range:BA K Ao "range" = some none)
  (z_isinstance:BA K Ao "isinstance" = some none)
  (z_int:BA K Ao "int" = some none)
  (z_bool:BA K Ao "bool" = some none)
  (z_tuple:BA K Ao "tuple" = some none)
  (z_max:BA K Ao "max" = some none)
  (z_min:BA K Ao "min" = some none)
  (z_list:BA K Ao "list" = some none)
  (z_all:BA K Ao "all" = some none)
  (z_any:BA K Ao "any" = some none)
  (z_sorted:BA K Ao "sorted" = some none)
  (z_zip:BA K Ao "zip" = some none)
  (z_set:BA K Ao "set" = some none)
  (z_sum:BA K Ao "sum" = some none)
  (z_str:BA K Ao "str" = some none)
  (z_enumerate:BA K Ao "enumerate" = some none)
  (z_repr:BA K Ao "repr" = some none)
  (kt_int_bool:AY K (.type "int") (.type "bool")=some false)    (kt_bool_int:AY K (.type "bool") (.type "int")=some true):Bl K mg:=⟨BE X G z_len,BE X G z_abs,BE X G z_range,BE X G z_isinstance,BE X G z_int,BE X G z_bool,BE X G z_tuple,BE X G z_max,BE X G z_min,BE X G z_list,BE X G z_all,BE X G z_any,BE X G z_sorted,BE X G z_zip,BE X G z_set,BE X G z_sum,BE X G z_str,BE X G z_enumerate,BE X G z_repr,kt_int_bool,kt_bool_int⟩
theorem aNR {K:Fg}
  (kt_NoneType_bool:AY K (.type "NoneType") (.type "bool")=some false)
  (kt_NoneType_int:AY K (.type "NoneType") (.type "int")=some false)
  (kt_NoneType_str:AY K (.type "NoneType") (.type "str")=some false)
  (kt_NoneType_list:AY K (.type "NoneType") (.type "list")=some false)
  (kt_NoneType_tuple:AY K (.type "NoneType") (.type "tuple")=some false)
  (kt_NoneType_dict:AY K (.type "NoneType") (.type "dict")=some false)
  (kt_bool_NoneType:AY K (.type "bool") (.type "NoneType")=some false)
  (kt_bool_int:AY K (.type "bool") (.type "int")=some true)
  (kt_bool_str:AY K (.type "bool") (.type "str")=some false)
  (kt_bool_list:AY K (.type "bool") (.type "list")=some false)
  (kt_bool_tuple:AY K (.type "bool") (.type "tuple")=some false)
  (kt_bool_dict:AY K (.type "bool") (.type "dict")=some false)
  (kt_int_NoneType:AY K (.type "int") (.type "NoneType")=some false)
  (kt_int_bool:AY K (.type "int") (.type "bool")=some false)
  (kt_int_str:AY K (.type "int") (.type "str")=some false)
  (kt_int_list:AY K (.type "int") (.type "list")=some false)
  (kt_int_tuple:AY K (.type "int") (.type "tuple")=some false)
  (kt_int_dict:AY K (.type "int") (.type "dict")=some false)
  (kt_str_NoneType:AY K (.type "str") (.type "NoneType")=some false)
  (kt_str_bool:AY K (.type "str") (.type "bool")=some false)
  (kt_str_int:AY K (.type "str") (.type "int")=some false)
  (kt_str_list:AY K (.type "str") (.type "list")=some false)
  (kt_str_tuple:AY K (.type "str") (.type "tuple")=some false)
  (kt_str_dict:AY K (.type "str") (.type "dict")=some false)
  (kt_list_NoneType:AY K (.type "list") (.type "NoneType")=some false)
  (kt_list_bool:AY K (.type "list") (.type "bool")=some false)
  (kt_list_int:AY K (.type "list") (.type "int")=some false)
  (kt_list_str:AY K (.type "list") (.type "str")=some false)
  (kt_list_tuple:AY K (.type "list") (.type "tuple")=some false)
  (kt_list_dict:AY K (.type "list") (.type "dict")=some false)
  (kt_tuple_NoneType:AY K (.type "tuple") (.type "NoneType")=some false)
  (kt_tuple_bool:AY K (.type "tuple") (.type "bool")=some false)
  (kt_tuple_int:AY K (.type "tuple") (.type "int")=some false)
  (kt_tuple_str:AY K (.type "tuple") (.type "str")=some false)
  (kt_tuple_list:AY K (.type "tuple") (.type "list")=some false)
  (kt_tuple_dict:AY K (.type "tuple") (.type "dict")=some false)
  (kt_dict_NoneType:AY K (.type "dict") (.type "NoneType")=some false)
  (kt_dict_bool:AY K (.type "dict") (.type "bool")=some false)
  (kt_dict_int:AY K (.type "dict") (.type "int")=some false)
  (kt_dict_str:AY K (.type "dict") (.type "str")=some false)
  (kt_dict_list:AY K (.type "dict") (.type "list")=some false)
  (kt_dict_tuple:AY K (.type "dict") (.type "tuple")=some false)
  : Kit K:=Kit.mk' (by
  intro a ha b hb;simp only[tyL,AK,B5,or_false] at ha hb;rcases ha with rfl|rfl|rfl|rfl|rfl|rfl|rfl<;>rcases hb with rfl|rfl|rfl|rfl|rfl|rfl|rfl<;>intro e<;>first|assumption|exact absurd e (by decide))
def DfP (K:Fg)(mg:Mg)(x:Str)(st:AO):Prop:=∃(f:AB) (fd:BR),Fun K x x st f fd∧mg x=some (.ref f)
theorem cW {K:Fg}{h:AF}{mg:Mg}(X:K.In h)(G:h.Ns Ao mg){x:Str}{st:AO}{f:AB}{od an:Option AB}{sl:Array (Option AA)}{oc kV dc pm cd ct:AA}
  (a:BA K Ao x=some (some (.ref f))) (l:K.lookup f=some ⟨oc,od,.func (fnOf x x (zZ st) (rY st) (aW st) .none kV dc pm an cd ct),sl⟩) (c:codeIn K cd x=true) (k:keepIn K (.ref f)=true):DfP K mg x st:=
 ⟨f,_,aME l c k,mg_of X G a⟩
section
variable {P:AL}{w:AI}{K:Fg}{mg:Mg}{base:AF}
end
theorem aRS {P:AL}{w:AI}{K:Fg}{mg:Mg}{base:AF}{n:Nat}{x:Str}{st:AO}{ps:List Str}{sp:Sp}(d:DfP K mg x st)(h:∀{f fd},Fun K x x st f fd→FnOk P w K mg base CX0 n f fd ps sp)(b:∀{f fd},Fun K x x st f fd→Binds K fd ps []):Cal P w K mg base n x ps sp:=
 let ⟨f,fd,F,hm⟩:=d; ⟨f,fd,h F,hm,F.kp,b F⟩
theorem bM {P:AL}{w:AI}{K:Fg}{mg:Mg}{base:AF}{n:Nat}{x:Str}{st:AO}{ps:List Str}{sp:AB→List Int→Sp}(d:DfP K mg x st)(h:∀{f fd} (a:AB) (ns:List Int),Fun K x x st f fd→FnOk P w K mg base CX0 n f fd ps (sp a ns))(b:∀{f fd},Fun K x x st f fd→Binds K fd ps [])(a:AB)(ns:List Int):Cal P w K mg base n x ps (sp a ns):=
 let ⟨f,fd,F,hm⟩:=d; ⟨f,fd,h a ns F,hm,F.kp,b F⟩
set_option hygiene false in
local macro_rules|`(tactic| walk_at "bd")=>`(tactic| (intro _ _ _ _ _ _ us hl; first|(obtain⟨_,rfl⟩:=ln1 hl; rfl)|(obtain⟨_,_,rfl⟩:=ln2 hl; rfl)|(obtain⟨_,_,_,rfl⟩:=ln3 hl; rfl)|(obtain⟨_,_,_,_,rfl⟩:=ln4 hl; rfl)))
theorem aMU {l:FJ}{w:AI}{K:Fg}{mg:Mg}{fa:AB}(hfa:mg "law" = some (.ref fa))(B:Bl K mg)(Kt:Kit K)
  (d0:DfP K mg "_law_take" qT)
  (d1:DfP K mg "is_whole" vN)
  (d2:DfP K mg "greatest_divisor" g8)
  (d3:DfP K mg "number_of" sH)
  (d4:DfP K mg "sum_of" a4K)
  (d5:DfP K mg "difference_of" jK)
  (d6:DfP K mg "product_of" kJ)
  (d7:DfP K mg "quotient_of" nC)
  (d8:DfP K mg "is_less" zX)
  (d9:DfP K mg "rising" a3A)
  (d10:DfP K mg "place_at" qD)
  (d11:DfP K mg "meeting" yZ)
  (d12:DfP K mg "is_runner" sE)
  (d13:DfP K mg "standing" qO)
  (d14:DfP K mg "stands_ahead" lE)
  (d15:DfP K mg "is_ahead" qH)
  (d16:DfP K mg "leads_at_first" iQ)
  (d17:DfP K mg "first_leader" kZ)
  (d18:DfP K mg "comes_sooner" lL)
  (d19:DfP K mg "next_leader" nG)
  (d20:DfP K mg "leaders" yR)
  (d21:DfP K mg "order_among" j8)
  (d22:DfP K mg "order_at" v9)
  (d23:DfP K mg "neighbours" pY)
  (d24:DfP K mg "nearest" a0D)
  (d25:DfP K mg "all_changes" o5)
  (d26:DfP K mg "changes" pN)
  (d27:DfP K mg "stretch_times" jL)
  (d28:DfP K mg "rank_row" v5)
  (d29:DfP K mg "when_ahead" pK)
  (d30:DfP K mg "are_all_times" jQ)
  (d31:DfP K mg "is_cover" v4)
  (d32:DfP K mg "cover" yI)
  (d33:DfP K mg "_law_lowest" p7)
  (d34:DfP K mg "_law_number" pB)
  (d35:DfP K mg "_law_through" nW)
  (d36:DfP K mg "_law_spot" uV)
  (d37:DfP K mg "_law_lines" sJ)
  (d38:DfP K mg "_law_less" vH)
  (d39:DfP K mg "_law_met" yG)
  (d40:DfP K mg "_law_time" vL)
  (d41:DfP K mg "_law_below" rJ)
  (d42:DfP K mg "_law_turned_row" iR)
  (d43:DfP K mg "_law_level" nO)
  (d44:DfP K mg "_law_changes_right" cM)
  (d45:DfP K mg "law" aI6)
  {c:AB} (hK:KT K c ([0,1].map V.int)) (hgc:mg "ANY_TIME" = some (.ref c))
  (hL:aC3 (.no::.pen::List.replicate 10 .no) o4) :
  ∃ fd:BR,(∀(s:AC) (v:AA),Dh s fd ⟨[v],[]⟩ [("_law_script", v)])∧∀ base:AF,K.In base→base.Ns Ao mg→FnOk l.prog w K mg base CX0 10 fa fd ["_law_script"] (aH4 K):=by
 obtain⟨f,fd,F,hm⟩:=d45
 cases hfa.symm.trans hm
 refine⟨fd,?_,fun base _ _=>?_⟩
 ·obtain⟨oc,od,kV,doc,pm,an,cdv,ct,osl,rfl,lk,hcd⟩:=F.ex;exact fun s v=>.of_eq rfl
 have b6:=bM (P:=l.prog) (w:=w) (base:=base) d0 (fun a ns F=>a6L (a:=a) (ns:=ns) F B) (·.binds (by walk_at "bd"));have bw:=bM (P:=l.prog) (w:=w) (base:=base) d1 (fun a ns F=>a8T (P0:=fX K a ns) F B Kt) (·.binds (by walk_at "bd"));have cz:=bM (P:=l.prog) (w:=w) (base:=base) d2 (fun a ns F=>rT (P0:=fX K a ns) F B Kt) (·.binds (by walk_at "bd"));have ak:=bM d3 (fun a ns F=>a6A F B Kt (cz a ns) (bw a ns)) (·.binds (by walk_at "bd"));have bx:=bM d4 (fun a ns F=>aDD F B Kt (ak a ns)) (·.binds (by walk_at "bd"));have bm:=bM d5 (fun a ns F=>wW F B Kt (ak a ns)) (·.binds (by walk_at "bd"));have da:=bM d6 (fun a ns F=>a2T F B Kt (ak a ns)) (·.binds (by walk_at "bd"));have db:=bM d7 (fun a ns F=>a0R F B Kt (ak a ns)) (·.binds (by walk_at "bd"));have ad:=bM (P:=l.prog) (w:=w) (base:=base) d8 (fun a ns F=>aBD (P0:=fX K a ns) F B Kt) (·.binds (by walk_at "bd"));have bz:=bM d9 (fun a ns F=>aG4 F B Kt (ad a ns)) (·.binds (by walk_at "bd"));have c6:=bM d10 (fun a ns F=>a7Q F B Kt (bx a ns) (da a ns)) (·.binds (by walk_at "bd"));have bn:=bM d11 (fun a ns F=>aCA F B Kt (db a ns) (bm a ns)) (·.binds (by walk_at "bd"));have de:=bM d12 (fun a ns F=>a7C F B Kt (bw a ns)) (·.binds (by walk_at "bd"));have c7:=bM d13 (fun a ns F=>a8P F B Kt (c6 a ns)) (·.binds (by walk_at "bd"));have bo:=bM d14 (fun a ns F=>zN F B Kt (ad a ns)) (·.binds (by walk_at "bd"));have df:=bM d15 (fun a ns F=>a84 F B Kt (bo a ns) (c7 a ns)) (·.binds (by walk_at "bd"));have dg:=bM d16 (fun a ns F=>uJ F B Kt (ad a ns)) (·.binds (by walk_at "bd"));have dh:=bM d17 (fun a ns F=>a09 F B Kt (dg a ns)) (·.binds (by walk_at "bd"));have di:=bM d18 (fun a ns F=>zK F B Kt (df a ns) (ad a ns)) (·.binds (by walk_at "bd"));have dj:=bM d19 (fun a ns F=>a0V F B Kt (ad a ns) (di a ns) (bn a ns)) (·.binds (by walk_at "bd"));have dk:=bM d20 (fun a ns F=>aBN F B Kt (dj a ns) (dh a ns)) (·.binds (by walk_at "bd"));have dm:=bM d21 (fun a ns F=>a0Q F B Kt (bo a ns) (c7 a ns)) (·.binds (by walk_at "bd"));have bp:=bM d22 (fun a ns F=>a8D F B Kt (dm a ns)) (·.binds (by walk_at "bd"));have dn:=bM (P:=l.prog) (w:=w) (base:=base) d23 (fun a ns F=>a2Q (P0:=fX K a ns) F B Kt) (·.binds (by walk_at "bd"));have dq:=bM d24 (fun a ns F=>aBC F B Kt (dn a ns) (bp a ns) (ad a ns) (bm a ns) (c6 a ns)) (·.binds (by walk_at "bd"));have c8:=bM d25 (fun a ns F=>a0K F B Kt (ad a ns) (bn a ns)) (·.binds (by walk_at "bd"));have dr:=bM d26 (fun a ns F=>aCF F B Kt (bz a ns) (ad a ns) (c8 a ns)) (·.binds (by walk_at "bd"));have dt:=bM d27 (fun a ns F=>wN F B Kt (bm a ns) (bz a ns) (c8 a ns)) (·.binds (by walk_at "bd"));have du:=bM d28 (fun a ns F=>a7Z F B Kt (bp a ns) (dt a ns)) (·.binds (by walk_at "bd"));have dw:=bM d6 (fun a ns F=>a04 hK F B Kt (ak a ns)) (·.binds (by walk_at "bd"));have dz:=bM d10 (fun a ns F=>a3T hK F B Kt (bx a ns) (dw a ns)) (·.binds (by walk_at "bd"));have e9:=bM d13 (fun a ns F=>a4N hK F B Kt (dz a ns)) (·.binds (by walk_at "bd"));have ee:=bM d15 (fun a ns F=>a3X hK F B Kt (bo a ns) (e9 a ns)) (·.binds (by walk_at "bd"));have c9:=bM d29 (fun a ns F=>(xV hK hgc F B Kt (ad a ns) (ee a ns) (bn a ns)).imp wV) (·.binds (by walk_at "bd"));have ca:=bM d30 (fun a ns F=>wR F B Kt (ad a ns)) (·.binds (by walk_at "bd"));have eu:=bM d31 (fun a ns F=>a8O F B Kt (ca a ns) (c9 a ns) (de a ns)) (·.binds (by walk_at "bd"));have f6:=bM d32 (fun a ns F=>aGQ F B Kt (ca a ns) (c9 a ns)) (·.binds (by walk_at "bd"));have al:=bM (P:=l.prog) (w:=w) (base:=base) d33 (fun a ns F=>a3C (P0:=fX K a ns) F B Kt) (·.binds (by walk_at "bd"));have f7:=bM d34 (fun a ns F=>a3K F B Kt (al a ns) (b6 a ns)) (·.binds (by walk_at "bd"));have f8:=bM d35 (fun a ns F=>a0L F B Kt (al a ns)) (·.binds (by walk_at "bd"));have cb:=bM d36 (fun a ns F=>a8I F B Kt (al a ns)) (·.binds (by walk_at "bd"));have f9:=bM d37 (fun a ns F=>a6M F B Kt (b6 a ns) (f8 a ns) (cb a ns) (f7 a ns)) (·.binds (by walk_at "bd"));have fb:=bM (P:=l.prog) (w:=w) (base:=base) d38 (fun a ns F=>a8Y (P0:=fX K a ns) F B Kt) (·.binds (by walk_at "bd"));have fc:=bM d39 (fun a ns F=>aCI F B Kt (al a ns)) (·.binds (by walk_at "bd"));have fe:=bM d40 (fun a ns F=>a8G F B Kt (al a ns) (b6 a ns) (fc a ns)) (·.binds (by walk_at "bd"));have bq:=bM (P:=l.prog) (w:=w) (base:=base) d41 (fun a ns F=>a7H (P0:=fX K a ns) F B Kt) (·.binds (by walk_at "bd"));have ff:=bM d42 (fun a ns F=>vJ F B Kt (bq a ns)) (·.binds (by walk_at "bd"));have fg:=bM d43 (fun a ns F=>a7A F B Kt (cb a ns)) (·.binds (by walk_at "bd"));have fh:=bM d44 (fun a ns F=>qW F B Kt (bq a ns) (dr a ns)) (·.binds (by walk_at "bd"));exact aNQ F B Kt fg dq bq bp fh fb fe eu f6 du ff b6 dk f9 hL
theorem aNX {K:Fg}{c:AB}{odc:Option AB}{slc:Array (Option AA)}{tc0 tc1:Tok}{nc:Nat}
  (lc:K.lookup c=some ⟨.type "tuple", odc,.seq #[.int 0 tc0,.int 1 tc1] nc,slc⟩):KT K c ([0,1].map V.int):=⟨_,_,_,lc,rfl,rfl,eU (by show 2≤1000; decide),(.cons ⟨_,rfl⟩ (.cons ⟨_,rfl⟩ .nil))⟩
theorem walk {l:FJ}{q:AL}{loose:List Str}{XP:Mg→AF→Prop}{YP:AI→AF→Prop}{d:DefRec}{K:Params→Fg}(hn:l.most=some 63)(hdf:d.params.defaults=[])(him:F7 q=true)
  (hY:∀(w:AI) (h:AF),YP w h→(K w.params).In h)
  (F:∀(w:AI) (mg:Mg) (fa:AB) (h:AF),(K w.params).In h→h.Ns Ao mg→mg d.name=some (.ref fa) →
   ∃ fd:BR,(∀(s:AC) (u:AA),Dh s fd ⟨[u],[]⟩ [("_law_script", u)])∧∀ base:AF,(K w.params).In base→base.Ns Ao mg→FnOk l.prog w (K w.params) mg base CX0 10 fa fd ["_law_script"] (aH4 (K w.params))) :
  PySem.W.WalkO q loose XP YP l.row.toRowW d [] (fun f vs=>PySem.call f vs):=
 L2.aKI (n:=63) (k:=10) (x := "_law_script") (CX:=fun _=>CX0) (sp:=fun w=>aH4 (K w.params)) hn (by decide) hdf him ⟨rfl,by decide,by decide,rfl⟩ hY F (fun _ _ a ns hl _ hS=>⟨a,ns,rfl,hS,hl,fun _=>rfl⟩) fun _ _ _ _ _ z=>z
end My
def PySem.W.Fast.tw10832191594112013400:Unit:=()
def PySem.W.Fast.tw5617710492655464056:Unit:=()
def PySem.W.Fast.tw5884688533993044111:Unit:=()
def PySem.W.Fast.tw6159357050708483856:Unit:=()
def PySem.W.Fast.tw6264302865944179428:Unit:=()
def PySem.W.Fast.tw7319162416009961156:Unit:=()
def PySem.W.Fast.tw8714381147342721776:Unit:=()
def PySem.W.Fast.tw2093122105410428148:Unit:=()
def PySem.W.Fast.tw295298077963567485:Unit:=()
def PySem.W.Fast.tw10198106638834526121:Unit:=()
def PySem.W.Fast.tw16992624472977788921:Unit:=()
def PySem.W.Fast.tw3461118902351790502:Unit:=()
def PySem.W.Fast.tw10139778726613396912:Unit:=()
def PySem.W.Fast.tw15238812702473349866:Unit:=()
def PySem.W.Fast.tw11068531428780097029:Unit:=()
def PySem.W.Fast.tw15379668881767848757:Unit:=()
def PySem.W.Fast.tw15564600754697192205:Unit:=()
def PySem.W.Fast.tw1333341115076369304:Unit:=()
def PySem.W.Fast.tw9390826979335280112:Unit:=()
def PySem.W.Fast.tw7453157650058282620:Unit:=()
def PySem.W.Fast.tw9783911334327288211:Unit:=()
def PySem.W.Fast.tw9179635638667988636:Unit:=()
def PySem.W.Fast.tw9622935132427270679:Unit:=()
def PySem.W.Fast.tw6328656749509615194:Unit:=()
def PySem.W.Fast.tw7280725641758244524:Unit:=()
def PySem.W.Fast.tw6909021254066154215:Unit:=()
def PySem.W.Fast.tw15205815221090058917:Unit:=()
def PySem.W.Fast.tw5145750745312292978:Unit:=()
def PySem.W.Fast.tw7970269725611105827:Unit:=()
def PySem.W.Fast.tw6113016380216202323:Unit:=()
def PySem.W.Fast.tw15039509269922282413:Unit:=()
def PySem.W.Fast.tw6079723312251198712:Unit:=()
def PySem.W.Fast.tw5238137746814501839:Unit:=()
def PySem.W.Fast.tw1125358415783238809:Unit:=()
def PySem.W.Fast.tw4807308141216975861:Unit:=()
def PySem.W.Fast.tw1288178486320677017:Unit:=()
def PySem.W.Fast.tw12190004998524850882:Unit:=()
def PySem.W.Fast.tw17108219272538318858:Unit:=()
def PySem.W.Fast.tw4187036227201001652:Unit:=()
def PySem.W.Fast.tw10267599737195087984:Unit:=()
def PySem.W.Fast.tw16347309707242154327:Unit:=()
def PySem.W.Fast.tw548005424759056869:Unit:=()
def PySem.W.Fast.tw8223838997354216656:Unit:=()
def PySem.W.Fast.tw16047562116420288928:Unit:=()
def PySem.W.Fast.tw14227538949122066811:Unit:=()
def PySem.W.Fast.tw4581455881861296927:Unit:=()
def PySem.W.Fast.tw12458248102843982589:Unit:=()
def PySem.W.Fast.tw13297546146701237863:Unit:=()
def PySem.W.Fast.tw4021976800083833620:Unit:=()
def PySem.W.Fast.tw14480154898328113075:Unit:=()
def PySem.W.Fast.tw4654490819455357949:Unit:=()
def PySem.W.Fast.tw12049540603172111301:Unit:=()
def PySem.W.Fast.tw13784114338091944775:Unit:=()
def PySem.W.Fast.tw17107323501592412177:Unit:=()
def PySem.W.Fast.tw8132394705721841909:Unit:=()
open PySem PySem.W PyProof.Rows
set_option maxRecDepth 100000 in
set_option maxHeartbeats 0 in
theorem PySem.Challenge.cw_leadtimes_k47_whole_mirrored_in_time_holds : PySem.Challenge.rw_leadtimes_k47_whole_mirrored_in_time.Holds := by
 w_on; o_law; k_head; (case hw => w_witness2)
 k_fill
 refine My.walk (l := PySem.Challenge.rw_leadtimes_k47_whole_mirrored_in_time) rfl rfl (by decide +kernel) (fun w h Y => kIn_of Y) ?F
 case F =>
  intro w mg fa h KX G hmg
  refine' My.aMU hmg (My.aQQ KX G ?x0 ?x1 ?x2 ?x3 ?x4 ?x5 ?x6 ?x7 ?x8 ?x9 ?xa ?xb ?xc ?xd ?xe ?xf ?xg ?xh ?xi ?xj ?xk) (My.aNR ?xl ?xm ?xn ?xo ?xp ?xq ?xr ?xk ?xs ?xt ?xu ?xv ?xw ?xj ?xx ?xy ?xz ?x10 ?x11 ?x12 ?x13 ?x14 ?x15 ?x16 ?x17 ?x18 ?x19 ?x1a ?x1b ?x1c ?x1d ?x1e ?x1f ?x1g ?x1h ?x1i ?x1j ?x1k ?x1l ?x1m ?x1n ?x1o) (My.cW KX G ?x1p ?x1q ?x1r ?x1s) (My.cW KX G ?x1t ?x1u ?x1v ?x1w) (My.cW KX G ?x1x ?x1y ?x1z ?x20) (My.cW KX G ?x21 ?x22 ?x23 ?x24) (My.cW KX G ?x25 ?x26 ?x27 ?x28) (My.cW KX G ?x29 ?x2a ?x2b ?x2c) (My.cW KX G ?x2d ?x2e ?x2f ?x2g) (My.cW KX G ?x2h ?x2i ?x2j ?x2k) (My.cW KX G ?x2l ?x2m ?x2n ?x2o) (My.cW KX G ?x2p ?x2q ?x2r ?x2s) (My.cW KX G ?x2t ?x2u ?x2v ?x2w) (My.cW KX G ?x2x ?x2y ?x2z ?x30) (My.cW KX G ?x31 ?x32 ?x33 ?x34) (My.cW KX G ?x35 ?x36 ?x37 ?x38) (My.cW KX G ?x39 ?x3a ?x3b ?x3c) (My.cW KX G ?x3d ?x3e ?x3f ?x3g) (My.cW KX G ?x3h ?x3i ?x3j ?x3k) (My.cW KX G ?x3l ?x3m ?x3n ?x3o) (My.cW KX G ?x3p ?x3q ?x3r ?x3s) (My.cW KX G ?x3t ?x3u ?x3v ?x3w) (My.cW KX G ?x3x ?x3y ?x3z ?x40) (My.cW KX G ?x41 ?x42 ?x43 ?x44) (My.cW KX G ?x45 ?x46 ?x47 ?x48) (My.cW KX G ?x49 ?x4a ?x4b ?x4c) (My.cW KX G ?x4d ?x4e ?x4f ?x4g) (My.cW KX G ?x4h ?x4i ?x4j ?x4k) (My.cW KX G ?x4l ?x4m ?x4n ?x4o) (My.cW KX G ?x4p ?x4q ?x4r ?x4s) (My.cW KX G ?x4t ?x4u ?x4v ?x4w) (My.cW KX G ?x4x ?x4y ?x4z ?x50) (My.cW KX G ?x51 ?x52 ?x53 ?x54) (My.cW KX G ?x55 ?x56 ?x57 ?x58) (My.cW KX G ?x59 ?x5a ?x5b ?x5c) (My.cW KX G ?x5d ?x5e ?x5f ?x5g) (My.cW KX G ?x5h ?x5i ?x5j ?x5k) (My.cW KX G ?x5l ?x5m ?x5n ?x5o) (My.cW KX G ?x5p ?x5q ?x5r ?x5s) (My.cW KX G ?x5t ?x5u ?x5v ?x5w) (My.cW KX G ?x5x ?x5y ?x5z ?x60) (My.cW KX G ?x61 ?x62 ?x63 ?x64) (My.cW KX G ?x65 ?x66 ?x67 ?x68) (My.cW KX G ?x69 ?x6a ?x6b ?x6c) (My.cW KX G ?x6d ?x6e ?x6f ?x6g) (My.cW KX G ?x6h ?x6i ?x6j ?x6k) (My.cW KX G ?x6l ?x6m ?x6n ?x6o) (My.cW KX G ?x6p ?x6q ?x6r ?x6s) (My.aNX ?x6t) (mg_of KX G ?x6u) My.law_true
  (case x1p|x1q|x1r|x1s|x1t|x1u|x1v|x1w|x1x|x1y|x1z|x20|x21|x22|x23|x24|x25|x26|x27|x28|x29|x2a|x2b|x2c|x2d|x2e|x2f|x2g|x2h|x2i|x2j|x2k|x2l|x2m|x2n|x2o|x2p|x2q|x2r|x2s|x2t|x2u|x2v|x2w|x2x|x2y|x2z|x30|x31|x32|x33|x34|x35|x36|x37|x38|x39|x3a|x3b|x3c|x3d|x3e|x3f|x3g|x3h|x3i|x3j|x3k|x3l|x3m|x3n|x3o|x3p|x3q|x3r|x3s|x3t|x3u|x3v|x3w|x3x|x3y|x3z|x40|x41|x42|x43|x44|x45|x46|x47|x48|x49|x4a|x4b|x4c|x4d|x4e|x4f|x4g|x4h|x4i|x4j|x4k|x4l|x4m|x4n|x4o|x4p|x4q|x4r|x4s|x4t|x4u|x4v|x4w|x4x|x4y|x4z|x50|x51|x52|x53|x54|x55|x56|x57|x58|x59|x5a|x5b|x5c|x5d|x5e|x5f|x5g|x5h|x5i|x5j|x5k|x5l|x5m|x5n|x5o|x5p|x5q|x5r|x5s|x5t|x5u|x5v|x5w|x5x|x5y|x5z|x60|x61|x62|x63|x64|x65|x66|x67|x68|x69|x6a|x6b|x6c|x6d|x6e|x6f|x6g|x6h|x6i|x6j|x6k|x6l|x6m|x6n|x6o|x6p|x6q|x6r|x6s|x6u|x6t|x0|x1|x2|x3|x4|x5|x6|x7|x8|x9|xa|xb|xc|xd|xe|xf|xg|xh|xi => k_is)
  (case xl|xm|xn|xo|xp|xq|xr|xk|xs|xt|xu|xv|xw|xj|xx|xy|xz|x10|x11|x12|x13|x14|x15|x16|x17|x18|x19|x1a|x1b|x1c|x1d|x1e|x1f|x1g|x1h|x1i|x1j|x1k|x1l|x1m|x1n|x1o => kit_is)
#print axioms PySem.Challenge.cw_leadtimes_k47_whole_mirrored_in_time_holds
